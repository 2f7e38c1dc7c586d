/-
  Reading texts, signed integers and effects with package values' reader: the plain mathematics; the calls of Text, Signed, Count (at 4) and update.readEffect. Conditions: the reader's block is as it is said; the input reads as bytes. (Written by mk_urdr.py.)
-/
import Derived.Test.YtdfablboenfblaaDoorQKE
import Derived.Test.YtdfablboenfblaaDoorQKS
import Derived.Test.YtdfablboenfblaaDoorQUR
namespace Go.Proofs.YtdfablboenfblaaDoor
open Go.RowKit
open JM (St)
open UM (Ef)
open WM (enc dec zig zag Bytes)

namespace UM
theorem jstep_used (xs : List Int) (s : St) (hb : Bytes xs) (hu : s.1 ≤ xs.length) : (JM.step xs s).2.1 ≤ xs.length := (JM.step_small xs s hb hu).2
/-- A text read: the text, the reader's state. -/
def stepS (xs : List Int) (s : St) : ByteArray × St :=
  if s.2 ≠ 0 then (⟨#[]⟩, s) else (strOfNums (decS (xs.drop s.1)).1, (s.1 + (decS (xs.drop s.1)).2.1.toNat, (decS (xs.drop s.1)).2.2))
/-- A signed integer read. -/
def stepZ (xs : List Int) (s : St) : Int × St :=
  if s.2 ≠ 0 then (0, s) else (zag (dec 0 0 (xs.drop s.1)).1, (s.1 + (dec 0 0 (xs.drop s.1)).2.1.toNat, (dec 0 0 (xs.drop s.1)).2.2))
theorem stepS_stop {xs : List Int} {u : Nat} {er : Int} (h : er ≠ 0) : stepS xs (u, er) = (⟨#[]⟩, (u, er)) := if_pos h
theorem stepZ_stop {xs : List Int} {u : Nat} {er : Int} (h : er ≠ 0) : stepZ xs (u, er) = (0, (u, er)) := if_pos h
theorem stepS_used (xs : List Int) (s : St) (hb : Bytes xs) (hu : s.1 ≤ xs.length) : (stepS xs s).2.1 ≤ xs.length := by
  unfold stepS
  split
  · exact hu
  · rcases decS_two (bdrop hb s.1) with ⟨e1, he1, hd⟩ | ⟨l, n, hd, hl⟩
    · rw [hd]; exact hu
    · rw [hd]
      rw [List.length_drop] at hl
      show s.1 + (n : Int).toNat ≤ _
      omega
theorem stepZ_used (xs : List Int) (s : St) (hb : Bytes xs) (hu : s.1 ≤ xs.length) : (stepZ xs s).2.1 ≤ xs.length := by
  unfold stepZ
  split
  · exact hu
  · rcases WM.dec_two _ (bdrop hb s.1) with ⟨e1, he1, hd⟩ | ⟨m, hm, hd, hl, _⟩
    · rw [hd]; exact hu
    · rw [hd]
      rw [List.length_drop] at hl
      show s.1 + ((enc m).length : Int).toNat ≤ _
      omega
/-- An effect read, whatever the reader's state. -/
def ef (xs : List Int) (s : St) : Ef × St :=
  let a := JM.step xs s
  let b := stepS xs a.2
  let c := stepS xs b.2
  let d := stepZ xs c.2
  let e := stepS xs d.2
  ((a.1, b.1, c.1, d.1, e.1), e.2)
theorem ef_run {xs : List Int} {s s1 s2 s3 s4 s5 : St} {k : Int} {o f : ByteArray} {n : Int} {t : ByteArray} (h1 : JM.step xs s = (k, s1)) (h2 : stepS xs s1 = (o, s2)) (h3 : stepS xs s2 = (f, s3)) (h4 : stepZ xs s3 = (n, s4)) (h5 : stepS xs s4 = (t, s5)) :
    ef xs s = ((k, o, f, n, t), s5) := by
  simp [ef, h1, h2, h3, h4, h5]
theorem ef_used {xs : List Int} {s : St} (hb : Bytes xs) (hu : s.1 ≤ xs.length) : (ef xs s).2.1 ≤ xs.length := by
  have h1 := (JM.step_small xs s hb hu).2
  exact stepS_used _ _ hb (stepZ_used _ _ hb (stepS_used _ _ hb (stepS_used _ _ hb h1)))
theorem ef_stop {xs : List Int} {u : Nat} {er : Int} (h : er ≠ 0) : (ef xs (u, er)).2 = (u, er) := by
  rw [ef_run (JM.step_stop h) (stepS_stop h) (stepS_stop h) (stepZ_stop h) (stepS_stop h)]
/-- The effects read. -/
def efs (xs : List Int) (s : St) : Nat → List Ef × St
  | 0 => ([], s)
  | k + 1 => ((efs xs s k).1 ++ [(ef xs (efs xs s k).2).1], (ef xs (efs xs s k).2).2)
theorem efs_length (xs : List Int) (s : St) (k : Nat) : (efs xs s k).1.length = k := by
  induction k with
  | zero => rfl
  | succ k ih => simp [efs, ih]
theorem efs_used {xs : List Int} {s : St} (hb : Bytes xs) (hu : s.1 ≤ xs.length) (k : Nat) : (efs xs s k).2.1 ≤ xs.length := by
  induction k with
  | zero => exact hu
  | succ k ih => exact ef_used hb ih
theorem efs_stop {xs : List Int} {s : St} (h : s.2 ≠ 0) (k : Nat) : (efs xs s k).2 = s := by
  induction k with
  | zero => rfl
  | succ k ih =>
    show (ef xs (efs xs s k).2).2 = s
    rw [ih]
    exact ef_stop h
/-- It agrees with what the reference reads. -/
theorem ef_eq {xs : List Int} (hb : Bytes xs) (u : Nat) : (ef xs (u, 0)).2.2 = (decE (xs.drop u)).2.2 ∧ ((decE (xs.drop u)).2.2 = 0 → (ef xs (u, 0)).1 = (decE (xs.drop u)).1 ∧ (ef xs (u, 0)).2.1 = u + (decE (xs.drop u)).2.1) := by
  have hd0 := bdrop hb u
  unfold decE
  rcases JM.num_two (xs.drop u) hd0 with ⟨e1, he1, h1⟩ | ⟨m, hm, h1, hml⟩
  · have g1 : JM.step xs (u, 0) = (0, (u, e1)) := by unfold JM.step; rw [if_neg (by simp), h1, if_pos (show ¬ e1 = 0 by omega)]
    have ne : e1 ≠ 0 := by omega
    rw [h1, if_pos ne, ef_run g1 (stepS_stop ne) (stepS_stop ne) (stepZ_stop ne) (stepS_stop ne)]
    exact ⟨rfl, fun h => absurd h ne⟩
  have g1 : JM.step xs (u, 0) = ((m : Int), (u + (enc m).length, 0)) := by unfold JM.step; rw [if_neg (by simp), h1, if_neg (by simp)]; rfl
  rw [h1, if_neg (by simp)]
  show _ = (decE2 (m : Int) (xs.drop u) (enc m).length).2.2 ∧ ((decE2 (m : Int) (xs.drop u) (enc m).length).2.2 = 0 → _ = (decE2 (m : Int) (xs.drop u) (enc m).length).1 ∧ _ = u + (decE2 (m : Int) (xs.drop u) (enc m).length).2.1)
  generalize (enc m).length = a1 at g1
  unfold decE2
  rw [List.drop_drop]
  rcases decS_two (bdrop hb (u + a1)) with ⟨e1, he1, h2⟩ | ⟨l2, n2, h2, hl2⟩
  · have ne : e1 ≠ 0 := by omega
    have g2 : stepS xs (u + a1, 0) = (⟨#[]⟩, (u + a1, e1)) := by unfold stepS; rw [if_neg (by simp), h2]; rfl
    rw [h2, if_pos ne, ef_run g1 g2 (stepS_stop ne) (stepZ_stop ne) (stepS_stop ne)]
    exact ⟨rfl, fun h => absurd h ne⟩
  have g2 : stepS xs (u + a1, 0) = (strOfNums l2, (u + a1 + n2, 0)) := by unfold stepS; rw [if_neg (by simp), h2]; rfl
  rw [h2, if_neg (by simp)]
  show _ = (decE3 (m : Int) (strOfNums l2) (xs.drop u) (a1 + n2)).2.2 ∧ ((decE3 (m : Int) (strOfNums l2) (xs.drop u) (a1 + n2)).2.2 = 0 → _ = (decE3 (m : Int) (strOfNums l2) (xs.drop u) (a1 + n2)).1 ∧ _ = u + (decE3 (m : Int) (strOfNums l2) (xs.drop u) (a1 + n2)).2.1)
  rw [Nat.add_assoc] at g2
  generalize strOfNums l2 = o at g2
  generalize a1 + n2 = a2 at g2
  unfold decE3
  rw [List.drop_drop]
  rcases decS_two (bdrop hb (u + a2)) with ⟨e1, he1, h3⟩ | ⟨l3, n3, h3, hl3⟩
  · have ne : e1 ≠ 0 := by omega
    have g3 : stepS xs (u + a2, 0) = (⟨#[]⟩, (u + a2, e1)) := by unfold stepS; rw [if_neg (by simp), h3]; rfl
    rw [h3, if_pos ne, ef_run g1 g2 g3 (stepZ_stop ne) (stepS_stop ne)]
    exact ⟨rfl, fun h => absurd h ne⟩
  have g3 : stepS xs (u + a2, 0) = (strOfNums l3, (u + a2 + n3, 0)) := by unfold stepS; rw [if_neg (by simp), h3]; rfl
  rw [h3, if_neg (by simp)]
  show _ = (decE4 (m : Int) o (strOfNums l3) (xs.drop u) (a2 + n3)).2.2 ∧ ((decE4 (m : Int) o (strOfNums l3) (xs.drop u) (a2 + n3)).2.2 = 0 → _ = (decE4 (m : Int) o (strOfNums l3) (xs.drop u) (a2 + n3)).1 ∧ _ = u + (decE4 (m : Int) o (strOfNums l3) (xs.drop u) (a2 + n3)).2.1)
  rw [Nat.add_assoc] at g3
  generalize strOfNums l3 = f at g3
  generalize a2 + n3 = a3 at g3
  unfold decE4
  rw [List.drop_drop]
  rcases WM.dec_two _ (bdrop hb (u + a3)) with ⟨e1, he1, h4⟩ | ⟨m4, hm4, h4, hl4, _⟩
  · have ne : e1 ≠ 0 := by omega
    have g4 : stepZ xs (u + a3, 0) = (0, (u + a3, e1)) := by unfold stepZ; rw [if_neg (by simp), h4]; rfl
    rw [h4, if_pos ne, ef_run g1 g2 g3 g4 (stepS_stop ne)]
    exact ⟨rfl, fun h => absurd h ne⟩
  have g4 : stepZ xs (u + a3, 0) = (zag (m4 : Int), (u + a3 + (enc m4).length, 0)) := by unfold stepZ; rw [if_neg (by simp), h4]; rfl
  rw [h4, if_neg (by simp)]
  show _ = (decE5 (m : Int) o f (zag (m4 : Int)) (xs.drop u) (a3 + (enc m4).length)).2.2 ∧ ((decE5 (m : Int) o f (zag (m4 : Int)) (xs.drop u) (a3 + (enc m4).length)).2.2 = 0 → _ = (decE5 (m : Int) o f (zag (m4 : Int)) (xs.drop u) (a3 + (enc m4).length)).1 ∧ _ = u + (decE5 (m : Int) o f (zag (m4 : Int)) (xs.drop u) (a3 + (enc m4).length)).2.1)
  rw [Nat.add_assoc] at g4
  generalize zag (m4 : Int) = z at g4
  generalize a3 + (enc m4).length = a4 at g4
  unfold decE5
  rw [List.drop_drop]
  rcases decS_two (bdrop hb (u + a4)) with ⟨e1, he1, h5⟩ | ⟨l5, n5, h5, hl5⟩
  · have ne : e1 ≠ 0 := by omega
    have g5 : stepS xs (u + a4, 0) = (⟨#[]⟩, (u + a4, e1)) := by unfold stepS; rw [if_neg (by simp), h5]; rfl
    rw [h5, if_pos ne, ef_run g1 g2 g3 g4 g5]
    exact ⟨rfl, fun h => absurd h ne⟩
  have g5 : stepS xs (u + a4, 0) = (strOfNums l5, (u + a4 + n5, 0)) := by unfold stepS; rw [if_neg (by simp), h5]; rfl
  rw [h5, if_neg (by simp), ef_run g1 g2 g3 g4 g5]
  exact ⟨rfl, fun _ => ⟨rfl, Nat.add_assoc _ _ _⟩⟩
theorem efs_eq {xs : List Int} (hb : Bytes xs) (u k : Nat) : (efs xs (u, 0) k).2.2 = (chE xs u k).2.2 ∧ ((chE xs u k).2.2 = 0 → (efs xs (u, 0) k).1 = (chE xs u k).1 ∧ (efs xs (u, 0) k).2.1 = (chE xs u k).2.1) := by
  induction k with
  | zero => exact ⟨rfl, fun _ => ⟨rfl, rfl⟩⟩
  | succ k ih =>
    obtain ⟨i1, i2⟩ := ih
    by_cases h : (chE xs u k).2.2 = 0
    · obtain ⟨i3, i4⟩ := i2 h
      have hs : (efs xs (u, 0) k).2 = ((chE xs u k).2.1, 0) := Prod.ext i4 (i1.trans h)
      have he := ef_eq hb (chE xs u k).2.1
      rw [← hs] at he
      show (ef xs (efs xs (u, 0) k).2).2.2 = _ ∧ (_ → (efs xs (u, 0) k).1 ++ [(ef xs (efs xs (u, 0) k).2).1] = _ ∧ (ef xs (efs xs (u, 0) k).2).2.1 = _)
      rw [chE, if_neg (by simp [h])]
      by_cases h2 : (decE (xs.drop (chE xs u k).2.1)).2.2 = 0
      · rw [if_neg (by simp [h2])]
        obtain ⟨e1, e2⟩ := he.2 h2
        refine ⟨he.1.trans h2, fun _ => ⟨?_, e2⟩⟩
        rw [i3, e1]
      · rw [if_pos h2]
        exact ⟨he.1, fun h3 => absurd h3 h2⟩
    · have hs : (efs xs (u, 0) k).2.2 ≠ 0 := by rw [i1]; exact h
      obtain ⟨p, q⟩ : ∃ a b, (efs xs (u, 0) k).2 = (a, b) := ⟨_, _, rfl⟩
      obtain ⟨q, hq⟩ := q
      rw [chE, if_pos h]
      refine ⟨?_, fun h3 => absurd h3 h⟩
      show (ef xs (efs xs (u, 0) k).2).2.2 = _
      rw [hq] at hs i1 ⊢
      rw [ef_stop hs]
      exact i1
end UM

set_option maxRecDepth 100000 in
/-- A reader that has failed reads zero. -/
theorem rdStopS (g : Nat) (v : Value) (u : Nat) (er : Int) (w : World) (hb : RdrB w g v (u, er)) (he : er ≠ 0) (f : Value) :
    Calls Tryd.prog 133 #[.pointer (some ⟨g, 0, none⟩), f] w fun e w' => e = .returned (.string ⟨#[]⟩) ∧ RdrB w' g v (u, er) ∧ Only g w w' := by
  obtain ⟨c0, c1, c2, f0, f1, f2⟩ := hb.cells
  have hne : (er != 0) = true := bne_t he
  have HB := Lib.hid hb
  simp only at c1 c2
  clear he hb
  go_enter Tryd.func133, Tryd.ntmps133
  go_wp2
  go_ret
  exact ⟨rfl, HB.out, Only.refl _ _⟩

set_option maxRecDepth 100000 in
set_option maxHeartbeats 2000000 in
/-- A reader that has not failed reads one value more. -/
theorem rdReadS (g : Nat) (v v2 : Value) (xs : List Int) (u : Nat) (w : World) (hb : RdrB w g v (u, 0)) (h : Rd w v xs) (F : FuncId) (X : ByteArray) (N : Nat) (E : Int)
    (hcut : ∀ w0 : World, (Instr.slice 55 v (some (.int .i64 (u : Int))) none none).run Tryd.prog w0 = .ok v2 w0)
    (eF : ∀ args w, (callFunc F args).run Tryd.prog w = .ok (.enter F args) w)
    (hD : ∀ n, Calls Tryd.prog F #[v2] (w.drewN n) fun e w' => e = .returned (.tuple #[.string X, .int .i64 (N : Int), .int .i64 E]) ∧ ∃ k, w' = w.drewN k)
    (hle : u + N ≤ xs.length) :
    Calls Tryd.prog 133 #[.pointer (some ⟨g, 0, none⟩), .func (.func F) #[] #[]] w fun e w' => e = .returned (.string X) ∧ RdrB w' g v (u + N, E) ∧ Only g w w' := by
  obtain ⟨ad, cp, rfl, hcp⟩ := h.shape
  obtain ⟨c0, c1, c2, f0, f1, f2⟩ := hb.cells
  have hxl : xs.length ≤ 9223372036854775807 := by
    obtain ⟨_, _, _, _, hn1, hn2, hcm, _⟩ := h
    unfold maxLen at hcm
    omega
  have HB := Lib.hid hb
  have HU := Lib.hid hD
  have hsum := Lib.hid (show (u : Int) + (N : Int) = ((u + N : Nat) : Int) by omega)
  have HF := Lib.hid (fun n => ((show RdrB (w.drewN n) g (.slice ad xs.length cp) (u, 0) from HB.out).used (u + N)).fail E)
  simp only at c1 c2
  have hw1 : (u : Int) + (N : Int) ≤ 9223372036854775807 := by omega
  clear h hb hcp hD
  go_enter Tryd.func133, Tryd.ntmps133
  go_wp2
  go_quiet (first | (go_at_fn F; exact HU.out _))
  go_wp2
  rw [hsum.out]
  go_ret
  exact ⟨rfl, HF.out _, ((Only.drewN g w _).trans (Only.set 1 _)).trans (Only.set 2 _)⟩

set_option maxRecDepth 100000 in
/-- A reader that has failed reads zero. -/
theorem rdStopZ (g : Nat) (v : Value) (u : Nat) (er : Int) (w : World) (hb : RdrB w g v (u, er)) (he : er ≠ 0) (f : Value) :
    Calls Tryd.prog 135 #[.pointer (some ⟨g, 0, none⟩), f] w fun e w' => e = .returned (.int .i64 0) ∧ RdrB w' g v (u, er) ∧ Only g w w' := by
  obtain ⟨c0, c1, c2, f0, f1, f2⟩ := hb.cells
  have hne : (er != 0) = true := bne_t he
  have HB := Lib.hid hb
  simp only at c1 c2
  clear he hb
  go_enter Tryd.func135, Tryd.ntmps135
  go_wp2
  go_ret
  exact ⟨rfl, HB.out, Only.refl _ _⟩

set_option maxRecDepth 100000 in
set_option maxHeartbeats 2000000 in
/-- A reader that has not failed reads one value more. -/
theorem rdReadZ (g : Nat) (v v2 : Value) (xs : List Int) (u : Nat) (w : World) (hb : RdrB w g v (u, 0)) (h : Rd w v xs) (F : FuncId) (X : Int) (N : Nat) (E : Int)
    (hcut : ∀ w0 : World, (Instr.slice 55 v (some (.int .i64 (u : Int))) none none).run Tryd.prog w0 = .ok v2 w0)
    (eF : ∀ args w, (callFunc F args).run Tryd.prog w = .ok (.enter F args) w)
    (hD : ∀ n, Calls Tryd.prog F #[v2] (w.drewN n) fun e w' => e = .returned (.tuple #[.int .i64 X, .int .i64 (N : Int), .int .i64 E]) ∧ ∃ k, w' = w.drewN k)
    (hle : u + N ≤ xs.length) :
    Calls Tryd.prog 135 #[.pointer (some ⟨g, 0, none⟩), .func (.func F) #[] #[]] w fun e w' => e = .returned (.int .i64 X) ∧ RdrB w' g v (u + N, E) ∧ Only g w w' := by
  obtain ⟨ad, cp, rfl, hcp⟩ := h.shape
  obtain ⟨c0, c1, c2, f0, f1, f2⟩ := hb.cells
  have hxl : xs.length ≤ 9223372036854775807 := by
    obtain ⟨_, _, _, _, hn1, hn2, hcm, _⟩ := h
    unfold maxLen at hcm
    omega
  have HB := Lib.hid hb
  have HU := Lib.hid hD
  have hsum := Lib.hid (show (u : Int) + (N : Int) = ((u + N : Nat) : Int) by omega)
  have HF := Lib.hid (fun n => ((show RdrB (w.drewN n) g (.slice ad xs.length cp) (u, 0) from HB.out).used (u + N)).fail E)
  simp only at c1 c2
  have hw1 : (u : Int) + (N : Int) ≤ 9223372036854775807 := by omega
  clear h hb hcp hD
  go_enter Tryd.func135, Tryd.ntmps135
  go_wp2
  go_quiet (first | (go_at_fn F; exact HU.out _))
  go_wp2
  rw [hsum.out]
  go_ret
  exact ⟨rfl, HF.out _, ((Only.drewN g w _).trans (Only.set 1 _)).trans (Only.set 2 _)⟩

set_option maxRecDepth 100000 in
set_option maxHeartbeats 2000000 in
theorem rdText (g : Nat) (v : Value) (xs : List Int) (s : St) (w : World) (hb : RdrB w g v s) (h : Rd w v xs) (hu : s.1 ≤ xs.length) :
    Calls Tryd.prog 126 #[.pointer (some ⟨g, 0, none⟩)] w fun e w' => e = .returned (.string (UM.stepS xs s).1) ∧ RdrB w' g v (UM.stepS xs s).2 ∧ Only g w w' := by
  have HC : Hid (Calls Tryd.prog 133 #[.pointer (some ⟨g, 0, none⟩), .func (.func 134) #[] #[]] w fun e w' => e = .returned (.string (UM.stepS xs s).1) ∧ RdrB w' g v (UM.stepS xs s).2 ∧ Only g w w') := by
    refine Lib.hid ?_
    obtain ⟨u, er⟩ := s
    by_cases he : er = 0
    · subst he
      obtain ⟨ad, cp, rfl, hcp⟩ := h.shape
      obtain ⟨v2, hcut, hrd⟩ := h.cutL u hu
      have hHD := fun n => (wString v2 _ (w.drewN n) hrd).mono (fun e w' (h : _ ∧ _) => (⟨h.1, n, h.2.symm⟩ : _ ∧ ∃ k, w' = w.drewN k))
      have hxd : (xs.drop u).length = xs.length - u := List.length_drop
      simp only at hu
      rcases decS_two hrd.bytes with ⟨e1, he1, hd⟩ | ⟨l, n, hd, hl⟩
      · have HS : UM.stepS xs (u, 0) = (⟨#[]⟩, (u, e1)) := by unfold UM.stepS; rw [if_neg (by simp), hd]; rfl
        rw [HS]
        rw [hd] at hHD
        exact rdReadS g _ v2 xs u w hb h 134 ⟨#[]⟩ 0 e1 hcut (fun _ _ => rfl) (fun n => hHD n) (by omega)
      · have HS : UM.stepS xs (u, 0) = (strOfNums l, (u + n, 0)) := by unfold UM.stepS; rw [if_neg (by simp), hd]; rfl
        rw [HS]
        rw [hd] at hHD
        exact rdReadS g _ v2 xs u w hb h 134 _ n 0 hcut (fun _ _ => rfl) (fun n => hHD n) (by omega)
    · rw [UM.stepS_stop he]
      exact rdStopS g v u er w hb he _
  clear hb h hu
  generalize UM.stepS xs s = p at HC
  obtain ⟨x, s'⟩ := p
  go_enter Tryd.func126, Tryd.ntmps126
  go_wp2_with fail
  refine HC.out.mono ?_
  rintro e w1 ⟨rfl, hr, ho⟩
  clear HC
  go_wp2
  go_ret
  exact ⟨rfl, hr, ho⟩

set_option maxRecDepth 100000 in
set_option maxHeartbeats 2000000 in
theorem rdSigned (g : Nat) (v : Value) (xs : List Int) (s : St) (w : World) (hb : RdrB w g v s) (h : Rd w v xs) (hu : s.1 ≤ xs.length) :
    Calls Tryd.prog 127 #[.pointer (some ⟨g, 0, none⟩)] w fun e w' => e = .returned (.int .i64 (UM.stepZ xs s).1) ∧ RdrB w' g v (UM.stepZ xs s).2 ∧ Only g w w' := by
  have HC : Hid (Calls Tryd.prog 135 #[.pointer (some ⟨g, 0, none⟩), .func (.func 136) #[] #[]] w fun e w' => e = .returned (.int .i64 (UM.stepZ xs s).1) ∧ RdrB w' g v (UM.stepZ xs s).2 ∧ Only g w w') := by
    refine Lib.hid ?_
    obtain ⟨u, er⟩ := s
    by_cases he : er = 0
    · subst he
      obtain ⟨ad, cp, rfl, hcp⟩ := h.shape
      obtain ⟨v2, hcut, hrd⟩ := h.cutL u hu
      have hHD := fun n => (wInt v2 _ (w.drewN n) hrd).mono (fun e w' (h : _ ∧ _) => (⟨h.1, n, h.2.symm⟩ : _ ∧ ∃ k, w' = w.drewN k))
      have hxd : (xs.drop u).length = xs.length - u := List.length_drop
      simp only at hu
      rcases WM.dec_two (xs.drop u) hrd.bytes with ⟨e1, he1, hd⟩ | ⟨m, hm, hd, hml, _⟩
      · have HS : UM.stepZ xs (u, 0) = (0, (u, e1)) := by unfold UM.stepZ; rw [if_neg (by simp), hd]; rfl
        rw [HS]
        rw [hd] at hHD
        exact rdReadZ g _ v2 xs u w hb h 136 0 0 e1 hcut (fun _ _ => rfl) (fun n => hHD n) (by omega)
      · have HS : UM.stepZ xs (u, 0) = (zag (m : Int), (u + (enc m).length, 0)) := by unfold UM.stepZ; rw [if_neg (by simp), hd]; rfl
        rw [HS]
        rw [hd] at hHD
        exact rdReadZ g _ v2 xs u w hb h 136 _ (enc m).length 0 hcut (fun _ _ => rfl) (fun n => hHD n) (by omega)
    · rw [UM.stepZ_stop he]
      exact rdStopZ g v u er w hb he _
  clear hb h hu
  generalize UM.stepZ xs s = p at HC
  obtain ⟨x, s'⟩ := p
  go_enter Tryd.func127, Tryd.ntmps127
  go_wp2_with fail
  refine HC.out.mono ?_
  rintro e w1 ⟨rfl, hr, ho⟩
  clear HC
  go_wp2
  go_ret
  exact ⟨rfl, hr, ho⟩

set_option maxRecDepth 100000 in
set_option maxHeartbeats 1000000 in
theorem rdCount4 (g : Nat) (v : Value) (xs : List Int) (s : St) (w : World) (hb : RdrB w g v s) (h : Rd w v xs) (hu : s.1 ≤ xs.length) :
    Calls Tryd.prog 103 #[.pointer (some ⟨g, 0, none⟩), .int .i64 4] w fun e w' => e = .returned (.int .i64 (if 4 < (JM.step xs s).1 then 0 else (JM.step xs s).1)) ∧ RdrB w' g v (if 4 < (JM.step xs s).1 then ((JM.step xs s).2.1, 3) else (JM.step xs s).2) ∧ Only g w w' := by
  have HN := Lib.hid (rdNumber g v xs s w hb h hu)
  generalize JM.step xs s = p at HN
  obtain ⟨x, s'⟩ := p
  clear hb h hu
  by_cases hx : 4 < x
  · simp only [if_pos hx]
    go_enter Tryd.func103, Tryd.ntmps103
    go_wp2_with fail
    refine HN.out.mono ?_
    rintro e w1 ⟨rfl, hr, ho⟩
    obtain ⟨u, er⟩ := s'
    have c0 := hr.cells
    obtain ⟨c0, c1, c2, f0, f1, f2⟩ := c0
    have HF := Lib.hid (RdrB.fail hr 3)
    have HO := Lib.hid ho
    clear hr ho HN
    go_wp2
    go_ret
    exact ⟨rfl, HF.out, HO.out.trans (Only.set 2 _)⟩
  · simp only [if_neg hx]
    have hx : decide (4 < x) = false := decide_eq_false hx
    go_enter Tryd.func103, Tryd.ntmps103
    go_wp2_with fail
    refine HN.out.mono ?_
    rintro e w1 ⟨rfl, hr, ho⟩
    clear HN
    go_wp2
    go_ret
    exact ⟨rfl, hr, ho⟩

theorem eff_ret {R : Ending → World → Prop} {a : Act} {w : World} {g : Nat} {x0 x1 x2 x3 x4 : Value} (hp : a.tmps.getD 2 undef = .pointer (some ⟨g, 0, none⟩)) (hg : OE w g x0 x1 x2 x3 x4)
    (hd : a.defers = []) (hR : R (.returned (.agg #[x0, x1, x2, x3, x4])) w) : bodyPost Tryd.prog Tryd.f104 R .ret a w :=
  bodyPost_ret (results_cell_row (P := Tryd.prog) rfl a.tmps w g 62 _ _ _ hp hg Tryd.underlying62 rfl (by kernel_rfl)) hd hR
theorem onlyE5 {w : World} {B : Nat} (a b c d e : Value) : Only B w (((((w.setCell ⟨B, 0, none⟩ a).setCell ⟨B, 1, none⟩ b).setCell ⟨B, 2, none⟩ c).setCell ⟨B, 3, none⟩ d).setCell ⟨B, 4, none⟩ e) :=
  ((((Only.set 0 a).trans (Only.set 1 b)).trans (Only.set 2 c)).trans (Only.set 3 d)).trans (Only.set 4 e)

set_option maxRecDepth 100000 in
set_option maxHeartbeats 4000000 in
theorem rdEff (W : World) (g : Nat) (v : Value) (xs : List Int) (s : St) (w : World) (hb : RdrB w g v s) (h : Rd W v xs) (hW : Below W.heap.size W w) (hg : W.heap.size ≤ g) (hu : s.1 ≤ xs.length) :
    Calls Tryd.prog 104 #[.pointer (some ⟨g, 0, none⟩)] w fun e w' => e = .returned (efv (UM.ef xs s).1) ∧ RdrB w' g v (UM.ef xs s).2 ∧ Only g w w' := by
  obtain ⟨⟨x1, s1⟩, h1⟩ : ∃ p, JM.step xs s = p := ⟨_, rfl⟩
  obtain ⟨⟨o, s2⟩, h2⟩ : ∃ p, UM.stepS xs s1 = p := ⟨_, rfl⟩
  obtain ⟨⟨f, s3⟩, h3⟩ : ∃ p, UM.stepS xs s2 = p := ⟨_, rfl⟩
  obtain ⟨⟨n, s4⟩, h4⟩ : ∃ p, UM.stepZ xs s3 = p := ⟨_, rfl⟩
  obtain ⟨⟨t, s5⟩, h5⟩ : ∃ p, UM.stepS xs s4 = p := ⟨_, rfl⟩
  have u1 : s1.1 ≤ xs.length := by have := UM.jstep_used xs s h.bytes hu; rw [h1] at this; exact this
  have u2 : s2.1 ≤ xs.length := by have := UM.stepS_used xs s1 h.bytes u1; rw [h2] at this; exact this
  have u3 : s3.1 ≤ xs.length := by have := UM.stepS_used xs s2 h.bytes u2; rw [h3] at this; exact this
  have u4 : s4.1 ≤ xs.length := by have := UM.stepZ_used xs s3 h.bytes u3; rw [h4] at this; exact this
  have u5 : s5.1 ≤ xs.length := by have := UM.stepS_used xs s4 h.bytes u4; rw [h5] at this; exact this
  rw [UM.ef_run h1 h2 h3 h4 h5]
  show Calls _ _ _ _ fun e w' => e = .returned (ev x1 o f n t) ∧ RdrB w' g v s5 ∧ Only g w w'
  have N1 : Hid (∀ w, RdrB w g v s → Below W.heap.size W w → Calls Tryd.prog 102 #[.pointer (some ⟨g, 0, none⟩)] w fun e w' => e = .returned (.int .i64 x1) ∧ RdrB w' g v s1 ∧ Only g w w') := by
    intro w hr hb
    have := rdNumber g v xs s w hr (h.below hb) hu
    rw [h1] at this; exact this
  have N2 : Hid (∀ w, RdrB w g v s1 → Below W.heap.size W w → Calls Tryd.prog 126 #[.pointer (some ⟨g, 0, none⟩)] w fun e w' => e = .returned (.string o) ∧ RdrB w' g v s2 ∧ Only g w w') := by
    intro w hr hb
    have := rdText g v xs s1 w hr (h.below hb) u1
    rw [h2] at this; exact this
  have N3 : Hid (∀ w, RdrB w g v s2 → Below W.heap.size W w → Calls Tryd.prog 126 #[.pointer (some ⟨g, 0, none⟩)] w fun e w' => e = .returned (.string f) ∧ RdrB w' g v s3 ∧ Only g w w') := by
    intro w hr hb
    have := rdText g v xs s2 w hr (h.below hb) u2
    rw [h3] at this; exact this
  have N4 : Hid (∀ w, RdrB w g v s3 → Below W.heap.size W w → Calls Tryd.prog 127 #[.pointer (some ⟨g, 0, none⟩)] w fun e w' => e = .returned (.int .i64 n) ∧ RdrB w' g v s4 ∧ Only g w w') := by
    intro w hr hb
    have := rdSigned g v xs s3 w hr (h.below hb) u3
    rw [h4] at this; exact this
  have N5 : Hid (∀ w, RdrB w g v s4 → Below W.heap.size W w → Calls Tryd.prog 126 #[.pointer (some ⟨g, 0, none⟩)] w fun e w' => e = .returned (.string t) ∧ RdrB w' g v s5 ∧ Only g w w') := by
    intro w hr hb
    have := rdText g v xs s4 w hr (h.below hb) u4
    rw [h5] at this; exact this
  have hgl : g < w.heap.size := (Array.getElem?_eq_some_iff.1 hb).1
  obtain ⟨Z, hZ⟩ : ∃ Z, Z = Obj.cells #[.int .i64 0, .string ⟨#[]⟩, .string ⟨#[]⟩, .int .i64 0, .string ⟨#[]⟩] 62 := ⟨_, rfl⟩
  have hfr := below_fresh w Z
  have hzb : (w.alloc Z).heap[w.heap.size]? = some Z := heap_alloc_new w _
  have HBN := Lib.hid (bnext hW hfr)
  have HRN := Lib.hid (show RdrB (w.alloc Z) g v s by unfold RdrB; rw [hfr.block g hgl]; exact hb)
  have HFR := Lib.hid (Only.of (g := g) hfr)
  have HZB := Lib.hid hzb
  have HZ := Lib.hid hZ
  have HGL := Lib.hid hgl
  have HGW := Lib.hid hg
  clear hb h hW hg hu h1 h2 h3 h4 h5 u1 u2 u3 u4 u5 hfr hzb hZ hgl
  go_enter Tryd.func104, Tryd.ntmps104
  go_wp2_with fail
  rw [← HZ.out]
  generalize w.alloc Z = w0 at HBN HRN HFR HZB ⊢
  refine (N1.out _ HRN.out HBN.out).mono ?_
  rintro e w1 ⟨rfl, hr, ho⟩
  have HB1 := Lib.hid (seen HBN.out HGW.out ho)
  have HO1 := Lib.hid ho
  have HR1 := Lib.hid hr
  clear hr ho N1
  go_wp2_with fail
  refine (N2.out _ HR1.out HB1.out).mono ?_
  rintro e w2 ⟨rfl, hr, ho⟩
  have HB2 := Lib.hid (seen HB1.out HGW.out ho)
  have HO2 := Lib.hid (HO1.out.trans ho)
  have HR2 := Lib.hid hr
  clear hr ho N2
  go_wp2_with fail
  refine (N3.out _ HR2.out HB2.out).mono ?_
  rintro e w3 ⟨rfl, hr, ho⟩
  have HB3 := Lib.hid (seen HB2.out HGW.out ho)
  have HO3 := Lib.hid (HO2.out.trans ho)
  have HR3 := Lib.hid hr
  clear hr ho N3
  go_wp2_with fail
  refine (N4.out _ HR3.out HB3.out).mono ?_
  rintro e w4 ⟨rfl, hr, ho⟩
  have HB4 := Lib.hid (seen HB3.out HGW.out ho)
  have HO4 := Lib.hid (HO3.out.trans ho)
  have HR4 := Lib.hid hr
  clear hr ho N4
  go_wp2_with fail
  refine (N5.out _ HR4.out HB4.out).mono ?_
  rintro e w5 ⟨rfl, hr, ho⟩
  have hne : w.heap.size ≠ g := Nat.ne_of_gt HGL.out
  have hz7 : OE w5 w.heap.size (.int .i64 0) (.string ⟨#[]⟩) (.string ⟨#[]⟩) (.int .i64 0) (.string ⟨#[]⟩) := by
    show w5.heap[w.heap.size]? = some _
    have := (HO4.out.trans ho).at HZB.out hne
    rw [HZ.out] at this
    exact this
  have HPUT := Lib.hid (hz7.put5 (.int .i64 x1) (.string o) (.string f) (.int .i64 n) (.string t))
  have HON := Lib.hid (onlyE5 (w := w5) (B := w.heap.size) (.int .i64 x1) (.string o) (.string f) (.int .i64 n) (.string t))
  obtain ⟨z0, z1, z2, z3, z4, f0, f1, f2, f3, f4⟩ := hz7.cells
  have HO7 := Lib.hid (HFR.out.trans (HO4.out.trans ho))
  have HR7 := Lib.hid hr
  have HN7 := Lib.hid hne
  clear hr ho N5 hne hz7 HO1 HO2 HO3 HO4 HR1 HR2 HR3 HR4 HB1 HB2 HB3 HB4 HZB HZ
  go_wp2
  refine eff_ret rfl HPUT.out rfl ⟨rfl, ?_, ?_⟩
  · exact HON.out.at HR7.out (Ne.symm HN7.out)
  · have h := HON.out
    exact ⟨h.os.trans HO7.out.os, h.tape.trans HO7.out.tape, h.output.trans HO7.out.output, Nat.le_trans HO7.out.size h.size,
      fun k hk hne => (h.block k (Nat.lt_of_lt_of_le hk HO7.out.size) (Nat.ne_of_lt hk)).trans (HO7.out.block k hk hne)⟩

end Go.Proofs.YtdfablboenfblaaDoor
