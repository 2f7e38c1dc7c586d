/-
  The calls of the methods of proposal's reader: number, count, change. Conditions: the reader's block is as it is said; the input reads as bytes.
  An append as one step of a region that draws its order; proposals in a block of their own, the block written out; the answer of a decoder. No conditions beyond those that each lemma names.
  The call of proposal.Decode (its second make): it returns what the plain mathematics says of the bytes. Conditions: the slice reads as bytes.
  The calls of the reference's Number, Read and DecodeProposal: each returns what the plain mathematics says of the bytes. Conditions: the slice reads as bytes.
-/
import Derived.Test.YtdfablboenfblaaDoorQKB
import Derived.Test.YtdfablboenfblaaDoorQKD
import Derived.Deep.RegionLaw
import Derived.Deep.AppendLies
import Derived.StillTailTactics
import Derived.Laws.ResultCell
import Derived.Deep.RegionHeld3
import Derived.Deep.CutRange
import Derived.Test.YtdfablboenfblaaDoorQKC
namespace Go.Proofs.YtdfablboenfblaaDoor
open Go.RowKit
open JM (Chg St)

/-- All blocks that were there but g are as they were. -/
structure Only (g : Nat) (w w' : World) : Prop where
  os : w'.os = w.os
  tape : w'.tape = w.tape
  output : w'.output = w.output
  size : w.heap.size ≤ w'.heap.size
  block : ∀ k, k < w.heap.size → k ≠ g → w'.heap[k]? = w.heap[k]?
theorem Only.refl (g : Nat) (w : World) : Only g w w := ⟨rfl, rfl, rfl, Nat.le_refl _, fun _ _ _ => rfl⟩
theorem Only.trans {g : Nat} {a b c : World} (h : Only g a b) (k : Only g b c) : Only g a c :=
  ⟨k.os.trans h.os, k.tape.trans h.tape, k.output.trans h.output, Nat.le_trans h.size k.size, fun i hi hne => (k.block i (Nat.lt_of_lt_of_le hi h.size) hne).trans (h.block i hi hne)⟩
theorem Only.drewN (g : Nat) (w : World) (n : Nat) : Only g w (w.drewN n) := ⟨rfl, rfl, rfl, Nat.le_refl _, fun _ _ _ => rfl⟩
theorem Only.set {g : Nat} {w : World} (off : Nat) (u : Value) : Only g w (w.setCell ⟨g, off, none⟩ u) := by
  have hb := (Below.refl 0 w).setCell (p := ⟨g, off, none⟩) (Nat.zero_le _) u
  exact ⟨hb.os, hb.tape, hb.output, hb.size, fun k _ hk => heap_setCell_other _ _ _ _ hk⟩
theorem Only.of {g : Nat} {w w' : World} (h : Below w.heap.size w w') : Only g w w' := ⟨h.os, h.tape, h.output, h.size, fun k hk _ => h.block k hk⟩
theorem Only.below {g B : Nat} {w w' : World} (h : Only g w w') (hB : B ≤ g) (hB2 : B ≤ w.heap.size) : Below B w w' :=
  ⟨h.os, h.tape, h.output, h.size, fun k hk => h.block k (by omega) (by omega)⟩
theorem Only.at {g : Nat} {w w' : World} (h : Only g w w') {k : Nat} {o : Obj} (hk : w.heap[k]? = some o) (hne : k ≠ g) : w'.heap[k]? = some o := by
  rw [h.block k (Array.getElem?_eq_some_iff.1 hk).1 hne, hk]

/-- Block g is a reader of the input v, in state s. -/
def RdrB (w : World) (g : Nat) (v : Value) (s : St) : Prop := w.heap[g]? = some (.cells #[v, .int .i64 (s.1 : Int), .int .i64 s.2] 121 (0, 0))
theorem RdrB.cells {w : World} {g : Nat} {v : Value} {s : St} (h : RdrB w g v s) :
    w.cell? ⟨g, 0, none⟩ = some v ∧ w.cell? ⟨g, 1, none⟩ = some (.int .i64 (s.1 : Int)) ∧ w.cell? ⟨g, 2, none⟩ = some (.int .i64 s.2) ∧ w.frozen? ⟨g, 0, none⟩ = false ∧ w.frozen? ⟨g, 1, none⟩ = false ∧ w.frozen? ⟨g, 2, none⟩ = false := by
  unfold RdrB at h
  refine ⟨?_, ?_, ?_, ?_, ?_, ?_⟩
  · simp [World.cell?, h]
  · simp [World.cell?, h]
  · simp [World.cell?, h]
  · simp [World.frozen?, h]
  · simp [World.frozen?, h]
  · simp [World.frozen?, h]
theorem RdrB.used {w : World} {g : Nat} {v : Value} {u : Nat} {e : Int} (h : RdrB w g v (u, e)) (u' : Nat) : RdrB (w.setCell ⟨g, 1, none⟩ (.int .i64 (u' : Int))) g v (u', e) :=
  heap_setCell_same w g 1 _ _ _ h
theorem RdrB.fail {w : World} {g : Nat} {v : Value} {u : Nat} {e : Int} (h : RdrB w g v (u, e)) (e' : Int) : RdrB (w.setCell ⟨g, 2, none⟩ (.int .i64 e')) g v (u, e') :=
  heap_setCell_same w g 2 _ _ _ h

set_option maxRecDepth 100000 in
set_option maxHeartbeats 2000000 in
/-- What 'number' decodes. -/
theorem cNumber (v : Value) (xs : List Int) (w : World) (h : Rd w v xs) :
    Calls Tryd.prog 125 #[v] w fun e w' => e = .returned (.tuple #[.int .i64 (JM.num xs).1, .int .i64 (JM.num xs).2.1, .int .i64 (JM.num xs).2.2]) ∧ w' = w := by
  have HU := Lib.hid (wUint v xs w h)
  rcases WM.dec_two xs h.bytes with ⟨e1, he1, hd⟩ | ⟨m, hm, hd, hml, _⟩
  · have HN := Lib.hid (show JM.num xs = (0, 0, e1) by unfold JM.num; rw [hd]; simp only [ne_eq]; rw [if_pos (show ¬ e1 = 0 by omega)])
    rw [HN.out]
    rw [hd] at HU
    clear h he1 hd HN
    go_enter Tryd.func125, Tryd.ntmps125
    go_wp2_with fail
    refine HU.out.mono ?_
    rintro e w1 ⟨rfl, rfl⟩
    clear HU
    go_wp2
    go_ret3
    exact ⟨rfl, rfl⟩
  · rw [hd] at HU
    by_cases hbig : 2147483647 < (m : Int)
    · have HN := Lib.hid (show JM.num xs = (0, 0, 9) by unfold JM.num; rw [hd]; simp [hbig])
      rw [HN.out]
      clear h hd HN hml
      go_enter Tryd.func125, Tryd.ntmps125
      go_wp2_with fail
      refine HU.out.mono ?_
      rintro e w1 ⟨rfl, rfl⟩
      clear HU
      go_wp2
      go_ret3
      exact ⟨rfl, rfl⟩
    · have HN := Lib.hid (show JM.num xs = ((m : Int), ((WM.enc m).length : Int), 0) by unfold JM.num; rw [hd]; simp [hbig])
      rw [HN.out]
      have hw2 : IntKind.i64.wrap (m : Int) = (m : Int) := IntWalk.i64_in _ (by omega)
      generalize (WM.enc m).length = L at HU
      clear h hd HN hml
      go_enter Tryd.func125, Tryd.ntmps125
      go_wp2_with fail
      refine HU.out.mono ?_
      rintro e w1 ⟨rfl, rfl⟩
      clear HU
      go_wp2
      go_ret3
      exact ⟨rfl, rfl⟩

set_option maxRecDepth 100000 in
set_option maxHeartbeats 2000000 in
/-- A reader that has not failed reads one value more. -/
theorem rdReadI (g : Nat) (v v2 : Value) (xs : List Int) (u : Nat) (w : World) (hb : RdrB w g v (u, 0)) (h : Rd w v xs) (F : FuncId) (X : Int) (N : Nat) (E : Int)
    (hcut : ∀ w0 : World, (Instr.slice 55 v (some (.int .i64 (u : Int))) none none).run Tryd.prog w0 = .ok v2 w0)
    (eF : ∀ args w, (callFunc F args).run Tryd.prog w = .ok (.enter F args) w)
    (hD : ∀ n, Calls Tryd.prog F #[v2] (w.drewN n) fun e w' => e = .returned (.tuple #[.int .i64 X, .int .i64 (N : Int), .int .i64 E]) ∧ ∃ k, w' = w.drewN k)
    (hle : u + N ≤ xs.length) :
    Calls Tryd.prog 124 #[.pointer (some ⟨g, 0, none⟩), .func (.func F) #[] #[]] w fun e w' => e = .returned (.int .i64 X) ∧ RdrB w' g v (u + N, E) ∧ Only g w w' := by
  obtain ⟨ad, cp, rfl, hcp⟩ := h.shape
  obtain ⟨c0, c1, c2, f0, f1, f2⟩ := hb.cells
  have hxl : xs.length ≤ 9223372036854775807 := by
    obtain ⟨_, _, _, _, hn1, hn2, hcm, _⟩ := h
    unfold maxLen at hcm
    omega
  have HB := Lib.hid hb
  have HU := Lib.hid hD
  have hsum := Lib.hid (show (u : Int) + (N : Int) = ((u + N : Nat) : Int) by omega)
  have HF := Lib.hid (fun n => ((show RdrB (w.drewN n) g (.slice ad xs.length cp) (u, 0) from HB.out).used (u + N)).fail E)
  simp only at c1 c2
  have hw1 : (u : Int) + (N : Int) ≤ 9223372036854775807 := by omega
  clear h hb hcp hD
  go_enter Tryd.func124, Tryd.ntmps124
  go_wp2
  go_quiet (first | (go_at_fn F; exact HU.out _))
  go_wp2
  rw [hsum.out]
  go_ret
  exact ⟨rfl, HF.out _, ((Only.drewN g w _).trans (Only.set 1 _)).trans (Only.set 2 _)⟩

set_option maxRecDepth 100000 in
/-- A reader that has failed reads zero. -/
theorem rdStopI (g : Nat) (v : Value) (u : Nat) (er : Int) (w : World) (hb : RdrB w g v (u, er)) (he : er ≠ 0) (f : Value) :
    Calls Tryd.prog 124 #[.pointer (some ⟨g, 0, none⟩), f] w fun e w' => e = .returned (.int .i64 0) ∧ RdrB w' g v (u, er) ∧ Only g w w' := by
  obtain ⟨c0, c1, c2, f0, f1, f2⟩ := hb.cells
  have hne : (er != 0) = true := bne_t he
  have HB := Lib.hid hb
  simp only at c1 c2
  clear he hb
  go_enter Tryd.func124, Tryd.ntmps124
  go_wp2
  go_ret
  exact ⟨rfl, HB.out, Only.refl _ _⟩

set_option maxRecDepth 100000 in
set_option maxHeartbeats 2000000 in
theorem rdNumber (g : Nat) (v : Value) (xs : List Int) (s : St) (w : World) (hb : RdrB w g v s) (h : Rd w v xs) (hu : s.1 ≤ xs.length) :
    Calls Tryd.prog 102 #[.pointer (some ⟨g, 0, none⟩)] w fun e w' => e = .returned (.int .i64 (JM.step xs s).1) ∧ RdrB w' g v (JM.step xs s).2 ∧ Only g w w' := by
  have HC : Hid (Calls Tryd.prog 124 #[.pointer (some ⟨g, 0, none⟩), .func (.func 125) #[] #[]] w fun e w' => e = .returned (.int .i64 (JM.step xs s).1) ∧ RdrB w' g v (JM.step xs s).2 ∧ Only g w w') := by
    refine Lib.hid ?_
    obtain ⟨u, er⟩ := s
    by_cases he : er = 0
    · subst he
      obtain ⟨ad, cp, rfl, hcp⟩ := h.shape
      obtain ⟨v2, hcut, hrd⟩ := h.cutL u hu
      have hHD := fun n => (cNumber v2 _ (w.drewN n) hrd).mono (fun e w' (h : _ ∧ _) => (⟨h.1, n, h.2⟩ : _ ∧ ∃ k, w' = w.drewN k))
      have hxd : (xs.drop u).length = xs.length - u := List.length_drop
      simp only at hu
      rcases JM.num_two (xs.drop u) hrd.bytes with ⟨e1, he1, hd⟩ | ⟨m, hm, hd, hml⟩
      · have HS : JM.step xs (u, 0) = (0, (u, e1)) := by unfold JM.step; rw [if_neg (by simp), hd, if_pos (show ¬ e1 = 0 by omega)]
        rw [HS]
        rw [hd] at hHD
        have := rdReadI g _ v2 xs u w hb h 125 0 0 e1 hcut (fun _ _ => rfl) (fun n => hHD n) (by omega)
        exact this
      · have HS : JM.step xs (u, 0) = ((m : Int), (u + (WM.enc m).length, 0)) := by unfold JM.step; rw [if_neg (by simp), hd, if_neg (by simp)]; rfl
        rw [HS]
        rw [hd] at hHD
        exact rdReadI g _ v2 xs u w hb h 125 m _ 0 hcut (fun _ _ => rfl) (fun n => hHD n) (by omega)
    · rw [JM.step_stop he]
      exact rdStopI g v u er w hb he _
  clear hb h hu
  generalize JM.step xs s = p at HC
  obtain ⟨x, s'⟩ := p
  go_enter Tryd.func102, Tryd.ntmps102
  go_wp2_with fail
  refine HC.out.mono ?_
  rintro e w1 ⟨rfl, hr, ho⟩
  clear HC
  go_wp2
  go_ret
  exact ⟨rfl, hr, ho⟩

/-- What a run of the reader keeps, seen from the world in which the input was laid. -/
theorem seen {g : Nat} {W w w' : World} (hb : Below W.heap.size W w) (hg : W.heap.size ≤ g) (h : Only g w w') : Below W.heap.size W w' := hb.trans (h.below hg hb.size)

end Go.Proofs.YtdfablboenfblaaDoor

namespace Go.Proofs.YtdfablboenfblaaDoor
open Go.RowKit
open JM (Chg St)

section
variable {α : Type} {P : Program} {t e : TypeId} {size bytes : Nat} {enc : α → List Value}
variable {w : World} {ops : Array Oper} {o : Oper} {a : Act} {K : Act → World → Prop} {Q : Exit → Act → World → Prop} {F : Prop} {base : Nat} {v : Value} {ys : List α}
/-- 'append(out, x)' as one step of a region that draws its order. -/
theorem step_appG1 (E : IsElem P t e size bytes enc) (x : α) (hgd : o.guard = none) (s r : Operand) (ho : o.op = .call { callee := .builtin .append, args := #[s, r], argTypes := #[t, t] })
    (hs : a.eval s = v) (hown : OwnG enc e size base w v ys) (hx : a.eval r = .slice (some ⟨w.heap.size, 0, none⟩) 1 1) (hlen : ys.length ≤ 1073741824) (hb : base ≤ w.heap.size)
    (h : ∀ v' w', OwnG enc e size base w' v' (ys ++ [x]) → Below base w w' → KeepsX e w w' → K (a.put o.dst v') w') :
    if Region.wanted o (yielded ops a.tmps) = true then Oper.wp P o a (w.alloc (.cells (enc x).toArray e)) K Q else F := by
  obtain ⟨i0, z, hi, hz0, hz1, hz2, hz3⟩ := E.info
  have hown' := World.ownsRow.alloc hown.1 (.cells (enc x).toArray e)
  refine step_append_lies (w := w.alloc (.cells (enc x).toArray e)) hgd s r t ho base e i0 z size bytes E.ht hi hz0 hz1 hz2 hz3 E.pos _ _ _ hs hown' ⟨w.heap.size, 0, none⟩ 1 1 (enc x) hx (by rw [E.len, Nat.one_mul]) ?_ (E.one x) (by decide) ?_ ?_ ?_ _ rfl ?_
  · intro j u hu
    rw [addr_plain, Nat.zero_add, World.cell?_alloc_new]
    simpa using hu
  · unfold maxLen; omega
  · have := E.fits
    calc (ys.length + 1) * bytes ≤ (1073741824 + 1) * 4096 := Nat.mul_le_mul (by omega) this
      _ ≤ 140737488355328 := by decide
  · simp; omega
  · intro g cap w1 ho1 hg1 _ _
    have hk0 : KeepsX e w (w.alloc (.cells (enc x).toArray e)) := Below.keepsX (below_fresh w _) e
    refine h _ w1 ⟨?_, hown.2⟩ (((Below.refl _ _).alloc hb _).grown hg1 (by simp; omega) (fun k hk => (World.ownsRow.lt hown.1 k hk).1)) (hk0.trans (by simp) (keepsX_grown hown' hg1))
    rw [cellsOf_append, List.length_append]
    simpa [cellsOf] using ho1
end

theorem RdrB.keep {w w' : World} {e : TypeId} {g : Nat} {v : Value} {s : St} (h : RdrB w g v s) (he : 121 ≠ e) (hk : KeepsX e w w') : RdrB w' g v s := hk.at h he
theorem RdrB.only {w w' : World} {B g : Nat} {v : Value} {s : St} (h : RdrB w g v s) (ho : Only B w w') (hne : g ≠ B) : RdrB w' g v s := ho.at h hne
theorem results_cell_tmp_tmp {P : Program} {fn : Func} {p u q : Tmp} {ty : TypeId} (h : fn.results = #[.cell p ty, .tmp u, .tmp q]) (tmps : Array Value) (w : World) (g : Nat) (t : TypeId) (cs : Array Value) (fr : Nat × Nat) (d : TypeDesc)
    (hp : tmps.getD p undef = .pointer (some ⟨g, 0, none⟩)) (hg : w.heap[g]? = some (.cells cs t fr))
    (hu : P.underlying ty = some d) (hd : (match d with | .struct _ | .array _ _ => true | _ => false) = true) (hi : (P.info? ty).map (·.size) = some cs.size) :
    (results fn tmps).run P w = .ok (.tuple #[.agg cs, tmps.getD u undef, tmps.getD q undef]) w := by
  have hp' : tmps[p]?.getD undef = .pointer (some ⟨g, 0, none⟩) := by simpa using hp
  simp [results, h, hp', asAddr, run_loadVar_row w g t ty cs fr d hg hu hd hi, Result.andThen]

end Go.Proofs.YtdfablboenfblaaDoor

namespace Go.Proofs.YtdfablboenfblaaDoor
open Go.RowKit
open JM (Chg St)

theorem errE : IsElem Tryd.prog 146 26 1 8 encI where
  ht := Tryd.underlying146
  info := by
    obtain ⟨i0, hi, hz0, hz1, hz2⟩ := info_parts (show (Tryd.prog.info? 26).map (fun i => (i.zero, i.size, i.bytes)) = some (some (.int .i64 0), 1, 8) by kernel_rfl)
    exact ⟨i0, _, hi, hz0, hz1, hz2, rfl⟩
  len := fun _ => rfl
  one := by intro x u hu; simp [encI] at hu; subst hu; rfl
  pos := by decide
  fits := by decide
theorem atEr {w : World} {a : Option Addr} {n c : Nat} {xs : List Int} (h : RdI w (.slice a n c) xs) (k : Nat) (x : Int) (hk : xs[k]? = some x) :
    ∃ b o, (∀ w0, (Instr.indexAt 146 (.slice a n c) (.int .i64 (k : Int))).run Tryd.prog w0 = .ok (.pointer (some ⟨b, o, none⟩)) w0) ∧ b < w.heap.size ∧ w.cell? ⟨b, o, none⟩ = some (.int .i64 x) := by
  obtain ⟨b, o, h1, h2, h3⟩ := h.at_ errE k x hk
  exact ⟨b, o, h1, h2, h3 0 _ rfl⟩

def orL : List Int → Int
  | [] => 0
  | x :: l => if x = 0 then orL l else x

set_option maxRecDepth 100000 in
set_option maxHeartbeats 1000000 in
theorem cOrE (v : Value) (xs : List Int) (w : World) (h : RdI w v xs) : Calls Tryd.prog 105 #[v] w fun e w' => e = .returned (.int .i64 (orL xs)) ∧ w = w' := by
  obtain ⟨ad, c, rfl, hc, hl⟩ := h.shape
  have H := Lib.hid h
  clear h
  obtain ⟨R, hR⟩ : ∃ R, R = orL xs := ⟨_, rfl⟩
  rw [← hR]
  have HR := Lib.hid (show R = orL (xs.drop 0) from hR)
  clear hR
  go_enter Tryd.func105, Tryd.ntmps105
  go_wp2
  go_loop [8] (fun i => ∃ k : Nat, k ≤ xs.length ∧ i = .int .i64 k ∧ Hid (R = orL (xs.drop k))) (fun i => xs.length - (intOf i).toNat)
  case atStart => exact ⟨0, Nat.zero_le _, rfl, HR⟩
  case round =>
    obtain ⟨k, hk, rfl, he⟩ := hrel
    clear HR
    by_cases hlt : k < xs.length
    · obtain ⟨b, o, hi, hb, c0⟩ := atEr H.out k xs[k] (List.getElem?_eq_getElem hlt)
      have hq : (k : Int) < (xs.length : Int) := by omega
      have hdx := Lib.hid (drop_get hlt)
      generalize xs[k] = x at c0 hdx
      by_cases h0 : x = 0
      · have e2 := Lib.hid (show R = orL (xs.drop (k + 1)) by rw [he.out, hdx.out, orL, if_pos h0])
        subst h0
        clear he hdx
        go_wp2
        go_round
        case rel => exact ⟨k + 1, by omega, by go_num, e2⟩
        case measure => simp [intOf]; omega
      · have e2 := Lib.hid (show R = x by rw [he.out, hdx.out, orL, if_neg h0])
        have hne : (x != 0) = true := bne_t h0
        clear he hdx h0
        go_wp2
        go_ret
        rw [e2.out]
        exact ⟨rfl, rfl⟩
    · have hq : ¬ ((k : Int) < (xs.length : Int)) := by omega
      have e2 := Lib.hid (show R = 0 by rw [he.out, List.drop_of_length_le (by omega)]; rfl)
      clear he
      go_wp2
      go_ret
      rw [e2.out]
      exact ⟨rfl, rfl⟩

theorem rd2e (w : World) (x y : Int) : RdI (w.alloc (.cells #[.int .i64 x, .int .i64 y] 26)) (.slice (some ⟨w.heap.size, 0, none⟩) 2 2) [x, y] := (ownG_fresh hlI 26 w [x, y] (by unfold maxLen; simp)).rd

/-- What Decode makes of what has been read. -/
def fin (a n : Int) (p : List Chg × St) : Int × Nat × Int × Int × List Chg :=
  if p.2.2 ≠ 0 then JM.bad p.2.2 else if JM.errP a n p.1 ≠ 0 then JM.bad (JM.errP a n p.1) else (0, p.2.1, a, n, p.1)
end Go.Proofs.YtdfablboenfblaaDoor

namespace Go.Proofs.YtdfablboenfblaaDoor
open Go.RowKit
open JM (Chg St)

set_option maxRecDepth 100000 in
set_option maxHeartbeats 2000000 in
theorem rNumber (v : Value) (xs : List Int) (w : World) (h : Rd w v xs) :
    Calls Tryd.prog 96 #[v] w fun e w' => e = .returned (.tuple #[.int .i64 (JM.num xs).1, .int .i64 (JM.num xs).2.1, .int .i64 (JM.num xs).2.2]) ∧ w = w' := by
  have hby := h.bytes
  have hu := rUint v xs w h
  rcases WM.dec_two xs hby with ⟨e1, he1, hd⟩ | ⟨m, hm, hd, hml, _⟩
  · have hn : JM.num xs = (0, 0, e1) := by unfold JM.num; rw [hd]; simp only [ne_eq]; rw [if_pos (show ¬ e1 = 0 by omega)]
    rw [hn]
    rw [hd] at hu
    have HU := Lib.hid hu
    have hne : (e1 != 0) = true := bne_t (by omega)
    clear hu hn hd he1 h hby
    go_enter Tryd.func96, Tryd.ntmps96
    go_wp2_with fail
    refine HU.out.mono ?_
    rintro e w1 ⟨rfl, rfl⟩
    go_wp2
    go_ret3
    exact ⟨rfl, rfl⟩
  · rw [hd] at hu
    by_cases hbig : 2147483647 < (m : Int)
    · have hn : JM.num xs = (0, 0, 9) := by unfold JM.num; rw [hd]; simp [hbig]
      rw [hn]
      have HU := Lib.hid hu
      clear hu hn hd h hby hml hm
      go_enter Tryd.func96, Tryd.ntmps96
      go_wp2_with fail
      refine HU.out.mono ?_
      rintro e w1 ⟨rfl, rfl⟩
      go_wp2
      go_ret3
      exact ⟨rfl, rfl⟩
    · have hn : JM.num xs = ((m : Int), ((WM.enc m).length : Int), 0) := by unfold JM.num; rw [hd]; simp [hbig]
      rw [hn]
      have HU := Lib.hid hu
      have hm31 : (m : Int) ≤ 2147483647 := by omega
      have hbig : decide (2147483647 < (m : Int)) = false := decide_eq_false hbig
      have hw2 : IntKind.i64.wrap (m : Int) = (m : Int) := IntWalk.i64_in _ (by omega)
      clear hu hn hd h hby hml hm
      generalize (WM.enc m).length = L at HU
      go_enter Tryd.func96, Tryd.ntmps96
      go_wp2_with fail
      refine HU.out.mono ?_
      rintro e w1 ⟨rfl, rfl⟩
      go_wp2
      go_ret3
      exact ⟨rfl, rfl⟩

/-- One step of the reader, read as a number of what is left. -/
theorem step_num {xs : List Int} {u : Nat} : JM.step xs (u, 0) = if (JM.num (xs.drop u)).2.2 ≠ 0 then (0, (u, (JM.num (xs.drop u)).2.2)) else ((JM.num (xs.drop u)).1, (u + (JM.num (xs.drop u)).2.1.toNat, 0)) := if_neg (fun h => h rfl)

set_option maxRecDepth 100000 in
set_option maxHeartbeats 2000000 in
theorem rRead (v : Value) (xs : List Int) (n : Nat) (w : World) (h : Rd w v xs) (hn : n ≤ 1000) :
    Calls Tryd.prog 119 #[v, .int .i64 (n : Int)] w fun e w' =>
      ((JM.many xs (0, 0) n).2.2 ≠ 0 ∧ e = .returned (.tuple #[.slice none 0 0, .int .i64 0, .int .i64 (JM.many xs (0, 0) n).2.2]) ∧ Below w.heap.size w w') ∨
      ((JM.many xs (0, 0) n).2.2 = 0 ∧ ∃ v', e = .returned (.tuple #[v', .int .i64 ((JM.many xs (0, 0) n).2.1 : Int), .int .i64 0]) ∧ OwnI w.heap.size w' v' (JM.many xs (0, 0) n).1 ∧ Below w.heap.size w w') := by
  have hby := h.bytes
  obtain ⟨ad, cp, rfl, hcp⟩ := h.shape
  have hxl : xs.length ≤ 9223372036854775807 := by
    obtain ⟨_, _, _, _, hn1, hn2, hcm, _⟩ := h
    unfold maxLen at hcm
    omega
  have HV := Lib.hid h
  have HBY := Lib.hid hby
  have HN := Lib.hid hn
  clear h hby hn
  go_enter Tryd.func119, Tryd.ntmps119
  go_wp2
  go_loopw [7, 8, 9] (fun u at_ i wr => ∃ (k at1 : Nat), k ≤ n ∧ i = .int .i64 k ∧ at_ = .int .i64 (at1 : Int) ∧ Hid ((JM.many xs (0, 0) k).2 = (at1, 0)) ∧ Hid (OwnI w.heap.size wr u (JM.many xs (0, 0) k).1) ∧ Hid (Below w.heap.size w wr)) (fun _ _ i _ => n - (intOf i).toNat)
  case atStart => exact ⟨0, 0, Nat.zero_le _, rfl, rfl, rfl, OwnG.nil hlI _ _ _, Below.refl _ _⟩
  case round =>
    obtain ⟨k, at1, hk, rfl, rfl, hst, ho, hbl⟩ := hrel
    by_cases hlt : k < n
    · have hq : (k : Int) < (n : Int) := by omega
      have hul : at1 ≤ xs.length := by
        have := (JM.many_small xs (0, 0) HBY.out (Nat.zero_le _) k).2
        rw [hst.out] at this; exact this
      have hrd := HV.out.below hbl.out
      obtain ⟨v2, hcut, hrd2⟩ := hrd.cutL at1 hul
      have hnum := rNumber v2 _ wr hrd2
      have hstep : JM.many xs (0, 0) (k + 1) = ((JM.many xs (0, 0) k).1 ++ [(JM.step xs (at1, 0)).1], (JM.step xs (at1, 0)).2) := by
        show (_, _) = (_, _); rw [hst.out]
      rw [step_num] at hstep
      rcases JM.num_two (xs.drop at1) hrd2.bytes with ⟨e1, he1, hd⟩ | ⟨m, hm, hd, hml⟩
      · rw [hd] at hnum hstep
        have hs2 : (JM.many xs (0, 0) (k + 1)).2 = (at1, e1) := by rw [hstep]; simp only [ne_eq]; rw [if_pos (show ¬ e1 = 0 by omega)]
        have hfin : (JM.many xs (0, 0) n).2 = (at1, e1) := by rw [JM.many_err_le (by omega : k + 1 ≤ n) (by rw [hs2]; simp; omega), hs2]
        have HNUM := Lib.hid hnum
        have HFIN := Lib.hid hfin
        have hne : (e1 != 0) = true := bne_t (by omega)
        have HE := Lib.hid (show e1 ≠ 0 by omega)
        clear hstep hs2 hfin hd he1 hnum hrd hrd2 hst ho
        go_wp2_with fail
        refine HNUM.out.mono ?_
        rintro e w2 ⟨rfl, rfl⟩
        clear HNUM
        go_wp2
        go_ret3
        rw [HFIN.out]
        exact .inl ⟨HE.out, rfl, hbl.out⟩
      · rw [hd] at hnum hstep
        have hs1 : (JM.many xs (0, 0) (k + 1)).1 = (JM.many xs (0, 0) k).1 ++ [(m : Int)] := by rw [hstep]; simp
        have hs2 : (JM.many xs (0, 0) (k + 1)).2 = (at1 + (WM.enc m).length, 0) := by rw [hstep]; simp
        have hlk := JM.many_length xs (0, 0) k
        rw [List.length_drop] at hml
        have hel := WM.enc_len10 m (by omega)
        have hw1 : (at1 : Int) + ((WM.enc m).length : Int) ≤ 9223372036854775807 := by omega
        have HSUM := Lib.hid (show (at1 : Int) + ((WM.enc m).length : Int) = ((at1 + (WM.enc m).length : Nat) : Int) by omega)
        have HNUM := Lib.hid hnum
        have HS1 := Lib.hid hs1
        have HS2 := Lib.hid hs2
        have HLK := Lib.hid (show (JM.many xs (0, 0) k).1.length ≤ 1073741824 by rw [hlk]; have := HN.out; omega)
        have hsz := hbl.out.size
        have hm31 : (m : Int) ≤ 2147483647 := by omega
        clear hstep hs1 hs2 hlk hd hnum hrd hrd2 hst hml hel hm hul
        generalize (WM.enc m).length = L at HNUM hw1 HSUM HS2
        have hn1000 : n ≤ 1000 := HN.out
        go_wp2_with (first
          | (go_at_call 96; refine HNUM.out.mono ?_; rintro e w2 ⟨rfl, rfl⟩)
          | (at_builtin; refine wp_appG1 intE (m : Int) rfl _ _ rfl rfl ho.out rfl HLK.out hsz ?_; intro v5 w5 ho5 hb5 _ _))
        have HO5 := Lib.hid (show OwnI w.heap.size w5 v5 (JM.many xs (0, 0) (k + 1)).1 by rw [HS1.out]; exact ho5)
        have HB5 := Lib.hid (hbl.out.trans hb5)
        clear ho5 hb5 ho hbl HNUM HS1 HLK hsz
        rw [HSUM.out]
        go_roundw
        case rel => exact ⟨k + 1, at1 + L, by omega, by go_num, rfl, HS2, HO5, HB5⟩
        case measure => simp [intOf]; omega
    · have hq : ¬ (k : Int) < (n : Int) := by omega
      obtain rfl : k = n := by omega
      go_wp2
      go_ret3
      rw [hst.out]
      exact .inr ⟨rfl, _, rfl, ho.out, hbl.out⟩

/-- A list of the call's own stays where another type's blocks grow or are written. -/
theorem ownG_keep {α : Type} {enc : α → List Value} {e e' : TypeId} {size base : Nat} {w w' : World} {v : Value} {ys : List α} (h : OwnG enc e size base w v ys) (hk : KeepsX e' w w') (he : e ≠ e') : OwnG enc e size base w' v ys := by
  refine ⟨⟨h.1.1, ?_⟩, h.2⟩
  rcases h.1.2 with h6 | ⟨gg, cap, cur, hv, hgg, hh, r⟩
  · exact .inl h6
  · exact .inr ⟨gg, cap, cur, hv, hgg, hk.at hh he, r⟩
theorem ownG_only {α : Type} {enc : α → List Value} {e t : TypeId} {size base : Nat} {w w' : World} {v : Value} {ys : List α} {B : Nat} {cur : Array Value} {fr : Nat × Nat} (h : OwnG enc e size base w v ys) (hB : w.heap[B]? = some (.cells cur t fr)) (ht : t ≠ e) (ho : Only B w w') : OwnG enc e size base w' v ys := by
  refine ⟨⟨h.1.1, ?_⟩, h.2⟩
  rcases h.1.2 with h6 | ⟨gg, cap, cur', hv, hgg, hh, r⟩
  · exact .inl h6
  · exact .inr ⟨gg, cap, cur', hv, hgg, ho.at hh (by rintro rfl; rw [hB] at hh; injection hh with hh; injection hh with _ ht'; exact ht ht'), r⟩

end Go.Proofs.YtdfablboenfblaaDoor
