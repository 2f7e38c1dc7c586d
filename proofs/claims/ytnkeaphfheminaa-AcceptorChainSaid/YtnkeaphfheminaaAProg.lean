/-
  The calls of package acceptor: Accept, AcceptAll; the structure of their contracts. Conditions: what comes in reads; valid vectors.
-/
import Derived.Deep.RegionHeld3
import Derived.Laws.Rows
import Derived.Test.YtnkeaphfheminaaACon
import Derived.Test.YtnkeaphfheminaaAJoin
import Derived.Test.YtnkeaphfheminaaReg
namespace Go.Proofs.Ytnkeaphfheminaa
open Go.RowKit
open VM (Ent)

/-- All blocks that were there but g are as they were. -/
structure Only (g : Nat) (w w' : World) : Prop where
  os : w'.os = w.os
  tape : w'.tape = w.tape
  output : w'.output = w.output
  size : w.heap.size ≤ w'.heap.size
  block : ∀ k, k < w.heap.size → k ≠ g → w'.heap[k]? = w.heap[k]?
theorem Only.set {g : Nat} {w : World} (off : Nat) (u : Value) : Only g w (w.setCell ⟨g, off, none⟩ u) := by
  have hb := (Below.refl 0 w).setCell (p := ⟨g, off, none⟩) (Nat.zero_le _) u
  exact ⟨hb.os, hb.tape, hb.output, hb.size, fun k _ hk => heap_setCell_other _ _ _ _ hk⟩
theorem Only.below {g B : Nat} {w w' : World} (h : Only g w w') (hB : B ≤ g) (hB2 : B ≤ w.heap.size) : Below B w w' :=
  ⟨h.os, h.tape, h.output, h.size, fun k hk => h.block k (by omega) (by omega)⟩
theorem Only.at {g : Nat} {w w' : World} (h : Only g w w') {k : Nat} {o : Obj} (hk : w.heap[k]? = some o) (hne : k ≠ g) : w'.heap[k]? = some o := by
  rw [h.block k (Array.getElem?_eq_some_iff.1 hk).1 hne, hk]
theorem seen {g : Nat} {W w w' : World} (hb : Below W.heap.size W w) (hg : W.heap.size ≤ g) (h : Only g w w') : Below W.heap.size W w' := hb.trans (h.below hg hb.size)
theorem AcB.only {w w' : World} {k g : Nat} {a : Value} (h : AcB w g a) (ho : Only k w w') (hne : g ≠ k) : AcB w' g a := ho.at h hne
theorem AcB.put {w : World} {g : Nat} {a : Value} (h : AcB w g a) (a' : Value) : AcB (w.setCell ⟨g, 0, none⟩ a') g a' := heap_setCell_same w g 0 _ _ _ h
theorem AcB.frozen {w : World} {g : Nat} {a : Value} (h : AcB w g a) : w.frozen? ⟨g, 0, none⟩ = false := by unfold AcB at h; simp [World.frozen?, h]
theorem AcB.keepX {w w' : World} {e : TypeId} {g : Nat} {a : Value} (h : AcB w g a) (he : 25 ≠ e) (hk : KeepsX e w w') : AcB w' g a := by
  unfold AcB at h ⊢
  rw [hk g (Array.getElem?_eq_some_iff.1 h).1 (by intro cur' fr' e'; rw [h] at e'; injection e' with e'; injection e' with _ ht; exact he ht), h]
theorem ownV_only {base : Nat} {w w' : World} {v : Value} {ys : List Ent} {B : Nat} {a : Value} (h : VX.OwnV base w v ys) (hB : AcB w B a) (ho : Only B w w') : VX.OwnV base w' v ys := by
  refine ⟨h.1, ?_⟩
  rcases h.2 with h6 | ⟨gg, cap, cur', hv, hgg, hh, r⟩
  · exact .inl h6
  · exact .inr ⟨gg, cap, cur', hv, hgg, ho.at hh (by rintro rfl; unfold AcB at hB; rw [hB] at hh; injection hh with hh; injection hh with _ ht'; exact absurd ht' (by decide)), r⟩
theorem ownB_only {base : Nat} {w w' : World} {v : Value} {ys : List Bool} {B : Nat} {a : Value} (h : OwnG encBo 4 1 base w v ys) (hB : AcB w B a) (ho : Only B w w') : OwnG encBo 4 1 base w' v ys := by
  refine ⟨⟨h.1.1, ?_⟩, h.2⟩
  rcases h.1.2 with h6 | ⟨gg, cap, cur', hv, hgg, hh, r⟩
  · exact .inl h6
  · exact .inr ⟨gg, cap, cur', hv, hgg, ho.at hh (by rintro rfl; unfold AcB at hB; rw [hB] at hh; injection hh with hh; injection hh with _ ht'; exact absurd ht' (by decide)), r⟩
theorem results_cell_tmp_row {P : Program} {fn : Func} {p u : Tmp} {ty : TypeId} (h : fn.results = #[.cell p ty, .tmp u]) (tmps : Array Value) (w : World) (g : Nat) (t : TypeId) (cs : Array Value) (fr : Nat × Nat) (d : TypeDesc)
    (hp : tmps.getD p undef = .pointer (some ⟨g, 0, none⟩)) (hg : w.heap[g]? = some (.cells cs t fr))
    (hu : P.underlying ty = some d) (hd : (match d with | .struct _ | .array _ _ => true | _ => false) = true) (hi : (P.info? ty).map (·.size) = some cs.size) :
    (results fn tmps).run P w = .ok (.tuple #[.agg cs, tmps.getD u undef]) w := by
  have hp' : tmps[p]?.getD undef = .pointer (some ⟨g, 0, none⟩) := by simpa using hp
  simp [results, h, hp', asAddr, run_loadVar_row w g t ty cs fr d hg hu hd hi, Result.andThen]
theorem accRet {fn : Func} {p u : Tmp} {R : Ending → World → Prop} {a : Act} {w : World} {g : Nat} {x y : Value} (h : fn.results = #[.cell p 25, .tmp u]) (hp : a.tmps.getD p undef = .pointer (some ⟨g, 0, none⟩))
    (h3 : a.tmps.getD u undef = y) (hg : AcB w g x) (hd : a.defers = []) (hR : R (.returned (.tuple #[acv x, y])) w) : bodyPost Try.prog fn R .ret a w := by
  have := results_cell_tmp_row (P := Try.prog) (fn := fn) h a.tmps w g 25 _ _ _ hp hg Try.underlying25 rfl (by kernel_rfl)
  rw [h3] at this
  exact bodyPost_ret this hd hR

set_option maxRecDepth 100000 in
set_option maxHeartbeats 4000000 in
theorem aAccept (a b : Value) (xs ys : List Ent) (w : World) (ha : VX.RdV w a xs) (hb : VX.RdV w b ys) (hx : VM.Val 0 xs) (hy : VM.Val 0 ys) (hl : xs.length + ys.length ≤ 1000000) :
    Calls Try.prog 9 #[acv a, b] w fun e w' => ∃ v, e = .returned (.tuple #[acv v, .bool (VM.le xs ys)]) ∧ VX.OwnV w.heap.size w' v (VM.jn xs ys) ∧ Below w.heap.size w w' := by
  obtain ⟨aa, ac, rfl, _, _⟩ := ha.shape
  obtain ⟨ba, bc, rfl, _, _⟩ := hb.shape
  obtain ⟨w0, hw0, hA, hb0⟩ := oneA w (.slice aa xs.length ac)
  have hs0 : w0.heap.size = w.heap.size + 1 := by rw [← hw0, World.size_alloc]
  obtain ⟨w1, hw1, hZ, hb1⟩ := oneA w0 (.slice none 0 0)
  rw [hs0] at hZ
  have hb2 := bnext hb0 hb1
  have H1 := Lib.hid (fun w' (h : Below w1.heap.size w1 w') => VX.wJoin _ _ xs ys w' ((ha.below hb2).below h) ((hb.below hb2).below h) hl)
  have H2 := Lib.hid (fun w' (h : Below w1.heap.size w1 w') => VX.wLessEqual _ _ xs ys w' ((ha.below hb2).below h) ((hb.below hb2).below h) hx hy)
  rw [← hw0] at hw1
  have HW := Lib.hid hw1
  have HA := Lib.hid (hA.below hb1)
  have HZ := Lib.hid hZ
  have HB := Lib.hid hb2
  have c0 := HA.out.cell
  clear hw0 hA hb0 hs0 hw1 hZ hb1 hb2 hl ha hb hx hy
  generalize VM.le xs ys = L at H2 ⊢
  generalize VM.jn xs ys = J at H1 ⊢
  go_enter Try.func9, Try.ntmps9
  go_upto_region 1 with fail
  rw [HW.out]
  refine wp_region_held_drew (S := fun w' => w'.cell? ⟨w.heap.size, 0, none⟩ = some (.slice aa xs.length ac)) (by kernel_rfl) (below_cell (Below.refl _ _).drew c0) (fun _ => ?_)
  have ha : Below w1.heap.size w1 w1.drew := (Below.refl _ _).drew
  generalize w1.drew = wa at ha ⊢
  have hS0 := below_cell ha c0
  refine takeH (i := 0) (v := ?_) rfl (by kernel_rfl) (by kernel_rfl) (by kernel_rfl) (fun _ _ _ h => h) (Or.inl ⟨by rfl, ?_⟩) (by assumption) ?_
  rotate_left
  · (intro w hSw; (try dsimp only at hSw); go_simp; first | done | with_reducible rfl)
  (try simp only [Act.put, List.setIfInBounds_toArray, List.set_cons_zero, List.set_cons_succ])
  refine takeH (i := 2) (v := ?_) rfl (by kernel_rfl) (by kernel_rfl) (by kernel_rfl) (fun _ _ _ h => h) (Or.inl ⟨by rfl, ?_⟩) (by assumption) ?_
  rotate_left
  · (intro w hSw; (try dsimp only at hSw); go_simp; first | done | with_reducible rfl)
  (try simp only [Act.put, List.setIfInBounds_toArray, List.set_cons_zero, List.set_cons_succ])
  refine takeH (i := 5) (v := ?_) rfl (by kernel_rfl) (by kernel_rfl) (by kernel_rfl) (fun _ _ _ h => h) (Or.inl ⟨by rfl, ?_⟩) (by assumption) ?_
  rotate_left
  · (intro w hSw; (try dsimp only at hSw); go_simp; first | done | with_reducible rfl)
  (try simp only [Act.put, List.setIfInBounds_toArray, List.set_cons_zero, List.set_cons_succ])
  refine takeH (i := 7) (v := ?_) rfl (by kernel_rfl) (by kernel_rfl) (by kernel_rfl) (fun _ _ _ h => h) (Or.inl ⟨by rfl, ?_⟩) (by assumption) ?_
  rotate_left
  · (intro w hSw; (try dsimp only at hSw); go_simp; first | done | with_reducible rfl)
  (try simp only [Act.put, List.setIfInBounds_toArray, List.set_cons_zero, List.set_cons_succ])
  refine takeH (i := 1) (v := ?_) rfl (by kernel_rfl) (by kernel_rfl) (by kernel_rfl) (fun _ _ _ h => h) (Or.inl ⟨by rfl, ?_⟩) (by assumption) ?_
  rotate_left
  · (intro w hSw; (try dsimp only at hSw); have hcx := hSw; go_simp; first | done | with_reducible rfl)
  (try simp only [Act.put, List.setIfInBounds_toArray, List.set_cons_zero, List.set_cons_succ])
  refine takeH (i := 6) (v := ?_) rfl (by kernel_rfl) (by kernel_rfl) (by kernel_rfl) (fun _ _ _ h => h) (Or.inl ⟨by rfl, ?_⟩) (by assumption) ?_
  rotate_left
  · (intro w hSw; (try dsimp only at hSw); have hcx := hSw; go_simp; first | done | with_reducible rfl)
  (try simp only [Act.put, List.setIfInBounds_toArray, List.set_cons_zero, List.set_cons_succ])
  refine wpAnyH_ready (rs := [3]) (by kernel_rfl) (by simp) ?_
  refine stepH rfl (fun K hK => ?_) AllReadyH.nil
  go_simp
  refine (H1.out wa ha).mono ?_
  rintro e wb ⟨vj, rfl, hr1, hq⟩
  obtain ⟨ja, jc, rfl, _, _⟩ := hr1.rd.shape
  have hb := bnext ha hq
  have hS1 := below_cell hb c0
  go_wp2_with fail
  refine hK.out _ _ (hS1) (fun _ => ?_)
  clear hK K
  (try simp only [Act.put, List.setIfInBounds_toArray, List.set_cons_zero, List.set_cons_succ])
  refine takeH (i := 4) (v := ?_) rfl (by kernel_rfl) (by kernel_rfl) (by kernel_rfl) (fun _ _ _ h => h) (Or.inl ⟨by rfl, ?_⟩) (by assumption) ?_
  rotate_left
  · (intro w hSw; (try dsimp only at hSw); go_simp; first | done | with_reducible rfl)
  (try simp only [Act.put, List.setIfInBounds_toArray, List.set_cons_zero, List.set_cons_succ])
  refine wpAnyH_ready (rs := [8]) (by kernel_rfl) (by simp) ?_
  refine stepH rfl (fun K hK => ?_) AllReadyH.nil
  go_simp
  refine (H2.out wb hb).mono ?_
  rintro e wc ⟨rfl, hq2⟩
  have hc := bnext hb hq2
  have hS2 := below_cell hc c0
  go_wp2_with fail
  refine hK.out _ _ (hS2) (fun _ => ?_)
  clear hK K
  (try simp only [Act.put, List.setIfInBounds_toArray, List.set_cons_zero, List.set_cons_succ])
  have HR1 := Lib.hid ((hr1.mono (Nat.le_trans HB.out.size ha.size)).below hq2)
  have HZ4 := Lib.hid (HZ.out.below hc)
  have HA4 := Lib.hid (HA.out.below hc)
  have HB4 := Lib.hid (bnext HB.out hc)
  have o0 := HZ4.out.cell
  have g0 := HZ4.out.frozen
  have hS3 := (HA4.out.only (Only.set (g := w.heap.size + 1) 0 (.slice ja J.length jc)) (by omega)).cell
  clear hr1 ha hb hc hq hq2 H1 H2 HZ HA HB c0 HW
  refine wpAnyH_ready (rs := [9]) (by kernel_rfl) (by simp) ?_
  refine stepH rfl (fun K hK => ?_) AllReadyH.nil
  go_simp
  skip
  refine hK.out _ _ (hS3) (fun _ => ?_)
  clear hK K
  (try simp only [Act.put, List.setIfInBounds_toArray, List.set_cons_zero, List.set_cons_succ])
  refine takeH (i := 10) (v := ?_) rfl (by kernel_rfl) (by kernel_rfl) (by kernel_rfl) (fun _ _ _ h => h) (Or.inl ⟨by rfl, ?_⟩) (by assumption) ?_
  rotate_left
  · (intro w hSw; (try dsimp only at hSw); go_simp; first | done | with_reducible rfl)
  (try simp only [Act.put, List.setIfInBounds_toArray, List.set_cons_zero, List.set_cons_succ])
  refine wpAnyH_done (by kernel_rfl) ?_ _
  go_wp2
  refine accRet rfl rfl rfl (HZ4.out.put _) rfl ⟨_, rfl, ownV_only HR1.out HZ4.out (Only.set 0 _), seen HB4.out (by omega) (Only.set 0 _)⟩

theorem ownG_keepX {α : Type} {enc : α → List Value} {e e' : TypeId} {size base : Nat} {w w' : World} {v : Value} {xs : List α} (h : OwnG enc e' size base w v xs) (he : e ≠ e') (hk : KeepsX e w w') : OwnG enc e' size base w' v xs := by
  refine ⟨⟨h.1.1, ?_⟩, h.2⟩
  rcases h.1.2 with h6 | ⟨gg, cap, cur, hv, hgg, hh, r⟩
  · exact .inl h6
  · refine .inr ⟨gg, cap, cur, hv, hgg, ?_, r⟩
    rw [hk gg (Array.getElem?_eq_some_iff.1 hh).1 (by intro cur' fr' e'; rw [hh] at e'; injection e' with e'; injection e' with _ ht; exact he ht.symm)]
    exact hh
/-- A list of vectors of the call's own; each vector is the call's own or was laid before it. -/
def OwnVy (W w : World) (v : Value) (ls : List (List Ent)) : Prop := ∃ ps : List (SV × List Ent), OwnG encV 23 1 W.heap.size w v ps ∧ (∀ p ∈ ps, VX.RdV W (svV p.1) p.2 ∨ VX.OwnV W.heap.size w (svV p.1) p.2) ∧ ps.map (·.2) = ls
section
variable {W w w' : World} {v : Value} {ls : List (List Ent)}
theorem OwnVy.rd (h : OwnVy W w v ls) (hb : Below W.heap.size W w) : RdVs w v ls := by
  obtain ⟨ps, h1, h2, h3⟩ := h
  exact ⟨ps, h1.rd, fun p hp => (h2 p hp).elim (fun h => h.below hb) (fun h => h.rd), h3⟩
theorem OwnVy.below (h : OwnVy W w v ls) (hb : Below w.heap.size w w') : OwnVy W w' v ls := by
  obtain ⟨ps, h1, h2, h3⟩ := h
  exact ⟨ps, h1.below hb, fun p hp => (h2 p hp).imp id (fun h => h.below hb), h3⟩
theorem OwnVy.keepX {e : TypeId} (h : OwnVy W w v ls) (he : e ≠ 23) (he2 : e ≠ 41) (hk : KeepsX e w w') : OwnVy W w' v ls := by
  obtain ⟨ps, h1, h2, h3⟩ := h
  exact ⟨ps, ownG_keepX h1 he hk, fun p hp => (h2 p hp).imp id (fun h => ownV_keepX h he2 hk), h3⟩
theorem OwnVy.snoc {w2 : World} {ps : List (SV × List Ent)} {s : SV} {x : List Ent} {v2 : Value} (h2 : ∀ p ∈ ps, VX.RdV W (svV p.1) p.2 ∨ VX.OwnV W.heap.size w (svV p.1) p.2) (h3 : ps.map (·.2) = ls) (ho : OwnG encV 23 1 W.heap.size w2 v2 (ps ++ [(s, x)])) (hk : KeepsX 23 w w2) (hp : VX.RdV W (svV s) x ∨ VX.OwnV W.heap.size w2 (svV s) x) : OwnVy W w2 v2 (ls ++ [x]) :=
  ⟨ps ++ [(s, x)], ho, fun q hq => (List.mem_append.1 hq).elim (fun h => (h2 q h).imp id (fun h => ownV_keepX h (by decide) hk)) (fun h => by rw [List.mem_singleton] at h; subst h; exact hp), by rw [List.map_append, h3]; rfl⟩
/-- 'v[:0]' of the call's own list. -/
theorem cutZ {base : Nat} {a : Option Addr} {n c : Nat} {ps : List (SV × List Ent)} (h : OwnG encV 23 1 base w (.slice a n c) ps) :
    (∀ w0 : World, (Instr.slice 27 (.slice a n c) none (some (.int .i64 0)) none).run Try.prog w0 = .ok (.slice a 0 c) w0) ∧ OwnG encV 23 1 base w (.slice a 0 c) [] := by
  refine ⟨fun w0 => ?_, ⟨rfl, ?_⟩, h.2⟩
  · have hz := vecE.run_size
    have e3 : (0 : Int) ≤ (c : Int) := by omega
    cases a <;> simp [Instr.slice, run_underlying Try.underlying27, Instr.sliceBounds, run_sliceBound, e3, hz, Result.andThen, Addr.add]
  · rcases h.1.2 with ⟨hv, _⟩ | ⟨g, cap, cur, hv, hg, hh, hn, hm, hs, _⟩
    · cases hv; exact .inl ⟨rfl, rfl⟩
    · cases hv; exact .inr ⟨g, c, cur, rfl, hg, hh, Nat.zero_le _, hm, hs, by simp [cellsOf]⟩
end
/-- Reports so far, the rest false. -/
def pad (M : List Bool) (n : Nat) : List Bool := M ++ List.replicate (n - M.length) false
theorem pad_get {M : List Bool} {n : Nat} (h : M.length < n) : (pad M n)[M.length]? = some false := by
  unfold pad
  rw [List.getElem?_append_right (Nat.le_refl _), Nat.sub_self, List.getElem?_replicate_of_lt (by omega)]
theorem pad_set {M : List Bool} {n : Nat} (h : M.length < n) (L : Bool) : (pad M n).set M.length L = pad (M ++ [L]) n := by
  unfold pad
  rw [List.set_append_right _ _ (Nat.le_refl _), Nat.sub_self, List.length_append, List.append_assoc]
  obtain ⟨d, hd⟩ : ∃ d, n - M.length = d + 1 := ⟨n - M.length - 1, by omega⟩
  rw [hd, show n - (M.length + [L].length) = d by simp only [List.length_singleton]; omega]
  rfl
theorem pad_false {M : List Bool} {n : Nat} (h : M.length < n) : pad (M ++ [false]) n = pad M n := by
  unfold pad
  obtain ⟨d, hd⟩ : ∃ d, n - M.length = d + 1 := ⟨n - M.length - 1, by omega⟩
  rw [List.length_append, hd, show n - (M.length + [false].length) = d by simp only [List.length_singleton]; omega, List.append_assoc]
  rfl
theorem pad_all (M : List Bool) : pad M M.length = M := by unfold pad; rw [Nat.sub_self]; simp
theorem pad_length {M : List Bool} {n : Nat} (h : M.length ≤ n) : (pad M n).length = n := by unfold pad; simp; omega
/-- What was proposed before k, with the first of the list. -/
structure Pr (xs : List Ent) (ls : List (List Ent)) (k : Nat) (p0 : List Ent) (rest : List (List Ent)) : Prop where
  val : ∀ y ∈ p0 :: rest, VM.Val 0 y
  eq : VM.jns (p0 :: rest) = VM.acF xs (ls.take k)
  len : rest.length ≤ k
  sum : VM.sumL (p0 :: rest) ≤ 82000 + 2000 * k
theorem Pr.miss {xs x p0 : List Ent} {ls rest : List (List Ent)} {k : Nat} (h : Pr xs ls k p0 rest) (hx : ls[k]? = some x) (hv : VM.Val 0 x) (hl : x.length ≤ 2000) : Pr xs ls (k + 1) p0 (rest ++ [x]) where
  val := fun y hy => by
    rcases List.mem_append.1 (show y ∈ (p0 :: rest) ++ [x] from hy) with h1 | h1
    · exact h.val y h1
    · rw [List.mem_singleton.1 h1]; exact hv
  eq := by
    have h1 := h.eq
    simp only [VM.jns] at h1 ⊢
    rw [VM.acF_snoc, h1, ← VM.acF_snoc]
    obtain ⟨hk, rfl⟩ := List.getElem?_eq_some_iff.1 hx
    rw [List.take_succ_eq_append_getElem hk]
  len := by have := h.len; simp; omega
  sum := by
    have h1 := h.sum
    rw [show p0 :: (rest ++ [x]) = (p0 :: rest) ++ [x] from rfl, VM.sumL_append]
    simp only [VM.sumL] at h1 ⊢
    omega
theorem Pr.hit {xs x p0 : List Ent} {ls rest : List (List Ent)} {k : Nat} (h : Pr xs ls k p0 rest) (hx : ls[k]? = some x) (hv : VM.Val 0 x) (hl : x.length ≤ 2000) (hJ : (VM.acF xs (ls.take k)).length ≤ 82000) : Pr xs ls (k + 1) (VM.acF xs (ls.take k)) [x] where
  val := fun y hy => by
    rcases List.mem_cons.1 hy with rfl | h1
    · rw [← h.eq]; exact VM.jns_val h.val
    · rw [List.mem_singleton.1 h1]; exact hv
  eq := by
    show VM.jn (VM.acF xs (ls.take k)) x = _
    obtain ⟨hk, rfl⟩ := List.getElem?_eq_some_iff.1 hx
    rw [List.take_succ_eq_append_getElem hk, VM.acF_snoc]
  len := by simp
  sum := by simp only [VM.sumL]; omega
/-- A shorter vector than the first is not accepted. -/
theorem Pr.short {xs x p0 : List Ent} {ls rest : List (List Ent)} {k : Nat} (h : Pr xs ls k p0 rest) (hv : VM.Val 0 x) (hs : x.length < p0.length) : VM.le (VM.acF xs (ls.take k)) x = false := by
  refine Bool.eq_false_iff.2 fun ht => ?_
  rw [← h.eq] at ht
  have h0 := h.val p0 (by simp)
  have hr : ∀ y ∈ rest, VM.Val 0 y := fun y hy => h.val y (by simp [hy])
  have := VM.le_len h0 hv ((VM.le_iff h0 hv).2 fun c => by
    have h1 := (VM.le_iff (VM.acF_val h0 hr) hv).1 ht c
    have h2 := (VM.acF_cnt c h0 hr).1
    omega)
  omega
/-- A report of the call's own list: where it lies, what a store leaves. -/
theorem bool_at {base gb n k : Nat} {w : World} {M : List Bool} (h : OwnG encBo 4 1 base w (.slice (some ⟨gb, 0, none⟩) n n) M) {y : Bool} (hk : M[k]? = some y) (hn : M.length = n) :
    (∀ w0, (Instr.indexAt 34 (.slice (some ⟨gb, 0, none⟩) n n) (.int .i64 (k : Int))).run Try.prog w0 = .ok (.pointer (some ⟨gb, k, none⟩)) w0) ∧ w.cell? ⟨gb, k, none⟩ = some (.bool y) ∧ w.frozen? ⟨gb, k, none⟩ = false ∧
      ∀ L, OwnG encBo 4 1 base (w.setCell ⟨gb, k, none⟩ (.bool L)) (.slice (some ⟨gb, 0, none⟩) n n) (M.set k L) ∧ Below base w (w.setCell ⟨gb, k, none⟩ (.bool L)) ∧ KeepsX 4 w (w.setCell ⟨gb, k, none⟩ (.bool L)) := by
  subst hn
  obtain ⟨g', cap', hv, hi, _, _, hc⟩ := own_at boolE h hk
  cases hv
  obtain ⟨h1, h2⟩ := hc 0 _ rfl
  rw [Nat.mul_one] at hi
  rw [Nat.mul_one, Nat.add_zero] at h1 h2
  refine ⟨hi, h1, h2, fun L => ?_⟩
  have h3 := own_set h hk (j := 0) (y := L) (u := .bool L) (by decide) rfl
  rw [Nat.mul_one, Nat.add_zero] at h3
  exact h3
theorem acL_take {a x : List Ent} {ls : List (List Ent)} {k : Nat} (h : ls[k]? = some x) : VM.acL a (ls.take (k + 1)) = VM.acL a (ls.take k) ++ [VM.le (VM.acF a (ls.take k)) x] := by
  obtain ⟨hk', rfl⟩ := List.getElem?_eq_some_iff.1 h
  rw [List.take_succ_eq_append_getElem hk', VM.acL_snoc]
theorem acL_tlen (a : List Ent) {ls : List (List Ent)} {k : Nat} (h : k ≤ ls.length) : (VM.acL a (ls.take k)).length = k := by rw [VM.acL_length, List.length_take]; omega

set_option maxRecDepth 100000 in
set_option maxHeartbeats 4000000 in
theorem aAll (a v : Value) (xs : List Ent) (ls : List (List Ent)) (w : World) (ha : VX.RdV w a xs) (hv : RdVs w v ls) (hx : VM.Val 0 xs) (hl : ∀ x ∈ ls, x.length ≤ 2000 ∧ VM.Val 0 x) (hxl : xs.length ≤ 2000) (hn : ls.length ≤ 40) :
    Calls Try.prog 13 #[acv a, v] w fun e w' => ∃ b l, e = .returned (.tuple #[acv b, l]) ∧ VX.RdV w' b (VM.acF xs ls) ∧ RdBs w' l (VM.acL xs ls) ∧ Below w.heap.size w w' := by
  obtain ⟨aa, ac, rfl, _, _⟩ := ha.shape
  obtain ⟨la, lc, rfl, _, _⟩ := hv.shape
  obtain ⟨w0, hw0, hA, hb0⟩ := oneA w (.slice aa xs.length ac)
  have hs0 : w0.heap.size = w.heap.size + 1 := by rw [← hw0, World.size_alloc]
  obtain ⟨w1, hw1, hZ, hb1⟩ := oneA w0 (.slice none 0 0)
  rw [hs0] at hZ
  have hb2 := bnext hb0 hb1
  rw [← hw0] at hw1
  have HW := Lib.hid hw1
  have HA := Lib.hid (hA.below hb1)
  have HZ := Lib.hid hZ
  have HB := Lib.hid hb2
  have HF := Lib.hid ha
  have HL := Lib.hid hv
  have HLS := Lib.hid hl
  have HX := Lib.hid hx
  have HLE := Lib.hid (fun k => show (VM.acF xs (ls.take k)).length ≤ 82000 by
    have h := VM.acF_len (m := 2000) (a := xs) (l := ls.take k) fun x hx => (hl x (List.mem_of_mem_take hx)).1
    rw [List.length_take] at h
    omega)
  have HP0 := Lib.hid (show Pr xs ls 0 xs [] from { val := fun y hy => by rw [List.mem_singleton.1 hy]; exact hx, eq := rfl, len := Nat.zero_le _, sum := by simp only [VM.sumL]; omega })
  have hsz1 : w.heap.size ≤ w1.heap.size := hb2.size
  have hn1 : ls.length ≤ 1073741824 := by omega
  clear hw0 hA hb0 hs0 hw1 hZ hb1 hb2 hl ha hv hx hxl
  go_enter Try.func13, Try.ntmps13
  go_upto_region 1 with fail
  rw [HW.out]
  clear HW
  go_wp2_with (refine wp_makeG boolE false (zv := .bool false) (by kernel_rfl) (.bool false) rfl rfl rfl _ _ rfl (n := ls.length) rfl rfl hn1 hsz1 ?_)
  intro w2 hO2 hb2
  obtain ⟨gb, hgb⟩ : ∃ g, g = w1.heap.size := ⟨_, rfl⟩
  rw [← hgb] at hO2 ⊢
  have hsz2 := hb2.size
  have hgw : w.heap.size ≤ gb := by omega
  have HA2 := Lib.hid (HA.out.below hb2)
  have HZ2 := Lib.hid (HZ.out.below hb2)
  have HB2 := Lib.hid (bnext HB.out hb2)
  have hbs2 := HB2.out.size
  have HO2 := Lib.hid hO2
  obtain ⟨w3, hw3⟩ : ∃ w3, w2.alloc (.cells #[.slice aa xs.length ac] 23) = w3 := ⟨_, rfl⟩
  have hb3 : Below w2.heap.size w2 w3 := by rw [← hw3]; exact below_fresh w2 _
  have HP3 := Lib.hid (show OwnVy w w3 (.slice (some ⟨w2.heap.size, 0, none⟩) 1 1) [xs] from ⟨[((aa, xs.length, ac), xs)], by rw [← hw3]; exact (ownG_fresh hlV 23 w2 [((aa, xs.length, ac), xs)] (by simp [maxLen])).mono hbs2, fun p hp => by rw [List.mem_singleton.1 hp]; exact .inl HF.out, rfl⟩)
  have HZ3 := Lib.hid (HZ2.out.below hb3)
  have HB3 := Lib.hid (bnext HB2.out hb3)
  have HO3 := Lib.hid (HO2.out.below hb3)
  have HW := Lib.hid hw3
  obtain ⟨gp, hgp⟩ : ∃ g, g = w2.heap.size := ⟨_, rfl⟩
  rw [← hgp] at HP3
  have HGP := Lib.hid hgp
  have c0 := HA2.out.cell
  clear hO2 hb2 hsz1 hsz2 HA HZ HB HZ2 HB2 HO2 HA2 hbs2 hw3 hb3 hgp
  go_upto_region 3 with fail
  rw [HW.out, ← HGP.out]
  clear HW c0 HGP
  go_wp2
  clear hgb
  go_loopw [7, 19] (fun u i wr => ∃ (k : Nat) (p0 : List Ent) (rest : List (List Ent)), k ≤ ls.length ∧ i = .int .i64 k ∧ Hid (Below w.heap.size w wr) ∧ Hid (OwnVy w wr u (p0 :: rest)) ∧ Hid (OwnG encBo 4 1 w.heap.size wr (.slice (some ⟨gb, 0, none⟩) ls.length ls.length) (pad (VM.acL xs (ls.take k)) ls.length)) ∧ Hid (AcB wr (w.heap.size + 1) (.slice none 0 0)) ∧ Hid (Pr xs ls k p0 rest)) (fun _ i _ => ls.length - (intOf i).toNat)
  case atStart => exact ⟨0, xs, [], Nat.zero_le _, rfl, HB3, HP3, HO3, HZ3, HP0⟩
  case round =>
    obtain ⟨k, p0, rest, hk, rfl, hbl, hu, ho, hzz, hp⟩ := hrel
    by_cases hlt : k < ls.length
    · have hq : (k : Int) < (ls.length : Int) := by omega
      have hk2 := List.getElem?_eq_getElem hlt
      generalize ls[k] = x at hk2
      have hvx := HLS.out x (List.mem_of_getElem? hk2)
      obtain ⟨b, o, xa, xc, hi, hbx, d0, hrx⟩ := HL.out.at_ k x hk2
      have HRX := Lib.hid hrx
      have d1 := below_cell hbl.out d0
      obtain ⟨pa, pc, hsh, _, _⟩ := (hu.out.rd hbl.out).shape
      obtain ⟨n, hn2⟩ : ∃ n, n = (p0 :: rest).length := ⟨_, rfl⟩
      rw [← hn2] at hsh
      subst hsh
      obtain ⟨b0, o0, ya, yc, hi0, _, e0, hry⟩ := (hu.out.rd hbl.out).at_ 0 p0 rfl
      have hi1 : ∀ w0, (Instr.indexAt 27 (.slice pa n pc) (.int .i64 0)).run Try.prog w0 = .ok (.pointer (some ⟨b0, o0, none⟩)) w0 := hi0
      have hml := acL_tlen xs hk
      have HN2 := Lib.hid hn2
      have hacl := Lib.hid (acL_take (a := xs) hk2)
      have HPG := Lib.hid (pad_get (M := VM.acL xs (ls.take k)) (n := ls.length) (by omega))
      have HPS := Lib.hid (pad_set (M := VM.acL xs (ls.take k)) (n := ls.length) (by omega))
      have HPF := Lib.hid (pad_false (M := VM.acL xs (ls.take k)) (n := ls.length) (by omega))
      have hn3 : n ≤ 41 := by rw [hn2, List.length_cons]; have := hp.out.len; omega
      have HN3 := Lib.hid hn3
      clear hn2 d0 hi0 hrx hry hbx hn3
      by_cases hge : p0.length ≤ x.length
      · have hgi : (x.length : Int) ≥ (p0.length : Int) := by omega
        have hgi2 : (p0.length : Int) ≤ (x.length : Int) := by omega
        have HJ := Lib.hid (aJoin 41 (.slice pa n pc) (p0 :: rest) wr (hu.out.rd hbl.out) (by simp) (by rw [← HN2.out]; exact HN3.out) hp.out.val (by rw [← HN2.out]; have := HN3.out; omega) (by have := hp.out.sum; omega))
        rw [hp.out.eq] at HJ
        have hva : VM.Val 0 (VM.acF xs (ls.take k)) := VM.acF_val HX.out fun y hy => (HLS.out y (List.mem_of_mem_take hy)).2
        have HPH := Lib.hid (hp.out.hit hk2 hvx.2 hvx.1 (HLE.out k))
        rw [hml] at HPG HPS
        generalize VM.acF xs (ls.take k) = A at HJ hva HPH hacl
        have HPS2 := Lib.hid (show (pad (VM.acL xs (ls.take k)) ls.length).set k (VM.le A x) = pad (VM.acL xs (ls.take (k + 1))) ls.length by rw [HPS.out, hacl.out])
        have HPL := Lib.hid (pad_length (M := VM.acL xs (ls.take k)) (n := ls.length) (by omega))
        obtain ⟨ps, hps1, -, -⟩ := hu.out
        have HCZ := Lib.hid (cutZ hps1)
        have hcz := HCZ.out.1
        have HVX := Lib.hid hvx.2
        have HVA := Lib.hid hva
        clear hge hk2 hvx hml hp hu hacl HPF HPS hps1 hva ps
        generalize VM.acL xs (ls.take k) = M at ho HPG HPS2 HPL
        go_wp2_with fail
        refine HJ.out.mono ?_
        rintro e w4 ⟨v4, rfl, hr4, hb4⟩
        obtain ⟨va, vc, rfl, _, _⟩ := hr4.rd.shape
        have HQ := Lib.hid (VX.wLessEqual _ _ A x w4 hr4.rd ((HRX.out.below hbl.out).below hb4) HVA.out HVX.out)
        generalize VM.le A x = L at HQ HPS2
        clear HJ e0 d1 hi1 hgi hgi2
        go_wp2_with fail
        refine HQ.out.mono ?_
        rintro e w5 ⟨rfl, hb5⟩
        have hb6 := bnext hb4 hb5
        have HR5 := Lib.hid ((hr4.mono hbl.out.size).below hb5)
        have HZ5 := Lib.hid (hzz.out.below hb6)
        have HB5 := Lib.hid (bnext hbl.out hb6)
        have HC5 := Lib.hid (HCZ.out.2.below hb6)
        obtain ⟨hi5, o0, g0, hset⟩ := bool_at (ho.out.below hb6) HPG.out HPL.out
        have HS := Lib.hid (hset L)
        rw [HPS2.out] at HS
        clear HQ hr4 hb4 hb5 hb6 hset HCZ HPG HPS2 HPL ho hzz hbl
        go_upto_region 9 with fail
        obtain ⟨w6, hw6⟩ : ∃ w6, w5.setCell ⟨gb, k, none⟩ (.bool L) = w6 := ⟨_, rfl⟩
        rw [hw6] at HS ⊢
        have HR6 := Lib.hid (ownV_keepX HR5.out (by decide) HS.out.2.2)
        have HZ6 := Lib.hid (HZ5.out.keepX (by decide) HS.out.2.2)
        have HB6 := Lib.hid (HB5.out.trans HS.out.2.1)
        have hc6 := ownG_keepX HC5.out (by decide) HS.out.2.2
        have HO6 := Lib.hid HS.out.1
        have hbw := HB6.out.size
        clear hw6 o0 g0 hi5 HS HR5 HZ5 HB5 HC5
        go_wp2_with (at_builtin; refine wp_appG1 vecE ((va, A.length, vc), A) rfl _ _ rfl rfl hc6 rfl (by simp) hbw ?_)
        intro v8 w8 ho8 hb8 hk8 _
        have HR8 := Lib.hid (ownV_keepX HR6.out (by decide) hk8)
        have HZ8 := Lib.hid (HZ6.out.keepX (by decide) hk8)
        have HB8 := Lib.hid (HB6.out.trans hb8)
        have HO8 := Lib.hid (ownG_keepX HO6.out (by decide) hk8)
        have hbw8 := HB8.out.size
        clear hc6 hbw HR6 HZ6 HB6 HO6 hb8 hk8 hcz
        go_wp2_with (at_builtin; refine wp_appG1 vecE ((xa, x.length, xc), x) rfl _ _ rfl rfl ho8 rfl (by simp) hbw8 ?_)
        intro v9 w9 ho9 hb9 hk9 _
        have HP9 := Lib.hid (show OwnVy w w9 v9 [A, x] from OwnVy.snoc (ls := [A]) (w := w8) (s := (xa, x.length, xc)) (ps := [((va, A.length, vc), A)]) (fun p hp => by rw [List.mem_singleton.1 hp]; exact .inr HR8.out) rfl ho9 hk9 (.inl HRX.out))
        have HZ9 := Lib.hid (HZ8.out.keepX (by decide) hk9)
        have HB9 := Lib.hid (HB8.out.trans hb9)
        have HO9 := Lib.hid (ownG_keepX HO8.out (by decide) hk9)
        clear ho8 hbw8 HR8 HZ8 HB8 HO8 ho9 hb9 hk9
        go_wp2
        go_roundw
        case rel => exact ⟨k + 1, A, [x], by omega, by go_num, HB9, HP9, HO9, HZ9, HPH⟩
        case measure => simp [intOf]; omega
      · have hgi : ¬ ((x.length : Int) ≥ (p0.length : Int)) := by omega
        have hgi2 : ¬ ((p0.length : Int) ≤ (x.length : Int)) := by omega
        have HM := Lib.hid (show VM.acL xs (ls.take (k + 1)) = VM.acL xs (ls.take k) ++ [false] by rw [hacl.out, hp.out.short hvx.2 (by omega)])
        have HPM := Lib.hid (hp.out.miss hk2 hvx.2 hvx.1)
        obtain ⟨ps, hps1, hps2, hps3⟩ := hu.out
        have hpl : ps.length ≤ 1073741824 := by
          have := congrArg List.length hps3
          rw [List.length_map] at this
          have h1 := HN2.out
          have h2 := HN3.out
          omega
        have hbw := hbl.out.size
        have HP2 := Lib.hid hps2
        have HP3 := Lib.hid hps3
        clear hge hk2 hvx hml hps2 hps3 hp hu hacl HPG HPS
        go_wp2_with (at_builtin; refine wp_appG1 vecE ((xa, x.length, xc), x) rfl _ _ rfl rfl hps1 rfl hpl hbw ?_)
        intro v8 w8 ho8 hb8 hk8 _
        have HP8 := Lib.hid (show OwnVy w w8 v8 (p0 :: (rest ++ [x])) from OwnVy.snoc (ls := p0 :: rest) (w := wr) (s := (xa, x.length, xc)) HP2.out HP3.out ho8 hk8 (.inl HRX.out))
        have HO8 := Lib.hid (show OwnG encBo 4 1 w.heap.size w8 (.slice (some ⟨gb, 0, none⟩) ls.length ls.length) (pad (VM.acL xs (ls.take (k + 1))) ls.length) by rw [HM.out, HPF.out]; exact ownG_keepX ho.out (by decide) hk8)
        have HZ8 := Lib.hid (hzz.out.keepX (by decide) hk8)
        have HB8 := Lib.hid (hbl.out.trans hb8)
        clear ho8 hb8 hk8 hps1 hpl hbw HP2 HP3 ho hzz hbl e0 d1 hi1 hgi hgi2
        go_wp2
        go_roundw
        case rel => exact ⟨k + 1, p0, rest ++ [x], by omega, by go_num, HB8, HP8, HO8, HZ8, HPM⟩
        case measure => simp [intOf]; omega
    · have hq : ¬ ((k : Int) < (ls.length : Int)) := by omega
      obtain rfl : k = ls.length := by omega
      obtain ⟨pa, pc, hsh, _, _⟩ := (hu.out.rd hbl.out).shape
      obtain ⟨n, hn2⟩ : ∃ n, n = (p0 :: rest).length := ⟨_, rfl⟩
      rw [← hn2] at hsh
      subst hsh
      have hn3 : n ≤ 41 := by rw [hn2, List.length_cons]; have := hp.out.len; omega
      have hj := aJoin 41 (.slice pa n pc) (p0 :: rest) wr (hu.out.rd hbl.out) (by simp) (by omega) hp.out.val (by omega) (by have := hp.out.sum; omega)
      rw [hp.out.eq, List.take_length] at hj
      have HJ := Lib.hid hj
      have hpa := pad_all (VM.acL xs ls)
      rw [VM.acL_length] at hpa
      rw [List.take_length, hpa] at ho
      clear hpa hj hn3 hn2 hu hp
      obtain ⟨A, HA⟩ : ∃ A, Hid (VM.acF xs ls = A) := ⟨_, Lib.hid rfl⟩
      obtain ⟨M, HM⟩ : ∃ M, Hid (VM.acL xs ls = M) := ⟨_, Lib.hid rfl⟩
      rw [HA.out] at HJ
      rw [HM.out] at ho
      go_wp2_with fail
      refine HJ.out.mono ?_
      rintro e w4 ⟨v4, rfl, hr4, hb4⟩
      obtain ⟨va, vc, rfl, _, _⟩ := hr4.rd.shape
      have HR4 := Lib.hid (hr4.mono hbl.out.size)
      have HZ4 := Lib.hid (hzz.out.below hb4)
      have HB4 := Lib.hid (bnext hbl.out hb4)
      have HO4 := Lib.hid (ho.out.below hb4)
      have o0 := HZ4.out.cell
      have g0 := HZ4.out.frozen
      clear HJ hr4 hb4 ho hzz hbl
      go_wp2
      have hon : Only (w.heap.size + 1) w4 (w4.setCell ⟨w.heap.size + 1, 0, none⟩ (.slice va A.length vc)) := Only.set 0 _
      exact accRet rfl rfl rfl (HZ4.out.put _) rfl ⟨_, _, rfl, by rw [HA.out]; exact (ownV_only HR4.out HZ4.out hon).rd, by rw [HM.out]; exact (ownB_only HO4.out HZ4.out hon).rd, seen HB4.out (by omega) hon⟩

theorem cAT : AT where
  accept := fun a b xs ys w ha hb hx hy hlx hly => (aAccept a b xs ys w ha hb hx hy (by omega)).mono fun e w' ⟨v, he, hr, hb'⟩ => ⟨v, he, hr.rd, hb'⟩
  all := aAll
end Go.Proofs.Ytnkeaphfheminaa
