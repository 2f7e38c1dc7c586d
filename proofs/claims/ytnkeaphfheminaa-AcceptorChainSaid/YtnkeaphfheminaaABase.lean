/-
  Lists of vectors, lists of truth values, an acceptor by value and its block. No conditions beyond those that each lemma names.
-/
import Derived.Test.YtnkeaphfheminaaSl
import Derived.Test.YtnkeaphfheminaaAMath
namespace Go.Proofs.Ytnkeaphfheminaa
open Go.RowKit
open VM (Ent)

abbrev SV := Option Addr × Nat × Nat
def svV (s : SV) : Value := .slice s.1 s.2.1 s.2.2
def encV (p : SV × List Ent) : List Value := [svV p.1]
theorem hlV : 0 < 1 ∧ ∀ x : SV × List Ent, (encV x).length = 1 := ⟨by decide, fun _ => rfl⟩
theorem vecE : IsElem Try.prog 27 23 1 24 encV where
  ht := Try.underlying27
  info := by
    obtain ⟨i0, hi, hz0, hz1, hz2⟩ := info_parts (show (Try.prog.info? 23).map (fun i => (i.zero, i.size, i.bytes)) = some (some (.slice none 0 0), 1, 24) by kernel_rfl)
    exact ⟨i0, _, hi, hz0, hz1, hz2, rfl⟩
  len := fun _ => rfl
  one := by intro x u hu; simp [encV] at hu; subst hu; rfl
  pos := by decide
  fits := by decide
def encBo (b : Bool) : List Value := [.bool b]
theorem hlBo : 0 < 1 ∧ ∀ x, (encBo x).length = 1 := ⟨by decide, fun _ => rfl⟩
theorem boolE : IsElem Try.prog 34 4 1 1 encBo where
  ht := Try.underlying34
  info := by
    obtain ⟨i0, hi, hz0, hz1, hz2⟩ := info_parts (show (Try.prog.info? 4).map (fun i => (i.zero, i.size, i.bytes)) = some (some (.bool false), 1, 1) by kernel_rfl)
    exact ⟨i0, _, hi, hz0, hz1, hz2, rfl⟩
  len := fun _ => rfl
  one := by intro x u hu; simp [encBo] at hu; subst hu; rfl
  pos := by decide
  fits := by decide
abbrev RdBs (w : World) (v : Value) (bs : List Bool) : Prop := RdG encBo 1 w v bs

/-- The slice value v reads as a list of slices, which read as the vectors ls. -/
def RdVs (w : World) (v : Value) (ls : List (List Ent)) : Prop := ∃ ps : List (SV × List Ent), RdG encV 1 w v ps ∧ (∀ p ∈ ps, VX.RdV w (svV p.1) p.2) ∧ ps.map (·.2) = ls
/-- The same of a list of the call's own. -/
def OwnVs (base : Nat) (w : World) (v : Value) (ls : List (List Ent)) : Prop := ∃ ps : List (SV × List Ent), OwnG encV 23 1 base w v ps ∧ (∀ p ∈ ps, VX.RdV w (svV p.1) p.2) ∧ ps.map (·.2) = ls
section
variable {base : Nat} {w w' : World} {v : Value} {ls : List (List Ent)}
theorem OwnVs.rd (h : OwnVs base w v ls) : RdVs w v ls := by
  obtain ⟨ps, h1, h2, h3⟩ := h; exact ⟨ps, h1.rd, h2, h3⟩
theorem OwnVs.below (h : OwnVs base w v ls) (hb : Below w.heap.size w w') : OwnVs base w' v ls := by
  obtain ⟨ps, h1, h2, h3⟩ := h; exact ⟨ps, h1.below hb, fun p hp => (h2 p hp).below hb, h3⟩
theorem RdVs.below (h : RdVs w v ls) (hb : Below w.heap.size w w') : RdVs w' v ls := by
  obtain ⟨ps, h1, h2, h3⟩ := h; exact ⟨ps, h1.below hb, fun p hp => (h2 p hp).below hb, h3⟩
theorem RdVs.shape (h : RdVs w v ls) : ∃ a c, v = .slice a ls.length c ∧ c ≤ 9223372036854775807 ∧ ls.length ≤ c := by
  obtain ⟨ps, h1, _, rfl⟩ := h
  simpa using h1.shape
theorem OwnVs.nil (base : Nat) (w : World) : OwnVs base w (.slice none 0 0) [] := ⟨[], OwnG.nil hlV _ _ _, (fun _ h => by cases h), rfl⟩
theorem RdVs.nil (w : World) : RdVs w (.slice none 0 0) [] := (OwnVs.nil 0 w).rd
theorem RdVs.at_ {a : Option Addr} {n c : Nat} (h : RdVs w (.slice a n c) ls) (k : Nat) (x : List Ent) (hk : ls[k]? = some x) :
    ∃ b o ad cp, (∀ w0, (Instr.indexAt 27 (.slice a n c) (.int .i64 (k : Int))).run Try.prog w0 = .ok (.pointer (some ⟨b, o, none⟩)) w0) ∧ b < w.heap.size ∧ w.cell? ⟨b, o, none⟩ = some (.slice ad x.length cp) ∧ VX.RdV w (.slice ad x.length cp) x := by
  obtain ⟨ps, h1, h2, rfl⟩ := h
  rw [List.getElem?_map] at hk
  obtain ⟨p, hp, hx⟩ := Option.map_eq_some_iff.1 hk
  subst hx
  obtain ⟨b, o, h3, h4, h5⟩ := h1.at_ vecE k p hp
  have hr := h2 p (List.mem_of_getElem? hp)
  have hc := h5 0 _ rfl
  obtain ⟨ad, cp, he, _⟩ := hr.shape
  rw [he] at hr hc
  exact ⟨b, o, ad, cp, h3, h4, hc, hr⟩
theorem OwnVs.snoc {w2 : World} {ps : List (SV × List Ent)} {s : SV} {x : List Ent} {v2 : Value} (h2 : ∀ p ∈ ps, VX.RdV w (svV p.1) p.2) (h3 : ps.map (·.2) = ls) (ho : OwnG encV 23 1 base w2 v2 (ps ++ [(s, x)])) (hR : ∀ u x, VX.RdV w u x → VX.RdV w2 u x) (hp : VX.RdV w2 (svV s) x) : OwnVs base w2 v2 (ls ++ [x]) :=
  ⟨ps ++ [(s, x)], ho, fun q hq => (List.mem_append.1 hq).elim (fun h => hR _ _ (h2 q h)) (fun h => by rw [List.mem_singleton] at h; subst h; exact hp), by rw [List.map_append, h3]; rfl⟩
end
theorem rdVs_one {w : World} {g : Nat} {a : Value} {x : List Ent} (hg : w.heap[g]? = some (.cells #[a] 23 (0, 0))) (ha : VX.RdV w a x) : RdVs w (.slice (some ⟨g, 0, none⟩) 1 1) [x] := by
  obtain ⟨aa, ac, rfl, _⟩ := ha.shape
  refine ⟨[((aa, x.length, ac), x)], ?_, ?_, rfl⟩
  · refine ⟨_, 1, rfl, Nat.le_refl _, by unfold maxLen; omega, (fun h => by cases h), hlV, fun y hy j u hu => ?_⟩
    cases hy
    rw [addr_plain, Nat.zero_add]
    match j, hu with
    | 0, hu => cases hu; simp [World.cell?, hg, svV]
    | n + 1, hu => simp [cellsOf, encV] at hu
  · intro p hp
    simp only [List.mem_cons, List.mem_nil_iff, or_false] at hp
    subst hp
    exact ha
theorem rdVs_two {w : World} {g : Nat} {a b : Value} {x y : List Ent} (hg : w.heap[g]? = some (.cells #[a, b] 23 (0, 0))) (ha : VX.RdV w a x) (hb : VX.RdV w b y) : RdVs w (.slice (some ⟨g, 0, none⟩) 2 2) [x, y] := by
  obtain ⟨aa, ac, rfl, _⟩ := ha.shape
  obtain ⟨ba, bc, rfl, _⟩ := hb.shape
  refine ⟨[((aa, x.length, ac), x), ((ba, y.length, bc), y)], ?_, ?_, rfl⟩
  · refine ⟨_, 2, rfl, Nat.le_refl _, by unfold maxLen; omega, (fun h => by cases h), hlV, fun z hz j u hu => ?_⟩
    cases hz
    rw [addr_plain, Nat.zero_add]
    match j, hu with
    | 0, hu => cases hu; simp [World.cell?, hg, svV]
    | 1, hu => cases hu; simp [World.cell?, hg, svV]
    | n + 2, hu => simp [cellsOf, encV] at hu
  · intro p hp
    simp only [List.mem_cons, List.mem_nil_iff, or_false] at hp
    rcases hp with rfl | rfl
    · exact ha
    · exact hb

theorem below_block {w w' : World} {g : Nat} {o : Obj} (h : w.heap[g]? = some o) (hb : Below w.heap.size w w') : w'.heap[g]? = some o := by
  rw [hb.block g (Array.getElem?_eq_some_iff.1 h).1]
  exact h
/-- An acceptor by value; its block. -/
abbrev acv (a : Value) : Value := .agg #[a]
def AcB (w : World) (g : Nat) (a : Value) : Prop := w.heap[g]? = some (.cells #[a] 25 (0, 0))
theorem AcB.cell {w : World} {g : Nat} {a : Value} (h : AcB w g a) : w.cell? ⟨g, 0, none⟩ = some a := by unfold AcB at h; simp [World.cell?, h]
theorem AcB.fresh (w : World) (a : Value) : AcB (w.alloc (.cells #[a] 25)) w.heap.size a := heap_alloc_new w _
theorem AcB.below {w w' : World} {g : Nat} {a : Value} (h : AcB w g a) (hb : Below w.heap.size w w') : AcB w' g a := below_block h hb

/-- What valid tells of a list of vectors. -/
structure Small (ls : List (List Ent)) : Prop where
  each : ∀ x ∈ ls, x.length ≤ 30 ∧ VM.Val 0 x
  len : ls.length ≤ 40
/-- The call gives a truth value; if it is true, P holds. -/
def Says (e : Ending) (P : Prop) : Prop := ∃ R : Bool, e = .returned (.bool R) ∧ (R = true → P)
theorem bne_t {n : Int} (h : ¬ n = 0) : (n != 0) = true := by simpa using h

set_option maxRecDepth 100000 in
set_option maxHeartbeats 2000000 in
theorem kValid (v : Value) (ls : List (List Ent)) (w : World) (h : RdVs w v ls) :
    Calls Try.prog 7 #[v] w fun e w' => Says e (Small ls) ∧ Below w.heap.size w w' := by
  obtain ⟨ad, cp, rfl, hcp, _⟩ := h.shape
  have H := Lib.hid h
  clear h
  go_enter Try.func7, Try.ntmps7
  go_wp2
  go_loopw [3] (fun i wr => ∃ k : Nat, k ≤ ls.length ∧ i = .int .i64 k ∧ Hid (Below w.heap.size w wr) ∧ Hid (∀ (m : Nat) (y : List Ent), m < k → ls[m]? = some y → y.length ≤ 30 ∧ VM.Val 0 y)) (fun i _ => ls.length - (intOf i).toNat)
  case atStart => exact ⟨0, Nat.zero_le _, rfl, Below.refl _ _, fun m _ hm => by omega⟩
  case round =>
    obtain ⟨k, hk, rfl, hbl, hup⟩ := hrel
    by_cases hlt : k < ls.length
    · have hq : (k : Int) < (ls.length : Int) := by omega
      have hk2 := List.getElem?_eq_getElem hlt
      generalize ls[k] = x at hk2
      obtain ⟨b, o, xa, xc, hi, hbw, c0, hrx⟩ := (H.out.below hbl.out).at_ k x hk2
      by_cases h30 : 30 < x.length
      · have h30i : (30 : Int) < (x.length : Int) := by omega
        clear hrx hk2
        go_wp2
        go_ret
        exact ⟨⟨false, rfl, by intro h; cases h⟩, hbl.out⟩
      · have h30i : ¬ ((30 : Int) < (x.length : Int)) := by omega
        have hv := VX.rValidate _ x wr hrx
        obtain ⟨E, hE⟩ : ∃ E, E = VM.err 0 x := ⟨_, rfl⟩
        rw [← hE] at hv
        have HV := Lib.hid hv
        clear hv hrx
        by_cases h0 : E = 0
        case neg =>
          have hne : (E != 0) = true := bne_t h0
          clear h0 hE hk2
          go_wp2_with fail
          refine HV.out.mono ?_
          rintro e w1 ⟨rfl, hb1⟩
          have HB1 := Lib.hid (bnext hbl.out hb1)
          clear c0 hi hbw HV hb1 hbl
          go_wp2
          go_ret
          exact ⟨⟨false, rfl, by intro h; cases h⟩, HB1.out⟩
        subst h0
        have HUP := Lib.hid (show ∀ (m : Nat) (y : List Ent), m < k + 1 → ls[m]? = some y → y.length ≤ 30 ∧ VM.Val 0 y from fun m y hm hy => by
          by_cases h1 : m = k
          · subst h1
            rw [hk2] at hy
            cases hy
            exact ⟨by omega, (VM.err_val (Int.le_refl 0)).1 hE.symm⟩
          · exact hup.out m y (by omega) hy)
        clear hE hk2
        go_wp2_with fail
        refine HV.out.mono ?_
        rintro e w1 ⟨rfl, hb1⟩
        have HB1 := Lib.hid (bnext hbl.out hb1)
        clear c0 hi hbw HV hb1 hbl
        go_wp2
        go_roundw
        case rel => exact ⟨k + 1, by omega, by go_num, HB1, HUP⟩
        case measure => simp [intOf]; omega
    · have hq : ¬ ((k : Int) < (ls.length : Int)) := by omega
      obtain rfl : k = ls.length := by omega
      by_cases h40 : ls.length ≤ 40
      · have h40i : (ls.length : Int) ≤ 40 := by omega
        go_wp2
        go_ret
        refine ⟨⟨_, rfl, fun _ => ⟨fun x hx => ?_, h40⟩⟩, hbl.out⟩
        obtain ⟨m, hm, rfl⟩ := List.getElem_of_mem hx
        exact hup.out m _ hm (List.getElem?_eq_getElem hm)
      · have h40i : ¬ ((ls.length : Int) ≤ 40) := by omega
        go_wp2
        go_ret
        exact ⟨⟨false, rfl, by intro h; cases h⟩, hbl.out⟩
end Go.Proofs.Ytnkeaphfheminaa
