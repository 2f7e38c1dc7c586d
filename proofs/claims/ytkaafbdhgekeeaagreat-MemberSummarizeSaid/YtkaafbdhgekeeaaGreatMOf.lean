/-
  The call of the program's Of: it returns the summary of a valid proposal. Conditions: the changes read, the proposal is valid.
-/
import Derived.Test.YtkaafbdhgekeeaaGreatMSort
import Derived.Test.YtkaafbdhgekeeaaGreatMCmp
import Derived.Shelf.Slices.In.SortNone
namespace Go.Proofs.YtkaafbdhgekeeaaGreat
open Go.RowKit Go.Joins
open JM (Chg)
open MM (Mem Ent Sm Tri)

/-- Every block but v's own is as it was. -/
def Oth (v : Value) (w w' : World) : Prop := ∀ k, k < w.heap.size → v.ownBlock ≠ some k → w'.heap[k]? = w.heap[k]?
theorem OwnG.lt {α : Type} {enc : α → List Value} {e : TypeId} {size base : Nat} {w : World} {v : Value} {ys : List α} (h : OwnG enc e size base w v ys) (g : Nat) (hg : v.ownBlock = some g) : base ≤ g ∧ g < w.heap.size := by
  rcases h.1.2 with ⟨rfl, _⟩ | ⟨gg, cap, cur, hv, hgg, hh, r⟩
  · cases hg
  · subst hv
    have : gg = g := by simpa [Value.ownBlock] using hg
    subst this
    exact ⟨hgg, (Array.getElem?_eq_some_iff.1 hh).1⟩
theorem OwnG.oth {α : Type} {enc : α → List Value} {e : TypeId} {size base : Nat} {w w' : World} {u v : Value} {ys : List α} (h : OwnG enc e size base w v ys) (ho : Oth u w w') (hne : ∀ g, u.ownBlock = some g → v.ownBlock ≠ some g) : OwnG enc e size base w' v ys := by
  refine ⟨⟨h.1.1, ?_⟩, h.2⟩
  rcases h.1.2 with h6 | ⟨gg, cap, cur, hv, hgg, hh, r⟩
  · exact .inl h6
  · refine .inr ⟨gg, cap, cur, hv, hgg, ?_, r⟩
    rw [ho gg (Array.getElem?_eq_some_iff.1 hh).1 (fun he => hne gg he (by subst hv; rfl))]
    exact hh
theorem Oth.at {v : Value} {w w' : World} (h : Oth v w w') {g : Nat} {ob : Obj} (hg : w.heap[g]? = some ob) (hne : v.ownBlock ≠ some g) : w'.heap[g]? = some ob := (h g (Array.getElem?_eq_some_iff.1 hg).1 hne).trans hg
/-- Another block than the list's own, by the element's type. -/
theorem own_ne {α : Type} {enc : α → List Value} {e t : TypeId} {size base : Nat} {w : World} {v : Value} {ys : List α} (h : OwnG enc e size base w v ys) {g : Nat} {cur : Array Value} {fr : Nat × Nat} (hg : w.heap[g]? = some (.cells cur t fr)) (ht : t ≠ e) : v.ownBlock ≠ some g := by
  rcases h.1.2 with ⟨rfl, _⟩ | ⟨gg, cap, cur', hv, hgg, hh, r⟩
  · exact fun h => by cases h
  · subst hv
    intro he
    have : gg = g := by simpa [Value.ownBlock] using he
    subst this
    rw [hg] at hh
    injection hh with hh
    injection hh with _ h2
    exact ht h2
theorem own_own_ne {α β : Type} {enc : α → List Value} {enc' : β → List Value} {e e' : TypeId} {size size' base base' : Nat} {w : World} {v v' : Value} {ys : List α} {zs : List β} (h : OwnG enc e size base w v ys) (h' : OwnG enc' e' size' base' w v' zs) (ht : e' ≠ e) : ∀ g, v'.ownBlock = some g → v.ownBlock ≠ some g := by
  intro g hg
  rcases h'.1.2 with ⟨rfl, _⟩ | ⟨gg, cap, cur', hv, hgg, hh, r⟩
  · cases hg
  · subst hv
    have : gg = g := by simpa [Value.ownBlock] using hg
    subst this
    exact own_ne h hh ht
/-- Two lists lie in two blocks. -/
def Dj (u v : Value) : Prop := ∀ g, u.ownBlock = some g → v.ownBlock ≠ some g
theorem Dj.symm {u v : Value} (h : Dj u v) : Dj v u := fun g h1 h2 => h g h2 h1

/-- 'out = append(out, x)', and that all other blocks stay. -/
theorem wp_appG1N {α : Type} {P : Program} {t e : TypeId} {size bytes : Nat} {enc : α → List Value} {w : World} {ops : Array Oper} {rest : List Oper} {o : Oper} {a : Act} {Q : Exit → Act → World → Prop} {base : Nat} {v : Value} {ys : List α}
    (E : IsElem P t e size bytes enc) (x : α) (hgd : o.guard = none) (s r : Operand) (ho : o.op = .call { callee := .builtin .append, args := #[s, r], argTypes := #[t, t] })
    (hs : a.eval s = v) (hown : OwnG enc e size base w v ys) (hx : a.eval r = .slice (some ⟨w.heap.size, 0, none⟩) 1 1) (hlen : ys.length ≤ 1073741824) (hb : base ≤ w.heap.size)
    (h : ∀ v' w', OwnG enc e size base w' v' (ys ++ [x]) → Below base w w' → KeepsX e w w' → Oth v w w' → (∀ g, v'.ownBlock = some g → v.ownBlock = some g ∨ w.heap.size ≤ g) → wpList P ops Q rest (a.put o.dst v') w') :
    wpList P ops Q (o :: rest) a (w.alloc (.cells (enc x).toArray e)) := by
  obtain ⟨i0, z, hi, hz0, hz1, hz2, hz3⟩ := E.info
  refine wpList_append_own_at _ hgd s r t ho base e i0 z size bytes E.ht hi hz0 hz1 hz2 hz3 E.pos _ _ _ hs (World.ownsRow.alloc hown.1 _) ⟨w.heap.size, 0, none⟩ 1 1 (enc x) hx (by rw [E.len, Nat.one_mul]) ?_ (E.one x) ?_ ?_ ?_ ?_
  · intro j u hu
    rw [addr_plain, Nat.zero_add, World.cell?_alloc_new]
    simpa using hu
  · unfold maxLen; omega
  · have := E.fits
    calc (ys.length + 1) * bytes ≤ (1073741824 + 1) * 4096 := Nat.mul_le_mul (by omega) this
      _ ≤ 140737488355328 := by decide
  · simp; omega
  · intro v' w1 ho1 hg1 _ hat
    have hk0 : KeepsX e w (w.alloc (.cells (enc x).toArray e)) := Below.keepsX (below_fresh w _) e
    refine h v' w1 ⟨?_, hown.2⟩ (((Below.refl _ _).alloc hb _).grown hg1 (by simp; omega) (fun k hk => (World.ownsRow.lt hown.1 k hk).1)) (hk0.trans (by simp) (keepsX_grown (World.ownsRow.alloc hown.1 _) hg1)) ?_ ?_
    · rw [cellsOf_append, List.length_append]
      simpa [cellsOf] using ho1
    · intro k hk hne
      rw [hg1.block k (by simp; omega) hne.symm, (below_fresh w _).block k hk]
    · intro g hgv
      rcases hat with h1 | h1
      · exact .inl (by rw [← h1]; exact hgv)
      · refine .inr ?_
        rw [h1] at hgv
        injection hgv with hgv
        simp at hgv
        omega
theorem Dj.app {u v u' : Value} {n : Nat} (h : Dj u v) (hu : ∀ g, u'.ownBlock = some g → u.ownBlock = some g ∨ n ≤ g) (hv : ∀ g, v.ownBlock = some g → g < n) : Dj u' v := fun g h1 h2 => by
  rcases hu g h1 with h3 | h3
  · exact h g h3 h2
  · have := hv g h2; omega

/-! The sorts, of lists that may be empty. -/
set_option maxRecDepth 100000 in
theorem cSortI0 (w : World) (base : Nat) (v : Value) (xs : List Int) (h : OwnI base w v xs) (hl : xs.length ≤ 1000000) :
    Calls Tryz.prog 45 #[v] w fun e w' => e = .returned (.tuple #[]) ∧ OwnI base w' v (xs.mergeSort fun x y => decide (x ≤ y)) ∧ Below base w w' ∧ Oth v w w' := by
  by_cases h0 : 0 < xs.length
  · exact (cSortI w base v xs h h0 hl).mono fun _ _ ⟨a, b⟩ => ⟨a, b.own, b.below, b.oth⟩
  · obtain rfl : xs = [] := List.eq_nil_of_length_eq_zero (by omega)
    obtain ⟨ad, c, rfl, _, _⟩ := h.rd.shape
    have hS := Any.slices_Sort_int_none Tryz.sortI ad c w
    change Calls Tryz.prog 45 _ _ _ at hS
    refine hS.mono ?_
    rintro e w' ⟨rfl, rfl⟩
    exact ⟨rfl, by simpa using h, Below.refl _ _, fun _ _ _ => rfl⟩
set_option maxRecDepth 100000 in
set_option maxHeartbeats 1000000 in
theorem cInsNone (ad : Option Addr) (c : Nat) (f : Value) (w : World) : Calls Tryz.prog 91 #[.slice ad 0 c, .int .i64 0, .int .i64 0, f] w fun e w' => e = .returned (.tuple #[]) ∧ w' = w := by
  go_enter Tryz.func91, Tryz.ntmps91
  go_wp2
  refine wp_loop_rounds 1 ?_
  rw [rounds_succ]
  go_wp2
  go_end0
  exact ⟨rfl, rfl⟩
set_option maxRecDepth 100000 in
set_option maxHeartbeats 2000000 in
theorem cPdqNone (ad : Option Addr) (c : Nat) (l : Int) (f : Value) (w : World) : Calls Tryz.prog 77 #[.slice ad 0 c, .int .i64 0, .int .i64 0, .int .i64 l, f] w fun e w' => e = .returned (.tuple #[]) ∧ w' = w := by
  have H := Lib.hid (cInsNone ad c f)
  go_enter Tryz.func77, Tryz.ntmps77
  go_wp2
  refine wp_loop_rounds 1 ?_
  rw [rounds_succ]
  go_wp2_with (go_at_call 91; refine (H.out _).mono ?_; rintro e w' ⟨rfl, rfl⟩)
  (try simp only [Exit.inBlock, Exit.then]); refine bodyPost_ret (results_none rfl _ _ _) rfl ?_
  exact ⟨rfl, rfl⟩
set_option maxRecDepth 100000 in
set_option maxHeartbeats 1000000 in
theorem cSortNone (ad : Option Addr) (c : Nat) (f : Value) (w : World) : Calls Tryz.prog 46 #[.slice ad 0 c, f] w fun e w' => e = .returned (.tuple #[]) ∧ w' = w := by
  have H := Lib.hid (fun l => cPdqNone ad c l f)
  have HL := Lib.hid (fun w => cBitsLen 0 w (by decide))
  go_enter Tryz.func46, Tryz.ntmps46
  go_wp2_with fail
  refine (HL.out _).mono ?_
  rintro e w' ⟨⟨l, rfl⟩, rfl⟩
  go_wp2_with fail
  refine (H.out _ _).mono ?_
  rintro e w' ⟨rfl, rfl⟩
  go_wp2
  go_end0
  exact ⟨rfl, rfl⟩
theorem ord_of {ys : List Ent} (h : ∀ (i j : Nat) (a b : Ent), i < j → ys[i]? = some a → ys[j]? = some b → ¬ cfW b a < 0) : MM.Ord ys := by
  intro i j a b hij ha hb
  have h1 := h i j a b hij ha hb
  unfold cfW orL orL orL cmpI at h1
  revert h1
  (repeat' split) <;> omega
set_option maxRecDepth 100000 in
theorem cSortW0 (w : World) (base : Nat) (v : Value) (xs : List Ent) (h : OwnW base w v xs) (hl : xs.length ≤ 12) :
    Calls Tryz.prog 46 #[v, .func (.func 47) #[] #[]] w fun e w' => e = .returned (.tuple #[]) ∧ ∃ ys : List Ent, OwnW base w' v ys ∧ ys.Perm xs ∧ MM.Ord ys ∧ Below base w w' ∧ Oth v w w' := by
  by_cases h0 : 0 < xs.length
  · exact (cSortW w base v xs h h0 hl).mono fun _ _ ⟨a, ys, b, c, d⟩ => ⟨a, ys, b.own, c, ord_of d, b.below, b.oth⟩
  · obtain rfl : xs = [] := List.eq_nil_of_length_eq_zero (by omega)
    obtain ⟨ad, c, rfl, _, _⟩ := h.rd.shape
    refine (cSortNone ad c _ w).mono ?_
    rintro e w' ⟨rfl, rfl⟩
    exact ⟨rfl, [], h, List.Perm.refl _, (fun i j a b _ ha _ => by cases ha), Below.refl _ _, fun _ _ _ => rfl⟩

/-! Of. -/
theorem of_ret {R : Ending → World → Prop} {a : Act} {w : World} {g : Nat} {x y z : Value} {k c f v a' n : Int} (hp : a.tmps.getD 2 undef = .pointer (some ⟨g, 0, none⟩)) (hg : w.heap[g]? = some (.cells (s9 x y z k c f v a' n) 37 (0, 0)))
    (hd : a.defers = []) (hR : R (.returned (sv x y z k c f v a' n)) w) : bodyPost Tryz.prog Tryz.f20 R .ret a w :=
  bodyPost_ret (results_cell_row (P := Tryz.prog) rfl a.tmps w g 37 _ _ _ hp hg Tryz.underlying37 rfl (by kernel_rfl)) hd hR
theorem row7_at {w : World} {g : Nat} {t : TypeId} {a0 a1 a2 a3 a4 a5 a6 : Value} (h : w.heap[g]? = some (.cells #[a0, a1, a2, a3, a4, a5, a6] t (0, 0))) :
    w.cell? ⟨g, 0, none⟩ = some a0 ∧ w.cell? ⟨g, 1, none⟩ = some a1 ∧ w.cell? ⟨g, 2, none⟩ = some a2 ∧ w.cell? ⟨g, 3, none⟩ = some a3 ∧ w.cell? ⟨g, 4, none⟩ = some a4 ∧ w.cell? ⟨g, 5, none⟩ = some a5 ∧ w.cell? ⟨g, 6, none⟩ = some a6 := by
  refine ⟨?_, ?_, ?_, ?_, ?_, ?_, ?_⟩
  all_goals (simp [World.cell?, h]; done)
abbrev pCells (ad nu : Int) (u : Value) : Array Value := #[.int .i64 ad, .int .i64 nu, u]
abbrev cCells (k s t v x y z : Int) : Array Value := #[.int .i64 k, .int .i64 s, .int .i64 t, .int .i64 v, .int .i64 x, .int .i64 y, .int .i64 z]
/-- The boxes of Of: the proposal, the result, the summary. -/
theorem of_boxes (w : World) (ad nu : Int) (u : Value) :
    ∃ w3, ((w.alloc (.cells (pCells ad nu u) 45)).alloc (.cells (s9 (.slice none 0 0) (.slice none 0 0) (.slice none 0 0) 0 0 0 0 0 0) 37)).alloc (.cells (s9 (.slice none 0 0) (.slice none 0 0) (.slice none 0 0) 0 0 0 0 0 0) 37) = w3 ∧ Below w.heap.size w w3 ∧ w3.heap.size = w.heap.size + 3 ∧
      w3.heap[w.heap.size]? = some (.cells (pCells ad nu u) 45 (0, 0)) ∧
      w3.heap[w.heap.size + 1]? = some (.cells (s9 (.slice none 0 0) (.slice none 0 0) (.slice none 0 0) 0 0 0 0 0 0) 37 (0, 0)) ∧
      w3.heap[w.heap.size + 1 + 1]? = some (.cells (s9 (.slice none 0 0) (.slice none 0 0) (.slice none 0 0) 0 0 0 0 0 0) 37 (0, 0)) := by
  have h1 := heap_alloc_new w (.cells (pCells ad nu u) 45)
  have b1 := below_fresh w (.cells (pCells ad nu u) 45)
  have z1 := World.size_alloc w (.cells (pCells ad nu u) 45)
  generalize w.alloc (.cells (pCells ad nu u) 45) = w1 at *
  have h2 := heap_alloc_new w1 (.cells (s9 (.slice none 0 0) (.slice none 0 0) (.slice none 0 0) 0 0 0 0 0 0) 37)
  have b2 := below_fresh w1 (.cells (s9 (.slice none 0 0) (.slice none 0 0) (.slice none 0 0) 0 0 0 0 0 0) 37)
  have z2 := World.size_alloc w1 (.cells (s9 (.slice none 0 0) (.slice none 0 0) (.slice none 0 0) 0 0 0 0 0 0) 37)
  generalize w1.alloc (.cells (s9 (.slice none 0 0) (.slice none 0 0) (.slice none 0 0) 0 0 0 0 0 0) 37) = w2 at *
  have h3 := heap_alloc_new w2 (.cells (s9 (.slice none 0 0) (.slice none 0 0) (.slice none 0 0) 0 0 0 0 0 0) 37)
  have b3 := below_fresh w2 (.cells (s9 (.slice none 0 0) (.slice none 0 0) (.slice none 0 0) 0 0 0 0 0 0) 37)
  have z3 := World.size_alloc w2 (.cells (s9 (.slice none 0 0) (.slice none 0 0) (.slice none 0 0) 0 0 0 0 0 0) 37)
  refine ⟨_, rfl, bnext b1 (bnext b2 b3), by omega, below_block (below_block h1 b2) b3, ?_, ?_⟩
  · rw [← z1]; exact below_block h2 b3
  · rw [← z1, ← z2]; exact h3

set_option maxRecDepth 100000 in
set_option maxHeartbeats 8000000 in
theorem cOf (ad nu : Int) (u : Value) (cs : List Chg) (w : World) (h : RdC w u cs) (hv : JM.errP ad nu cs = 0) :
    Calls Tryz.prog 20 #[pv ad nu u] w fun e w' => ∃ v, e = .returned v ∧ FrS w.heap.size w' v (MM.ofP ad nu cs) ∧ Below w.heap.size w w' := by
  obtain ⟨au, cu, rfl, hcu, hlu⟩ := h.shape
  obtain ⟨w3, hw3, hB, hsz, hP, hZ, hS⟩ := of_boxes w ad nu (.slice au cs.length cu)
  have H := Lib.hid h
  have HV := Lib.hid (MM.errP_zero hv).2.2
  have HW := Lib.hid hw3
  have HB := Lib.hid hB
  have HSZ := Lib.hid hsz
  have HP := Lib.hid hP
  have HZ := Lib.hid hZ
  have HS := Lib.hid hS
  have HI0 := Lib.hid (show OwnI w3.heap.size w3 (.slice none 0 0) [] from OwnG.nil hlI _ _ _)
  have HE0 := Lib.hid (show OwnW w3.heap.size w3 (.slice none 0 0) [] from OwnG.nil hlW _ _ _)
  have HD0 := Lib.hid (show Dj (.slice none 0 0) (.slice none 0 0) from fun g h => by cases h)
  clear h hv hw3 hB hsz hP hZ hS hcu hlu
  go_enter Tryz.func20, Tryz.ntmps20
  go_wp2
  rw [HW.out]
  go_loopw [9] (fun i wr => ∃ (j : Nat) (vJ vR vW : Value) (S : Sm), j ≤ cs.length ∧ i = .int .i64 j ∧ Hid (S = MM.rawP ad nu (cs.take j)) ∧ Hid (Below w.heap.size w wr) ∧ Hid (w3.heap.size ≤ wr.heap.size) ∧
    Hid (wr.heap[w.heap.size]? = some (.cells (pCells ad nu (.slice au cs.length cu)) 45 (0, 0))) ∧
    Hid (wr.heap[w.heap.size + 1]? = some (.cells (s9 (.slice none 0 0) (.slice none 0 0) (.slice none 0 0) 0 0 0 0 0 0) 37 (0, 0))) ∧
    Hid (wr.heap[w.heap.size + 1 + 1]? = some (.cells (s9 vJ vR vW S.k S.c S.f S.v S.a S.n) 37 (0, 0))) ∧
    Hid (OwnI w3.heap.size wr vJ S.J) ∧ Hid (OwnI w3.heap.size wr vR S.R) ∧ Hid (OwnW w3.heap.size wr vW S.W) ∧ Hid (Dj vJ vR)) (fun i _ => cs.length - (intOf i).toNat)
  case atStart => exact ⟨0, _, _, _, MM.emp, Nat.zero_le _, rfl, Lib.hid (by rw [List.take_zero]; rfl), HB, Lib.hid (Nat.le_refl _), HP, HZ, HS, HI0, HI0, HE0, HD0⟩
  case round =>
    obtain ⟨j, vJ, vR, vW, ⟨Jl, Rl, Wl, rk, rc, rf, rv, ra, rn⟩, hj, rfl, hraw, hb, hs3, hp, hz, hsb, hoj, hor, how, hdj⟩ := hrel
    dsimp only at hsb hoj hor how
    clear HI0 HE0 HD0 HB HW HP HZ HS
    obtain ⟨ai, li, ci, hvi⟩ : ∃ a l c, vJ = .slice a l c := by obtain ⟨a, c, h, _⟩ := hoj.out.rd.shape; exact ⟨a, _, c, h⟩
    obtain ⟨ar, lr, cr, hvr⟩ : ∃ a l c, vR = .slice a l c := by obtain ⟨a, c, h, _⟩ := hor.out.rd.shape; exact ⟨a, _, c, h⟩
    obtain ⟨ae, le, ce, hve⟩ : ∃ a l c, vW = .slice a l c := by obtain ⟨a, c, h, _⟩ := how.out.rd.shape; exact ⟨a, _, c, h⟩
    subst hvi hvr hve
    have HLEN := Lib.hid (show Jl.length ≤ 6 ∧ Rl.length ≤ 6 ∧ Wl.length ≤ 6 by
      have h1 := MM.rawP_len ad nu (cs.take j)
      rw [← hraw.out] at h1
      have h2 := HV.out.1
      rw [List.length_take] at h1
      dsimp only at h1
      omega)
    by_cases hlt : j < cs.length
    · obtain ⟨⟨k, s, t, v, x, y, z⟩, hx⟩ : ∃ m : Chg, m = cs[j] := ⟨_, rfl⟩
      have hx : cs[j]? = some (k, s, t, v, x, y, z) := by rw [hx]; exact List.getElem?_eq_getElem hlt
      obtain ⟨b, o, hi, c0, c1, c2, c3, c4, c5, c6⟩ := atC (H.out.below hb.out) j _ _ _ _ _ _ _ hx
      have hq : (j : Int) < (cs.length : Int) := by omega
      have hjb : (j : Int) ≤ 1000000 := by have := HV.out.1; omega
      have HN := Lib.hid (show MM.stpC ad nu ⟨Jl, Rl, Wl, rk, rc, rf, rv, ra, rn⟩ (k, s, t, v, x, y, z) = MM.rawP ad nu (cs.take (j + 1)) by rw [MM.rawP_take ad nu cs j _ hx, hraw.out])
      have hc := MM.chg_zero ((MM.errS_zero HV.out.2).1 _ (List.mem_of_getElem? hx)).1
      -- the change's box
      have hfr := below_fresh wr (.cells (cCells k s t v x y z) 50)
      have hsn := World.size_alloc wr (.cells (cCells k s t v x y z) 50)
      have hxb := heap_alloc_new wr (.cells (cCells k s t v x y z) 50)
      obtain ⟨X, hX⟩ : ∃ X, X = wr.heap.size := ⟨_, rfl⟩
      have x0 : (wr.alloc (.cells (cCells k s t v x y z) 50)).cell? ⟨wr.heap.size, 0, none⟩ = some (.int .i64 k) := by simp [World.cell?_alloc_new]
      have x1 : (wr.alloc (.cells (cCells k s t v x y z) 50)).cell? ⟨wr.heap.size, 1, none⟩ = some (.int .i64 s) := by simp [World.cell?_alloc_new]
      have HWN := Lib.hid (show ∃ wn, wr.alloc (.cells (cCells k s t v x y z) 50) = wn from ⟨_, rfl⟩)
      generalize hwn : wr.alloc (.cells (cCells k s t v x y z) 50) = wn at hfr hsn hxb x0 x1
      clear HWN
      have HXB := Lib.hid hxb
      have HXW := Lib.hid (show w.heap.size + 1 + 1 < wr.heap.size by have := hs3.out; have := HSZ.out; omega)
      have HP1 := Lib.hid (below_block hp.out hfr)
      have HZ1 := Lib.hid (below_block hz.out hfr)
      have HS1 := Lib.hid (below_block hsb.out hfr)
      have HJ1 := Lib.hid (hoj.out.below hfr)
      have HR1 := Lib.hid (hor.out.below hfr)
      have HW1 := Lib.hid (how.out.below hfr)
      have HB1 := Lib.hid (bnext hb.out hfr)
      have hsz1 : w3.heap.size ≤ wn.heap.size := by have := hs3.out; omega
      have HSZ1 := Lib.hid hsz1
      have HWE := Lib.hid (fun w0 => cWeightEntry ad nu (.slice au cs.length cu) k s t v x y z w0)
      obtain ⟨⟨z0, z1, z2, z3, z4, z5, z6, z7, z8⟩, f0, f1, f2, f3, f4, f5, f6, f7, f8⟩ := row9_at HS1.out
      clear hfr hsn hxb hb hs3 hp hz hsb hoj hor how hraw hX hx
      rcases hc with ⟨rfl, h1, h2, rfl⟩ | ⟨rfl, h1⟩ | ⟨rfl, h1, h2, h3⟩ | ⟨rfl, h1, h2⟩
      · clear h1 h2
        have HN := Lib.hid (show (⟨Jl ++ [s], Rl, Wl ++ [(s, t, 0, ad, nu)], rk, rc, rf, rv, ra, rn⟩ : Sm) = MM.rawP ad nu (cs.take (j + 1)) by rw [← HN.out]; rfl)
        go_wp2_with (at_builtin; refine wp_appG1N intE s rfl _ _ rfl rfl HJ1.out rfl (by have := HLEN.out; omega) hsz1 ?_)
        intro v1 w1 ho hbl hkx hoth hob
        obtain ⟨a1, l1, c1', hv1⟩ : ∃ a l c, v1 = .slice a l c := by obtain ⟨a, c, h, _⟩ := ho.rd.shape; exact ⟨a, _, c, h⟩
        subst hv1
        have hpx := own_ne HJ1.out HP1.out (by decide)
        have hzx := own_ne HJ1.out HZ1.out (by decide)
        have hsx := own_ne HJ1.out HS1.out (by decide)
        have hxx := own_ne HJ1.out HXB.out (by decide)
        have hp1 := hoth.at HP1.out hpx
        have hz1 := hoth.at HZ1.out hzx
        have hs1 := hoth.at HS1.out hsx
        have hx1 := hoth.at HXB.out hxx
        have hj1 := ho
        have hr1 := HR1.out.oth hoth hdj.out
        have hd1 : Dj (.slice a1 l1 c1') (.slice ar lr cr) := hdj.out.app hob (fun g hg => (HR1.out.lt g hg).2)
        have hw1 := HW1.out.oth hoth (own_own_ne HW1.out HJ1.out (by decide))
        have hb1 := HB1.out.trans (hbl.mono (by have := HSZ.out; omega))
        obtain ⟨⟨y0, y1, y2, y3, y4, y5, y6, y7, y8⟩, g0, g1, g2, g3, g4, g5, g6, g7, g8⟩ := row9_at hs1
        obtain ⟨e0, e1, e2, e3, e4, e5, e6⟩ := row7_at hx1
        have hs2 : (w1.setCell ⟨w.heap.size + 1 + 1, 0, none⟩ (.slice a1 l1 c1')).heap[w.heap.size + 1 + 1]? = some (.cells (s9 (.slice a1 l1 c1') (.slice ar lr cr) (.slice ae le ce) rk rc rf rv ra rn) 37 (0, 0)) := heap_setCell_same w1 _ 0 _ _ _ hs1
        have ho2 : Only (w.heap.size + 1 + 1) w1 (w1.setCell ⟨w.heap.size + 1 + 1, 0, none⟩ (.slice a1 l1 c1')) := Only.set 0 _
        have HS2 := Lib.hid hs2
        have HP2 := Lib.hid (ho2.at hp1 (by omega))
        have HZ2 := Lib.hid (ho2.at hz1 (by omega))
        have HX2 := Lib.hid (ho2.at hx1 (by have := HXW.out; omega))
        have HJ2 := Lib.hid (ownG_only hj1 hs1 (by decide) ho2)
        have HR2 := Lib.hid (ownG_only hr1 hs1 (by decide) ho2)
        have HW2 := Lib.hid (ownG_only hw1 hs1 (by decide) ho2)
        have HB2 := Lib.hid (hb1.trans (ho2.below (by omega) hb1.size))
        have HSZ2 := Lib.hid (Nat.le_trans (Nat.le_trans hsz1 hbl.size) ho2.size)
        have HD2 := Lib.hid hd1
        clear hpx hzx hsx hxx hp1 hz1 hs1 hx1 hj1 hr1 hd1 hw1 hb1 hs2 ho2 ho hbl hkx hoth hob HP1 HZ1 HS1 HXB HJ1 HR1 HW1 HB1 HSZ1 hdj
        go_wp2_with fail
        generalize (w1.setCell ⟨w.heap.size + 1 + 1, 0, none⟩ (.slice a1 l1 c1')) = w2 at HS2 HP2 HZ2 HX2 HJ2 HR2 HW2 HB2 HSZ2 ⊢
        clear y0 y1 y2 y3 y4 y5 y6 y7 y8 g0 g1 g2 g3 g4 g5 g6 g7 g8 e0 e1 e2 e3 e4 e5 e6
        clear x0 x1 z0 z1 z2 z3 z4 z5 z6 z7 z8 f0 f1 f2 f3 f4 f5 f6 f7 f8 c0 c1 c2 c3 c4 c5 c6 hi hsz1
        go_wp2
        obtain ⟨X, hX⟩ : ∃ X, X = wr.heap.size := ⟨_, rfl⟩
        rw [← hX] at HX2 ⊢
        have HXX := Lib.hid (show w.heap.size + 1 + 1 < X by rw [hX]; exact HXW.out)
        clear hX
        refine wp_region_held_drew (S := fun w' => w'.heap[w.heap.size]? = some (.cells (pCells ad nu (.slice au cs.length cu)) 45 (0, 0)) ∧ w'.heap[X]? = some (.cells (cCells 1 s t 0 x y z) 50 (0, 0))) (by kernel_rfl) ⟨HP2.out, HX2.out⟩ (fun _ => ?_)
        have hS : w2.drew.heap[w.heap.size]? = some (.cells (pCells ad nu (.slice au cs.length cu)) 45 (0, 0)) ∧ w2.drew.heap[X]? = some (.cells (cCells 1 s t 0 x y z) 50 (0, 0)) := ⟨HP2.out, HX2.out⟩
        replace HZ2 := Lib.hid (show w2.drew.heap[w.heap.size + 1]? = some (.cells (s9 (.slice none 0 0) (.slice none 0 0) (.slice none 0 0) 0 0 0 0 0 0) 37 (0, 0)) from HZ2.out)
        replace HS2 := Lib.hid (show w2.drew.heap[w.heap.size + 1 + 1]? = some (.cells (s9 (.slice a1 l1 c1') (.slice ar lr cr) (.slice ae le ce) rk rc rf rv ra rn) 37 (0, 0)) from HS2.out)
        replace HW2 := Lib.hid (show OwnW w3.heap.size w2.drew (.slice ae le ce) Wl from HW2.out)
        replace HJ2 := Lib.hid (show OwnI w3.heap.size w2.drew (.slice a1 l1 c1') (Jl ++ [s]) from HJ2.out)
        replace HR2 := Lib.hid (show OwnI w3.heap.size w2.drew (.slice ar lr cr) Rl from HR2.out)
        replace HB2 := Lib.hid (show Below w.heap.size w w2.drew from HB2.out.drew)
        replace HSZ2 := Lib.hid (show w3.heap.size ≤ w2.drew.heap.size from HSZ2.out)
        clear HP2 HX2
        generalize w2.drew = wa at hS HZ2 HS2 HW2 HJ2 HR2 HB2 HSZ2 ⊢
        refine takeH (i := 0) (v := ?_) rfl (by kernel_rfl) (by kernel_rfl) (by kernel_rfl) (fun _ _ _ h => h) (Or.inl ⟨by rfl, ?_⟩) (by assumption) ?_
        rotate_left
        · (intro w hSw; (try dsimp only at hSw); go_simp; first | done | with_reducible rfl)
        (try simp only [Act.put, List.setIfInBounds_toArray, List.set_cons_zero, List.set_cons_succ])
        refine takeH (i := 2) (v := ?_) rfl (by kernel_rfl) (by kernel_rfl) (by kernel_rfl) (fun _ _ _ h => h) (Or.inl ⟨by rfl, ?_⟩) (by assumption) ?_
        rotate_left
        · (intro w hSw; (try dsimp only at hSw); obtain ⟨⟨q0, q1, q2⟩, _⟩ := row3_at hSw.1; go_simp; first | done | with_reducible rfl)
        (try simp only [Act.put, List.setIfInBounds_toArray, List.set_cons_zero, List.set_cons_succ])
        refine takeH (i := 3) (v := ?_) rfl (by kernel_rfl) (by kernel_rfl) (by kernel_rfl) (fun _ _ _ h => h) (Or.inl ⟨by rfl, ?_⟩) (by assumption) ?_
        rotate_left
        · (intro w hSw; (try dsimp only at hSw); obtain ⟨e0, e1, e2, e3, e4, e5, e6⟩ := row7_at hSw.2; go_simp; first | done | with_reducible rfl)
        (try simp only [Act.put, List.setIfInBounds_toArray, List.set_cons_zero, List.set_cons_succ])
        refine wpAnyH_ready (rs := [1, 4]) (by kernel_rfl) (by simp) ?_
        refine stepH rfl (fun K hK => ?_) (stepH rfl (fun K hK => ?_) AllReadyH.nil)
        · obtain ⟨⟨q0, q1, q2, q3, q4, q5, q6, q7, q8⟩, _⟩ := row9_at (HS2.out)
          go_simp
          refine hK.out _ _ (hS) (fun _ => ?_)
          clear hK K
          (try simp only [Act.put, List.setIfInBounds_toArray, List.set_cons_zero, List.set_cons_succ])
          clear q0 q1 q2 q3 q4 q5 q6 q7 q8
          refine wpAnyH_ready (rs := [4]) (by kernel_rfl) (by simp) ?_
          refine stepH rfl (fun K hK => ?_) AllReadyH.nil
          go_simp
          refine (HWE.out wa).mono ?_
          rintro e wb ⟨rfl, hq4⟩
          replace hS : wb.heap[w.heap.size]? = some (.cells (pCells ad nu (.slice au cs.length cu)) 45 (0, 0)) ∧ wb.heap[X]? = some (.cells (cCells 1 s t 0 x y z) 50 (0, 0)) := ⟨below_block hS.1 hq4, below_block hS.2 hq4⟩
          replace HZ2 := Lib.hid (below_block HZ2.out hq4)
          replace HS2 := Lib.hid (below_block HS2.out hq4)
          replace HW2 := Lib.hid (HW2.out.below hq4)
          replace HJ2 := Lib.hid (HJ2.out.below hq4)
          replace HR2 := Lib.hid (HR2.out.below hq4)
          replace HB2 := Lib.hid (bnext HB2.out hq4)
          replace HSZ2 := Lib.hid (Nat.le_trans HSZ2.out hq4.size)
          clear hq4
          go_wp2_with fail
          refine hK.out _ _ (hS) (fun _ => ?_)
          clear hK K
          (try simp only [Act.put, List.setIfInBounds_toArray, List.set_cons_zero, List.set_cons_succ])
          refine wpAnyH_ready (rs := [5]) (by kernel_rfl) (by simp) ?_
          refine stepH rfl (fun K hK => ?_) AllReadyH.nil
          go_simp
          have hSf : (wb.alloc (.cells #[.int .i64 s, .int .i64 t, .int .i64 0, .int .i64 ad, .int .i64 nu] 62)).heap[w.heap.size]? = some (.cells (pCells ad nu (.slice au cs.length cu)) 45 (0, 0)) ∧ (wb.alloc (.cells #[.int .i64 s, .int .i64 t, .int .i64 0, .int .i64 ad, .int .i64 nu] 62)).heap[X]? = some (.cells (cCells 1 s t 0 x y z) 50 (0, 0)) := ⟨below_block hS.1 (below_fresh _ _), below_block hS.2 (below_fresh _ _)⟩
          refine hK.out _ _ (hSf) (fun _ => ?_)
          clear hK K
          (try simp only [Act.put, List.setIfInBounds_toArray, List.set_cons_zero, List.set_cons_succ])
          refine wpAnyH_ready (rs := [6]) (by kernel_rfl) (by simp) ?_
          refine stepH rfl (fun K hK => ?_) AllReadyH.nil
          refine step_appG1 wgtE (s, t, 0, ad, nu) rfl (.tmp 25) (.tmp 29) rfl (by rfl) HW2.out (by rfl) (by have := HLEN.out; omega) HSZ2.out ?_
          intro v5 w5 ho5 hb5 hk5
          obtain ⟨a5, l5, c5, hv5⟩ : ∃ a l c, v5 = .slice a l c := (by obtain ⟨a, c, h, _⟩ := ho5.rd.shape; exact ⟨a, _, c, h⟩)
          subst hv5
          have hS5 : w5.heap[w.heap.size]? = some (.cells (pCells ad nu (.slice au cs.length cu)) 45 (0, 0)) ∧ w5.heap[X]? = some (.cells (cCells 1 s t 0 x y z) 50 (0, 0)) := ⟨hk5.at hS.1 (by decide), hk5.at hS.2 (by decide)⟩
          have hs5 := hk5.at HS2.out (by decide)
          have HZ5 := Lib.hid (hk5.at HZ2.out (by decide))
          have HJ5 := Lib.hid (ownG_keep HJ2.out hk5 (by decide))
          have HR5 := Lib.hid (ownG_keep HR2.out hk5 (by decide))
          have HB5 := Lib.hid (HB2.out.trans (hb5.mono (by have := HSZ.out; omega)))
          have HSZ5 := Lib.hid (Nat.le_trans HSZ2.out hb5.size)
          have HW5 := Lib.hid ho5
          clear ho5 hb5 hk5 HZ2 HS2 HW2 HJ2 HR2 HB2 HSZ2
          refine hK.out _ _ (hS5) (fun _ => ?_)
          clear hK K
          (try simp only [Act.put, List.setIfInBounds_toArray, List.set_cons_zero, List.set_cons_succ])
          refine takeH (i := 7) (v := ?_) rfl (by kernel_rfl) (by kernel_rfl) (by kernel_rfl) (fun _ _ _ h => h) (Or.inl ⟨by rfl, ?_⟩) (by assumption) ?_
          rotate_left
          · (intro w hSw; (try dsimp only at hSw); go_simp; first | done | with_reducible rfl)
          (try simp only [Act.put, List.setIfInBounds_toArray, List.set_cons_zero, List.set_cons_succ])
          obtain ⟨⟨y0, y1, y2, y3, y4, y5, y6, y7, y8⟩, g0, g1, g2, g3, g4, g5, g6, g7, g8⟩ := row9_at hs5
          have hs6 : (w5.setCell ⟨w.heap.size + 1 + 1, 2, none⟩ (.slice a5 l5 c5)).heap[w.heap.size + 1 + 1]? = some (.cells (s9 (.slice a1 l1 c1') (.slice ar lr cr) (.slice a5 l5 c5) rk rc rf rv ra rn) 37 (0, 0)) := heap_setCell_same w5 _ 2 _ _ _ hs5
          have ho6 : Only (w.heap.size + 1 + 1) w5 (w5.setCell ⟨w.heap.size + 1 + 1, 2, none⟩ (.slice a5 l5 c5)) := Only.set 2 _
          have hS6 : (w5.setCell ⟨w.heap.size + 1 + 1, 2, none⟩ (.slice a5 l5 c5)).heap[w.heap.size]? = some (.cells (pCells ad nu (.slice au cs.length cu)) 45 (0, 0)) ∧ (w5.setCell ⟨w.heap.size + 1 + 1, 2, none⟩ (.slice a5 l5 c5)).heap[X]? = some (.cells (cCells 1 s t 0 x y z) 50 (0, 0)) := ⟨ho6.at hS5.1 (by omega), ho6.at hS5.2 (by have := HXX.out; omega)⟩
          have HS6 := Lib.hid hs6
          have HZ6 := Lib.hid (ho6.at HZ5.out (by omega))
          have HP6 := Lib.hid hS6.1
          have HJ6 := Lib.hid (ownG_only HJ5.out hs5 (by decide) ho6)
          have HR6 := Lib.hid (ownG_only HR5.out hs5 (by decide) ho6)
          have HW6 := Lib.hid (ownG_only HW5.out hs5 (by decide) ho6)
          have HB6 := Lib.hid (HB5.out.trans (ho6.below (by omega) HB5.out.size))
          have HSZ6 := Lib.hid (Nat.le_trans HSZ5.out ho6.size)
          clear hs6 ho6 HZ5 HJ5 HR5 HB5 HSZ5 HW5
          refine wpAnyH_ready (rs := [8]) (by kernel_rfl) (by simp) ?_
          refine stepH rfl (fun K hK => ?_) AllReadyH.nil
          go_simp
          refine hK.out _ _ (hS6) (fun _ => ?_)
          clear hK K
          (try simp only [Act.put, List.setIfInBounds_toArray, List.set_cons_zero, List.set_cons_succ])
          refine wpAnyH_done (by kernel_rfl) ?_ _
          generalize (w5.setCell ⟨w.heap.size + 1 + 1, 2, none⟩ (.slice a5 l5 c5)) = w6 at HS6 HZ6 HP6 HJ6 HR6 HW6 HB6 HSZ6 ⊢
          clear y0 y1 y2 y3 y4 y5 y6 y7 y8 g0 g1 g2 g3 g4 g5 g6 g7 g8 hs5
          go_wp2
          go_roundw
          case rel => exact ⟨j + 1, _, _, _, _, by omega, by go_num, HN, HB6, HSZ6, HP6, HZ6, HS6, HJ6, HR6, HW6, HD2⟩
          case measure => simp [intOf]; omega
        · go_simp
          refine (HWE.out wa).mono ?_
          rintro e wb ⟨rfl, hq4⟩
          replace hS : wb.heap[w.heap.size]? = some (.cells (pCells ad nu (.slice au cs.length cu)) 45 (0, 0)) ∧ wb.heap[X]? = some (.cells (cCells 1 s t 0 x y z) 50 (0, 0)) := ⟨below_block hS.1 hq4, below_block hS.2 hq4⟩
          replace HZ2 := Lib.hid (below_block HZ2.out hq4)
          replace HS2 := Lib.hid (below_block HS2.out hq4)
          replace HW2 := Lib.hid (HW2.out.below hq4)
          replace HJ2 := Lib.hid (HJ2.out.below hq4)
          replace HR2 := Lib.hid (HR2.out.below hq4)
          replace HB2 := Lib.hid (bnext HB2.out hq4)
          replace HSZ2 := Lib.hid (Nat.le_trans HSZ2.out hq4.size)
          clear hq4
          go_wp2_with fail
          refine hK.out _ _ (hS) (fun _ => ?_)
          clear hK K
          (try simp only [Act.put, List.setIfInBounds_toArray, List.set_cons_zero, List.set_cons_succ])
          refine wpAnyH_ready (rs := [1, 5]) (by kernel_rfl) (by simp) ?_
          refine stepH rfl (fun K hK => ?_) (stepH rfl (fun K hK => ?_) AllReadyH.nil)
          · obtain ⟨⟨q0, q1, q2, q3, q4, q5, q6, q7, q8⟩, _⟩ := row9_at (HS2.out)
            go_simp
            refine hK.out _ _ (hS) (fun _ => ?_)
            clear hK K
            (try simp only [Act.put, List.setIfInBounds_toArray, List.set_cons_zero, List.set_cons_succ])
            clear q0 q1 q2 q3 q4 q5 q6 q7 q8
            refine wpAnyH_ready (rs := [5]) (by kernel_rfl) (by simp) ?_
            refine stepH rfl (fun K hK => ?_) AllReadyH.nil
            go_simp
            have hSf : (wb.alloc (.cells #[.int .i64 s, .int .i64 t, .int .i64 0, .int .i64 ad, .int .i64 nu] 62)).heap[w.heap.size]? = some (.cells (pCells ad nu (.slice au cs.length cu)) 45 (0, 0)) ∧ (wb.alloc (.cells #[.int .i64 s, .int .i64 t, .int .i64 0, .int .i64 ad, .int .i64 nu] 62)).heap[X]? = some (.cells (cCells 1 s t 0 x y z) 50 (0, 0)) := ⟨below_block hS.1 (below_fresh _ _), below_block hS.2 (below_fresh _ _)⟩
            refine hK.out _ _ (hSf) (fun _ => ?_)
            clear hK K
            (try simp only [Act.put, List.setIfInBounds_toArray, List.set_cons_zero, List.set_cons_succ])
            refine wpAnyH_ready (rs := [6]) (by kernel_rfl) (by simp) ?_
            refine stepH rfl (fun K hK => ?_) AllReadyH.nil
            refine step_appG1 wgtE (s, t, 0, ad, nu) rfl (.tmp 25) (.tmp 29) rfl (by rfl) HW2.out (by rfl) (by have := HLEN.out; omega) HSZ2.out ?_
            intro v5 w5 ho5 hb5 hk5
            obtain ⟨a5, l5, c5, hv5⟩ : ∃ a l c, v5 = .slice a l c := (by obtain ⟨a, c, h, _⟩ := ho5.rd.shape; exact ⟨a, _, c, h⟩)
            subst hv5
            have hS5 : w5.heap[w.heap.size]? = some (.cells (pCells ad nu (.slice au cs.length cu)) 45 (0, 0)) ∧ w5.heap[X]? = some (.cells (cCells 1 s t 0 x y z) 50 (0, 0)) := ⟨hk5.at hS.1 (by decide), hk5.at hS.2 (by decide)⟩
            have hs5 := hk5.at HS2.out (by decide)
            have HZ5 := Lib.hid (hk5.at HZ2.out (by decide))
            have HJ5 := Lib.hid (ownG_keep HJ2.out hk5 (by decide))
            have HR5 := Lib.hid (ownG_keep HR2.out hk5 (by decide))
            have HB5 := Lib.hid (HB2.out.trans (hb5.mono (by have := HSZ.out; omega)))
            have HSZ5 := Lib.hid (Nat.le_trans HSZ2.out hb5.size)
            have HW5 := Lib.hid ho5
            clear ho5 hb5 hk5 HZ2 HS2 HW2 HJ2 HR2 HB2 HSZ2
            refine hK.out _ _ (hS5) (fun _ => ?_)
            clear hK K
            (try simp only [Act.put, List.setIfInBounds_toArray, List.set_cons_zero, List.set_cons_succ])
            refine takeH (i := 7) (v := ?_) rfl (by kernel_rfl) (by kernel_rfl) (by kernel_rfl) (fun _ _ _ h => h) (Or.inl ⟨by rfl, ?_⟩) (by assumption) ?_
            rotate_left
            · (intro w hSw; (try dsimp only at hSw); go_simp; first | done | with_reducible rfl)
            (try simp only [Act.put, List.setIfInBounds_toArray, List.set_cons_zero, List.set_cons_succ])
            obtain ⟨⟨y0, y1, y2, y3, y4, y5, y6, y7, y8⟩, g0, g1, g2, g3, g4, g5, g6, g7, g8⟩ := row9_at hs5
            have hs6 : (w5.setCell ⟨w.heap.size + 1 + 1, 2, none⟩ (.slice a5 l5 c5)).heap[w.heap.size + 1 + 1]? = some (.cells (s9 (.slice a1 l1 c1') (.slice ar lr cr) (.slice a5 l5 c5) rk rc rf rv ra rn) 37 (0, 0)) := heap_setCell_same w5 _ 2 _ _ _ hs5
            have ho6 : Only (w.heap.size + 1 + 1) w5 (w5.setCell ⟨w.heap.size + 1 + 1, 2, none⟩ (.slice a5 l5 c5)) := Only.set 2 _
            have hS6 : (w5.setCell ⟨w.heap.size + 1 + 1, 2, none⟩ (.slice a5 l5 c5)).heap[w.heap.size]? = some (.cells (pCells ad nu (.slice au cs.length cu)) 45 (0, 0)) ∧ (w5.setCell ⟨w.heap.size + 1 + 1, 2, none⟩ (.slice a5 l5 c5)).heap[X]? = some (.cells (cCells 1 s t 0 x y z) 50 (0, 0)) := ⟨ho6.at hS5.1 (by omega), ho6.at hS5.2 (by have := HXX.out; omega)⟩
            have HS6 := Lib.hid hs6
            have HZ6 := Lib.hid (ho6.at HZ5.out (by omega))
            have HP6 := Lib.hid hS6.1
            have HJ6 := Lib.hid (ownG_only HJ5.out hs5 (by decide) ho6)
            have HR6 := Lib.hid (ownG_only HR5.out hs5 (by decide) ho6)
            have HW6 := Lib.hid (ownG_only HW5.out hs5 (by decide) ho6)
            have HB6 := Lib.hid (HB5.out.trans (ho6.below (by omega) HB5.out.size))
            have HSZ6 := Lib.hid (Nat.le_trans HSZ5.out ho6.size)
            clear hs6 ho6 HZ5 HJ5 HR5 HB5 HSZ5 HW5
            refine wpAnyH_ready (rs := [8]) (by kernel_rfl) (by simp) ?_
            refine stepH rfl (fun K hK => ?_) AllReadyH.nil
            go_simp
            refine hK.out _ _ (hS6) (fun _ => ?_)
            clear hK K
            (try simp only [Act.put, List.setIfInBounds_toArray, List.set_cons_zero, List.set_cons_succ])
            refine wpAnyH_done (by kernel_rfl) ?_ _
            generalize (w5.setCell ⟨w.heap.size + 1 + 1, 2, none⟩ (.slice a5 l5 c5)) = w6 at HS6 HZ6 HP6 HJ6 HR6 HW6 HB6 HSZ6 ⊢
            clear y0 y1 y2 y3 y4 y5 y6 y7 y8 g0 g1 g2 g3 g4 g5 g6 g7 g8 hs5
            go_wp2
            go_roundw
            case rel => exact ⟨j + 1, _, _, _, _, by omega, by go_num, HN, HB6, HSZ6, HP6, HZ6, HS6, HJ6, HR6, HW6, HD2⟩
            case measure => simp [intOf]; omega
          · go_simp
            have hSf : (wb.alloc (.cells #[.int .i64 s, .int .i64 t, .int .i64 0, .int .i64 ad, .int .i64 nu] 62)).heap[w.heap.size]? = some (.cells (pCells ad nu (.slice au cs.length cu)) 45 (0, 0)) ∧ (wb.alloc (.cells #[.int .i64 s, .int .i64 t, .int .i64 0, .int .i64 ad, .int .i64 nu] 62)).heap[X]? = some (.cells (cCells 1 s t 0 x y z) 50 (0, 0)) := ⟨below_block hS.1 (below_fresh _ _), below_block hS.2 (below_fresh _ _)⟩
            refine hK.out _ _ (hSf) (fun _ => ?_)
            clear hK K
            (try simp only [Act.put, List.setIfInBounds_toArray, List.set_cons_zero, List.set_cons_succ])
            refine wpAnyH_ready (rs := [1]) (by kernel_rfl) (by simp) ?_
            refine stepH rfl (fun K hK => ?_) AllReadyH.nil
            obtain ⟨⟨q0, q1, q2, q3, q4, q5, q6, q7, q8⟩, _⟩ := row9_at (below_block HS2.out (below_fresh wb (.cells #[.int .i64 s, .int .i64 t, .int .i64 0, .int .i64 ad, .int .i64 nu] 62)))
            go_simp
            refine hK.out _ _ (hSf) (fun _ => ?_)
            clear hK K
            (try simp only [Act.put, List.setIfInBounds_toArray, List.set_cons_zero, List.set_cons_succ])
            clear q0 q1 q2 q3 q4 q5 q6 q7 q8
            refine wpAnyH_ready (rs := [6]) (by kernel_rfl) (by simp) ?_
            refine stepH rfl (fun K hK => ?_) AllReadyH.nil
            refine step_appG1 wgtE (s, t, 0, ad, nu) rfl (.tmp 25) (.tmp 29) rfl (by rfl) HW2.out (by rfl) (by have := HLEN.out; omega) HSZ2.out ?_
            intro v5 w5 ho5 hb5 hk5
            obtain ⟨a5, l5, c5, hv5⟩ : ∃ a l c, v5 = .slice a l c := (by obtain ⟨a, c, h, _⟩ := ho5.rd.shape; exact ⟨a, _, c, h⟩)
            subst hv5
            have hS5 : w5.heap[w.heap.size]? = some (.cells (pCells ad nu (.slice au cs.length cu)) 45 (0, 0)) ∧ w5.heap[X]? = some (.cells (cCells 1 s t 0 x y z) 50 (0, 0)) := ⟨hk5.at hS.1 (by decide), hk5.at hS.2 (by decide)⟩
            have hs5 := hk5.at HS2.out (by decide)
            have HZ5 := Lib.hid (hk5.at HZ2.out (by decide))
            have HJ5 := Lib.hid (ownG_keep HJ2.out hk5 (by decide))
            have HR5 := Lib.hid (ownG_keep HR2.out hk5 (by decide))
            have HB5 := Lib.hid (HB2.out.trans (hb5.mono (by have := HSZ.out; omega)))
            have HSZ5 := Lib.hid (Nat.le_trans HSZ2.out hb5.size)
            have HW5 := Lib.hid ho5
            clear ho5 hb5 hk5 HZ2 HS2 HW2 HJ2 HR2 HB2 HSZ2
            refine hK.out _ _ (hS5) (fun _ => ?_)
            clear hK K
            (try simp only [Act.put, List.setIfInBounds_toArray, List.set_cons_zero, List.set_cons_succ])
            refine takeH (i := 7) (v := ?_) rfl (by kernel_rfl) (by kernel_rfl) (by kernel_rfl) (fun _ _ _ h => h) (Or.inl ⟨by rfl, ?_⟩) (by assumption) ?_
            rotate_left
            · (intro w hSw; (try dsimp only at hSw); go_simp; first | done | with_reducible rfl)
            (try simp only [Act.put, List.setIfInBounds_toArray, List.set_cons_zero, List.set_cons_succ])
            obtain ⟨⟨y0, y1, y2, y3, y4, y5, y6, y7, y8⟩, g0, g1, g2, g3, g4, g5, g6, g7, g8⟩ := row9_at hs5
            have hs6 : (w5.setCell ⟨w.heap.size + 1 + 1, 2, none⟩ (.slice a5 l5 c5)).heap[w.heap.size + 1 + 1]? = some (.cells (s9 (.slice a1 l1 c1') (.slice ar lr cr) (.slice a5 l5 c5) rk rc rf rv ra rn) 37 (0, 0)) := heap_setCell_same w5 _ 2 _ _ _ hs5
            have ho6 : Only (w.heap.size + 1 + 1) w5 (w5.setCell ⟨w.heap.size + 1 + 1, 2, none⟩ (.slice a5 l5 c5)) := Only.set 2 _
            have hS6 : (w5.setCell ⟨w.heap.size + 1 + 1, 2, none⟩ (.slice a5 l5 c5)).heap[w.heap.size]? = some (.cells (pCells ad nu (.slice au cs.length cu)) 45 (0, 0)) ∧ (w5.setCell ⟨w.heap.size + 1 + 1, 2, none⟩ (.slice a5 l5 c5)).heap[X]? = some (.cells (cCells 1 s t 0 x y z) 50 (0, 0)) := ⟨ho6.at hS5.1 (by omega), ho6.at hS5.2 (by have := HXX.out; omega)⟩
            have HS6 := Lib.hid hs6
            have HZ6 := Lib.hid (ho6.at HZ5.out (by omega))
            have HP6 := Lib.hid hS6.1
            have HJ6 := Lib.hid (ownG_only HJ5.out hs5 (by decide) ho6)
            have HR6 := Lib.hid (ownG_only HR5.out hs5 (by decide) ho6)
            have HW6 := Lib.hid (ownG_only HW5.out hs5 (by decide) ho6)
            have HB6 := Lib.hid (HB5.out.trans (ho6.below (by omega) HB5.out.size))
            have HSZ6 := Lib.hid (Nat.le_trans HSZ5.out ho6.size)
            clear hs6 ho6 HZ5 HJ5 HR5 HB5 HSZ5 HW5
            refine wpAnyH_ready (rs := [8]) (by kernel_rfl) (by simp) ?_
            refine stepH rfl (fun K hK => ?_) AllReadyH.nil
            go_simp
            refine hK.out _ _ (hS6) (fun _ => ?_)
            clear hK K
            (try simp only [Act.put, List.setIfInBounds_toArray, List.set_cons_zero, List.set_cons_succ])
            refine wpAnyH_done (by kernel_rfl) ?_ _
            generalize (w5.setCell ⟨w.heap.size + 1 + 1, 2, none⟩ (.slice a5 l5 c5)) = w6 at HS6 HZ6 HP6 HJ6 HR6 HW6 HB6 HSZ6 ⊢
            clear y0 y1 y2 y3 y4 y5 y6 y7 y8 g0 g1 g2 g3 g4 g5 g6 g7 g8 hs5
            go_wp2
            go_roundw
            case rel => exact ⟨j + 1, _, _, _, _, by omega, by go_num, HN, HB6, HSZ6, HP6, HZ6, HS6, HJ6, HR6, HW6, HD2⟩
            case measure => simp [intOf]; omega
      · clear h1
        have HN := Lib.hid (show (⟨Jl, Rl ++ [s], Wl, rk, rc, rf, rv, ra, rn⟩ : Sm) = MM.rawP ad nu (cs.take (j + 1)) by rw [← HN.out]; rfl)
        go_wp2_with (at_builtin; refine wp_appG1N intE s rfl _ _ rfl rfl HR1.out rfl (by have := HLEN.out; omega) hsz1 ?_)
        intro v1 w1 ho hbl hkx hoth hob
        obtain ⟨a1, l1, c1', hv1⟩ : ∃ a l c, v1 = .slice a l c := by obtain ⟨a, c, h, _⟩ := ho.rd.shape; exact ⟨a, _, c, h⟩
        subst hv1
        have hpx := own_ne HR1.out HP1.out (by decide)
        have hzx := own_ne HR1.out HZ1.out (by decide)
        have hsx := own_ne HR1.out HS1.out (by decide)
        have hxx := own_ne HR1.out HXB.out (by decide)
        have hp1 := hoth.at HP1.out hpx
        have hz1 := hoth.at HZ1.out hzx
        have hs1 := hoth.at HS1.out hsx
        have hx1 := hoth.at HXB.out hxx
        have hr1 := ho
        have hj1 := HJ1.out.oth hoth hdj.out.symm
        have hd1 : Dj (.slice ai li ci) (.slice a1 l1 c1') := (hdj.out.symm.app hob (fun g hg => (HJ1.out.lt g hg).2)).symm
        have hw1 := HW1.out.oth hoth (own_own_ne HW1.out HR1.out (by decide))
        have hb1 := HB1.out.trans (hbl.mono (by have := HSZ.out; omega))
        obtain ⟨⟨y0, y1, y2, y3, y4, y5, y6, y7, y8⟩, g0, g1, g2, g3, g4, g5, g6, g7, g8⟩ := row9_at hs1
        obtain ⟨e0, e1, e2, e3, e4, e5, e6⟩ := row7_at hx1
        have hs2 : (w1.setCell ⟨w.heap.size + 1 + 1, 1, none⟩ (.slice a1 l1 c1')).heap[w.heap.size + 1 + 1]? = some (.cells (s9 (.slice ai li ci) (.slice a1 l1 c1') (.slice ae le ce) rk rc rf rv ra rn) 37 (0, 0)) := heap_setCell_same w1 _ 1 _ _ _ hs1
        have ho2 : Only (w.heap.size + 1 + 1) w1 (w1.setCell ⟨w.heap.size + 1 + 1, 1, none⟩ (.slice a1 l1 c1')) := Only.set 1 _
        have HS2 := Lib.hid hs2
        have HP2 := Lib.hid (ho2.at hp1 (by omega))
        have HZ2 := Lib.hid (ho2.at hz1 (by omega))
        have HX2 := Lib.hid (ho2.at hx1 (by have := HXW.out; omega))
        have HJ2 := Lib.hid (ownG_only hj1 hs1 (by decide) ho2)
        have HR2 := Lib.hid (ownG_only hr1 hs1 (by decide) ho2)
        have HW2 := Lib.hid (ownG_only hw1 hs1 (by decide) ho2)
        have HB2 := Lib.hid (hb1.trans (ho2.below (by omega) hb1.size))
        have HSZ2 := Lib.hid (Nat.le_trans (Nat.le_trans hsz1 hbl.size) ho2.size)
        have HD2 := Lib.hid hd1
        clear hpx hzx hsx hxx hp1 hz1 hs1 hx1 hj1 hr1 hd1 hw1 hb1 hs2 ho2 ho hbl hkx hoth hob HP1 HZ1 HS1 HXB HJ1 HR1 HW1 HB1 HSZ1 hdj
        go_wp2_with fail
        generalize (w1.setCell ⟨w.heap.size + 1 + 1, 1, none⟩ (.slice a1 l1 c1')) = w2 at HS2 HP2 HZ2 HX2 HJ2 HR2 HW2 HB2 HSZ2 ⊢
        clear y0 y1 y2 y3 y4 y5 y6 y7 y8 g0 g1 g2 g3 g4 g5 g6 g7 g8 e0 e1 e2 e3 e4 e5 e6
        clear x0 x1 z0 z1 z2 z3 z4 z5 z6 z7 z8 f0 f1 f2 f3 f4 f5 f6 f7 f8 c0 c1 c2 c3 c4 c5 c6 hi hsz1
        go_wp2
        go_roundw
        case rel => exact ⟨j + 1, _, _, _, _, by omega, by go_num, HN, HB2, HSZ2, HP2, HZ2, HS2, HJ2, HR2, HW2, HD2⟩
        case measure => simp [intOf]; omega
      · clear h1 h2 h3
        have HN := Lib.hid (show (⟨Jl, Rl, Wl ++ [(s, t, v, ad, nu)], rk, rc, rf, rv, ra, rn⟩ : Sm) = MM.rawP ad nu (cs.take (j + 1)) by rw [← HN.out]; rfl)
        go_wp2
        obtain ⟨w2, rfl⟩ : ∃ w2, w2 = wn := ⟨_, rfl⟩
        have HP2 := HP1
        have HZ2 := HZ1
        have HS2 := HS1
        have HX2 := HXB
        have HJ2 := HJ1
        have HR2 := HR1
        have HW2 := HW1
        have HB2 := HB1
        have HSZ2 := HSZ1
        have HD2 := hdj
        clear x0 x1 z0 z1 z2 z3 z4 z5 z6 z7 z8 f0 f1 f2 f3 f4 f5 f6 f7 f8 c0 c1 c2 c3 c4 c5 c6 hi hsz1 HP1 HZ1 HS1 HXB HJ1 HR1 HW1 HB1 HSZ1 hdj
        obtain ⟨X, hX⟩ : ∃ X, X = wr.heap.size := ⟨_, rfl⟩
        rw [← hX] at HX2 ⊢
        have HXX := Lib.hid (show w.heap.size + 1 + 1 < X by rw [hX]; exact HXW.out)
        clear hX
        refine wp_region_held_drew (S := fun w' => w'.heap[w.heap.size]? = some (.cells (pCells ad nu (.slice au cs.length cu)) 45 (0, 0)) ∧ w'.heap[X]? = some (.cells (cCells 3 s t v x y z) 50 (0, 0))) (by kernel_rfl) ⟨HP2.out, HX2.out⟩ (fun _ => ?_)
        have hS : w2.drew.heap[w.heap.size]? = some (.cells (pCells ad nu (.slice au cs.length cu)) 45 (0, 0)) ∧ w2.drew.heap[X]? = some (.cells (cCells 3 s t v x y z) 50 (0, 0)) := ⟨HP2.out, HX2.out⟩
        replace HZ2 := Lib.hid (show w2.drew.heap[w.heap.size + 1]? = some (.cells (s9 (.slice none 0 0) (.slice none 0 0) (.slice none 0 0) 0 0 0 0 0 0) 37 (0, 0)) from HZ2.out)
        replace HS2 := Lib.hid (show w2.drew.heap[w.heap.size + 1 + 1]? = some (.cells (s9 (.slice ai li ci) (.slice ar lr cr) (.slice ae le ce) rk rc rf rv ra rn) 37 (0, 0)) from HS2.out)
        replace HW2 := Lib.hid (show OwnW w3.heap.size w2.drew (.slice ae le ce) Wl from HW2.out)
        replace HJ2 := Lib.hid (show OwnI w3.heap.size w2.drew (.slice ai li ci) (Jl) from HJ2.out)
        replace HR2 := Lib.hid (show OwnI w3.heap.size w2.drew (.slice ar lr cr) Rl from HR2.out)
        replace HB2 := Lib.hid (show Below w.heap.size w w2.drew from HB2.out.drew)
        replace HSZ2 := Lib.hid (show w3.heap.size ≤ w2.drew.heap.size from HSZ2.out)
        clear HP2 HX2
        generalize w2.drew = wa at hS HZ2 HS2 HW2 HJ2 HR2 HB2 HSZ2 ⊢
        refine takeH (i := 0) (v := ?_) rfl (by kernel_rfl) (by kernel_rfl) (by kernel_rfl) (fun _ _ _ h => h) (Or.inl ⟨by rfl, ?_⟩) (by assumption) ?_
        rotate_left
        · (intro w hSw; (try dsimp only at hSw); go_simp; first | done | with_reducible rfl)
        (try simp only [Act.put, List.setIfInBounds_toArray, List.set_cons_zero, List.set_cons_succ])
        refine takeH (i := 2) (v := ?_) rfl (by kernel_rfl) (by kernel_rfl) (by kernel_rfl) (fun _ _ _ h => h) (Or.inl ⟨by rfl, ?_⟩) (by assumption) ?_
        rotate_left
        · (intro w hSw; (try dsimp only at hSw); obtain ⟨⟨q0, q1, q2⟩, _⟩ := row3_at hSw.1; go_simp; first | done | with_reducible rfl)
        (try simp only [Act.put, List.setIfInBounds_toArray, List.set_cons_zero, List.set_cons_succ])
        refine takeH (i := 3) (v := ?_) rfl (by kernel_rfl) (by kernel_rfl) (by kernel_rfl) (fun _ _ _ h => h) (Or.inl ⟨by rfl, ?_⟩) (by assumption) ?_
        rotate_left
        · (intro w hSw; (try dsimp only at hSw); obtain ⟨e0, e1, e2, e3, e4, e5, e6⟩ := row7_at hSw.2; go_simp; first | done | with_reducible rfl)
        (try simp only [Act.put, List.setIfInBounds_toArray, List.set_cons_zero, List.set_cons_succ])
        refine wpAnyH_ready (rs := [1, 4]) (by kernel_rfl) (by simp) ?_
        refine stepH rfl (fun K hK => ?_) (stepH rfl (fun K hK => ?_) AllReadyH.nil)
        · obtain ⟨⟨q0, q1, q2, q3, q4, q5, q6, q7, q8⟩, _⟩ := row9_at (HS2.out)
          go_simp
          refine hK.out _ _ (hS) (fun _ => ?_)
          clear hK K
          (try simp only [Act.put, List.setIfInBounds_toArray, List.set_cons_zero, List.set_cons_succ])
          clear q0 q1 q2 q3 q4 q5 q6 q7 q8
          refine wpAnyH_ready (rs := [4]) (by kernel_rfl) (by simp) ?_
          refine stepH rfl (fun K hK => ?_) AllReadyH.nil
          go_simp
          refine (HWE.out wa).mono ?_
          rintro e wb ⟨rfl, hq4⟩
          replace hS : wb.heap[w.heap.size]? = some (.cells (pCells ad nu (.slice au cs.length cu)) 45 (0, 0)) ∧ wb.heap[X]? = some (.cells (cCells 3 s t v x y z) 50 (0, 0)) := ⟨below_block hS.1 hq4, below_block hS.2 hq4⟩
          replace HZ2 := Lib.hid (below_block HZ2.out hq4)
          replace HS2 := Lib.hid (below_block HS2.out hq4)
          replace HW2 := Lib.hid (HW2.out.below hq4)
          replace HJ2 := Lib.hid (HJ2.out.below hq4)
          replace HR2 := Lib.hid (HR2.out.below hq4)
          replace HB2 := Lib.hid (bnext HB2.out hq4)
          replace HSZ2 := Lib.hid (Nat.le_trans HSZ2.out hq4.size)
          clear hq4
          go_wp2_with fail
          refine hK.out _ _ (hS) (fun _ => ?_)
          clear hK K
          (try simp only [Act.put, List.setIfInBounds_toArray, List.set_cons_zero, List.set_cons_succ])
          refine wpAnyH_ready (rs := [5]) (by kernel_rfl) (by simp) ?_
          refine stepH rfl (fun K hK => ?_) AllReadyH.nil
          go_simp
          have hSf : (wb.alloc (.cells #[.int .i64 s, .int .i64 t, .int .i64 v, .int .i64 ad, .int .i64 nu] 62)).heap[w.heap.size]? = some (.cells (pCells ad nu (.slice au cs.length cu)) 45 (0, 0)) ∧ (wb.alloc (.cells #[.int .i64 s, .int .i64 t, .int .i64 v, .int .i64 ad, .int .i64 nu] 62)).heap[X]? = some (.cells (cCells 3 s t v x y z) 50 (0, 0)) := ⟨below_block hS.1 (below_fresh _ _), below_block hS.2 (below_fresh _ _)⟩
          refine hK.out _ _ (hSf) (fun _ => ?_)
          clear hK K
          (try simp only [Act.put, List.setIfInBounds_toArray, List.set_cons_zero, List.set_cons_succ])
          refine wpAnyH_ready (rs := [6]) (by kernel_rfl) (by simp) ?_
          refine stepH rfl (fun K hK => ?_) AllReadyH.nil
          refine step_appG1 wgtE (s, t, v, ad, nu) rfl (.tmp 44) (.tmp 48) rfl (by rfl) HW2.out (by rfl) (by have := HLEN.out; omega) HSZ2.out ?_
          intro v5 w5 ho5 hb5 hk5
          obtain ⟨a5, l5, c5, hv5⟩ : ∃ a l c, v5 = .slice a l c := (by obtain ⟨a, c, h, _⟩ := ho5.rd.shape; exact ⟨a, _, c, h⟩)
          subst hv5
          have hS5 : w5.heap[w.heap.size]? = some (.cells (pCells ad nu (.slice au cs.length cu)) 45 (0, 0)) ∧ w5.heap[X]? = some (.cells (cCells 3 s t v x y z) 50 (0, 0)) := ⟨hk5.at hS.1 (by decide), hk5.at hS.2 (by decide)⟩
          have hs5 := hk5.at HS2.out (by decide)
          have HZ5 := Lib.hid (hk5.at HZ2.out (by decide))
          have HJ5 := Lib.hid (ownG_keep HJ2.out hk5 (by decide))
          have HR5 := Lib.hid (ownG_keep HR2.out hk5 (by decide))
          have HB5 := Lib.hid (HB2.out.trans (hb5.mono (by have := HSZ.out; omega)))
          have HSZ5 := Lib.hid (Nat.le_trans HSZ2.out hb5.size)
          have HW5 := Lib.hid ho5
          clear ho5 hb5 hk5 HZ2 HS2 HW2 HJ2 HR2 HB2 HSZ2
          refine hK.out _ _ (hS5) (fun _ => ?_)
          clear hK K
          (try simp only [Act.put, List.setIfInBounds_toArray, List.set_cons_zero, List.set_cons_succ])
          refine takeH (i := 7) (v := ?_) rfl (by kernel_rfl) (by kernel_rfl) (by kernel_rfl) (fun _ _ _ h => h) (Or.inl ⟨by rfl, ?_⟩) (by assumption) ?_
          rotate_left
          · (intro w hSw; (try dsimp only at hSw); go_simp; first | done | with_reducible rfl)
          (try simp only [Act.put, List.setIfInBounds_toArray, List.set_cons_zero, List.set_cons_succ])
          obtain ⟨⟨y0, y1, y2, y3, y4, y5, y6, y7, y8⟩, g0, g1, g2, g3, g4, g5, g6, g7, g8⟩ := row9_at hs5
          have hs6 : (w5.setCell ⟨w.heap.size + 1 + 1, 2, none⟩ (.slice a5 l5 c5)).heap[w.heap.size + 1 + 1]? = some (.cells (s9 (.slice ai li ci) (.slice ar lr cr) (.slice a5 l5 c5) rk rc rf rv ra rn) 37 (0, 0)) := heap_setCell_same w5 _ 2 _ _ _ hs5
          have ho6 : Only (w.heap.size + 1 + 1) w5 (w5.setCell ⟨w.heap.size + 1 + 1, 2, none⟩ (.slice a5 l5 c5)) := Only.set 2 _
          have hS6 : (w5.setCell ⟨w.heap.size + 1 + 1, 2, none⟩ (.slice a5 l5 c5)).heap[w.heap.size]? = some (.cells (pCells ad nu (.slice au cs.length cu)) 45 (0, 0)) ∧ (w5.setCell ⟨w.heap.size + 1 + 1, 2, none⟩ (.slice a5 l5 c5)).heap[X]? = some (.cells (cCells 3 s t v x y z) 50 (0, 0)) := ⟨ho6.at hS5.1 (by omega), ho6.at hS5.2 (by have := HXX.out; omega)⟩
          have HS6 := Lib.hid hs6
          have HZ6 := Lib.hid (ho6.at HZ5.out (by omega))
          have HP6 := Lib.hid hS6.1
          have HJ6 := Lib.hid (ownG_only HJ5.out hs5 (by decide) ho6)
          have HR6 := Lib.hid (ownG_only HR5.out hs5 (by decide) ho6)
          have HW6 := Lib.hid (ownG_only HW5.out hs5 (by decide) ho6)
          have HB6 := Lib.hid (HB5.out.trans (ho6.below (by omega) HB5.out.size))
          have HSZ6 := Lib.hid (Nat.le_trans HSZ5.out ho6.size)
          clear hs6 ho6 HZ5 HJ5 HR5 HB5 HSZ5 HW5
          refine wpAnyH_ready (rs := [8]) (by kernel_rfl) (by simp) ?_
          refine stepH rfl (fun K hK => ?_) AllReadyH.nil
          go_simp
          refine hK.out _ _ (hS6) (fun _ => ?_)
          clear hK K
          (try simp only [Act.put, List.setIfInBounds_toArray, List.set_cons_zero, List.set_cons_succ])
          refine wpAnyH_done (by kernel_rfl) ?_ _
          generalize (w5.setCell ⟨w.heap.size + 1 + 1, 2, none⟩ (.slice a5 l5 c5)) = w6 at HS6 HZ6 HP6 HJ6 HR6 HW6 HB6 HSZ6 ⊢
          clear y0 y1 y2 y3 y4 y5 y6 y7 y8 g0 g1 g2 g3 g4 g5 g6 g7 g8 hs5
          go_wp2
          go_roundw
          case rel => exact ⟨j + 1, _, _, _, _, by omega, by go_num, HN, HB6, HSZ6, HP6, HZ6, HS6, HJ6, HR6, HW6, HD2⟩
          case measure => simp [intOf]; omega
        · go_simp
          refine (HWE.out wa).mono ?_
          rintro e wb ⟨rfl, hq4⟩
          replace hS : wb.heap[w.heap.size]? = some (.cells (pCells ad nu (.slice au cs.length cu)) 45 (0, 0)) ∧ wb.heap[X]? = some (.cells (cCells 3 s t v x y z) 50 (0, 0)) := ⟨below_block hS.1 hq4, below_block hS.2 hq4⟩
          replace HZ2 := Lib.hid (below_block HZ2.out hq4)
          replace HS2 := Lib.hid (below_block HS2.out hq4)
          replace HW2 := Lib.hid (HW2.out.below hq4)
          replace HJ2 := Lib.hid (HJ2.out.below hq4)
          replace HR2 := Lib.hid (HR2.out.below hq4)
          replace HB2 := Lib.hid (bnext HB2.out hq4)
          replace HSZ2 := Lib.hid (Nat.le_trans HSZ2.out hq4.size)
          clear hq4
          go_wp2_with fail
          refine hK.out _ _ (hS) (fun _ => ?_)
          clear hK K
          (try simp only [Act.put, List.setIfInBounds_toArray, List.set_cons_zero, List.set_cons_succ])
          refine wpAnyH_ready (rs := [1, 5]) (by kernel_rfl) (by simp) ?_
          refine stepH rfl (fun K hK => ?_) (stepH rfl (fun K hK => ?_) AllReadyH.nil)
          · obtain ⟨⟨q0, q1, q2, q3, q4, q5, q6, q7, q8⟩, _⟩ := row9_at (HS2.out)
            go_simp
            refine hK.out _ _ (hS) (fun _ => ?_)
            clear hK K
            (try simp only [Act.put, List.setIfInBounds_toArray, List.set_cons_zero, List.set_cons_succ])
            clear q0 q1 q2 q3 q4 q5 q6 q7 q8
            refine wpAnyH_ready (rs := [5]) (by kernel_rfl) (by simp) ?_
            refine stepH rfl (fun K hK => ?_) AllReadyH.nil
            go_simp
            have hSf : (wb.alloc (.cells #[.int .i64 s, .int .i64 t, .int .i64 v, .int .i64 ad, .int .i64 nu] 62)).heap[w.heap.size]? = some (.cells (pCells ad nu (.slice au cs.length cu)) 45 (0, 0)) ∧ (wb.alloc (.cells #[.int .i64 s, .int .i64 t, .int .i64 v, .int .i64 ad, .int .i64 nu] 62)).heap[X]? = some (.cells (cCells 3 s t v x y z) 50 (0, 0)) := ⟨below_block hS.1 (below_fresh _ _), below_block hS.2 (below_fresh _ _)⟩
            refine hK.out _ _ (hSf) (fun _ => ?_)
            clear hK K
            (try simp only [Act.put, List.setIfInBounds_toArray, List.set_cons_zero, List.set_cons_succ])
            refine wpAnyH_ready (rs := [6]) (by kernel_rfl) (by simp) ?_
            refine stepH rfl (fun K hK => ?_) AllReadyH.nil
            refine step_appG1 wgtE (s, t, v, ad, nu) rfl (.tmp 44) (.tmp 48) rfl (by rfl) HW2.out (by rfl) (by have := HLEN.out; omega) HSZ2.out ?_
            intro v5 w5 ho5 hb5 hk5
            obtain ⟨a5, l5, c5, hv5⟩ : ∃ a l c, v5 = .slice a l c := (by obtain ⟨a, c, h, _⟩ := ho5.rd.shape; exact ⟨a, _, c, h⟩)
            subst hv5
            have hS5 : w5.heap[w.heap.size]? = some (.cells (pCells ad nu (.slice au cs.length cu)) 45 (0, 0)) ∧ w5.heap[X]? = some (.cells (cCells 3 s t v x y z) 50 (0, 0)) := ⟨hk5.at hS.1 (by decide), hk5.at hS.2 (by decide)⟩
            have hs5 := hk5.at HS2.out (by decide)
            have HZ5 := Lib.hid (hk5.at HZ2.out (by decide))
            have HJ5 := Lib.hid (ownG_keep HJ2.out hk5 (by decide))
            have HR5 := Lib.hid (ownG_keep HR2.out hk5 (by decide))
            have HB5 := Lib.hid (HB2.out.trans (hb5.mono (by have := HSZ.out; omega)))
            have HSZ5 := Lib.hid (Nat.le_trans HSZ2.out hb5.size)
            have HW5 := Lib.hid ho5
            clear ho5 hb5 hk5 HZ2 HS2 HW2 HJ2 HR2 HB2 HSZ2
            refine hK.out _ _ (hS5) (fun _ => ?_)
            clear hK K
            (try simp only [Act.put, List.setIfInBounds_toArray, List.set_cons_zero, List.set_cons_succ])
            refine takeH (i := 7) (v := ?_) rfl (by kernel_rfl) (by kernel_rfl) (by kernel_rfl) (fun _ _ _ h => h) (Or.inl ⟨by rfl, ?_⟩) (by assumption) ?_
            rotate_left
            · (intro w hSw; (try dsimp only at hSw); go_simp; first | done | with_reducible rfl)
            (try simp only [Act.put, List.setIfInBounds_toArray, List.set_cons_zero, List.set_cons_succ])
            obtain ⟨⟨y0, y1, y2, y3, y4, y5, y6, y7, y8⟩, g0, g1, g2, g3, g4, g5, g6, g7, g8⟩ := row9_at hs5
            have hs6 : (w5.setCell ⟨w.heap.size + 1 + 1, 2, none⟩ (.slice a5 l5 c5)).heap[w.heap.size + 1 + 1]? = some (.cells (s9 (.slice ai li ci) (.slice ar lr cr) (.slice a5 l5 c5) rk rc rf rv ra rn) 37 (0, 0)) := heap_setCell_same w5 _ 2 _ _ _ hs5
            have ho6 : Only (w.heap.size + 1 + 1) w5 (w5.setCell ⟨w.heap.size + 1 + 1, 2, none⟩ (.slice a5 l5 c5)) := Only.set 2 _
            have hS6 : (w5.setCell ⟨w.heap.size + 1 + 1, 2, none⟩ (.slice a5 l5 c5)).heap[w.heap.size]? = some (.cells (pCells ad nu (.slice au cs.length cu)) 45 (0, 0)) ∧ (w5.setCell ⟨w.heap.size + 1 + 1, 2, none⟩ (.slice a5 l5 c5)).heap[X]? = some (.cells (cCells 3 s t v x y z) 50 (0, 0)) := ⟨ho6.at hS5.1 (by omega), ho6.at hS5.2 (by have := HXX.out; omega)⟩
            have HS6 := Lib.hid hs6
            have HZ6 := Lib.hid (ho6.at HZ5.out (by omega))
            have HP6 := Lib.hid hS6.1
            have HJ6 := Lib.hid (ownG_only HJ5.out hs5 (by decide) ho6)
            have HR6 := Lib.hid (ownG_only HR5.out hs5 (by decide) ho6)
            have HW6 := Lib.hid (ownG_only HW5.out hs5 (by decide) ho6)
            have HB6 := Lib.hid (HB5.out.trans (ho6.below (by omega) HB5.out.size))
            have HSZ6 := Lib.hid (Nat.le_trans HSZ5.out ho6.size)
            clear hs6 ho6 HZ5 HJ5 HR5 HB5 HSZ5 HW5
            refine wpAnyH_ready (rs := [8]) (by kernel_rfl) (by simp) ?_
            refine stepH rfl (fun K hK => ?_) AllReadyH.nil
            go_simp
            refine hK.out _ _ (hS6) (fun _ => ?_)
            clear hK K
            (try simp only [Act.put, List.setIfInBounds_toArray, List.set_cons_zero, List.set_cons_succ])
            refine wpAnyH_done (by kernel_rfl) ?_ _
            generalize (w5.setCell ⟨w.heap.size + 1 + 1, 2, none⟩ (.slice a5 l5 c5)) = w6 at HS6 HZ6 HP6 HJ6 HR6 HW6 HB6 HSZ6 ⊢
            clear y0 y1 y2 y3 y4 y5 y6 y7 y8 g0 g1 g2 g3 g4 g5 g6 g7 g8 hs5
            go_wp2
            go_roundw
            case rel => exact ⟨j + 1, _, _, _, _, by omega, by go_num, HN, HB6, HSZ6, HP6, HZ6, HS6, HJ6, HR6, HW6, HD2⟩
            case measure => simp [intOf]; omega
          · go_simp
            have hSf : (wb.alloc (.cells #[.int .i64 s, .int .i64 t, .int .i64 v, .int .i64 ad, .int .i64 nu] 62)).heap[w.heap.size]? = some (.cells (pCells ad nu (.slice au cs.length cu)) 45 (0, 0)) ∧ (wb.alloc (.cells #[.int .i64 s, .int .i64 t, .int .i64 v, .int .i64 ad, .int .i64 nu] 62)).heap[X]? = some (.cells (cCells 3 s t v x y z) 50 (0, 0)) := ⟨below_block hS.1 (below_fresh _ _), below_block hS.2 (below_fresh _ _)⟩
            refine hK.out _ _ (hSf) (fun _ => ?_)
            clear hK K
            (try simp only [Act.put, List.setIfInBounds_toArray, List.set_cons_zero, List.set_cons_succ])
            refine wpAnyH_ready (rs := [1]) (by kernel_rfl) (by simp) ?_
            refine stepH rfl (fun K hK => ?_) AllReadyH.nil
            obtain ⟨⟨q0, q1, q2, q3, q4, q5, q6, q7, q8⟩, _⟩ := row9_at (below_block HS2.out (below_fresh wb (.cells #[.int .i64 s, .int .i64 t, .int .i64 v, .int .i64 ad, .int .i64 nu] 62)))
            go_simp
            refine hK.out _ _ (hSf) (fun _ => ?_)
            clear hK K
            (try simp only [Act.put, List.setIfInBounds_toArray, List.set_cons_zero, List.set_cons_succ])
            clear q0 q1 q2 q3 q4 q5 q6 q7 q8
            refine wpAnyH_ready (rs := [6]) (by kernel_rfl) (by simp) ?_
            refine stepH rfl (fun K hK => ?_) AllReadyH.nil
            refine step_appG1 wgtE (s, t, v, ad, nu) rfl (.tmp 44) (.tmp 48) rfl (by rfl) HW2.out (by rfl) (by have := HLEN.out; omega) HSZ2.out ?_
            intro v5 w5 ho5 hb5 hk5
            obtain ⟨a5, l5, c5, hv5⟩ : ∃ a l c, v5 = .slice a l c := (by obtain ⟨a, c, h, _⟩ := ho5.rd.shape; exact ⟨a, _, c, h⟩)
            subst hv5
            have hS5 : w5.heap[w.heap.size]? = some (.cells (pCells ad nu (.slice au cs.length cu)) 45 (0, 0)) ∧ w5.heap[X]? = some (.cells (cCells 3 s t v x y z) 50 (0, 0)) := ⟨hk5.at hS.1 (by decide), hk5.at hS.2 (by decide)⟩
            have hs5 := hk5.at HS2.out (by decide)
            have HZ5 := Lib.hid (hk5.at HZ2.out (by decide))
            have HJ5 := Lib.hid (ownG_keep HJ2.out hk5 (by decide))
            have HR5 := Lib.hid (ownG_keep HR2.out hk5 (by decide))
            have HB5 := Lib.hid (HB2.out.trans (hb5.mono (by have := HSZ.out; omega)))
            have HSZ5 := Lib.hid (Nat.le_trans HSZ2.out hb5.size)
            have HW5 := Lib.hid ho5
            clear ho5 hb5 hk5 HZ2 HS2 HW2 HJ2 HR2 HB2 HSZ2
            refine hK.out _ _ (hS5) (fun _ => ?_)
            clear hK K
            (try simp only [Act.put, List.setIfInBounds_toArray, List.set_cons_zero, List.set_cons_succ])
            refine takeH (i := 7) (v := ?_) rfl (by kernel_rfl) (by kernel_rfl) (by kernel_rfl) (fun _ _ _ h => h) (Or.inl ⟨by rfl, ?_⟩) (by assumption) ?_
            rotate_left
            · (intro w hSw; (try dsimp only at hSw); go_simp; first | done | with_reducible rfl)
            (try simp only [Act.put, List.setIfInBounds_toArray, List.set_cons_zero, List.set_cons_succ])
            obtain ⟨⟨y0, y1, y2, y3, y4, y5, y6, y7, y8⟩, g0, g1, g2, g3, g4, g5, g6, g7, g8⟩ := row9_at hs5
            have hs6 : (w5.setCell ⟨w.heap.size + 1 + 1, 2, none⟩ (.slice a5 l5 c5)).heap[w.heap.size + 1 + 1]? = some (.cells (s9 (.slice ai li ci) (.slice ar lr cr) (.slice a5 l5 c5) rk rc rf rv ra rn) 37 (0, 0)) := heap_setCell_same w5 _ 2 _ _ _ hs5
            have ho6 : Only (w.heap.size + 1 + 1) w5 (w5.setCell ⟨w.heap.size + 1 + 1, 2, none⟩ (.slice a5 l5 c5)) := Only.set 2 _
            have hS6 : (w5.setCell ⟨w.heap.size + 1 + 1, 2, none⟩ (.slice a5 l5 c5)).heap[w.heap.size]? = some (.cells (pCells ad nu (.slice au cs.length cu)) 45 (0, 0)) ∧ (w5.setCell ⟨w.heap.size + 1 + 1, 2, none⟩ (.slice a5 l5 c5)).heap[X]? = some (.cells (cCells 3 s t v x y z) 50 (0, 0)) := ⟨ho6.at hS5.1 (by omega), ho6.at hS5.2 (by have := HXX.out; omega)⟩
            have HS6 := Lib.hid hs6
            have HZ6 := Lib.hid (ho6.at HZ5.out (by omega))
            have HP6 := Lib.hid hS6.1
            have HJ6 := Lib.hid (ownG_only HJ5.out hs5 (by decide) ho6)
            have HR6 := Lib.hid (ownG_only HR5.out hs5 (by decide) ho6)
            have HW6 := Lib.hid (ownG_only HW5.out hs5 (by decide) ho6)
            have HB6 := Lib.hid (HB5.out.trans (ho6.below (by omega) HB5.out.size))
            have HSZ6 := Lib.hid (Nat.le_trans HSZ5.out ho6.size)
            clear hs6 ho6 HZ5 HJ5 HR5 HB5 HSZ5 HW5
            refine wpAnyH_ready (rs := [8]) (by kernel_rfl) (by simp) ?_
            refine stepH rfl (fun K hK => ?_) AllReadyH.nil
            go_simp
            refine hK.out _ _ (hS6) (fun _ => ?_)
            clear hK K
            (try simp only [Act.put, List.setIfInBounds_toArray, List.set_cons_zero, List.set_cons_succ])
            refine wpAnyH_done (by kernel_rfl) ?_ _
            generalize (w5.setCell ⟨w.heap.size + 1 + 1, 2, none⟩ (.slice a5 l5 c5)) = w6 at HS6 HZ6 HP6 HJ6 HR6 HW6 HB6 HSZ6 ⊢
            clear y0 y1 y2 y3 y4 y5 y6 y7 y8 g0 g1 g2 g3 g4 g5 g6 g7 g8 hs5
            go_wp2
            go_roundw
            case rel => exact ⟨j + 1, _, _, _, _, by omega, by go_num, HN, HB6, HSZ6, HP6, HZ6, HS6, HJ6, HR6, HW6, HD2⟩
            case measure => simp [intOf]; omega
      · clear h1 h2
        have HN := Lib.hid (show (⟨Jl, Rl, Wl, x, y, z, v, ad, nu⟩ : Sm) = MM.rawP ad nu (cs.take (j + 1)) by rw [← HN.out]; rfl)
        go_wp2
        obtain ⟨X, hX⟩ : ∃ X, X = wr.heap.size := ⟨_, rfl⟩
        rw [← hX] at HXB ⊢
        have HXX := Lib.hid (show w.heap.size + 1 + 1 < X by rw [hX]; exact HXW.out)
        clear hX x0 x1 z0 z1 z2 z3 z4 z5 z6 z7 z8 f0 f1 f2 f3 f4 f5 f6 f7 f8 c0 c1 c2 c3 c4 c5 c6 hi hsz1
        refine wp_region_held_drew (S := fun w' => w'.heap[w.heap.size]? = some (.cells (pCells ad nu (.slice au cs.length cu)) 45 (0, 0)) ∧ w'.heap[X]? = some (.cells (cCells 4 s t v x y z) 50 (0, 0))) (by kernel_rfl) ⟨HP1.out, HXB.out⟩ (fun _ => ?_)
        have hS : wn.drew.heap[w.heap.size]? = some (.cells (pCells ad nu (.slice au cs.length cu)) 45 (0, 0)) ∧ wn.drew.heap[X]? = some (.cells (cCells 4 s t v x y z) 50 (0, 0)) := ⟨HP1.out, HXB.out⟩
        replace HZ1 := Lib.hid (show wn.drew.heap[w.heap.size + 1]? = some (.cells (s9 (.slice none 0 0) (.slice none 0 0) (.slice none 0 0) 0 0 0 0 0 0) 37 (0, 0)) from HZ1.out)
        replace HS1 := Lib.hid (show wn.drew.heap[w.heap.size + 1 + 1]? = some (.cells (s9 (.slice ai li ci) (.slice ar lr cr) (.slice ae le ce) rk rc rf rv ra rn) 37 (0, 0)) from HS1.out)
        replace HW1 := Lib.hid (show OwnW w3.heap.size wn.drew (.slice ae le ce) Wl from HW1.out)
        replace HJ1 := Lib.hid (show OwnI w3.heap.size wn.drew (.slice ai li ci) Jl from HJ1.out)
        replace HR1 := Lib.hid (show OwnI w3.heap.size wn.drew (.slice ar lr cr) Rl from HR1.out)
        replace HB1 := Lib.hid (show Below w.heap.size w wn.drew from HB1.out.drew)
        replace HSZ1 := Lib.hid (show w3.heap.size ≤ wn.drew.heap.size from HSZ1.out)
        clear HP1 HXB
        generalize wn.drew = wa at hS HZ1 HS1 HW1 HJ1 HR1 HB1 HSZ1 ⊢
        refine takeH (i := 0) (v := ?_) rfl (by kernel_rfl) (by kernel_rfl) (by kernel_rfl) (fun _ _ _ h => h) (Or.inl ⟨by rfl, ?_⟩) (by assumption) ?_
        rotate_left
        · (intro w hSw; (try dsimp only at hSw); go_simp; first | done | with_reducible rfl)
        (try simp only [Act.put, List.setIfInBounds_toArray, List.set_cons_zero, List.set_cons_succ])
        refine takeH (i := 1) (v := ?_) rfl (by kernel_rfl) (by kernel_rfl) (by kernel_rfl) (fun _ _ _ h => h) (Or.inl ⟨by rfl, ?_⟩) (by assumption) ?_
        rotate_left
        · (intro w hSw; (try dsimp only at hSw); obtain ⟨e0, e1, e2, e3, e4, e5, e6⟩ := row7_at hSw.2; go_simp; first | done | with_reducible rfl)
        (try simp only [Act.put, List.setIfInBounds_toArray, List.set_cons_zero, List.set_cons_succ])
        refine takeH (i := 2) (v := ?_) rfl (by kernel_rfl) (by kernel_rfl) (by kernel_rfl) (fun _ _ _ h => h) (Or.inl ⟨by rfl, ?_⟩) (by assumption) ?_
        rotate_left
        · (intro w hSw; (try dsimp only at hSw); go_simp; first | done | with_reducible rfl)
        (try simp only [Act.put, List.setIfInBounds_toArray, List.set_cons_zero, List.set_cons_succ])
        refine takeH (i := 3) (v := ?_) rfl (by kernel_rfl) (by kernel_rfl) (by kernel_rfl) (fun _ _ _ h => h) (Or.inl ⟨by rfl, ?_⟩) (by assumption) ?_
        rotate_left
        · (intro w hSw; (try dsimp only at hSw); obtain ⟨e0, e1, e2, e3, e4, e5, e6⟩ := row7_at hSw.2; go_simp; first | done | with_reducible rfl)
        (try simp only [Act.put, List.setIfInBounds_toArray, List.set_cons_zero, List.set_cons_succ])
        refine takeH (i := 4) (v := ?_) rfl (by kernel_rfl) (by kernel_rfl) (by kernel_rfl) (fun _ _ _ h => h) (Or.inl ⟨by rfl, ?_⟩) (by assumption) ?_
        rotate_left
        · (intro w hSw; (try dsimp only at hSw); go_simp; first | done | with_reducible rfl)
        (try simp only [Act.put, List.setIfInBounds_toArray, List.set_cons_zero, List.set_cons_succ])
        refine takeH (i := 5) (v := ?_) rfl (by kernel_rfl) (by kernel_rfl) (by kernel_rfl) (fun _ _ _ h => h) (Or.inl ⟨by rfl, ?_⟩) (by assumption) ?_
        rotate_left
        · (intro w hSw; (try dsimp only at hSw); obtain ⟨⟨q0, q1, q2⟩, _⟩ := row3_at hSw.1; go_simp; first | done | with_reducible rfl)
        (try simp only [Act.put, List.setIfInBounds_toArray, List.set_cons_zero, List.set_cons_succ])
        refine takeH (i := 6) (v := ?_) rfl (by kernel_rfl) (by kernel_rfl) (by kernel_rfl) (fun _ _ _ h => h) (Or.inl ⟨by rfl, ?_⟩) (by assumption) ?_
        rotate_left
        · (intro w hSw; (try dsimp only at hSw); go_simp; first | done | with_reducible rfl)
        (try simp only [Act.put, List.setIfInBounds_toArray, List.set_cons_zero, List.set_cons_succ])
        refine takeH (i := 7) (v := ?_) rfl (by kernel_rfl) (by kernel_rfl) (by kernel_rfl) (fun _ _ _ h => h) (Or.inl ⟨by rfl, ?_⟩) (by assumption) ?_
        rotate_left
        · (intro w hSw; (try dsimp only at hSw); obtain ⟨⟨q0, q1, q2⟩, _⟩ := row3_at hSw.1; go_simp; first | done | with_reducible rfl)
        (try simp only [Act.put, List.setIfInBounds_toArray, List.set_cons_zero, List.set_cons_succ])
        refine takeH (i := 8) (v := ?_) rfl (by kernel_rfl) (by kernel_rfl) (by kernel_rfl) (fun _ _ _ h => h) (Or.inl ⟨by rfl, ?_⟩) (by assumption) ?_
        rotate_left
        · (intro w hSw; (try dsimp only at hSw); go_simp; first | done | with_reducible rfl)
        (try simp only [Act.put, List.setIfInBounds_toArray, List.set_cons_zero, List.set_cons_succ])
        obtain ⟨⟨y0, y1, y2, y3, y4, y5, y6, y7, y8⟩, g0, g1, g2, g3, g4, g5, g6, g7, g8⟩ := row9_at HS1.out
        have ho6 : Only (w.heap.size + 1 + 1) wa (((wa.setCell ⟨w.heap.size + 1 + 1, 3, none⟩ (.int .i64 x)).setCell ⟨w.heap.size + 1 + 1, 4, none⟩ (.int .i64 y)).setCell ⟨w.heap.size + 1 + 1, 5, none⟩ (.int .i64 z)) := (((Only.set 3 _).trans (Only.set 4 _)).trans (Only.set 5 _))
        have HS5 := Lib.hid (show (((wa.setCell ⟨w.heap.size + 1 + 1, 3, none⟩ (.int .i64 x)).setCell ⟨w.heap.size + 1 + 1, 4, none⟩ (.int .i64 y)).setCell ⟨w.heap.size + 1 + 1, 5, none⟩ (.int .i64 z)).heap[w.heap.size + 1 + 1]? = some (.cells (s9 (.slice ai li ci) (.slice ar lr cr) (.slice ae le ce) x y z rv ra rn) 37 (0, 0)) from by (have t1 := heap_setCell_same wa (w.heap.size + 1 + 1) 3 _ _ (.int .i64 x) HS1.out; have t2 := heap_setCell_same _ (w.heap.size + 1 + 1) 4 _ _ (.int .i64 y) t1; exact heap_setCell_same _ (w.heap.size + 1 + 1) 5 _ _ (.int .i64 z) t2))
        replace HZ1 := Lib.hid (ho6.at HZ1.out (by omega))
        replace HJ1 := Lib.hid (ownG_only HJ1.out HS1.out (by decide) ho6)
        replace HR1 := Lib.hid (ownG_only HR1.out HS1.out (by decide) ho6)
        replace HW1 := Lib.hid (ownG_only HW1.out HS1.out (by decide) ho6)
        replace HSZ1 := Lib.hid (Nat.le_trans HSZ1.out ho6.size)
        replace HB1 := Lib.hid (HB1.out.trans (ho6.below (by omega) HB1.out.size))
        replace hS : (((wa.setCell ⟨w.heap.size + 1 + 1, 3, none⟩ (.int .i64 x)).setCell ⟨w.heap.size + 1 + 1, 4, none⟩ (.int .i64 y)).setCell ⟨w.heap.size + 1 + 1, 5, none⟩ (.int .i64 z)).heap[w.heap.size]? = some (.cells (pCells ad nu (.slice au cs.length cu)) 45 (0, 0)) ∧ (((wa.setCell ⟨w.heap.size + 1 + 1, 3, none⟩ (.int .i64 x)).setCell ⟨w.heap.size + 1 + 1, 4, none⟩ (.int .i64 y)).setCell ⟨w.heap.size + 1 + 1, 5, none⟩ (.int .i64 z)).heap[X]? = some (.cells (cCells 4 s t v x y z) 50 (0, 0)) := ⟨ho6.at hS.1 (by omega), ho6.at hS.2 (by have := HXX.out; omega)⟩
        clear ho6
        refine wpAnyH_ready (rs := [9]) (by kernel_rfl) (by simp) ?_
        refine stepH rfl (fun K hK => ?_) AllReadyH.nil
        go_simp
        refine hK.out _ _ (hS) (fun _ => ?_)
        clear hK K
        (try simp only [Act.put, List.setIfInBounds_toArray, List.set_cons_zero, List.set_cons_succ])
        generalize (((wa.setCell ⟨w.heap.size + 1 + 1, 3, none⟩ (.int .i64 x)).setCell ⟨w.heap.size + 1 + 1, 4, none⟩ (.int .i64 y)).setCell ⟨w.heap.size + 1 + 1, 5, none⟩ (.int .i64 z)) = w5 at hS HZ1 HS5 HW1 HJ1 HR1 HB1 HSZ1 ⊢
        clear y0 y1 y2 y3 y4 y5 y6 y7 y8 g0 g1 g2 g3 g4 g5 g6 g7 g8 HS1
        refine takeH (i := 10) (v := ?_) rfl (by kernel_rfl) (by kernel_rfl) (by kernel_rfl) (fun _ _ _ h => h) (Or.inl ⟨by rfl, ?_⟩) (by assumption) ?_
        rotate_left
        · (intro w hSw; (try dsimp only at hSw); go_simp; first | done | with_reducible rfl)
        (try simp only [Act.put, List.setIfInBounds_toArray, List.set_cons_zero, List.set_cons_succ])
        obtain ⟨⟨y0, y1, y2, y3, y4, y5, y6, y7, y8⟩, g0, g1, g2, g3, g4, g5, g6, g7, g8⟩ := row9_at HS5.out
        have ho6 : Only (w.heap.size + 1 + 1) w5 (w5.setCell ⟨w.heap.size + 1 + 1, 6, none⟩ (.int .i64 v)) := (Only.set 6 _)
        have HS6 := Lib.hid (show (w5.setCell ⟨w.heap.size + 1 + 1, 6, none⟩ (.int .i64 v)).heap[w.heap.size + 1 + 1]? = some (.cells (s9 (.slice ai li ci) (.slice ar lr cr) (.slice ae le ce) x y z v ra rn) 37 (0, 0)) from heap_setCell_same w5 _ 6 _ _ _ HS5.out)
        replace HZ1 := Lib.hid (ho6.at HZ1.out (by omega))
        replace HJ1 := Lib.hid (ownG_only HJ1.out HS5.out (by decide) ho6)
        replace HR1 := Lib.hid (ownG_only HR1.out HS5.out (by decide) ho6)
        replace HW1 := Lib.hid (ownG_only HW1.out HS5.out (by decide) ho6)
        replace HSZ1 := Lib.hid (Nat.le_trans HSZ1.out ho6.size)
        replace HB1 := Lib.hid (HB1.out.trans (ho6.below (by omega) HB1.out.size))
        replace hS : (w5.setCell ⟨w.heap.size + 1 + 1, 6, none⟩ (.int .i64 v)).heap[w.heap.size]? = some (.cells (pCells ad nu (.slice au cs.length cu)) 45 (0, 0)) ∧ (w5.setCell ⟨w.heap.size + 1 + 1, 6, none⟩ (.int .i64 v)).heap[X]? = some (.cells (cCells 4 s t v x y z) 50 (0, 0)) := ⟨ho6.at hS.1 (by omega), ho6.at hS.2 (by have := HXX.out; omega)⟩
        clear ho6
        refine wpAnyH_ready (rs := [11]) (by kernel_rfl) (by simp) ?_
        refine stepH rfl (fun K hK => ?_) AllReadyH.nil
        go_simp
        refine hK.out _ _ (hS) (fun _ => ?_)
        clear hK K
        (try simp only [Act.put, List.setIfInBounds_toArray, List.set_cons_zero, List.set_cons_succ])
        generalize (w5.setCell ⟨w.heap.size + 1 + 1, 6, none⟩ (.int .i64 v)) = w6 at hS HZ1 HS6 HW1 HJ1 HR1 HB1 HSZ1 ⊢
        clear y0 y1 y2 y3 y4 y5 y6 y7 y8 g0 g1 g2 g3 g4 g5 g6 g7 g8 HS5
        refine takeH (i := 12) (v := ?_) rfl (by kernel_rfl) (by kernel_rfl) (by kernel_rfl) (fun _ _ _ h => h) (Or.inl ⟨by rfl, ?_⟩) (by assumption) ?_
        rotate_left
        · (intro w hSw; (try dsimp only at hSw); go_simp; first | done | with_reducible rfl)
        (try simp only [Act.put, List.setIfInBounds_toArray, List.set_cons_zero, List.set_cons_succ])
        obtain ⟨⟨y0, y1, y2, y3, y4, y5, y6, y7, y8⟩, g0, g1, g2, g3, g4, g5, g6, g7, g8⟩ := row9_at HS6.out
        have ho6 : Only (w.heap.size + 1 + 1) w6 (w6.setCell ⟨w.heap.size + 1 + 1, 7, none⟩ (.int .i64 ad)) := (Only.set 7 _)
        have HS7 := Lib.hid (show (w6.setCell ⟨w.heap.size + 1 + 1, 7, none⟩ (.int .i64 ad)).heap[w.heap.size + 1 + 1]? = some (.cells (s9 (.slice ai li ci) (.slice ar lr cr) (.slice ae le ce) x y z v ad rn) 37 (0, 0)) from heap_setCell_same w6 _ 7 _ _ _ HS6.out)
        replace HZ1 := Lib.hid (ho6.at HZ1.out (by omega))
        replace HJ1 := Lib.hid (ownG_only HJ1.out HS6.out (by decide) ho6)
        replace HR1 := Lib.hid (ownG_only HR1.out HS6.out (by decide) ho6)
        replace HW1 := Lib.hid (ownG_only HW1.out HS6.out (by decide) ho6)
        replace HSZ1 := Lib.hid (Nat.le_trans HSZ1.out ho6.size)
        replace HB1 := Lib.hid (HB1.out.trans (ho6.below (by omega) HB1.out.size))
        replace hS : (w6.setCell ⟨w.heap.size + 1 + 1, 7, none⟩ (.int .i64 ad)).heap[w.heap.size]? = some (.cells (pCells ad nu (.slice au cs.length cu)) 45 (0, 0)) ∧ (w6.setCell ⟨w.heap.size + 1 + 1, 7, none⟩ (.int .i64 ad)).heap[X]? = some (.cells (cCells 4 s t v x y z) 50 (0, 0)) := ⟨ho6.at hS.1 (by omega), ho6.at hS.2 (by have := HXX.out; omega)⟩
        clear ho6
        refine wpAnyH_ready (rs := [13]) (by kernel_rfl) (by simp) ?_
        refine stepH rfl (fun K hK => ?_) AllReadyH.nil
        go_simp
        refine hK.out _ _ (hS) (fun _ => ?_)
        clear hK K
        (try simp only [Act.put, List.setIfInBounds_toArray, List.set_cons_zero, List.set_cons_succ])
        generalize (w6.setCell ⟨w.heap.size + 1 + 1, 7, none⟩ (.int .i64 ad)) = w7 at hS HZ1 HS7 HW1 HJ1 HR1 HB1 HSZ1 ⊢
        clear y0 y1 y2 y3 y4 y5 y6 y7 y8 g0 g1 g2 g3 g4 g5 g6 g7 g8 HS6
        refine takeH (i := 14) (v := ?_) rfl (by kernel_rfl) (by kernel_rfl) (by kernel_rfl) (fun _ _ _ h => h) (Or.inl ⟨by rfl, ?_⟩) (by assumption) ?_
        rotate_left
        · (intro w hSw; (try dsimp only at hSw); go_simp; first | done | with_reducible rfl)
        (try simp only [Act.put, List.setIfInBounds_toArray, List.set_cons_zero, List.set_cons_succ])
        obtain ⟨⟨y0, y1, y2, y3, y4, y5, y6, y7, y8⟩, g0, g1, g2, g3, g4, g5, g6, g7, g8⟩ := row9_at HS7.out
        have ho6 : Only (w.heap.size + 1 + 1) w7 (w7.setCell ⟨w.heap.size + 1 + 1, 8, none⟩ (.int .i64 nu)) := (Only.set 8 _)
        have HS8 := Lib.hid (show (w7.setCell ⟨w.heap.size + 1 + 1, 8, none⟩ (.int .i64 nu)).heap[w.heap.size + 1 + 1]? = some (.cells (s9 (.slice ai li ci) (.slice ar lr cr) (.slice ae le ce) x y z v ad nu) 37 (0, 0)) from heap_setCell_same w7 _ 8 _ _ _ HS7.out)
        replace HZ1 := Lib.hid (ho6.at HZ1.out (by omega))
        replace HJ1 := Lib.hid (ownG_only HJ1.out HS7.out (by decide) ho6)
        replace HR1 := Lib.hid (ownG_only HR1.out HS7.out (by decide) ho6)
        replace HW1 := Lib.hid (ownG_only HW1.out HS7.out (by decide) ho6)
        replace HSZ1 := Lib.hid (Nat.le_trans HSZ1.out ho6.size)
        replace HB1 := Lib.hid (HB1.out.trans (ho6.below (by omega) HB1.out.size))
        replace hS : (w7.setCell ⟨w.heap.size + 1 + 1, 8, none⟩ (.int .i64 nu)).heap[w.heap.size]? = some (.cells (pCells ad nu (.slice au cs.length cu)) 45 (0, 0)) ∧ (w7.setCell ⟨w.heap.size + 1 + 1, 8, none⟩ (.int .i64 nu)).heap[X]? = some (.cells (cCells 4 s t v x y z) 50 (0, 0)) := ⟨ho6.at hS.1 (by omega), ho6.at hS.2 (by have := HXX.out; omega)⟩
        clear ho6
        refine wpAnyH_ready (rs := [15]) (by kernel_rfl) (by simp) ?_
        refine stepH rfl (fun K hK => ?_) AllReadyH.nil
        go_simp
        refine hK.out _ _ (hS) (fun _ => ?_)
        clear hK K
        (try simp only [Act.put, List.setIfInBounds_toArray, List.set_cons_zero, List.set_cons_succ])
        generalize (w7.setCell ⟨w.heap.size + 1 + 1, 8, none⟩ (.int .i64 nu)) = w8 at hS HZ1 HS8 HW1 HJ1 HR1 HB1 HSZ1 ⊢
        clear y0 y1 y2 y3 y4 y5 y6 y7 y8 g0 g1 g2 g3 g4 g5 g6 g7 g8 HS7
        refine wpAnyH_done (by kernel_rfl) ?_ _
        have HP8 := Lib.hid hS.1
        go_wp2
        go_roundw
        case rel => exact ⟨j + 1, _, _, _, _, by omega, by go_num, HN, HB1, HSZ1, HP8, HZ1, HS8, HJ1, HR1, HW1, hdj⟩
        case measure => simp [intOf]; omega
    · have hq : ¬ ((j : Int) < (cs.length : Int)) := by omega
      have hraw2 : (⟨Jl, Rl, Wl, rk, rc, rf, rv, ra, rn⟩ : Sm) = MM.rawP ad nu cs := by rw [hraw.out, List.take_of_length_le (by omega)]
      have HRAW := Lib.hid hraw2
      obtain ⟨⟨z0, z1, z2, z3, z4, z5, z6, z7, z8⟩, f0, f1, f2, f3, f4, f5, f6, f7, f8⟩ := row9_at hsb.out
      have C1 := Lib.hid (cSortI0 wr w3.heap.size _ Jl hoj.out (by have := HLEN.out; omega))
      clear hraw hraw2 hlt
      go_wp2_with fail
      refine C1.out.mono ?_
      rintro e w4 ⟨rfl, hJ4, hb4, ho4⟩
      have hneJ := own_ne hoj.out hsb.out (by decide)
      have hneJz := own_ne hoj.out hz.out (by decide)
      have HS4 := Lib.hid (ho4.at hsb.out hneJ)
      have HZ4 := Lib.hid (ho4.at hz.out hneJz)
      have HR4 := Lib.hid (hor.out.oth ho4 hdj.out)
      have HW4 := Lib.hid (how.out.oth ho4 (own_own_ne how.out hoj.out (by decide)))
      have HB4 := Lib.hid (hb.out.trans (hb4.mono (by have := HSZ.out; omega)))
      have HG4 := Lib.hid (Nat.le_trans hs3.out hb4.size)
      have HJ4 := Lib.hid hJ4
      clear C1 hJ4 hb4 ho4 hneJ hneJz hoj hor how hsb hz hb hs3 hp z0 z1 z2 z3 z4 z5 z6 z7 z8 f0 f1 f2 f3 f4 f5 f6 f7 f8
      obtain ⟨⟨z0, z1, z2, z3, z4, z5, z6, z7, z8⟩, f0, f1, f2, f3, f4, f5, f6, f7, f8⟩ := row9_at HS4.out
      have C2 := Lib.hid (cSortI0 w4 w3.heap.size _ Rl HR4.out (by have := HLEN.out; omega))
      go_wp2_with fail
      refine C2.out.mono ?_
      rintro e w5 ⟨rfl, hR5, hb5, ho5⟩
      have hneR := own_ne HR4.out HS4.out (by decide)
      have hneRz := own_ne HR4.out HZ4.out (by decide)
      have HS5 := Lib.hid (ho5.at HS4.out hneR)
      have HZ5 := Lib.hid (ho5.at HZ4.out hneRz)
      have HJ5 := Lib.hid (HJ4.out.oth ho5 hdj.out.symm)
      have HW5 := Lib.hid (HW4.out.oth ho5 (own_own_ne HW4.out HR4.out (by decide)))
      have HB5 := Lib.hid (HB4.out.trans (hb5.mono (by have := HSZ.out; omega)))
      have HG5 := Lib.hid (Nat.le_trans HG4.out hb5.size)
      have HR5 := Lib.hid hR5
      clear C2 hR5 hb5 ho5 hneR hneRz HR4 HW4 HS4 HZ4 HB4 HG4 HJ4 z0 z1 z2 z3 z4 z5 z6 z7 z8 f0 f1 f2 f3 f4 f5 f6 f7 f8
      obtain ⟨⟨z0, z1, z2, z3, z4, z5, z6, z7, z8⟩, f0, f1, f2, f3, f4, f5, f6, f7, f8⟩ := row9_at HS5.out
      have C3 := Lib.hid (cSortW0 w5 w3.heap.size _ Wl HW5.out (by have := HLEN.out; omega))
      go_wp2_with fail
      refine C3.out.mono ?_
      rintro e w6 ⟨rfl, ys, hW6, hperm, hord, hb6, ho6⟩
      have hneW := own_ne HW5.out HS5.out (by decide)
      have hneWz := own_ne HW5.out HZ5.out (by decide)
      have HS6 := Lib.hid (ho6.at HS5.out hneW)
      have HZ6 := Lib.hid (ho6.at HZ5.out hneWz)
      have HJ6 := Lib.hid (HJ5.out.oth ho6 (own_own_ne HJ5.out HW5.out (by decide)))
      have HR6 := Lib.hid (HR5.out.oth ho6 (own_own_ne HR5.out HW5.out (by decide)))
      have HB6 := Lib.hid (HB5.out.trans (hb6.mono (by have := HSZ.out; omega)))
      have HG6 := Lib.hid (Nat.le_trans HG5.out hb6.size)
      have HW6 := Lib.hid hW6
      have HYS := Lib.hid (And.intro hperm hord)
      have hyl : ys.length ≤ 1000000 := by rw [hperm.length_eq]; have := HLEN.out; omega
      clear C3 hW6 hb6 ho6 hneW hneWz hperm hord HW5 HS5 HZ5 HB5 HG5 HJ5 HR5 z0 z1 z2 z3 z4 z5 z6 z7 z8 f0 f1 f2 f3 f4 f5 f6 f7 f8
      obtain ⟨⟨z0, z1, z2, z3, z4, z5, z6, z7, z8⟩, f0, f1, f2, f3, f4, f5, f6, f7, f8⟩ := row9_at HS6.out
      have C4 := Lib.hid (cCompact w6 w3.heap.size _ ys HW6.out HG6.out hyl)
      clear hyl
      go_wp2_with fail
      refine C4.out.mono ?_
      rintro e w7 ⟨v7, rfl, hr7, hb7, ho7⟩
      have hneW := own_ne HW6.out HS6.out (by decide)
      have hneWz := own_ne HW6.out HZ6.out (by decide)
      have ho7' : Oth (.slice ae le ce) w6 w7 := ho7
      obtain ⟨a7, l7, c7, hv7⟩ : ∃ a l c, v7 = .slice a l c := by obtain ⟨a, c, h, _⟩ := (hr7 _ (Fr.refl _ _)).shape; exact ⟨a, _, c, h⟩
      subst hv7
      have hs7 := ho7'.at HS6.out hneW
      have HZ7 := Lib.hid (ho7'.at HZ6.out hneWz)
      have HJ7 := Lib.hid (HJ6.out.oth ho7' (own_own_ne HJ6.out HW6.out (by decide)))
      have HR7 := Lib.hid (HR6.out.oth ho7' (own_own_ne HR6.out HW6.out (by decide)))
      have HB7 := Lib.hid (HB6.out.trans (hb7.mono (by have := HSZ.out; omega)))
      have HG7 := Lib.hid (Nat.le_trans HG6.out hb7.size)
      have HR7W := Lib.hid hr7
      clear C4 hr7 hb7 ho7 ho7' hneW hneWz HW6 HS6 HZ6 HB6 HG6 HJ6 HR6 z0 z1 z2 z3 z4 z5 z6 z7 z8 f0 f1 f2 f3 f4 f5 f6 f7 f8
      obtain ⟨⟨z0, z1, z2, z3, z4, z5, z6, z7, z8⟩, f0, f1, f2, f3, f4, f5, f6, f7, f8⟩ := row9_at hs7
      have hs8 : (w7.setCell ⟨w.heap.size + 1 + 1, 2, none⟩ (.slice a7 l7 c7)).heap[w.heap.size + 1 + 1]? = some (.cells (s9 (.slice ai li ci) (.slice ar lr cr) (.slice a7 l7 c7) rk rc rf rv ra rn) 37 (0, 0)) := heap_setCell_same w7 _ 2 _ _ _ hs7
      have ho8 : Only (w.heap.size + 1 + 1) w7 (w7.setCell ⟨w.heap.size + 1 + 1, 2, none⟩ (.slice a7 l7 c7)) := Only.set 2 _
      have HZ8 := Lib.hid (ho8.at HZ7.out (by omega))
      have HS8 := Lib.hid hs8
      have HJ8 := Lib.hid (ownG_only HJ7.out hs7 (by decide) ho8)
      have HR8 := Lib.hid (ownG_only HR7.out hs7 (by decide) ho8)
      have HB8 := Lib.hid (HB7.out.trans (ho8.below (by omega) HB7.out.size))
      have HF8 := Lib.hid (show Fr w3.heap.size w7 (w7.setCell ⟨w.heap.size + 1 + 1, 2, none⟩ (.slice a7 l7 c7)) from Fr.only ho8 (by have := HSZ.out; omega))
      clear hs7 hs8 ho8 HZ7 HJ7 HR7 HB7 HG7
      obtain ⟨⟨y0, y1, y2, y3, y4, y5, y6, y7, y8⟩, g0, g1, g2, g3, g4, g5, g6, g7, g8⟩ := row9_at HZ8.out
      obtain ⟨⟨x0, x1, x2, x3, x4, x5, x6, x7, x8⟩, _⟩ := row9_at HS8.out
      go_wp2
      have hput := row9_put HZ8.out (.slice ai li ci) (.slice ar lr cr) (.slice a7 l7 c7) (.int .i64 rk) (.int .i64 rc) (.int .i64 rf) (.int .i64 rv) (.int .i64 ra) (.int .i64 rn) w.heap.size (by omega)
      have hon := onlyc9 (w := (w7.setCell ⟨w.heap.size + 1 + 1, 2, none⟩ (.slice a7 l7 c7))) (g := w.heap.size + 1) (.slice ai li ci) (.slice ar lr cr) (.slice a7 l7 c7) (.int .i64 rk) (.int .i64 rc) (.int .i64 rf) (.int .i64 rv) (.int .i64 ra) (.int .i64 rn)
      refine of_ret rfl hput.1 rfl ⟨_, rfl, ?_, HB8.out.trans hput.2⟩
      have hfin := MM.ofP_sort (ad := ad) (nu := nu) HV.out.2 (ys := ys) (by rw [← HRAW.out]; exact HYS.out.1) HYS.out.2
      rw [← HRAW.out] at hfin
      rw [hfin]
      intro w'' hf
      have hlast := (Fr.only (B := w3.heap.size) hon (by have := HSZ.out; omega)).trans (hf.mono (by have := HSZ.out; omega))
      refine ⟨_, _, _, rfl, ?_, ?_, HR7W.out _ (HF8.out.trans hlast)⟩
      · exact (HJ8.out.fr hlast).rd
      · exact (HR8.out.fr hlast).rd

end Go.Proofs.YtkaafbdhgekeeaaGreat
