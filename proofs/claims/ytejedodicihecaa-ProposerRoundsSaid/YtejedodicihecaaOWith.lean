/-
  The calls of proposer's helpers: slices.Clone of vectors and of lists of integers, slices.BinarySearch, with. Conditions: what comes in reads; ascending, short lists.
-/
import Derived.Deep.RegionLawGrows
import Derived.Deep.RegionHeld3
import Derived.Lib.SmallJoins
import Derived.Lib.LazyBuf
import Derived.Test.YtejedodicihecaaOIns
import Derived.Test.YtejedodicihecaaOCon
import Derived.Test.YtejedodicihecaaAC
import Derived.Test.YtejedodicihecaaReg
namespace Go.Proofs.Ytejedodicihecaa
open Go.RowKit Go.Joins
open VM (Ent)

section
variable {α : Type} {P : Program} {t e : TypeId} {size bytes : Nat} {enc : α → List Value}
/-- 'v[:hi:hi]'. -/
theorem RdG.cutF (E : IsElem P t e size bytes enc) {w : World} {a : Option Addr} {n c : Nat} {xs : List α} (h : RdG enc size w (.slice a n c) xs) (hi : Nat) (h2 : hi ≤ xs.length) :
    (∀ w0 : World, (Instr.slice t (.slice a n c) none (some (.int .i64 (hi : Int))) (some (.int .i64 (hi : Int)))).run P w0 = .ok (.slice a hi hi) w0) ∧ RdG enc size w (.slice a hi hi) (xs.take hi) := by
  obtain ⟨a', c', hv, h3, h4, h5, ⟨hp, hl⟩, h6⟩ := h
  cases hv
  refine ⟨fun w0 => ?_, ?_⟩
  · have e4 : (0 : Int) ≤ (hi : Int) := by omega
    have e3 : (hi : Int) ≤ (c : Int) := by omega
    have hz := E.run_size
    cases a <;> simp [Instr.slice, run_underlying E.ht, Instr.sliceBounds, run_sliceBound, e3, e4, hz, Result.andThen, Addr.add]
  · refine ⟨a, hi, by rw [List.length_take]; congr 1; omega, by rw [List.length_take]; omega, by omega, fun ha => ?_, ⟨hp, hl⟩, fun x hx j u hu => ?_⟩
    · obtain ⟨rfl, rfl⟩ := h5 ha
      simp at h2
      simp [h2]
    · refine h6 x hx j u ?_
      rw [cellsOf_take hl xs hi h2, List.getElem?_take] at hu
      split at hu
      · exact hu
      · cases hu

variable {w : World} {ops : Array Oper} {o : Oper} {a : Act} {K : Act → World → Prop} {Q : Exit → Act → World → Prop} {F : Prop} {base : Nat} {v : Value}
/-- 'append(v[:k:k], u...)', u not empty, as one step of a region that draws its order: a row of the call's own. -/
theorem step_appFull (E : IsElem P t e size bytes enc) {ad : Option Addr} {n : Nat} {ys : List α} {u : Value} {zs : List α} (hgd : o.guard = none) (s r : Operand) (ho : o.op = .call { callee := .builtin .append, args := #[s, r], argTypes := #[t, t] })
    (hs : a.eval s = .slice ad n n) (hrd : RdG enc size w (.slice ad n n) ys) (hx : a.eval r = u) (hu : RdG enc size w u zs) (hz : 0 < zs.length) (hlen : ys.length ≤ 1073741824) (hlen2 : zs.length ≤ 1073741824)
    (h : ∀ v' w', OwnG enc e size w.heap.size w' v' (ys ++ zs) → Below w.heap.size w w' → K (a.put o.dst v') w') :
    if Region.wanted o (yielded ops a.tmps) = true then Oper.wp P o a w K Q else F := by
  obtain ⟨i0, z, hi, hz0, hz1, hz2, hz3⟩ := E.info
  obtain ⟨a1, c1, hv, h1, h2, h3, hl, h4⟩ := hrd
  cases hv
  obtain ⟨a2, c2, rfl, g1, g2, g3, _, g4⟩ := hu
  cases a2 with
  | none => have := (g3 rfl).1; rw [this] at hz; exact absurd hz (Nat.lt_irrefl 0)
  | some a2 =>
    refine step_append_grows hgd s r t ho e i0 z size bytes E.ht hi hz0 hz1 hz2 hz3 E.pos ad ys.length ys.length (cellsOf enc ys) hs (fun hn => ?_) (cellsOf_length E.len ys) (fun b hb => h4 b hb) a2 zs.length c2 (cellsOf enc zs) hx (cellsOf_length E.len zs) (g4 a2 rfl) (cellsOf_one E.one zs) (by omega) ?_ ?_ ?_
    · have := (h3 hn).1
      subst this
      exact ⟨rfl, rfl⟩
    · unfold maxLen; omega
    · have := E.fits
      calc (ys.length + zs.length) * bytes ≤ (1073741824 + 1073741824) * 4096 := Nat.mul_le_mul (by omega) this
        _ ≤ 140737488355328 := by decide
    · intro v' w1 ho1 hg1
      refine h v' w1 ⟨?_, hl⟩ ⟨hg1.os, hg1.tape, hg1.output, hg1.size, fun k hk => hg1.block k hk (by simp)⟩
      rw [cellsOf_append, List.length_append]
      exact ho1
/-- 'append(out, u...)' as such a step. -/
theorem step_appMore (E : IsElem P t e size bytes enc) {ys : List α} {u : Value} {zs : List α} (hwant : Region.wanted o (yielded ops a.tmps) = true) (s r : Operand) (ho : o.op = .call { callee := .builtin .append, args := #[s, r], argTypes := #[t, t] })
    (hs : a.eval s = v) (hown : OwnG enc e size base w v ys) (hx : a.eval r = u) (hu : RdG enc size w u zs) (hlen : ys.length ≤ 1073741824) (hlen2 : zs.length ≤ 1073741824) (hb : base ≤ w.heap.size)
    (h : ∀ v' w', OwnG enc e size base w' v' (ys ++ zs) → Below base w w' → K (a.put o.dst v') w') :
    if Region.wanted o (yielded ops a.tmps) = true then Oper.wp P o a w K Q else F := by
  rw [if_pos hwant]
  obtain ⟨i0, z, hi, hz0, hz1, hz2, hz3⟩ := E.info
  obtain ⟨ad, c, rfl, h1, h2, h3, hl, h4⟩ := hu
  cases ad with
  | none =>
    obtain ⟨rfl, rfl⟩ := h3 rfl
    have hrun := run_append_owned_none (P := P) (w := w) base t o.type e i0 size E.ht hi _ _ _ hown.1
    unfold Oper.wp
    simp [execOp, ho, resolve, invoke, builtin, hs, hx, hrun, Result.andThen]
    exact h _ _ (by rw [List.append_nil]; exact hown) (Below.refl _ _)
  | some ad =>
    refine wp_append_own w s r t ho base e i0 z size bytes E.ht hi hz0 hz1 hz2 hz3 E.pos _ _ _ hs hown.1 ad zs.length c (cellsOf enc zs) hx (cellsOf_length E.len zs) (h4 ad rfl) (cellsOf_one E.one zs) ?_ ?_ hb ?_
    · unfold maxLen; omega
    · have := E.fits
      calc (ys.length + zs.length) * bytes ≤ (1073741824 + 1073741824) * 4096 := Nat.mul_le_mul (by omega) this
        _ ≤ 140737488355328 := by decide
    · intro v' w1 ho1 hg1 _
      refine h v' w1 ⟨?_, hown.2⟩ ((Below.refl _ _).grown hg1 hb (fun k hk => (World.ownsRow.lt hown.1 k hk).1))
      rw [cellsOf_append, List.length_append]
      exact ho1
end

/-- Where a search in an ascending list ends. -/
structure AtI (l : List Int) (a : Int) (i : Nat) : Prop where
  le : i ≤ l.length
  lo : ∀ (k : Nat) (e : Int), l[k]? = some e → k < i → e < a
  hi : ∀ (k : Nat) (e : Int), l[k]? = some e → i ≤ k → a ≤ e
/-- What the search tells. -/
def fndI (l : List Int) (a : Int) (i : Nat) : Bool := decide (l[i]? = some a)
theorem asc_lt {l : List Int} (h : l.Pairwise (· < ·)) {i j : Nat} {x y : Int} (hi : l[i]? = some x) (hj : l[j]? = some y) (hij : i < j) : x < y := by
  obtain ⟨h1, rfl⟩ := List.getElem?_eq_some_iff.1 hi
  obtain ⟨h2, rfl⟩ := List.getElem?_eq_some_iff.1 hj
  exact List.pairwise_iff_getElem.1 h i j h1 h2 hij
/-- The list with the number put in, cut where the search ends. -/
theorem ins_cut {a : Int} {l : List Int} : ∀ {i : Nat}, AtI l a i → l.take i ++ ([a] ++ l.drop (if fndI l a i = true then i + 1 else i)) = PM.ins a l := by
  induction l with
  | nil =>
    intro i h
    have := h.le
    obtain rfl : i = 0 := by simpa using this
    simp [PM.ins]
  | cons y l ih =>
    intro i h
    cases i with
    | zero =>
      have h1 : a ≤ y := h.hi 0 y rfl (Nat.le_refl _)
      rw [PM.ins]
      by_cases h2 : y = a
      · subst h2
        rw [if_pos rfl, if_pos (by simp [fndI])]
        simp
      · rw [if_neg h2, if_pos (show a < y by omega), if_neg (show ¬ fndI (y :: l) a 0 = true by simp [fndI, h2])]
        simp
    | succ i =>
      have h1 : y < a := h.lo 0 y rfl (by omega)
      have h2 := ih (i := i) ⟨by have := h.le; simp at this; omega, fun k e hk hki => h.lo (k + 1) e (by simpa using hk) (by omega), fun k e hk hki => h.hi (k + 1) e (by simpa using hk) (by omega)⟩
      rw [PM.ins, if_neg (show ¬ y = a by omega), if_neg (show ¬ a < y by omega), ← h2]
      have h3 : fndI (y :: l) a (i + 1) = fndI l a i := by simp [fndI]
      rw [h3]
      cases fndI l a i <;> simp

set_option maxRecDepth 100000 in
set_option maxHeartbeats 1000000 in
theorem oCloneV (v : Value) (xs : List Ent) (w : World) (h : VX.RdV w v xs) (hl : xs.length ≤ 1099511627776) :
    Calls Try.prog 17 #[v] w fun e w' => ∃ v', e = .returned v' ∧ VX.OwnV w.heap.size w' v' xs ∧ Below w.heap.size w w' := by
  have hr := h.below (VX.below_fresh w (.cells #[] 49))
  have ho := VX.ownV_empty w
  have hb0 := VX.below_fresh w (.cells #[] 49)
  obtain ⟨a, c, rfl, _, hcm, hcn, _⟩ := h
  have heq := fun w n c => run_eql_slice_nil (P := Try.prog) w 23 49 a n c Try.underlying23
  cases a with
  | none =>
    obtain ⟨rfl, rfl⟩ := hcn rfl
    clear hr ho hb0 hcn
    go_enter Try.func17, Try.ntmps17
    go_wp2
    go_ret
    exact ⟨_, rfl, VX.OwnV.nil _ _, Below.refl _ _⟩
  | some x =>
    have hs0 := hb0.size
    clear hcn
    go_enter Try.func17, Try.ntmps17
    go_wp2_with (at_builtin; refine VX.wp_appVS rfl _ _ rfl rfl ho rfl hr (by simp) (by omega) hs0 ?_)
    intro v1 w1 ho1 hb1
    go_wp2
    go_ret
    exact ⟨_, rfl, by simpa using ho1, hb0.trans hb1⟩


theorem oCloneI (v : Value) (xs : List Int) (w : World) (h : RdI w v xs) (hl : xs.length ≤ 1073741824) :
    Calls Try.prog 26 #[v] w fun e w' => ∃ v', e = .returned v' ∧ OwnI w.heap.size w' v' xs ∧ Below w.heap.size w w' := by
  have hr := h.below (VX.below_fresh w (.cells #[] 3))
  have ho : OwnI w.heap.size (w.alloc (.cells #[] 3)) (.slice (some ⟨w.heap.size, 0, none⟩) 0 0) [] := ownG_fresh hlI 3 w [] (by decide)
  have hb0 := VX.below_fresh w (.cells #[] 3)
  obtain ⟨a, c, rfl, _, hcm, hcn, _⟩ := h
  have heq := fun w n c => run_eql_slice_nil (P := Try.prog) w 29 3 a n c Try.underlying29
  cases a with
  | none =>
    obtain ⟨rfl, rfl⟩ := hcn rfl
    clear hr ho hb0 hcn
    go_enter Try.func26, Try.ntmps26
    go_wp2
    go_ret
    exact ⟨_, rfl, OwnG.nil hlI _ _ _, Below.refl _ _⟩
  | some x =>
    have hs0 := hb0.size
    clear hcn
    go_enter Try.func26, Try.ntmps26
    go_wp2_with (at_builtin; refine wp_appGS intE rfl _ _ rfl rfl ho rfl hr (by simp) (by omega) hs0 ?_)
    intro v1 w1 ho1 hb1 _
    go_wp2
    go_ret
    exact ⟨_, rfl, by simpa using ho1, hb0.trans hb1⟩

theorem oNaN (x : Int) (w : World) : Calls Try.prog 38 #[.int .i64 x] w fun e w' => e = .returned (.bool false) ∧ w' = w := by
  have hx : (x != x) = false := by simp
  go_enter Try.func38, Try.ntmps38
  go_wp2
  go_ret
  exact ⟨rfl, rfl⟩
theorem oLess (x y : Int) (w : World) : Calls Try.prog 36 #[.int .i64 x, .int .i64 y] w fun e w' => e = .returned (.bool (decide (x < y))) ∧ w' = w := by
  have H := Lib.hid oNaN
  go_enter Try.func36, Try.ntmps36
  go_wp2_with (go_at_call 38; refine (H.out _ _).mono ?_; rintro e w1 ⟨rfl, rfl⟩)
  go_ret
  exact ⟨rfl, rfl⟩
theorem oNaN2 (x : Int) (w : World) : Calls Try.prog 37 #[.int .i64 x] w fun e w' => e = .returned (.bool false) ∧ w' = w := by
  have hx : (x != x) = false := by simp
  go_enter Try.func37, Try.ntmps37
  go_wp2
  go_ret
  exact ⟨rfl, rfl⟩

set_option maxRecDepth 100000 in
set_option maxHeartbeats 2000000 in
theorem oSearch (v : Value) (xs : List Int) (a : Int) (w : World) (h : RdI w v xs) (hs : xs.Pairwise (· < ·)) (hl : xs.length ≤ 1000000) :
    Calls Try.prog 34 #[v, .int .i64 a] w fun e w' => ∃ i : Nat, e = .returned (.tuple #[.int .i64 i, .bool (fndI xs a i)]) ∧ AtI xs a i ∧ w' = w := by
  obtain ⟨ad, cap, rfl, hc, _⟩ := h.shape
  have H := Lib.hid h
  have HV := Lib.hid hs
  have HN := Lib.hid oNaN2
  clear h hs
  go_enter Try.func34, Try.ntmps34
  go_wp2
  go_loop [7, 8] (fun i j => ∃ p q : Nat, p ≤ q ∧ q ≤ xs.length ∧ i = .int .i64 p ∧ j = .int .i64 q ∧ Hid (∀ k e, xs[k]? = some e → k < p → e < a) ∧ Hid (∀ k e, xs[k]? = some e → q ≤ k → a ≤ e)) (fun i j => (intOf j - intOf i).toNat)
  case atStart => exact ⟨0, xs.length, Nat.zero_le _, Nat.le_refl _, rfl, rfl, Lib.hid (by intro k e _ h; omega), Lib.hid (by intro k e hk h; have := (List.getElem?_eq_some_iff.1 hk).1; omega)⟩
  case round =>
    obtain ⟨p, q, hpq, hq, rfl, rfl, hlo, hhi⟩ := hrel
    by_cases hlt : p < q
    · have hq1 : (p : Int) < (q : Int) := by omega
      have hmid : (p + q) / 2 < xs.length := by omega
      obtain ⟨b, o, hi, hb, c0⟩ := atI H.out ((p + q) / 2) xs[(p + q) / 2] (List.getElem?_eq_getElem hmid)
      rw [show (((p + q) / 2 : Nat) : Int) = ((p : Int) + (q : Int)) / 2 by omega] at hi
      have hg := Lib.hid (List.getElem?_eq_getElem hmid)
      generalize xs[(p + q) / 2] = x at c0 hg
      have HC := Lib.hid (fun w => oLess x a w)
      by_cases hx : x < a
      · have hlo2 := Lib.hid (show ∀ k e, xs[k]? = some e → k < (p + q) / 2 + 1 → e < a from fun k e hk hkl => by
          by_cases hkm : k = (p + q) / 2
          · subst hkm
            rw [hg.out] at hk
            cases hk
            exact hx
          · have h2 : e < x := asc_lt HV.out hk hg.out (by omega)
            show e < a; omega)
        clear hlo hg
        go_wp2_with (go_at_call 36; refine (HC.out _).mono ?_; rintro e w1 ⟨rfl, rfl⟩)
        go_round
        case rel => exact ⟨(p + q) / 2 + 1, q, by omega, hq, vint (by omega), rfl, hlo2, hhi⟩
        case measure => simp [intOf]; omega
      · have hhi2 := Lib.hid (show ∀ k e, xs[k]? = some e → (p + q) / 2 ≤ k → a ≤ e from fun k e hk hkl => by
          by_cases hkm : k = (p + q) / 2
          · subst hkm
            rw [hg.out] at hk
            cases hk
            show a ≤ x; omega
          · have h2 : x < e := asc_lt HV.out hg.out hk (by omega)
            show a ≤ e; omega)
        clear hhi hg
        go_wp2_with (go_at_call 36; refine (HC.out _).mono ?_; rintro e w1 ⟨rfl, rfl⟩)
        go_round
        case rel => exact ⟨p, (p + q) / 2, by omega, by omega, rfl, vint (by omega), hlo, hhi2⟩
        case measure => simp [intOf]; omega
    · obtain rfl : p = q := by omega
      have hq1 : ¬ ((p : Int) < (p : Int)) := by omega
      have hat := Lib.hid (show AtI xs a p from ⟨hq, hlo.out, hhi.out⟩)
      by_cases hpn : p < xs.length
      · have hpi : (p : Int) < (xs.length : Int) := by omega
        obtain ⟨b, o, hi, hb, c0⟩ := atI H.out p xs[p] (List.getElem?_eq_getElem hpn)
        have hg := Lib.hid (List.getElem?_eq_getElem hpn)
        generalize xs[p] = x at c0 hg
        by_cases hx : x = a
        · have hf := Lib.hid (show fndI xs a p = true by unfold fndI; rw [hg.out]; exact decide_eq_true (by rw [hx]))
          have hxe : (x == a) = true := beqT hx
          clear hlo hhi hg hx
          go_wp2_with (go_at_call 37; refine (HN.out _ _).mono ?_; rintro e w1 ⟨rfl, rfl⟩)
          go_ret2
          exact ⟨p, by rw [hf.out]; rfl, hat.out, rfl⟩
        · have hf := Lib.hid (show fndI xs a p = false by unfold fndI; rw [hg.out]; exact decide_eq_false (fun h => hx (Option.some.inj h)))
          have hxe : (x == a) = false := beqF hx
          clear hlo hhi hg hx
          go_wp2_with (go_at_call 37; refine (HN.out _ _).mono ?_; rintro e w1 ⟨rfl, rfl⟩)
          go_ret2
          exact ⟨p, by rw [hf.out]; rfl, hat.out, rfl⟩
      · have hpi : ¬ ((p : Int) < (xs.length : Int)) := by omega
        have hf := Lib.hid (show fndI xs a p = false by unfold fndI; rw [List.getElem?_eq_none (by omega)]; rfl)
        clear hlo hhi
        go_wp2
        go_ret2
        exact ⟨p, by rw [hf.out]; rfl, hat.out, rfl⟩

set_option maxRecDepth 100000 in
set_option maxHeartbeats 4000000 in
theorem oWith (v : Value) (l : List Int) (a : Int) (w : World) (h : RdI w v l) (hs : l.Pairwise (· < ·)) (hl : l.length ≤ 1000000) :
    Calls Try.prog 30 #[v, .int .i64 a] w fun e w' => ∃ v', e = .returned v' ∧ OwnI w.heap.size w' v' (PM.ins a l) ∧ Below w.heap.size w w' := by
  obtain ⟨ad, c, rfl, hc, hlc⟩ := h.shape
  have HS := Lib.hid (oSearch _ l a w h hs hl)
  have H := Lib.hid h
  have HL := Lib.hid hl
  obtain ⟨R, hR⟩ : ∃ R, R = PM.ins a l := ⟨_, rfl⟩
  rw [← hR]
  have HQ := Lib.hid hR
  clear h hs hl hR
  go_enter Try.func30, Try.ntmps30
  go_wp2_with fail
  refine HS.out.mono ?_
  rintro e w1 ⟨i, rfl, hat, rfl⟩
  clear HS
  have HR := Lib.hid (HQ.out.trans (ins_cut hat).symm)
  have hil := hat.le
  obtain ⟨hv1, hr1⟩ := H.out.cutF intE i hil
  have HR1 := Lib.hid hr1
  clear hr1 HQ
  have hd2 : (l.take i).length ≤ 1073741824 := by have := HL.out; rw [List.length_take]; omega
  cases F : fndI l a i
  · rw [F] at HR
    obtain ⟨v2, hv2, hr2⟩ := H.out.cutL intE (i) (hil)
    have HR2 := Lib.hid hr2
    have HRE := Lib.hid (show R = (l.take i ++ [a]) ++ l.drop (i) by have h := HR.out; simpa using h)
    have hd1 : (l.drop (i)).length ≤ 1073741824 := by have := HL.out; rw [List.length_drop]; omega
    have hd3 : (l.take i ++ [a]).length ≤ 1073741824 := by have := HL.out; rw [List.length_append, List.length_take]; simp; omega
    clear HR hr2 F hat
    go_wp2
    refine wp_region_held_drew (S := fun w' => Below w1.heap.size w1 w') (by kernel_rfl) ((Below.refl _ _).drew) (fun ha => ?_)
    replace ha : Below w1.heap.size w1 w1.drew := (Below.refl _ _).drew
    generalize w1.drew = wa at ha ⊢
    refine takeH (i := 0) (v := ?_) rfl (by kernel_rfl) (by kernel_rfl) (by kernel_rfl) (fun _ _ _ h => h) (Or.inl ⟨by rfl, ?_⟩) (by assumption) ?_
    rotate_left
    · (intro w hSw; (try dsimp only at hSw); go_simp; first | done | with_reducible rfl)
    (try simp only [Act.put, List.setIfInBounds_toArray, List.set_cons_zero, List.set_cons_succ])
    refine takeH (i := 1) (v := ?_) rfl (by kernel_rfl) (by kernel_rfl) (by kernel_rfl) (fun _ _ _ h => h) (Or.inl ⟨by rfl, ?_⟩) (by assumption) ?_
    rotate_left
    · (intro w hSw; (try dsimp only at hSw); go_simp; first | done | with_reducible rfl)
    (try simp only [Act.put, List.setIfInBounds_toArray, List.set_cons_zero, List.set_cons_succ])
    refine takeH (i := 2) (v := ?_) rfl (by kernel_rfl) (by kernel_rfl) (by kernel_rfl) (fun _ _ _ h => h) (Or.inl ⟨by rfl, ?_⟩) (by assumption) ?_
    rotate_left
    · (intro w hSw; (try dsimp only at hSw); go_simp; first | done | with_reducible rfl)
    (try simp only [Act.put, List.setIfInBounds_toArray, List.set_cons_zero, List.set_cons_succ])
    refine takeH (i := 3) (v := ?_) rfl (by kernel_rfl) (by kernel_rfl) (by kernel_rfl) (fun _ _ _ h => h) (Or.inl ⟨by rfl, ?_⟩) (by assumption) ?_
    rotate_left
    · (intro w hSw; (try dsimp only at hSw); have hi := hv1 w; go_simp; first | done | with_reducible rfl)
    (try simp only [Act.put, List.setIfInBounds_toArray, List.set_cons_zero, List.set_cons_succ])
    refine takeH (i := 4) (v := ?_) rfl (by kernel_rfl) (by kernel_rfl) (by kernel_rfl) (fun _ _ _ h => h) (Or.inl ⟨by rfl, ?_⟩) (by assumption) ?_
    rotate_left
    · (intro w hSw; (try dsimp only at hSw); go_simp; first | done | with_reducible rfl)
    (try simp only [Act.put, List.setIfInBounds_toArray, List.set_cons_zero, List.set_cons_succ])
    refine takeH (i := 7) (v := ?_) rfl (by kernel_rfl) (by kernel_rfl) (by kernel_rfl) (fun _ _ _ h => h) (Or.inl ⟨by rfl, ?_⟩) (by assumption) ?_
    rotate_left
    · (intro w hSw; (try dsimp only at hSw); go_simp; first | done | with_reducible rfl)
    (try simp only [Act.put, List.setIfInBounds_toArray, List.set_cons_zero, List.set_cons_succ])
    refine takeH (i := 8) (v := ?_) rfl (by kernel_rfl) (by kernel_rfl) (by kernel_rfl) (fun _ _ _ h => h) (Or.inl ⟨by rfl, ?_⟩) (by assumption) ?_
    rotate_left
    · (intro w hSw; (try dsimp only at hSw); go_simp; first | done | with_reducible rfl)
    (try simp only [Act.put, List.setIfInBounds_toArray, List.set_cons_zero, List.set_cons_succ])
    refine takeH (i := 9) (v := ?_) rfl (by kernel_rfl) (by kernel_rfl) (by kernel_rfl) (fun _ _ _ h => h) (Or.inl ⟨by rfl, ?_⟩) (by assumption) ?_
    rotate_left
    · (intro w hSw; (try dsimp only at hSw); have hi := hv2 w; go_simp; first | done | with_reducible rfl)
    (try simp only [Act.put, List.setIfInBounds_toArray, List.set_cons_zero, List.set_cons_succ])
    refine wpAnyH_ready (rs := [5]) (by kernel_rfl) (by simp) ?_
    refine stepH rfl (fun K hK => ?_) AllReadyH.nil
    go_simp
    have hfr := VX.below_fresh wa (.cells #[.int .i64 a] 3)
    have HRT := Lib.hid (HR1.out.below (bnext ha hfr))
    have HRD := Lib.hid (HR2.out.below (bnext ha hfr))
    have HU := Lib.hid (show RdI (wa.alloc (.cells #[.int .i64 a] 3)) (.slice (some ⟨wa.heap.size, 0, none⟩) 1 1) [a] from (ownG_fresh hlI 3 wa [a] (by unfold maxLen; simp)).rd)
    have hb := bnext ha hfr
    refine hK.out _ _ hb (fun _ => ?_)
    clear hK K hfr
    (try simp only [Act.put, List.setIfInBounds_toArray, List.set_cons_zero, List.set_cons_succ])
    obtain ⟨wb, hwb⟩ : ∃ wb, wa.alloc (.cells #[.int .i64 a] 3) = wb := ⟨_, rfl⟩
    rw [hwb] at HRT HRD HU hb ⊢
    clear hwb
    refine wpAnyH_ready (rs := [6]) (by kernel_rfl) (by simp) ?_
    refine stepH rfl (fun K hK => ?_) AllReadyH.nil
    refine step_appFull intE rfl _ _ rfl rfl HRT.out rfl HU.out (by simp) hd2 (by simp) ?_
    intro v3 w3 ho3 hb3
    have hc3 := bnext hb hb3
    refine hK.out _ _ hc3 (fun _ => ?_)
    clear hK K
    (try simp only [Act.put, List.setIfInBounds_toArray, List.set_cons_zero, List.set_cons_succ])
    refine wpAnyH_ready (rs := [10]) (by kernel_rfl) (by simp) ?_
    refine stepH rfl (fun K hK => ?_) AllReadyH.nil
    refine step_appMore intE rfl _ _ rfl rfl ho3 rfl (HRD.out.below hb3) hd3 hd1 hb3.size ?_
    intro v4 w4 ho4 hb4
    have hc4 := hc3.trans (hb4.mono hb.size)
    refine hK.out _ _ hc4 (fun _ => ?_)
    clear hK K
    (try simp only [Act.put, List.setIfInBounds_toArray, List.set_cons_zero, List.set_cons_succ])
    refine takeH (i := 11) (v := ?_) rfl (by kernel_rfl) (by kernel_rfl) (by kernel_rfl) (fun _ _ _ h => h) (Or.inl ⟨by rfl, ?_⟩) (by assumption) ?_
    rotate_left
    · (intro w hSw; (try dsimp only at hSw); go_simp; first | done | with_reducible rfl)
    (try simp only [Act.put, List.setIfInBounds_toArray, List.set_cons_zero, List.set_cons_succ])
    refine wpAnyH_done (by kernel_rfl) ?_ _
    go_wp2
    go_ret
    exact ⟨_, rfl, by rw [HRE.out]; exact ho4.mono hb.size, hc4⟩
  · rw [F] at HR
    have hil1 : i + 1 ≤ l.length := by
      have h1 : l[i]? = some a := of_decide_eq_true F
      exact (List.getElem?_eq_some_iff.1 h1).1
    obtain ⟨v2, hv2, hr2⟩ := H.out.cutL intE (i + 1) (hil1)
    rw [show ((i + 1 : Nat) : Int) = (i : Int) + 1 by omega] at hv2
    have HR2 := Lib.hid hr2
    have HRE := Lib.hid (show R = (l.take i ++ [a]) ++ l.drop (i + 1) by have h := HR.out; simpa using h)
    have hd1 : (l.drop (i + 1)).length ≤ 1073741824 := by have := HL.out; rw [List.length_drop]; omega
    have hd3 : (l.take i ++ [a]).length ≤ 1073741824 := by have := HL.out; rw [List.length_append, List.length_take]; simp; omega
    clear HR hr2 F hat
    go_wp2
    refine wp_region_held_drew (S := fun w' => Below w1.heap.size w1 w') (by kernel_rfl) ((Below.refl _ _).drew) (fun ha => ?_)
    replace ha : Below w1.heap.size w1 w1.drew := (Below.refl _ _).drew
    generalize w1.drew = wa at ha ⊢
    refine takeH (i := 0) (v := ?_) rfl (by kernel_rfl) (by kernel_rfl) (by kernel_rfl) (fun _ _ _ h => h) (Or.inl ⟨by rfl, ?_⟩) (by assumption) ?_
    rotate_left
    · (intro w hSw; (try dsimp only at hSw); go_simp; first | done | with_reducible rfl)
    (try simp only [Act.put, List.setIfInBounds_toArray, List.set_cons_zero, List.set_cons_succ])
    refine takeH (i := 1) (v := ?_) rfl (by kernel_rfl) (by kernel_rfl) (by kernel_rfl) (fun _ _ _ h => h) (Or.inl ⟨by rfl, ?_⟩) (by assumption) ?_
    rotate_left
    · (intro w hSw; (try dsimp only at hSw); go_simp; first | done | with_reducible rfl)
    (try simp only [Act.put, List.setIfInBounds_toArray, List.set_cons_zero, List.set_cons_succ])
    refine takeH (i := 2) (v := ?_) rfl (by kernel_rfl) (by kernel_rfl) (by kernel_rfl) (fun _ _ _ h => h) (Or.inl ⟨by rfl, ?_⟩) (by assumption) ?_
    rotate_left
    · (intro w hSw; (try dsimp only at hSw); go_simp; first | done | with_reducible rfl)
    (try simp only [Act.put, List.setIfInBounds_toArray, List.set_cons_zero, List.set_cons_succ])
    refine takeH (i := 3) (v := ?_) rfl (by kernel_rfl) (by kernel_rfl) (by kernel_rfl) (fun _ _ _ h => h) (Or.inl ⟨by rfl, ?_⟩) (by assumption) ?_
    rotate_left
    · (intro w hSw; (try dsimp only at hSw); have hi := hv1 w; go_simp; first | done | with_reducible rfl)
    (try simp only [Act.put, List.setIfInBounds_toArray, List.set_cons_zero, List.set_cons_succ])
    refine takeH (i := 4) (v := ?_) rfl (by kernel_rfl) (by kernel_rfl) (by kernel_rfl) (fun _ _ _ h => h) (Or.inl ⟨by rfl, ?_⟩) (by assumption) ?_
    rotate_left
    · (intro w hSw; (try dsimp only at hSw); go_simp; first | done | with_reducible rfl)
    (try simp only [Act.put, List.setIfInBounds_toArray, List.set_cons_zero, List.set_cons_succ])
    refine takeH (i := 7) (v := ?_) rfl (by kernel_rfl) (by kernel_rfl) (by kernel_rfl) (fun _ _ _ h => h) (Or.inl ⟨by rfl, ?_⟩) (by assumption) ?_
    rotate_left
    · (intro w hSw; (try dsimp only at hSw); go_simp; first | done | with_reducible rfl)
    (try simp only [Act.put, List.setIfInBounds_toArray, List.set_cons_zero, List.set_cons_succ])
    refine takeH (i := 8) (v := ?_) rfl (by kernel_rfl) (by kernel_rfl) (by kernel_rfl) (fun _ _ _ h => h) (Or.inl ⟨by rfl, ?_⟩) (by assumption) ?_
    rotate_left
    · (intro w hSw; (try dsimp only at hSw); go_simp; first | done | with_reducible rfl)
    (try simp only [Act.put, List.setIfInBounds_toArray, List.set_cons_zero, List.set_cons_succ])
    refine takeH (i := 9) (v := ?_) rfl (by kernel_rfl) (by kernel_rfl) (by kernel_rfl) (fun _ _ _ h => h) (Or.inl ⟨by rfl, ?_⟩) (by assumption) ?_
    rotate_left
    · (intro w hSw; (try dsimp only at hSw); have hi := hv2 w; go_simp; first | done | with_reducible rfl)
    (try simp only [Act.put, List.setIfInBounds_toArray, List.set_cons_zero, List.set_cons_succ])
    refine wpAnyH_ready (rs := [5]) (by kernel_rfl) (by simp) ?_
    refine stepH rfl (fun K hK => ?_) AllReadyH.nil
    go_simp
    have hfr := VX.below_fresh wa (.cells #[.int .i64 a] 3)
    have HRT := Lib.hid (HR1.out.below (bnext ha hfr))
    have HRD := Lib.hid (HR2.out.below (bnext ha hfr))
    have HU := Lib.hid (show RdI (wa.alloc (.cells #[.int .i64 a] 3)) (.slice (some ⟨wa.heap.size, 0, none⟩) 1 1) [a] from (ownG_fresh hlI 3 wa [a] (by unfold maxLen; simp)).rd)
    have hb := bnext ha hfr
    refine hK.out _ _ hb (fun _ => ?_)
    clear hK K hfr
    (try simp only [Act.put, List.setIfInBounds_toArray, List.set_cons_zero, List.set_cons_succ])
    obtain ⟨wb, hwb⟩ : ∃ wb, wa.alloc (.cells #[.int .i64 a] 3) = wb := ⟨_, rfl⟩
    rw [hwb] at HRT HRD HU hb ⊢
    clear hwb
    refine wpAnyH_ready (rs := [6]) (by kernel_rfl) (by simp) ?_
    refine stepH rfl (fun K hK => ?_) AllReadyH.nil
    refine step_appFull intE rfl _ _ rfl rfl HRT.out rfl HU.out (by simp) hd2 (by simp) ?_
    intro v3 w3 ho3 hb3
    have hc3 := bnext hb hb3
    refine hK.out _ _ hc3 (fun _ => ?_)
    clear hK K
    (try simp only [Act.put, List.setIfInBounds_toArray, List.set_cons_zero, List.set_cons_succ])
    refine wpAnyH_ready (rs := [10]) (by kernel_rfl) (by simp) ?_
    refine stepH rfl (fun K hK => ?_) AllReadyH.nil
    refine step_appMore intE rfl _ _ rfl rfl ho3 rfl (HRD.out.below hb3) hd3 hd1 hb3.size ?_
    intro v4 w4 ho4 hb4
    have hc4 := hc3.trans (hb4.mono hb.size)
    refine hK.out _ _ hc4 (fun _ => ?_)
    clear hK K
    (try simp only [Act.put, List.setIfInBounds_toArray, List.set_cons_zero, List.set_cons_succ])
    refine takeH (i := 11) (v := ?_) rfl (by kernel_rfl) (by kernel_rfl) (by kernel_rfl) (fun _ _ _ h => h) (Or.inl ⟨by rfl, ?_⟩) (by assumption) ?_
    rotate_left
    · (intro w hSw; (try dsimp only at hSw); go_simp; first | done | with_reducible rfl)
    (try simp only [Act.put, List.setIfInBounds_toArray, List.set_cons_zero, List.set_cons_succ])
    refine wpAnyH_done (by kernel_rfl) ?_ _
    go_wp2
    go_ret
    exact ⟨_, rfl, by rw [HRE.out]; exact ho4.mono hb.size, hc4⟩

end Go.Proofs.Ytejedodicihecaa
