/-
  slices.Compare, slices.SortFunc over lists of servers: the sorted list. Conditions: the lists read; the row is the call's own, its lists lie in blocks of integers.
-/
import Derived.Shelf.SlSortCmp.NoneTotal
import Derived.Test.YtbbgjckiooejhaaQShelf
import Derived.Test.YtbbgjckiooejhaaQLL
namespace Go.Proofs.Ytbbgjckiooejhaa
open Go.RowKit
open QM (Mem)

def cmpi (x a : Int) : Int := if x < a then -1 else if a < x then 1 else 0

set_option maxRecDepth 100000 in
set_option maxHeartbeats 1000000 in
theorem wCmp (x a : Int) (w : World) : Calls Try.prog 54 #[.int .i64 x, .int .i64 a] w fun e w' => e = .returned (.int .i64 (cmpi x a)) ∧ w = w' := by
  unfold cmpi
  by_cases h1 : x < a
  · rw [if_pos h1]
    go_enter Try.func54, Try.ntmps54
    go_wp2
    go_ret
    exact ⟨rfl, rfl⟩
  · rw [if_neg h1]
    by_cases h2 : a < x
    · rw [if_pos h2]
      go_enter Try.func54, Try.ntmps54
      go_wp2
      go_ret
      exact ⟨rfl, rfl⟩
    · rw [if_neg h2]
      go_enter Try.func54, Try.ntmps54
      go_wp2
      go_ret
      exact ⟨rfl, rfl⟩

/-- How two lists compare. -/
def cmpL : List Int → List Int → Int
  | [], [] => 0
  | [], _ :: _ => -1
  | _ :: _, [] => 1
  | x :: a, y :: b => if cmpi x y = 0 then cmpL a b else cmpi x y
theorem cmpL_cons_eq {x y : Int} {a b : List Int} (h : cmpi x y = 0) : cmpL (x :: a) (y :: b) = cmpL a b := by rw [cmpL, if_pos h]
theorem cmpL_cons_ne {x y : Int} {a b : List Int} (h : ¬ cmpi x y = 0) : cmpL (x :: a) (y :: b) = cmpi x y := by rw [cmpL, if_neg h]
theorem cmpL_lex : ∀ a b : List Int, decide (cmpL a b < 0) = QM.lex a b
  | [], [] => rfl
  | [], _ :: _ => rfl
  | _ :: _, [] => rfl
  | x :: a, y :: b => by
    unfold QM.lex
    by_cases h : x = y
    · subst h
      rw [if_pos rfl, cmpL_cons_eq (by unfold cmpi; simp)]
      exact cmpL_lex a b
    · rw [if_neg h]
      have hne : ¬ cmpi x y = 0 := by unfold cmpi; split <;> (try split) <;> omega
      rw [cmpL_cons_ne hne, decide_eq_decide]
      unfold cmpi
      split <;> (try split) <;> omega

set_option maxRecDepth 100000 in
set_option maxHeartbeats 1000000 in
theorem cCompare (v u : Value) (xs ys : List Int) (w : World) (h : RdI w v xs) (g : RdI w u ys) :
    Calls Try.prog 40 #[v, u] w fun e w' => e = .returned (.int .i64 (cmpL xs ys)) ∧ w = w' := by
  obtain ⟨ad, c, rfl, hc, hl⟩ := h.shape
  obtain ⟨bd, d, rfl, hd, hm⟩ := g.shape
  have H := Lib.hid h
  have G := Lib.hid g
  clear h g
  obtain ⟨R, hR⟩ : ∃ R, R = cmpL xs ys := ⟨_, rfl⟩
  rw [← hR]
  have HR := Lib.hid hR
  clear hR
  go_enter Try.func40, Try.ntmps40
  go_wp2
  go_loop [11] (fun i => ∃ k : Nat, k ≤ xs.length ∧ k ≤ ys.length ∧ i = .int .i64 k ∧ Hid (R = cmpL (xs.drop k) (ys.drop k))) (fun i => xs.length - (intOf i).toNat)
  case atStart => exact ⟨0, Nat.zero_le _, Nat.zero_le _, rfl, HR.out⟩
  case round =>
    obtain ⟨k, hk, hky, rfl, he⟩ := hrel
    clear HR
    by_cases hlt : k < xs.length
    · obtain ⟨b, o, hi, hb, c0⟩ := atI H.out k xs[k] (List.getElem?_eq_getElem hlt)
      have hq : (k : Int) < (xs.length : Int) := by omega
      have hdx := Lib.hid (drop_get hlt)
      generalize xs[k] = x at c0 hdx
      by_cases hlt2 : k < ys.length
      · obtain ⟨b2, o2, hi2, hb2, d0⟩ := atI G.out k ys[k] (List.getElem?_eq_getElem hlt2)
        have hq2 : ¬ ((ys.length : Int) ≤ (k : Int)) := by omega
        have hdy := Lib.hid (drop_get hlt2)
        generalize ys[k] = y at d0 hdy
        have hcall := fun w => wCmp x y w
        by_cases h0 : cmpi x y = 0
        · have e2 := Lib.hid (show R = cmpL (xs.drop (k + 1)) (ys.drop (k + 1)) by rw [he.out, hdx.out, hdy.out, cmpL_cons_eq h0])
          rw [h0] at hcall
          have HC := Lib.hid hcall
          clear he hdx hdy h0 hcall
          go_wp2_with fail
          refine (HC.out _).mono ?_
          rintro e w1 ⟨rfl, rfl⟩
          go_wp2
          go_round
          case rel => exact ⟨k + 1, by omega, by omega, by go_num, e2⟩
          case measure => simp [intOf]; omega
        · have e2 := Lib.hid (show R = cmpi x y by rw [he.out, hdx.out, hdy.out, cmpL_cons_ne h0])
          have HC := Lib.hid hcall
          clear he hdx hdy hcall
          generalize cmpi x y = r at e2 HC h0
          have hr : (r == 0) = false := beq_f h0
          clear h0
          go_wp2_with fail
          refine (HC.out _).mono ?_
          rintro e w1 ⟨rfl, rfl⟩
          go_wp2
          go_ret
          rw [e2.out]
          exact ⟨rfl, rfl⟩
      · have hq2 : (ys.length : Int) ≤ (k : Int) := by omega
        have e2 := Lib.hid (show R = 1 by rw [he.out, hdx.out, List.drop_of_length_le (by omega : ys.length ≤ k)]; rfl)
        clear he hdx
        go_wp2
        go_ret
        rw [e2.out]
        exact ⟨rfl, rfl⟩
    · have hq : ¬ ((k : Int) < (xs.length : Int)) := by omega
      have hx0 : xs.drop k = [] := List.drop_of_length_le (by omega)
      by_cases hlt2 : xs.length < ys.length
      · have hq2 : (xs.length : Int) < (ys.length : Int) := by omega
        have e2 := Lib.hid (show R = -1 by rw [he.out, hx0, drop_get (by omega : k < ys.length)]; rfl)
        clear he hx0
        go_wp2
        go_ret
        rw [e2.out]
        exact ⟨rfl, rfl⟩
      · have hq2 : ¬ ((xs.length : Int) < (ys.length : Int)) := by omega
        have e2 := Lib.hid (show R = 0 by rw [he.out, hx0, List.drop_of_length_le (by omega : ys.length ≤ k)]; rfl)
        clear he hx0
        go_wp2
        go_ret
        rw [e2.out]
        exact ⟨rfl, rfl⟩

/-! The sort. -/
structure LRow (w : World) (blk : Nat) where
  p : LI
  rd : RdI w (slV p.1) p.2
  off : ∀ x, p.1.1 = some x → x.block ≠ blk
instance (w : World) (blk : Nat) : Inhabited (LRow w blk) := ⟨⟨((none, 0, 0), []), RdG.nil hlI w, (fun _ h => by cases h)⟩⟩
def encR {w : World} {blk : Nat} (r : LRow w blk) : Value := slV r.p.1
theorem rdI_sorted {w : World} {blk : Nat} (m : Nat) (dk : Array (LRow w blk)) (os : Array Obj) (r : LRow w blk) : RdI (sortWorld encR w blk 0 m dk os) (slV r.p.1) r.p.2 := by
  obtain ⟨a, c, hv, h1, h2, h3, hl, h4⟩ := r.rd
  refine ⟨a, c, hv, h1, h2, h3, hl, fun x hx j u hu => ?_⟩
  have h5 := h4 x hx j u hu
  have h6 := World.block_lt_of_cell? w _ h5
  have hne : (x.add j).block ≠ blk := by
    rw [addr_block]
    exact r.off x (by have := congrArg (fun v => match v with | Value.slice a _ _ => a | _ => none) hv; simp only [slV] at this; rw [this, hx])
  unfold sortWorld
  rw [Go.Sort.cell?_grow _ _ _ (by rw [Go.Sort.size_putRow]; exact h6), Go.Sort.cell?_putRow_other _ _ _ _ _ _ (.inl hne)]
  exact h5
theorem below_sortWorld {w : World} {blk : Nat} {base : Nat} (hb : base ≤ blk) (hblk : blk < w.heap.size) (m : Nat) (dk : Array (LRow w blk)) (os : Array Obj) : Below base w (sortWorld encR w blk 0 m dk os) := by
  refine ⟨rfl, rfl, rfl, ?_, fun k hk => ?_⟩
  · unfold sortWorld
    rw [Go.Sort.size_grow, Go.Sort.size_putRow]
    exact Nat.le_add_right _ _
  · unfold sortWorld
    rw [Go.Sort.heap_grow_old _ _ (by rw [Go.Sort.size_putRow]; show k < w.heap.size; omega)]
    unfold Go.Sort.putRow Go.Sort.mapBlock
    rw [Array.getElem?_modify, if_neg (by omega)]
    rfl

/-- slices.SortFunc with slices.Compare. -/
theorem cSort (w : World) (base : Nat) (v : Value) (ls : List (List Int)) (h : OwnLL base w v ls) (hlen : ls.length ≤ 1073741824) :
    Calls Try.prog 39 #[v, .func (.func 40) #[] #[]] w fun e w' => e = .returned (.tuple #[]) ∧
      ∃ ls', RdLL w' v ls' ∧ ls'.Perm ls ∧ (∀ (i j : Nat) (a b : List Int), i < j → ls'[i]? = some a → ls'[j]? = some b → QM.lex b a = false) ∧ Below base w w' := by
  obtain ⟨ps, hown, hin, rfl⟩ := h
  rw [List.length_map] at hlen
  rcases Nat.eq_zero_or_pos ps.length with h0 | h0
  · obtain rfl : ps = [] := List.eq_nil_of_length_eq_zero h0
    obtain ⟨a, c, rfl, _⟩ := hown.rd.shape
    have hS := AnyF.slices_SortFunc_none (P := Try.prog) (ρ := Try.sortL_ren) { Try.sortL with } a c (.func (.func 40) #[] #[]) w
    change Calls Try.prog 39 _ _ _ at hS
    refine hS.mono ?_
    rintro e w' ⟨rfl, rfl⟩
    exact ⟨rfl, [], ⟨[], hown.rd, (fun p hp => (hin p hp).rd), rfl⟩, List.Perm.refl _, (fun i j a b _ ha => by simp at ha), Below.refl _ _⟩
  · obtain ⟨blk, cap, cur, rfl, hbase, hheap, hn, hm, hs, ht⟩ := hown.form h0
    have hblk : blk < w.heap.size := (Array.getElem?_eq_some_iff.1 hheap).1
    have hoff : ∀ p ∈ ps, ∀ x, p.1.1 = some x → x.block ≠ blk := fun p hp x hx => by
      rcases (hin p hp).1.2 with ⟨h1, _⟩ | ⟨g, cp, cu, h1, _, h2, _⟩
      · have := congrArg (fun v => match v with | Value.slice a _ _ => a | _ => none) h1
        simp only [slV] at this
        rw [this] at hx; cases hx
      · have := congrArg (fun v => match v with | Value.slice a _ _ => a | _ => none) h1
        simp only [slV] at this
        rw [this] at hx
        cases hx
        show g ≠ blk
        rintro rfl
        rw [hheap] at h2
        injection h2 with h2; injection h2 with _ h3
        exact absurd h3 (by decide)
    obtain ⟨es, hes⟩ : ∃ es : List (LRow w blk), es.map (·.p) = ps :=
      ⟨ps.pmap (fun p (h : RdI w (slV p.1) p.2 ∧ ∀ x, p.1.1 = some x → x.block ≠ blk) => (⟨p, h.1, h.2⟩ : LRow w blk)) (fun p hp => ⟨(hin p hp).rd, hoff p hp⟩), by rw [List.map_pmap]; simp⟩
    have hel : es.length = ps.length := by rw [← hes, List.length_map]
    have hH : Go.Sort.Holds encR w blk 0 es.toArray := by
      intro j hj
      have hj' : j < es.length := by simpa using hj
      have e1 : es.toArray[j]! = es[j] := by rw [getElem!_pos _ j hj]; simp
      obtain ⟨a', c', _, _, _, _, _, hc⟩ := hown.rd
      have hcell : w.cell? ⟨blk, 0 + j, none⟩ = some (encR es[j]) := by
        have := hown.1.cells (g := blk) rfl j (slV (es[j]).p.1) (by rw [cellsP, ← hes, List.map_map, List.getElem?_map, List.getElem?_eq_getElem hj']; rfl)
        rw [addr_plain] at this
        exact this
      rw [e1]
      refine ⟨hcell, ?_⟩
      simp [World.frozen?, hheap]
    have hcmp : CmpLays1 Try.prog 40 #[] encR (fun (x y : LRow w blk) => cmpL x.p.2 y.p.2) blk 0 es.toArray.size w := by
      intro m os dk hdk x y
      refine (cCompare _ _ x.p.2 y.p.2 (sortWorld encR w blk 0 m dk os) (rdI_sorted m dk os x) (rdI_sorted m dk os y)).mono ?_
      rintro e w' ⟨rfl, rfl⟩
      exact ⟨rfl, 0, #[], by rw [Go.Sort.grow_empty]; rfl⟩
    have hO : Go.Sort.SWO (ltOf fun (x y : LRow w blk) => cmpL x.p.2 y.p.2) := by
      have e : ∀ x y : LRow w blk, (ltOf fun (x y : LRow w blk) => cmpL x.p.2 y.p.2) x y = QM.lex x.p.2 y.p.2 := fun x y => cmpL_lex _ _
      exact ⟨fun x => by rw [e]; exact QM.lex_irrefl _, fun x y z h1 h2 => by rw [e] at h1 h2 ⊢; exact QM.lex_trans _ _ _ h1 h2, fun x y z h1 h2 => by rw [e] at h1 h2 ⊢; exact QM.lex_ntrans _ _ _ h1 h2⟩
    have hS := Any.slices_SortFunc Try.sortL encR (fun _ => rfl) (fun (x y : LRow w blk) => cmpL x.p.2 y.p.2) hO 40 #[] blk 0 cap es.toArray w
      (enters_of Try.func40 (by kernel_rfl) rfl) hcmp hH hblk (by simp; omega)
    change Calls Try.prog 39 _ _ _ at hS
    have e0 : es.toArray.size = ps.length := by simp [hel]
    rw [e0] at hS
    refine hS.mono ?_
    rintro e w' ⟨rfl, d', n, os, hp, hso, rfl⟩
    have hd' : d'.size = ps.length := by rw [hp.1, e0]
    have hperm : d'.toList.Perm es := by
      have h1 := hp.2.2
      rw [show d'.extract 0 ps.length = d' by rw [← hd']; simp, show es.toArray.extract 0 ps.length = es.toArray by rw [← e0]; simp] at h1
      exact h1
    refine ⟨rfl, d'.toList.map (·.p.2), ⟨d'.toList.map (·.p), ⟨_, cap, by rw [show (d'.toList.map (·.p)).length = ps.length by rw [List.length_map, Array.length_toList, hd']], by rw [List.length_map, Array.length_toList, hd']; exact hn, hm, (fun h => by cases h), hlP, ?_⟩, ?_, by rw [List.map_map]; rfl⟩, ?_, ?_, below_sortWorld hbase hblk n d' os⟩
    · intro x hx j u hu
      cases hx
      rw [cellsP, List.map_map, List.getElem?_map] at hu
      obtain ⟨r, hr, rfl⟩ := Option.map_eq_some_iff.1 hu
      have hj : j < d'.size := by have := (List.getElem?_eq_some_iff.1 hr).1; simpa using this
      have hc := Go.Sort.cell?_putRow encR (Go.Sort.ahead w n) blk 0 es.toArray d' (Go.Sort.holds_ahead _ _ _ _ _ _ hH) (by rw [hd', e0]) j hj
      rw [addr_plain]
      unfold sortWorld
      rw [Go.Sort.cell?_grow _ _ _ (by rw [Go.Sort.size_putRow]; exact hblk), hc]
      have : d'[j]! = r := by rw [getElem!_pos _ j hj]; rw [Array.getElem?_toList, Array.getElem?_eq_getElem hj] at hr; exact Option.some.inj hr
      rw [this]; rfl
    · intro p hp'
      obtain ⟨r, hr, rfl⟩ := List.mem_map.1 hp'
      exact rdI_sorted n d' os r
    · rw [← hes, List.map_map]
      exact hperm.map _
    · intro i j a b hij ha hb
      rw [List.getElem?_map] at ha hb
      obtain ⟨x, hx, rfl⟩ := Option.map_eq_some_iff.1 ha
      obtain ⟨y, hy, rfl⟩ := Option.map_eq_some_iff.1 hb
      have hj : j < d'.size := by have := (List.getElem?_eq_some_iff.1 hy).1; simpa using this
      have hi : i < d'.size := by omega
      have h1 := hso i j (Nat.zero_le _) hij (by omega)
      rw [getElem!_pos _ j hj, getElem!_pos _ i hi] at h1
      rw [Array.getElem?_toList, Array.getElem?_eq_getElem hj] at hy
      rw [Array.getElem?_toList, Array.getElem?_eq_getElem hi] at hx
      rw [Option.some.inj hx, Option.some.inj hy] at h1
      rw [← cmpL_lex]; exact h1

set_option maxRecDepth 100000 in
set_option maxHeartbeats 4000000 in
/-- P4.4: the minimal quorums, sorted. -/
theorem cMinimal (sv : Value) (k c f : Int) (ms : List Mem) (w : World) (hr : RdM w sv ms) (he : QM.errV k c f ms = 0) :
    Calls Try.prog 20 #[vw sv k c f] w fun e w' => ∃ v ls, e = .returned v ∧ RdLL w' v ls ∧ QM.MinL (QM.isQ k c f ms) ms ls ∧ Below w.heap.size w w' := by
  have hval := (QM.errV_zero.1 he).2
  have hv := VBox.fresh w sv k c f
  have hB := below_fresh w (.cells #[sv, .int .i64 k, .int .i64 c, .int .i64 f] 26)
  have h0 := hr.below hB
  have HC := Lib.hid (fun w1 (h : RdM w1 sv ms) => cMinimalSets sv k c f ms w1 h he)
  have H := Lib.hid h0
  have HV := Lib.hid hv
  have HB := Lib.hid hB
  have HL := Lib.hid hval
  clear h0 hv hB hr hval he
  generalize hw0 : w.alloc (.cells #[sv, .int .i64 k, .int .i64 c, .int .i64 f] 26) = w0 at H HV HB
  obtain ⟨v0, v1, v2, v3, v4⟩ := HV.out
  have HW0 := Lib.hid hw0
  clear hw0
  go_enter Try.func20, Try.ntmps20
  go_wp2_with fail
  rw [HW0.out]
  refine (HC.out _ H.out).mono ?_
  rintro e w2 ⟨v, M, rfl, ho, hm, hb2⟩
  obtain ⟨av, cv, rfl, hcv, hlv⟩ := ho.rd.shape
  have HS := Lib.hid ho.rd
  have HM := Lib.hid hm
  have HB2 := Lib.hid (bnext HB.out hb2)
  have hMl := hm.length HL.out
  clear v0 v1 v2 v3 v4 HC HW0 H HV HB hb2 hm ho
  go_wp2
  go_loopw [3, 9] (fun u i wr => ∃ (j : Nat), j ≤ M.length ∧ i = .int .i64 j ∧ Hid (OwnLL w2.heap.size wr u ((M.take j).map QM.srv)) ∧ Below w2.heap.size w2 wr) (fun _ i _ => M.length - (intOf i).toNat)
  case atStart => exact ⟨0, Nat.zero_le _, rfl, OwnLL.nil _ _, Below.refl _ _⟩
  case round =>
    obtain ⟨j, hj, rfl, ho, hbr⟩ := hrel
    by_cases hlt : j < M.length
    · obtain ⟨b, o, hi, hb, c0⟩ := atS (HS.out.below hbr) j M[j] (List.getElem?_eq_getElem hlt)
      have hq : (j : Int) < (M.length : Int) := by omega
      have hsub := ((HM.out.2 M[j]).1 (List.getElem_mem hlt)).1
      have hs : M[j] < 65536 := Nat.lt_trans (hsub.lt HL.out) (by decide)
      have htk := Lib.hid (List.take_succ_eq_append_getElem hlt)
      clear hsub
      generalize M[j] = s at c0 hs htk
      have HSZ := Lib.hid hbr.size
      have HBR := Lib.hid hbr
      clear hbr
      go_wp2_with fail
      refine (cServers s _ hs).mono ?_
      rintro e w3 ⟨v3, rfl, ho3, hb3⟩
      obtain ⟨ad3, cp3, rfl, hcp3, hl3⟩ := ho3.rd.shape
      obtain ⟨ps, hps, hin, hmap⟩ := ho.out.below hb3
      have HPS := Lib.hid hps
      have HIN := Lib.hid hin
      have HMAP := Lib.hid hmap
      have HO3 := Lib.hid (ho3.mono HSZ.out)
      have HB3 := Lib.hid (bnext HBR.out hb3)
      have hpl : ps.length ≤ 1073741824 := by
        have := congrArg List.length hmap
        rw [List.length_map, List.length_map, List.length_take] at this
        omega
      have hsz := HB3.out.size
      clear hps hin hmap ho3 hb3 HBR ho c0 hi hb
      go_wp2_with (at_builtin; refine wp_appG1 pairE ((ad3, _, cp3), QM.srv s) rfl _ _ rfl rfl HPS.out rfl hpl hsz ?_; intro v5 w5 ho5 hb5 hk5 _)
      have HN := Lib.hid (show OwnLL w2.heap.size w5 v5 ((M.take (j + 1)).map QM.srv) from ⟨_, ho5, fun p hp => by
        rcases List.mem_append.1 hp with h | h
        · exact ownI_keep (HIN.out p h) (by decide) hk5
        · rw [List.mem_singleton] at h
          subst h
          exact ownI_keep HO3.out (by decide) hk5, by rw [List.map_append, HMAP.out, htk.out, List.map_append]; rfl⟩)
      have HB5 := Lib.hid (HB3.out.trans hb5)
      clear ho5 hb5 hk5
      go_wp2
      go_round
      case rel => exact ⟨j + 1, by omega, by go_num, HN, HB5.out⟩
      case measure => simp [intOf]; omega
    · have hq : ¬ ((j : Int) < (M.length : Int)) := by omega
      have hf : M.take j = M := List.take_of_length_le (by omega)
      rw [hf] at ho
      have HBR := Lib.hid hbr
      have hlen : (M.map QM.srv).length ≤ 1073741824 := by rw [List.length_map]; omega
      clear hbr
      go_wp2_with fail
      refine (cSort _ _ _ _ ho.out hlen).mono ?_
      rintro e w6 ⟨rfl, ls, hrd, hperm, hsort, hb6⟩
      have HRD := Lib.hid hrd
      have HX := Lib.hid (HM.out.sorted HL.out hperm hsort)
      have HB6 := Lib.hid (bnext HB2.out (HBR.out.trans hb6))
      clear hrd hperm hsort hb6
      go_wp2
      go_ret
      exact ⟨_, ls, rfl, HRD.out, HX.out, HB6.out⟩

end Go.Proofs.Ytbbgjckiooejhaa
