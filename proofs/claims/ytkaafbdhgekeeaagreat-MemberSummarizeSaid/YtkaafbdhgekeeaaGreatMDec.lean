/-
  The calls of the reader's Count and of DecodeGenesis: they return what the plain mathematics says of the bytes. Conditions: the input reads as bytes.
-/
import Derived.Test.YtkaafbdhgekeeaaGreatMVf
import Derived.Test.YtkaafbdhgekeeaaGreatMEv
import Derived.Test.YtkaafbdhgekeeaaGreatMCopy
import Derived.Test.YtkaafbdhgekeeaaGreatMIni
namespace Go.Proofs.YtkaafbdhgekeeaaGreat
open Go.RowKit Go.Joins
open JM (Chg St)
open MM (Mem Ent Sm Tri)

/-- The members read, two numbers each. -/
def gms (xs : List Int) (s : St) : Nat → List Mem × St
  | 0 => ([], s)
  | j + 1 => ((gms xs s j).1 ++ [((JM.step xs (gms xs s j).2).1, (JM.step xs (JM.step xs (gms xs s j).2).2).1)], (JM.step xs (JM.step xs (gms xs s j).2).2).2)
theorem gms_len (xs : List Int) (s : St) (j : Nat) : (gms xs s j).1.length = j := by
  induction j with
  | zero => rfl
  | succ j ih => simp [gms, ih]
theorem gms_used (xs : List Int) (s : St) (hb : WM.Bytes xs) (hu : s.1 ≤ xs.length) (j : Nat) : (gms xs s j).2.1 ≤ xs.length := by
  induction j with
  | zero => exact hu
  | succ j ih => exact (JM.step_small xs _ hb (JM.step_small xs _ hb ih).2).2
/-- The answer: error, used, the rule, the members. -/
abbrev GAns := Int × Nat × Int × Int × Int × List Mem
def gbad (e : Int) : GAns := (e, 0, 0, 0, 0, [])
def gfin (k c f : Int) (u : Nat) (er : Int) (ms : List Mem) : GAns := if MM.or2 er (MM.errG k c f ms) ≠ 0 then gbad (MM.or2 er (MM.errG k c f ms)) else (0, u, k, c, f, ms)
def decG (xs : List Int) : GAns :=
  let n := JM.step xs (0, 0)
  let q : St := if 12 < n.1 then (n.2.1, 3) else n.2
  let m := gms xs q (if 12 < n.1 then 0 else n.1).toNat
  let a := JM.step xs m.2
  let b := JM.step xs a.2
  let c := JM.step xs b.2
  gfin a.1 b.1 c.1 c.2.1 c.2.2 m.1

set_option maxRecDepth 100000 in
set_option maxHeartbeats 1000000 in
theorem rdCountG (g : Nat) (v : Value) (xs : List Int) (s : St) (w : World) (hb : RdrB w g v s) (h : Rd w v xs) (hu : s.1 ≤ xs.length) :
    Calls Tryz.prog 33 #[.pointer (some ⟨g, 0, none⟩), .int .i64 12] w fun e w' => e = .returned (.int .i64 (if 12 < (JM.step xs s).1 then 0 else (JM.step xs s).1)) ∧ RdrB w' g v (if 12 < (JM.step xs s).1 then ((JM.step xs s).2.1, 3) else (JM.step xs s).2) ∧ Only g w w' := by
  have HN := Lib.hid (rdNumber g v xs s w hb h hu)
  generalize JM.step xs s = p at HN
  obtain ⟨x, s'⟩ := p
  clear hb h hu
  by_cases hx : 12 < x
  · simp only [if_pos hx]
    go_enter Tryz.func33, Tryz.ntmps33
    go_wp2_with fail
    refine HN.out.mono ?_
    rintro e w1 ⟨rfl, hr, ho⟩
    obtain ⟨u, er⟩ := s'
    have c0 := hr.cells
    obtain ⟨c0, c1, c2, f0, f1, f2⟩ := c0
    have HF := Lib.hid (RdrB.fail hr 3)
    have HO := Lib.hid ho
    clear hr ho HN
    go_wp2
    go_ret
    exact ⟨rfl, HF.out, HO.out.trans (Only.set 2 _)⟩
  · simp only [if_neg hx]
    have hx : decide (12 < x) = false := decide_eq_false hx
    go_enter Tryz.func33, Tryz.ntmps33
    go_wp2_with fail
    refine HN.out.mono ?_
    rintro e w1 ⟨rfl, hr, ho⟩
    clear HN
    go_wp2
    go_ret
    exact ⟨rfl, hr, ho⟩

theorem rd2e (w : World) (x y : Int) : RdI (w.alloc (.cells #[.int .i64 x, .int .i64 y] 29)) (.slice (some ⟨w.heap.size, 0, none⟩) 2 2) [x, y] := (ownG_fresh hlI 29 w [x, y] (by unfold maxLen; simp)).rd
theorem results_gen {P : Program} {fn : Func} {p u q : Tmp} {ty : TypeId} (h : fn.results = #[.cell p ty, .tmp u, .tmp q]) (tmps : Array Value) (w : World) (g : Nat) (t : TypeId) (cs : Array Value) (fr : Nat × Nat) (d : TypeDesc)
    (hp : tmps.getD p undef = .pointer (some ⟨g, 0, none⟩)) (hg : w.heap[g]? = some (.cells cs t fr))
    (hu : P.underlying ty = some d) (hd : (match d with | .struct _ | .array _ _ => true | _ => false) = true) (hi : (P.info? ty).map (·.size) = some cs.size) :
    (results fn tmps).run P w = .ok (.tuple #[.agg cs, tmps.getD u undef, tmps.getD q undef]) w := by
  have hp' : tmps[p]?.getD undef = .pointer (some ⟨g, 0, none⟩) := by simpa using hp
  simp [results, h, hp', asAddr, run_loadVar_row w g t ty cs fr d hg hu hd hi, Result.andThen]
abbrev gBox (s : Value) (k c f : Int) : Obj := .cells #[s, .int .i64 k, .int .i64 c, .int .i64 f] 26 (0, 0)
theorem gd_ret {R : Ending → World → Prop} {a : Act} {w : World} {g : Nat} {s : Value} {k c f u er : Int} (hp : a.tmps.getD 2 undef = .pointer (some ⟨g, 0, none⟩)) (h3 : a.tmps.getD 3 undef = .int .i64 u) (h4 : a.tmps.getD 4 undef = .int .i64 er) (hg : w.heap[g]? = some (gBox s k c f))
    (hd : a.defers = []) (hR : R (.returned (.tuple #[vw s k c f, .int .i64 u, .int .i64 er])) w) : bodyPost Tryz.prog Tryz.f14 R .ret a w := by
  have := results_gen (P := Tryz.prog) (fn := Tryz.f14) rfl a.tmps w g 26 _ _ _ hp hg Tryz.underlying26 rfl (by kernel_rfl)
  rw [h3, h4] at this
  exact bodyPost_ret this hd hR
theorem RdrB.m_only {base g : Nat} {w w' : World} {u v : Value} {s : St} {ys : List Mem} (h : RdrB w g v s) (ho : OwnM base w u ys) (hn : Only g w w') : OwnM base w' u ys := ownG_only ho h (by decide) hn
theorem RdrB.box {g B : Nat} {w w' : World} {v : Value} {s : St} {k c f : Int} (_ : RdrB w g v s) {u : Value} (hB : w.heap[B]? = some (gBox u k c f)) (hne : B ≠ g) (hn : Only g w w') : w'.heap[B]? = some (gBox u k c f) := hn.at hB hne
/-- The boxes: the result, the reader, the genesis. -/
theorem gd_boxes (w : World) (v : Value) :
    ∃ w3, ((w.alloc (.cells #[.slice none 0 0, .int .i64 0, .int .i64 0, .int .i64 0] 26)).alloc (.cells #[v, .int .i64 0, .int .i64 0] 71)).alloc (.cells #[.slice none 0 0, .int .i64 0, .int .i64 0, .int .i64 0] 26) = w3 ∧ Below w.heap.size w w3 ∧ w3.heap.size = w.heap.size + 3 ∧
      w3.heap[w.heap.size]? = some (gBox (.slice none 0 0) 0 0 0) ∧ RdrB w3 (w.heap.size + 1) v (0, 0) ∧ w3.heap[w.heap.size + 1 + 1]? = some (gBox (.slice none 0 0) 0 0 0) := by
  have h1 := heap_alloc_new w (.cells #[.slice none 0 0, .int .i64 0, .int .i64 0, .int .i64 0] 26)
  have b1 := below_fresh w (.cells #[.slice none 0 0, .int .i64 0, .int .i64 0, .int .i64 0] 26)
  have z1 := World.size_alloc w (.cells #[.slice none 0 0, .int .i64 0, .int .i64 0, .int .i64 0] 26)
  generalize w.alloc (.cells #[.slice none 0 0, .int .i64 0, .int .i64 0, .int .i64 0] 26) = w1 at *
  have h2 := heap_alloc_new w1 (.cells #[v, .int .i64 0, .int .i64 0] 71)
  have b2 := below_fresh w1 (.cells #[v, .int .i64 0, .int .i64 0] 71)
  have z2 := World.size_alloc w1 (.cells #[v, .int .i64 0, .int .i64 0] 71)
  generalize w1.alloc (.cells #[v, .int .i64 0, .int .i64 0] 71) = w2 at *
  have h3 := heap_alloc_new w2 (.cells #[.slice none 0 0, .int .i64 0, .int .i64 0, .int .i64 0] 26)
  have b3 := below_fresh w2 (.cells #[.slice none 0 0, .int .i64 0, .int .i64 0, .int .i64 0] 26)
  have z3 := World.size_alloc w2 (.cells #[.slice none 0 0, .int .i64 0, .int .i64 0, .int .i64 0] 26)
  refine ⟨_, rfl, bnext b1 (bnext b2 b3), by omega, below_block (below_block h1 b2) b3, ?_, ?_⟩
  · have h2' : w2.heap[w.heap.size + 1]? = some (.cells #[v, .int .i64 0, .int .i64 0] 71 (0, 0)) := by rw [← z1]; exact h2
    exact below_block h2' b3
  · rw [← z1, ← z2]; exact h3

set_option maxRecDepth 100000 in
set_option maxHeartbeats 8000000 in
theorem cDecGen (v : Value) (xs : List Int) (w : World) (h : Rd w v xs) :
    Calls Tryz.prog 14 #[v] w fun e w' => ∃ sl, e = .returned (.tuple #[vw sl (decG xs).2.2.1 (decG xs).2.2.2.1 (decG xs).2.2.2.2.1, .int .i64 ((decG xs).2.1 : Int), .int .i64 (decG xs).1]) ∧ RdM w' sl (decG xs).2.2.2.2.2 ∧ Below w.heap.size w w' := by
  have hby := h.bytes
  obtain ⟨R, hR⟩ : ∃ R, R = decG xs := ⟨_, rfl⟩
  rw [← hR]
  have hs0 := JM.step_small xs (0, 0) hby (Nat.zero_le _)
  have hrc := fun (g : Nat) (w' : World) hr hb => rdCountG g v xs (0, 0) w' hr (h.below hb) (Nat.zero_le _)
  have hR2 : ∀ (n : Int × St), JM.step xs (0, 0) = n → ∀ q : St, (if 12 < n.1 then (n.2.1, 3) else n.2) = q → ∀ C : Nat, (if 12 < n.1 then 0 else n.1) = (C : Int) →
      R = gfin (JM.step xs (gms xs q C).2).1 (JM.step xs (JM.step xs (gms xs q C).2).2).1 (JM.step xs (JM.step xs (JM.step xs (gms xs q C).2).2).2).1 (JM.step xs (JM.step xs (JM.step xs (gms xs q C).2).2).2).2.1 (JM.step xs (JM.step xs (JM.step xs (gms xs q C).2).2).2).2.2 (gms xs q C).1 := by
    intro n hn q hq C hC
    rw [hR, decG, hn]
    simp only [hq, hC, Int.toNat_natCast]
  clear hR
  obtain ⟨n, hn⟩ : ∃ n, JM.step xs (0, 0) = n := ⟨_, rfl⟩
  have hR3 := hR2 n hn
  rw [hn] at hs0 hrc
  obtain ⟨q, hq⟩ : ∃ q : St, (if 12 < n.1 then (n.2.1, 3) else n.2) = q := ⟨_, rfl⟩
  obtain ⟨C, hC⟩ : ∃ C : Nat, (if 12 < n.1 then 0 else n.1) = (C : Int) := ⟨(if 12 < n.1 then 0 else n.1).toNat, by unfold JM.small at hs0; split <;> omega⟩
  have hC12 : C ≤ 12 := by split at hC <;> omega
  have hqu : q.1 ≤ xs.length := by rw [← hq]; split <;> exact hs0.2
  have hR4 := hR3 q hq C hC
  rw [hq, hC] at hrc
  clear hR2 hR3 hn hq hC hs0
  have hus := gms_used xs q hby hqu
  have NC : Hid (∀ (g : Nat) (s : St) (w' : World), RdrB w' g v s → s.1 ≤ xs.length → Below w.heap.size w w' → Calls Tryz.prog 34 #[.pointer (some ⟨g, 0, none⟩)] w' fun e w'' => e = .returned (.int .i64 (JM.step xs s).1) ∧ RdrB w'' g v (JM.step xs s).2 ∧ Only g w' w'') :=
    fun g s w' hr hu hb => rdNumber g v xs s w' hr (h.below hb) hu
  have HU := Lib.hid hus
  have HBY := Lib.hid hby
  have HRC := Lib.hid hrc
  have HC := Lib.hid hC12
  have HR := Lib.hid hR4
  obtain ⟨w3, hw3, hB, hsz, hZ, hRD, hG⟩ := gd_boxes w v
  have HW := Lib.hid hw3
  have HB := Lib.hid hB
  have HSZ := Lib.hid hsz
  have HZ := Lib.hid hZ
  have HRD := Lib.hid hRD
  have HG := Lib.hid hG
  have HM0 := Lib.hid (show OwnM w3.heap.size w3 (.slice none 0 0) [] from OwnG.nil hlM _ _ _)
  obtain ⟨va, vn, vc, hvv⟩ : ∃ a n c, v = .slice a n c := by obtain ⟨a, c, hv, _⟩ := h.shape; exact ⟨_, _, _, hv⟩
  subst hvv
  clear h hby hrc hR4 hqu hus hC12 hw3 hB hsz hZ hRD hG
  go_enter Tryz.func14, Tryz.ntmps14
  go_upto_region 3 with fail
  rw [HW.out]
  go_wp2_with fail
  refine (HRC.out _ _ HRD.out HB.out).mono ?_
  rintro e w4 ⟨rfl, hr4, ho4⟩
  have HR4 := Lib.hid hr4
  have HZ4 := Lib.hid (ho4.at HZ.out (by omega))
  have HG4 := Lib.hid (ho4.at HG.out (by omega))
  have HM4 := Lib.hid (RdrB.m_only HRD.out HM0.out ho4)
  have HB4 := Lib.hid (HB.out.trans (ho4.below (by omega) HB.out.size))
  have HS4 := Lib.hid ho4.size
  clear hr4 ho4 HRC HRD HZ HG HM0 HB HW
  go_wp2
  go_loopw [11] (fun i wr => ∃ (j : Nat) (sl : Value), j ≤ C ∧ i = .int .i64 j ∧ Hid (RdrB wr (w.heap.size + 1) (.slice va vn vc) (gms xs q j).2) ∧ Hid (wr.heap[w.heap.size]? = some (gBox (.slice none 0 0) 0 0 0)) ∧ Hid (wr.heap[w.heap.size + 1 + 1]? = some (gBox sl 0 0 0)) ∧ Hid (OwnM w3.heap.size wr sl (gms xs q j).1) ∧ Hid (Below w.heap.size w wr) ∧ Hid (w3.heap.size ≤ wr.heap.size)) (fun i _ => C - (intOf i).toNat)
  case atStart => exact ⟨0, _, Nat.zero_le _, rfl, HR4, HZ4, HG4, HM4, HB4, HS4⟩
  case round =>
    obtain ⟨j, sl, hj, rfl, HR5, HZ5, HG5, HM5, HB5, HS5⟩ := hrel
    clear HR4 HZ4 HG4 HM4 HB4 HS4
    have hjl := gms_len xs q j
    have HUJ := Lib.hid (HU.out j)
    obtain ⟨sa, slen, sc, hvs⟩ : ∃ a l c, sl = .slice a l c := by obtain ⟨a, c, h, _⟩ := HM5.out.rd.shape; exact ⟨a, _, c, h⟩
    subst hvs
    by_cases hlt : j < C
    · have hq2 : (j : Int) < (C : Int) := by omega
      have hjb : (j : Int) ≤ 12 := by have := HC.out; omega
      have HJ1 := Lib.hid (show gms xs q (j + 1) = ((gms xs q j).1 ++ [((JM.step xs (gms xs q j).2).1, (JM.step xs (JM.step xs (gms xs q j).2).2).1)], (JM.step xs (JM.step xs (gms xs q j).2).2).2) from rfl)
      generalize gms xs q j = p at HR5 HM5 hjl HUJ HJ1
      obtain ⟨ys, st⟩ := p
      dsimp only at HR5 HM5 hjl HUJ HJ1
      have N1 := NC.out (w.heap.size + 1) st
      have u1 := (JM.step_small xs st HBY.out HUJ.out).2
      generalize JM.step xs st = p1 at N1 u1 HJ1
      obtain ⟨x1, s1⟩ := p1
      have N2 := NC.out (w.heap.size + 1) s1
      generalize JM.step xs s1 = p2 at N2 HJ1
      obtain ⟨x2, s2⟩ := p2
      dsimp only at N1 N2 u1 HJ1
      have HN1 := Lib.hid (fun w' hr hb => N1 w' hr HUJ.out hb)
      have HN2 := Lib.hid (fun w' hr hb => N2 w' hr u1 hb)
      have HYL := Lib.hid (show ys.length ≤ 1073741824 by have := HC.out; omega)
      clear N1 N2 u1 hjl HUJ
      go_wp2
      refine wp_region_held_drew (S := fun _ => True) (by kernel_rfl) trivial (fun _ => ?_)
      have hS : True := trivial
      replace HR5 := Lib.hid (show RdrB wr.drew (w.heap.size + 1) (.slice va vn vc) st from HR5.out)
      replace HZ5 := Lib.hid (show wr.drew.heap[w.heap.size]? = some (gBox (.slice none 0 0) 0 0 0) from HZ5.out)
      replace HG5 := Lib.hid (show wr.drew.heap[w.heap.size + 1 + 1]? = some (gBox (.slice sa slen sc) 0 0 0) from HG5.out)
      replace HM5 := Lib.hid (show OwnM w3.heap.size wr.drew (.slice sa slen sc) ys from HM5.out)
      replace HB5 := Lib.hid (show Below w.heap.size w wr.drew from HB5.out.drew)
      replace HS5 := Lib.hid (show w3.heap.size ≤ wr.drew.heap.size from HS5.out)
      generalize wr.drew = wa at HR5 HZ5 HG5 HM5 HB5 HS5 ⊢
      refine takeH (i := 0) (v := ?_) rfl (by kernel_rfl) (by kernel_rfl) (by kernel_rfl) (fun _ _ _ h => h) (Or.inl ⟨by rfl, ?_⟩) (by assumption) ?_
      rotate_left
      · (intro w hSw; (try dsimp only at hSw); go_simp; first | done | with_reducible rfl)
      (try simp only [Act.put, List.setIfInBounds_toArray, List.set_cons_zero, List.set_cons_succ])
      refine wpAnyH_ready (rs := [1, 2]) (by kernel_rfl) (by simp) ?_
      refine stepH rfl (fun K hK => ?_) (stepH rfl (fun K hK => ?_) AllReadyH.nil)
      · obtain ⟨⟨q0, q1, q2, q3⟩, _⟩ := row4_at (HG5.out)
        go_simp
        refine hK.out _ _ (trivial) (fun _ => ?_)
        clear hK K
        (try simp only [Act.put, List.setIfInBounds_toArray, List.set_cons_zero, List.set_cons_succ])
        clear q0 q1 q2 q3
        refine wpAnyH_ready (rs := [2]) (by kernel_rfl) (by simp) ?_
        refine stepH rfl (fun K hK => ?_) AllReadyH.nil
        go_simp
        refine (HN1.out wa HR5.out HB5.out).mono ?_
        rintro e wb ⟨rfl, hr, ho⟩
        replace HZ5 := Lib.hid (ho.at HZ5.out (by omega))
        replace HG5 := Lib.hid (ho.at HG5.out (by omega))
        replace HM5 := Lib.hid (RdrB.m_only HR5.out HM5.out ho)
        replace HB5 := Lib.hid (HB5.out.trans (ho.below (by omega) HB5.out.size))
        replace HS5 := Lib.hid (Nat.le_trans HS5.out ho.size)
        replace HR5 := Lib.hid hr
        clear hr ho
        go_wp2_with fail
        refine hK.out _ _ (trivial) (fun _ => ?_)
        clear hK K
        (try simp only [Act.put, List.setIfInBounds_toArray, List.set_cons_zero, List.set_cons_succ])
        refine wpAnyH_ready (rs := [3]) (by kernel_rfl) (by simp) ?_
        refine stepH rfl (fun K hK => ?_) AllReadyH.nil
        go_simp
        refine (HN2.out wb HR5.out HB5.out).mono ?_
        rintro e wc ⟨rfl, hr, ho⟩
        replace HZ5 := Lib.hid (ho.at HZ5.out (by omega))
        replace HG5 := Lib.hid (ho.at HG5.out (by omega))
        replace HM5 := Lib.hid (RdrB.m_only HR5.out HM5.out ho)
        replace HB5 := Lib.hid (HB5.out.trans (ho.below (by omega) HB5.out.size))
        replace HS5 := Lib.hid (Nat.le_trans HS5.out ho.size)
        replace HR5 := Lib.hid hr
        clear hr ho
        go_wp2_with fail
        refine hK.out _ _ (trivial) (fun _ => ?_)
        clear hK K
        (try simp only [Act.put, List.setIfInBounds_toArray, List.set_cons_zero, List.set_cons_succ])
        refine takeH (i := 4) (v := ?_) rfl (by kernel_rfl) (by kernel_rfl) (by kernel_rfl) (fun _ _ _ h => h) (Or.inl ⟨by rfl, ?_⟩) (by assumption) ?_
        rotate_left
        · (intro w hSw; (try dsimp only at hSw); go_simp; first | done | with_reducible rfl)
        (try simp only [Act.put, List.setIfInBounds_toArray, List.set_cons_zero, List.set_cons_succ])
        refine wpAnyH_ready (rs := [5]) (by kernel_rfl) (by simp) ?_
        refine stepH rfl (fun K hK => ?_) AllReadyH.nil
        go_simp
        refine hK.out _ _ (trivial) (fun _ => ?_)
        clear hK K
        (try simp only [Act.put, List.setIfInBounds_toArray, List.set_cons_zero, List.set_cons_succ])
        refine wpAnyH_ready (rs := [6]) (by kernel_rfl) (by simp) ?_
        refine stepH rfl (fun K hK => ?_) AllReadyH.nil
        refine step_appG1 memE (x1, x2) rfl (.tmp 14) (.tmp 18) rfl (by rfl) HM5.out (by rfl) HYL.out HS5.out ?_
        intro v6 w7 ho6 hb6 hk6
        obtain ⟨a6, l6, c6, hv6⟩ : ∃ a l c, v6 = .slice a l c := (by obtain ⟨a, c, h, _⟩ := ho6.rd.shape; exact ⟨a, _, c, h⟩)
        subst hv6
        have hg7 := hk6.at HG5.out (by decide)
        have HZ7 := Lib.hid (hk6.at HZ5.out (by decide))
        have HR7 := Lib.hid (hk6.at HR5.out (by decide))
        have HB7 := Lib.hid (HB5.out.trans (hb6.mono (by have := HSZ.out; omega)))
        have HS7 := Lib.hid (Nat.le_trans HS5.out hb6.size)
        have HM7 := Lib.hid ho6
        clear ho6 hb6 hk6 HZ5 HG5 HM5 HB5 HS5 HR5
        refine hK.out _ _ (trivial) (fun _ => ?_)
        clear hK K
        (try simp only [Act.put, List.setIfInBounds_toArray, List.set_cons_zero, List.set_cons_succ])
        refine takeH (i := 7) (v := ?_) rfl (by kernel_rfl) (by kernel_rfl) (by kernel_rfl) (fun _ _ _ h => h) (Or.inl ⟨by rfl, ?_⟩) (by assumption) ?_
        rotate_left
        · (intro w hSw; (try dsimp only at hSw); go_simp; first | done | with_reducible rfl)
        (try simp only [Act.put, List.setIfInBounds_toArray, List.set_cons_zero, List.set_cons_succ])
        obtain ⟨⟨y0, y1, y2, y3⟩, g0, g1, g2, g3⟩ := row4_at hg7
        have hg8 : (w7.setCell ⟨w.heap.size + 1 + 1, 0, none⟩ (.slice a6 l6 c6)).heap[w.heap.size + 1 + 1]? = some (gBox (.slice a6 l6 c6) 0 0 0) := heap_setCell_same w7 _ 0 _ _ _ hg7
        have ho8 : Only (w.heap.size + 1 + 1) w7 (w7.setCell ⟨w.heap.size + 1 + 1, 0, none⟩ (.slice a6 l6 c6)) := Only.set 0 _
        have HG8 := Lib.hid hg8
        have HZ8 := Lib.hid (ho8.at HZ7.out (by omega))
        have HR8 := Lib.hid (show RdrB (w7.setCell ⟨w.heap.size + 1 + 1, 0, none⟩ (.slice a6 l6 c6)) (w.heap.size + 1) (.slice va vn vc) s2 from ho8.at HR7.out (by omega))
        have HM8 := Lib.hid (ownG_only HM7.out hg7 (by decide) ho8)
        have HB8 := Lib.hid (HB7.out.trans (ho8.below (by omega) HB7.out.size))
        have HS8 := Lib.hid (Nat.le_trans HS7.out ho8.size)
        clear hg8 ho8 HZ7 HR7 HM7 HB7 HS7
        refine wpAnyH_ready (rs := [8]) (by kernel_rfl) (by simp) ?_
        refine stepH rfl (fun K hK => ?_) AllReadyH.nil
        go_simp
        refine hK.out _ _ (trivial) (fun _ => ?_)
        clear hK K
        (try simp only [Act.put, List.setIfInBounds_toArray, List.set_cons_zero, List.set_cons_succ])
        refine wpAnyH_done (by kernel_rfl) ?_ _
        generalize (w7.setCell ⟨w.heap.size + 1 + 1, 0, none⟩ (.slice a6 l6 c6)) = w8 at HG8 HZ8 HR8 HM8 HB8 HS8 ⊢
        clear y0 y1 y2 y3 g0 g1 g2 g3 hg7
        go_wp2
        go_roundw
        case rel => exact ⟨j + 1, _, by omega, by go_num, Lib.hid (by rw [HJ1.out]; exact HR8.out), HZ8, HG8, Lib.hid (by rw [HJ1.out]; exact HM8.out), HB8, HS8⟩
        case measure => simp [intOf]; omega
      · go_simp
        refine (HN1.out wa HR5.out HB5.out).mono ?_
        rintro e wb ⟨rfl, hr, ho⟩
        replace HZ5 := Lib.hid (ho.at HZ5.out (by omega))
        replace HG5 := Lib.hid (ho.at HG5.out (by omega))
        replace HM5 := Lib.hid (RdrB.m_only HR5.out HM5.out ho)
        replace HB5 := Lib.hid (HB5.out.trans (ho.below (by omega) HB5.out.size))
        replace HS5 := Lib.hid (Nat.le_trans HS5.out ho.size)
        replace HR5 := Lib.hid hr
        clear hr ho
        go_wp2_with fail
        refine hK.out _ _ (trivial) (fun _ => ?_)
        clear hK K
        (try simp only [Act.put, List.setIfInBounds_toArray, List.set_cons_zero, List.set_cons_succ])
        refine wpAnyH_ready (rs := [1, 3]) (by kernel_rfl) (by simp) ?_
        refine stepH rfl (fun K hK => ?_) (stepH rfl (fun K hK => ?_) AllReadyH.nil)
        · obtain ⟨⟨q0, q1, q2, q3⟩, _⟩ := row4_at (HG5.out)
          go_simp
          refine hK.out _ _ (trivial) (fun _ => ?_)
          clear hK K
          (try simp only [Act.put, List.setIfInBounds_toArray, List.set_cons_zero, List.set_cons_succ])
          clear q0 q1 q2 q3
          refine wpAnyH_ready (rs := [3]) (by kernel_rfl) (by simp) ?_
          refine stepH rfl (fun K hK => ?_) AllReadyH.nil
          go_simp
          refine (HN2.out wb HR5.out HB5.out).mono ?_
          rintro e wc ⟨rfl, hr, ho⟩
          replace HZ5 := Lib.hid (ho.at HZ5.out (by omega))
          replace HG5 := Lib.hid (ho.at HG5.out (by omega))
          replace HM5 := Lib.hid (RdrB.m_only HR5.out HM5.out ho)
          replace HB5 := Lib.hid (HB5.out.trans (ho.below (by omega) HB5.out.size))
          replace HS5 := Lib.hid (Nat.le_trans HS5.out ho.size)
          replace HR5 := Lib.hid hr
          clear hr ho
          go_wp2_with fail
          refine hK.out _ _ (trivial) (fun _ => ?_)
          clear hK K
          (try simp only [Act.put, List.setIfInBounds_toArray, List.set_cons_zero, List.set_cons_succ])
          refine takeH (i := 4) (v := ?_) rfl (by kernel_rfl) (by kernel_rfl) (by kernel_rfl) (fun _ _ _ h => h) (Or.inl ⟨by rfl, ?_⟩) (by assumption) ?_
          rotate_left
          · (intro w hSw; (try dsimp only at hSw); go_simp; first | done | with_reducible rfl)
          (try simp only [Act.put, List.setIfInBounds_toArray, List.set_cons_zero, List.set_cons_succ])
          refine wpAnyH_ready (rs := [5]) (by kernel_rfl) (by simp) ?_
          refine stepH rfl (fun K hK => ?_) AllReadyH.nil
          go_simp
          refine hK.out _ _ (trivial) (fun _ => ?_)
          clear hK K
          (try simp only [Act.put, List.setIfInBounds_toArray, List.set_cons_zero, List.set_cons_succ])
          refine wpAnyH_ready (rs := [6]) (by kernel_rfl) (by simp) ?_
          refine stepH rfl (fun K hK => ?_) AllReadyH.nil
          refine step_appG1 memE (x1, x2) rfl (.tmp 14) (.tmp 18) rfl (by rfl) HM5.out (by rfl) HYL.out HS5.out ?_
          intro v6 w7 ho6 hb6 hk6
          obtain ⟨a6, l6, c6, hv6⟩ : ∃ a l c, v6 = .slice a l c := (by obtain ⟨a, c, h, _⟩ := ho6.rd.shape; exact ⟨a, _, c, h⟩)
          subst hv6
          have hg7 := hk6.at HG5.out (by decide)
          have HZ7 := Lib.hid (hk6.at HZ5.out (by decide))
          have HR7 := Lib.hid (hk6.at HR5.out (by decide))
          have HB7 := Lib.hid (HB5.out.trans (hb6.mono (by have := HSZ.out; omega)))
          have HS7 := Lib.hid (Nat.le_trans HS5.out hb6.size)
          have HM7 := Lib.hid ho6
          clear ho6 hb6 hk6 HZ5 HG5 HM5 HB5 HS5 HR5
          refine hK.out _ _ (trivial) (fun _ => ?_)
          clear hK K
          (try simp only [Act.put, List.setIfInBounds_toArray, List.set_cons_zero, List.set_cons_succ])
          refine takeH (i := 7) (v := ?_) rfl (by kernel_rfl) (by kernel_rfl) (by kernel_rfl) (fun _ _ _ h => h) (Or.inl ⟨by rfl, ?_⟩) (by assumption) ?_
          rotate_left
          · (intro w hSw; (try dsimp only at hSw); go_simp; first | done | with_reducible rfl)
          (try simp only [Act.put, List.setIfInBounds_toArray, List.set_cons_zero, List.set_cons_succ])
          obtain ⟨⟨y0, y1, y2, y3⟩, g0, g1, g2, g3⟩ := row4_at hg7
          have hg8 : (w7.setCell ⟨w.heap.size + 1 + 1, 0, none⟩ (.slice a6 l6 c6)).heap[w.heap.size + 1 + 1]? = some (gBox (.slice a6 l6 c6) 0 0 0) := heap_setCell_same w7 _ 0 _ _ _ hg7
          have ho8 : Only (w.heap.size + 1 + 1) w7 (w7.setCell ⟨w.heap.size + 1 + 1, 0, none⟩ (.slice a6 l6 c6)) := Only.set 0 _
          have HG8 := Lib.hid hg8
          have HZ8 := Lib.hid (ho8.at HZ7.out (by omega))
          have HR8 := Lib.hid (show RdrB (w7.setCell ⟨w.heap.size + 1 + 1, 0, none⟩ (.slice a6 l6 c6)) (w.heap.size + 1) (.slice va vn vc) s2 from ho8.at HR7.out (by omega))
          have HM8 := Lib.hid (ownG_only HM7.out hg7 (by decide) ho8)
          have HB8 := Lib.hid (HB7.out.trans (ho8.below (by omega) HB7.out.size))
          have HS8 := Lib.hid (Nat.le_trans HS7.out ho8.size)
          clear hg8 ho8 HZ7 HR7 HM7 HB7 HS7
          refine wpAnyH_ready (rs := [8]) (by kernel_rfl) (by simp) ?_
          refine stepH rfl (fun K hK => ?_) AllReadyH.nil
          go_simp
          refine hK.out _ _ (trivial) (fun _ => ?_)
          clear hK K
          (try simp only [Act.put, List.setIfInBounds_toArray, List.set_cons_zero, List.set_cons_succ])
          refine wpAnyH_done (by kernel_rfl) ?_ _
          generalize (w7.setCell ⟨w.heap.size + 1 + 1, 0, none⟩ (.slice a6 l6 c6)) = w8 at HG8 HZ8 HR8 HM8 HB8 HS8 ⊢
          clear y0 y1 y2 y3 g0 g1 g2 g3 hg7
          go_wp2
          go_roundw
          case rel => exact ⟨j + 1, _, by omega, by go_num, Lib.hid (by rw [HJ1.out]; exact HR8.out), HZ8, HG8, Lib.hid (by rw [HJ1.out]; exact HM8.out), HB8, HS8⟩
          case measure => simp [intOf]; omega
        · go_simp
          refine (HN2.out wb HR5.out HB5.out).mono ?_
          rintro e wc ⟨rfl, hr, ho⟩
          replace HZ5 := Lib.hid (ho.at HZ5.out (by omega))
          replace HG5 := Lib.hid (ho.at HG5.out (by omega))
          replace HM5 := Lib.hid (RdrB.m_only HR5.out HM5.out ho)
          replace HB5 := Lib.hid (HB5.out.trans (ho.below (by omega) HB5.out.size))
          replace HS5 := Lib.hid (Nat.le_trans HS5.out ho.size)
          replace HR5 := Lib.hid hr
          clear hr ho
          go_wp2_with fail
          refine hK.out _ _ (trivial) (fun _ => ?_)
          clear hK K
          (try simp only [Act.put, List.setIfInBounds_toArray, List.set_cons_zero, List.set_cons_succ])
          refine takeH (i := 4) (v := ?_) rfl (by kernel_rfl) (by kernel_rfl) (by kernel_rfl) (fun _ _ _ h => h) (Or.inl ⟨by rfl, ?_⟩) (by assumption) ?_
          rotate_left
          · (intro w hSw; (try dsimp only at hSw); go_simp; first | done | with_reducible rfl)
          (try simp only [Act.put, List.setIfInBounds_toArray, List.set_cons_zero, List.set_cons_succ])
          refine wpAnyH_ready (rs := [1, 5]) (by kernel_rfl) (by simp) ?_
          refine stepH rfl (fun K hK => ?_) (stepH rfl (fun K hK => ?_) AllReadyH.nil)
          · obtain ⟨⟨q0, q1, q2, q3⟩, _⟩ := row4_at (HG5.out)
            go_simp
            refine hK.out _ _ (trivial) (fun _ => ?_)
            clear hK K
            (try simp only [Act.put, List.setIfInBounds_toArray, List.set_cons_zero, List.set_cons_succ])
            clear q0 q1 q2 q3
            refine wpAnyH_ready (rs := [5]) (by kernel_rfl) (by simp) ?_
            refine stepH rfl (fun K hK => ?_) AllReadyH.nil
            go_simp
            refine hK.out _ _ (trivial) (fun _ => ?_)
            clear hK K
            (try simp only [Act.put, List.setIfInBounds_toArray, List.set_cons_zero, List.set_cons_succ])
            refine wpAnyH_ready (rs := [6]) (by kernel_rfl) (by simp) ?_
            refine stepH rfl (fun K hK => ?_) AllReadyH.nil
            refine step_appG1 memE (x1, x2) rfl (.tmp 14) (.tmp 18) rfl (by rfl) HM5.out (by rfl) HYL.out HS5.out ?_
            intro v6 w7 ho6 hb6 hk6
            obtain ⟨a6, l6, c6, hv6⟩ : ∃ a l c, v6 = .slice a l c := (by obtain ⟨a, c, h, _⟩ := ho6.rd.shape; exact ⟨a, _, c, h⟩)
            subst hv6
            have hg7 := hk6.at HG5.out (by decide)
            have HZ7 := Lib.hid (hk6.at HZ5.out (by decide))
            have HR7 := Lib.hid (hk6.at HR5.out (by decide))
            have HB7 := Lib.hid (HB5.out.trans (hb6.mono (by have := HSZ.out; omega)))
            have HS7 := Lib.hid (Nat.le_trans HS5.out hb6.size)
            have HM7 := Lib.hid ho6
            clear ho6 hb6 hk6 HZ5 HG5 HM5 HB5 HS5 HR5
            refine hK.out _ _ (trivial) (fun _ => ?_)
            clear hK K
            (try simp only [Act.put, List.setIfInBounds_toArray, List.set_cons_zero, List.set_cons_succ])
            refine takeH (i := 7) (v := ?_) rfl (by kernel_rfl) (by kernel_rfl) (by kernel_rfl) (fun _ _ _ h => h) (Or.inl ⟨by rfl, ?_⟩) (by assumption) ?_
            rotate_left
            · (intro w hSw; (try dsimp only at hSw); go_simp; first | done | with_reducible rfl)
            (try simp only [Act.put, List.setIfInBounds_toArray, List.set_cons_zero, List.set_cons_succ])
            obtain ⟨⟨y0, y1, y2, y3⟩, g0, g1, g2, g3⟩ := row4_at hg7
            have hg8 : (w7.setCell ⟨w.heap.size + 1 + 1, 0, none⟩ (.slice a6 l6 c6)).heap[w.heap.size + 1 + 1]? = some (gBox (.slice a6 l6 c6) 0 0 0) := heap_setCell_same w7 _ 0 _ _ _ hg7
            have ho8 : Only (w.heap.size + 1 + 1) w7 (w7.setCell ⟨w.heap.size + 1 + 1, 0, none⟩ (.slice a6 l6 c6)) := Only.set 0 _
            have HG8 := Lib.hid hg8
            have HZ8 := Lib.hid (ho8.at HZ7.out (by omega))
            have HR8 := Lib.hid (show RdrB (w7.setCell ⟨w.heap.size + 1 + 1, 0, none⟩ (.slice a6 l6 c6)) (w.heap.size + 1) (.slice va vn vc) s2 from ho8.at HR7.out (by omega))
            have HM8 := Lib.hid (ownG_only HM7.out hg7 (by decide) ho8)
            have HB8 := Lib.hid (HB7.out.trans (ho8.below (by omega) HB7.out.size))
            have HS8 := Lib.hid (Nat.le_trans HS7.out ho8.size)
            clear hg8 ho8 HZ7 HR7 HM7 HB7 HS7
            refine wpAnyH_ready (rs := [8]) (by kernel_rfl) (by simp) ?_
            refine stepH rfl (fun K hK => ?_) AllReadyH.nil
            go_simp
            refine hK.out _ _ (trivial) (fun _ => ?_)
            clear hK K
            (try simp only [Act.put, List.setIfInBounds_toArray, List.set_cons_zero, List.set_cons_succ])
            refine wpAnyH_done (by kernel_rfl) ?_ _
            generalize (w7.setCell ⟨w.heap.size + 1 + 1, 0, none⟩ (.slice a6 l6 c6)) = w8 at HG8 HZ8 HR8 HM8 HB8 HS8 ⊢
            clear y0 y1 y2 y3 g0 g1 g2 g3 hg7
            go_wp2
            go_roundw
            case rel => exact ⟨j + 1, _, by omega, by go_num, Lib.hid (by rw [HJ1.out]; exact HR8.out), HZ8, HG8, Lib.hid (by rw [HJ1.out]; exact HM8.out), HB8, HS8⟩
            case measure => simp [intOf]; omega
          · go_simp
            refine hK.out _ _ (trivial) (fun _ => ?_)
            clear hK K
            (try simp only [Act.put, List.setIfInBounds_toArray, List.set_cons_zero, List.set_cons_succ])
            refine wpAnyH_ready (rs := [1]) (by kernel_rfl) (by simp) ?_
            refine stepH rfl (fun K hK => ?_) AllReadyH.nil
            obtain ⟨⟨q0, q1, q2, q3⟩, _⟩ := row4_at (below_block HG5.out (below_fresh wc (.cells #[.int .i64 x1, .int .i64 x2] 48)))
            go_simp
            refine hK.out _ _ (trivial) (fun _ => ?_)
            clear hK K
            (try simp only [Act.put, List.setIfInBounds_toArray, List.set_cons_zero, List.set_cons_succ])
            clear q0 q1 q2 q3
            refine wpAnyH_ready (rs := [6]) (by kernel_rfl) (by simp) ?_
            refine stepH rfl (fun K hK => ?_) AllReadyH.nil
            refine step_appG1 memE (x1, x2) rfl (.tmp 14) (.tmp 18) rfl (by rfl) HM5.out (by rfl) HYL.out HS5.out ?_
            intro v6 w7 ho6 hb6 hk6
            obtain ⟨a6, l6, c6, hv6⟩ : ∃ a l c, v6 = .slice a l c := (by obtain ⟨a, c, h, _⟩ := ho6.rd.shape; exact ⟨a, _, c, h⟩)
            subst hv6
            have hg7 := hk6.at HG5.out (by decide)
            have HZ7 := Lib.hid (hk6.at HZ5.out (by decide))
            have HR7 := Lib.hid (hk6.at HR5.out (by decide))
            have HB7 := Lib.hid (HB5.out.trans (hb6.mono (by have := HSZ.out; omega)))
            have HS7 := Lib.hid (Nat.le_trans HS5.out hb6.size)
            have HM7 := Lib.hid ho6
            clear ho6 hb6 hk6 HZ5 HG5 HM5 HB5 HS5 HR5
            refine hK.out _ _ (trivial) (fun _ => ?_)
            clear hK K
            (try simp only [Act.put, List.setIfInBounds_toArray, List.set_cons_zero, List.set_cons_succ])
            refine takeH (i := 7) (v := ?_) rfl (by kernel_rfl) (by kernel_rfl) (by kernel_rfl) (fun _ _ _ h => h) (Or.inl ⟨by rfl, ?_⟩) (by assumption) ?_
            rotate_left
            · (intro w hSw; (try dsimp only at hSw); go_simp; first | done | with_reducible rfl)
            (try simp only [Act.put, List.setIfInBounds_toArray, List.set_cons_zero, List.set_cons_succ])
            obtain ⟨⟨y0, y1, y2, y3⟩, g0, g1, g2, g3⟩ := row4_at hg7
            have hg8 : (w7.setCell ⟨w.heap.size + 1 + 1, 0, none⟩ (.slice a6 l6 c6)).heap[w.heap.size + 1 + 1]? = some (gBox (.slice a6 l6 c6) 0 0 0) := heap_setCell_same w7 _ 0 _ _ _ hg7
            have ho8 : Only (w.heap.size + 1 + 1) w7 (w7.setCell ⟨w.heap.size + 1 + 1, 0, none⟩ (.slice a6 l6 c6)) := Only.set 0 _
            have HG8 := Lib.hid hg8
            have HZ8 := Lib.hid (ho8.at HZ7.out (by omega))
            have HR8 := Lib.hid (show RdrB (w7.setCell ⟨w.heap.size + 1 + 1, 0, none⟩ (.slice a6 l6 c6)) (w.heap.size + 1) (.slice va vn vc) s2 from ho8.at HR7.out (by omega))
            have HM8 := Lib.hid (ownG_only HM7.out hg7 (by decide) ho8)
            have HB8 := Lib.hid (HB7.out.trans (ho8.below (by omega) HB7.out.size))
            have HS8 := Lib.hid (Nat.le_trans HS7.out ho8.size)
            clear hg8 ho8 HZ7 HR7 HM7 HB7 HS7
            refine wpAnyH_ready (rs := [8]) (by kernel_rfl) (by simp) ?_
            refine stepH rfl (fun K hK => ?_) AllReadyH.nil
            go_simp
            refine hK.out _ _ (trivial) (fun _ => ?_)
            clear hK K
            (try simp only [Act.put, List.setIfInBounds_toArray, List.set_cons_zero, List.set_cons_succ])
            refine wpAnyH_done (by kernel_rfl) ?_ _
            generalize (w7.setCell ⟨w.heap.size + 1 + 1, 0, none⟩ (.slice a6 l6 c6)) = w8 at HG8 HZ8 HR8 HM8 HB8 HS8 ⊢
            clear y0 y1 y2 y3 g0 g1 g2 g3 hg7
            go_wp2
            go_roundw
            case rel => exact ⟨j + 1, _, by omega, by go_num, Lib.hid (by rw [HJ1.out]; exact HR8.out), HZ8, HG8, Lib.hid (by rw [HJ1.out]; exact HM8.out), HB8, HS8⟩
            case measure => simp [intOf]; omega
    · have hq2 : ¬ ((j : Int) < (C : Int)) := by omega
      obtain rfl : j = C := by omega
      have HR6 := HR.out
      clear HR hjl
      generalize gms xs q j = p at HR5 HM5 HUJ HR6
      obtain ⟨ys, st⟩ := p
      dsimp only at HR5 HM5 HUJ HR6
      have N1 := NC.out (w.heap.size + 1) st
      have u1 := (JM.step_small xs st HBY.out HUJ.out).2
      generalize JM.step xs st = p1 at N1 u1 HR6
      obtain ⟨x1, s1⟩ := p1
      have N2 := NC.out (w.heap.size + 1) s1
      have u2 := (JM.step_small xs s1 HBY.out u1).2
      generalize JM.step xs s1 = p2 at N2 u2 HR6
      obtain ⟨x2, s2⟩ := p2
      have N3 := NC.out (w.heap.size + 1) s2
      generalize JM.step xs s2 = p3 at N3 HR6
      obtain ⟨x3, ⟨u, er⟩⟩ := p3
      dsimp only at N1 N2 N3 u1 u2 HR6
      have HN1 := Lib.hid (fun w' hr hb => N1 w' hr HUJ.out hb)
      have HN2 := Lib.hid (fun w' hr hb => N2 w' hr u1 hb)
      have HN3 := Lib.hid (fun w' hr hb => N3 w' hr u2 hb)
      have HRF := Lib.hid HR6
      clear N1 N2 N3 u1 u2 HUJ HR6 hlt
      go_wp2_with fail
      refine (HN1.out _ HR5.out HB5.out).mono ?_
      rintro e w5 ⟨rfl, hr, ho⟩
      have HR6 := Lib.hid hr
      have HZ6 := Lib.hid (ho.at HZ5.out (by omega))
      have HG6 := Lib.hid (ho.at HG5.out (by omega))
      have HM6 := Lib.hid (RdrB.m_only HR5.out HM5.out ho)
      have HB6 := Lib.hid (HB5.out.trans (ho.below (by omega) HB5.out.size))
      clear hr ho HN1 HR5 HZ5 HG5 HM5 HB5 HS5
      go_wp2_with fail
      refine (HN2.out _ HR6.out HB6.out).mono ?_
      rintro e w6 ⟨rfl, hr, ho⟩
      have HR7 := Lib.hid hr
      have HZ7 := Lib.hid (ho.at HZ6.out (by omega))
      have HG7 := Lib.hid (ho.at HG6.out (by omega))
      have HM7 := Lib.hid (RdrB.m_only HR6.out HM6.out ho)
      have HB7 := Lib.hid (HB6.out.trans (ho.below (by omega) HB6.out.size))
      clear hr ho HN2 HR6 HZ6 HG6 HM6 HB6
      go_wp2_with fail
      refine (HN3.out _ HR7.out HB7.out).mono ?_
      rintro e w7 ⟨rfl, hr, ho⟩
      have HR8 := Lib.hid hr
      have HZ8 := Lib.hid (ho.at HZ7.out (by omega))
      have HG8 := Lib.hid (ho.at HG7.out (by omega))
      have HM8 := Lib.hid (RdrB.m_only HR7.out HM7.out ho)
      have HB8 := Lib.hid (HB7.out.trans (ho.below (by omega) HB7.out.size))
      clear hr ho HN3 HR7 HZ7 HG7 HM7 HB7
      obtain ⟨⟨z0, z1, z2, z3⟩, f0, f1, f2, f3⟩ := row4_at HG8.out
      have hs9 : (((w7.setCell ⟨w.heap.size + 1 + 1, 1, none⟩ (.int .i64 x1)).setCell ⟨w.heap.size + 1 + 1, 2, none⟩ (.int .i64 x2)).setCell ⟨w.heap.size + 1 + 1, 3, none⟩ (.int .i64 x3)).heap[w.heap.size + 1 + 1]? = some (gBox (.slice sa slen sc) x1 x2 x3) := by
        have t1 := heap_setCell_same w7 (w.heap.size + 1 + 1) 1 _ _ (.int .i64 x1) HG8.out
        have t2 := heap_setCell_same _ (w.heap.size + 1 + 1) 2 _ _ (.int .i64 x2) t1
        exact heap_setCell_same _ (w.heap.size + 1 + 1) 3 _ _ (.int .i64 x3) t2
      have ho9 : Only (w.heap.size + 1 + 1) w7 (((w7.setCell ⟨w.heap.size + 1 + 1, 1, none⟩ (.int .i64 x1)).setCell ⟨w.heap.size + 1 + 1, 2, none⟩ (.int .i64 x2)).setCell ⟨w.heap.size + 1 + 1, 3, none⟩ (.int .i64 x3)) := ((Only.set 1 _).trans (Only.set 2 _)).trans (Only.set 3 _)
      have HG9 := Lib.hid hs9
      have HZ9 := Lib.hid (ho9.at HZ8.out (by omega))
      have HR9 := Lib.hid (show RdrB _ _ _ _ from ho9.at HR8.out (by omega))
      have HM9 := Lib.hid (ownG_only HM8.out HG8.out (by decide) ho9)
      have HB9 := Lib.hid (HB8.out.trans (ho9.below (by omega) HB8.out.size))
      clear hs9 ho9 HR8 HZ8 HG8 HM8 HB8
      go_wp2
      generalize ((w7.setCell ⟨w.heap.size + 1 + 1, 1, none⟩ (.int .i64 x1)).setCell ⟨w.heap.size + 1 + 1, 2, none⟩ (.int .i64 x2)).setCell ⟨w.heap.size + 1 + 1, 3, none⟩ (.int .i64 x3) = w9 at HG9 HZ9 HR9 HM9 HB9 ⊢
      clear z0 z1 z2 z3 f0 f1 f2 f3
      have HVG := Lib.hid (fun w' (hb : Below w9.heap.size w9 w') => cValGen (.slice sa slen sc) x1 x2 x3 ys w' (HM9.out.rd.below hb))
      have HOR := Lib.hid (show orL [er, MM.errG x1 x2 x3 ys] = MM.or2 er (MM.errG x1 x2 x3 ys) by unfold orL orL orL MM.or2; (repeat' split) <;> omega)
      unfold gfin at HRF
      generalize MM.or2 er (MM.errG x1 x2 x3 ys) = EE at HOR HRF
      generalize MM.errG x1 x2 x3 ys = EG at HVG HOR
      have HCO := Lib.hid (fun z l w (h : RdI w z l) => cOrE z l w h)
      refine wp_region_held_drew (S := fun w' => Below w9.heap.size w9 w') (by kernel_rfl) ((Below.refl _ _).drew) (fun ha => ?_)
      replace ha : Below w9.heap.size w9 w9.drew := (Below.refl _ _).drew
      generalize w9.drew = wa at ha ⊢
      refine takeH (i := 0) (v := ?_) rfl (by kernel_rfl) (by kernel_rfl) (by kernel_rfl) (fun _ _ _ h => h) (Or.inl ⟨by rfl, ?_⟩) (by assumption) ?_
      rotate_left
      · (intro w hSw; (try dsimp only at hSw); go_simp; first | done | with_reducible rfl)
      (try simp only [Act.put, List.setIfInBounds_toArray, List.set_cons_zero, List.set_cons_succ])
      refine takeH (i := 1) (v := ?_) rfl (by kernel_rfl) (by kernel_rfl) (by kernel_rfl) (fun _ _ _ h => h) (Or.inl ⟨by rfl, ?_⟩) (by assumption) ?_
      rotate_left
      · (intro w hSw; (try dsimp only at hSw); obtain ⟨r0, r1, r2, _, _, _⟩ := RdrB.cells (show RdrB w _ _ _ from below_block HR9.out hSw) ; simp only at r2; go_simp; first | done | with_reducible rfl)
      (try simp only [Act.put, List.setIfInBounds_toArray, List.set_cons_zero, List.set_cons_succ])
      refine takeH (i := 2) (v := ?_) rfl (by kernel_rfl) (by kernel_rfl) (by kernel_rfl) (fun _ _ _ h => h) (Or.inl ⟨by rfl, ?_⟩) (by assumption) ?_
      rotate_left
      · (intro w hSw; (try dsimp only at hSw); obtain ⟨⟨q0, q1, q2, q3⟩, _⟩ := row4_at (below_block HG9.out hSw); go_simp; first | done | with_reducible rfl)
      (try simp only [Act.put, List.setIfInBounds_toArray, List.set_cons_zero, List.set_cons_succ])
      refine wpAnyH_ready (rs := [3]) (by kernel_rfl) (by simp) ?_
      refine stepH rfl (fun K hK => ?_) AllReadyH.nil
      go_simp
      refine (HVG.out wa ha).mono ?_
      rintro e wb ⟨rfl, hq⟩
      have hb := bnext ha hq
      go_wp2_with fail
      refine hK.out _ _ (hb) (fun _ => ?_)
      clear hK K
      (try simp only [Act.put, List.setIfInBounds_toArray, List.set_cons_zero, List.set_cons_succ])
      have hrd := rd2e wb er EG
      refine wpAnyH_ready (rs := [4]) (by kernel_rfl) (by simp) ?_
      refine stepH rfl (fun K hK => ?_) AllReadyH.nil
      go_simp
      have hc := bnext hb (below_fresh wb (.cells #[.int .i64 er, .int .i64 EG] 29))
      refine hK.out _ _ (hc) (fun _ => ?_)
      clear hK K
      (try simp only [Act.put, List.setIfInBounds_toArray, List.set_cons_zero, List.set_cons_succ])
      generalize wb.alloc (.cells #[.int .i64 er, .int .i64 EG] 29) = wd at hc hrd ⊢
      refine wpAnyH_ready (rs := [5]) (by kernel_rfl) (by simp) ?_
      refine stepH rfl (fun K hK => ?_) AllReadyH.nil
      go_simp
      refine (HCO.out _ _ wd hrd).mono ?_
      rintro e we ⟨rfl, rfl⟩
      rw [HOR.out]
      go_wp2_with fail
      refine hK.out _ _ (hc) (fun _ => ?_)
      clear hK K
      (try simp only [Act.put, List.setIfInBounds_toArray, List.set_cons_zero, List.set_cons_succ])
      refine takeH (i := 6) (v := ?_) rfl (by kernel_rfl) (by kernel_rfl) (by kernel_rfl) (fun _ _ _ h => h) (Or.inl ⟨by rfl, ?_⟩) (by assumption) ?_
      rotate_left
      · (intro w hSw; (try dsimp only at hSw); go_simp; first | done | with_reducible rfl)
      (try simp only [Act.put, List.setIfInBounds_toArray, List.set_cons_zero, List.set_cons_succ])
      refine wpAnyH_done (by kernel_rfl) ?_ _
      have HG10 := Lib.hid (below_block HG9.out hc)
      have HZ10 := Lib.hid (below_block HZ9.out hc)
      have HR10 := Lib.hid (show RdrB wd (w.heap.size + 1) (.slice va vn vc) (u, er) from below_block HR9.out hc)
      have HM10 := Lib.hid (HM9.out.below hc)
      have HB10 := Lib.hid (bnext HB9.out hc)
      clear hrd HVG HCO HOR HR9 HZ9 HG9 HM9 HB9 ha hb hc
      by_cases hE : EE = 0
      · have hRF := HRF.out
        rw [if_neg (by simp [hE])] at hRF
        have hneb : (EE != 0) = false := by simp [hE]
        have HFIN := Lib.hid hRF
        clear hRF HRF hE
        go_wp2
        have hwd : wd.drew.heap[w.heap.size]? = some (gBox (.slice none 0 0) 0 0 0) := HZ10.out
        refine wp_region_held_drew (S := fun w' => w'.heap[w.heap.size + 1 + 1]? = some (gBox (.slice sa slen sc) x1 x2 x3) ∧ RdrB w' (w.heap.size + 1) (.slice va vn vc) (u, er)) (by kernel_rfl) ⟨HG10.out, HR10.out⟩ (fun _ => ?_)
        have hS : wd.drew.heap[w.heap.size + 1 + 1]? = some (gBox (.slice sa slen sc) x1 x2 x3) ∧ RdrB wd.drew (w.heap.size + 1) (.slice va vn vc) (u, er) := ⟨HG10.out, HR10.out⟩
        have HM11 := Lib.hid (show OwnM w3.heap.size wd.drew (.slice sa slen sc) ys from HM10.out)
        have HB11 := Lib.hid (show Below w.heap.size w wd.drew from HB10.out.drew)
        clear HG10 HZ10 HR10 HM10 HB10
        generalize wd.drew = wa at hwd hS HM11 HB11 ⊢
        refine takeH (i := 0) (v := ?_) rfl (by kernel_rfl) (by kernel_rfl) (by kernel_rfl) (fun _ _ _ h => h) (Or.inl ⟨by rfl, ?_⟩) (by assumption) ?_
        rotate_left
        · (intro w hSw; (try dsimp only at hSw); obtain ⟨⟨q0, q1, q2, q3⟩, _⟩ := row4_at hSw.1; go_simp; first | done | with_reducible rfl)
        (try simp only [Act.put, List.setIfInBounds_toArray, List.set_cons_zero, List.set_cons_succ])
        refine takeH (i := 1) (v := ?_) rfl (by kernel_rfl) (by kernel_rfl) (by kernel_rfl) (fun _ _ _ h => h) (Or.inl ⟨by rfl, ?_⟩) (by assumption) ?_
        rotate_left
        · (intro w hSw; (try dsimp only at hSw); go_simp; first | done | with_reducible rfl)
        (try simp only [Act.put, List.setIfInBounds_toArray, List.set_cons_zero, List.set_cons_succ])
        refine takeH (i := 2) (v := ?_) rfl (by kernel_rfl) (by kernel_rfl) (by kernel_rfl) (fun _ _ _ h => h) (Or.inl ⟨by rfl, ?_⟩) (by assumption) ?_
        rotate_left
        · (intro w hSw; (try dsimp only at hSw); obtain ⟨r0, r1, r2, _, _, _⟩ := hSw.2.cells ; simp only at r1; go_simp; first | done | with_reducible rfl)
        (try simp only [Act.put, List.setIfInBounds_toArray, List.set_cons_zero, List.set_cons_succ])
        obtain ⟨⟨z0, z1, z2, z3⟩, f0, f1, f2, f3⟩ := row4_at hwd
        have hput := row4_put hwd (.slice sa slen sc) (.int .i64 x1) (.int .i64 x2) (.int .i64 x3) w.heap.size (Nat.le_refl _)
        have hon := onlyc4 (w := wa) (g := w.heap.size) (.slice sa slen sc) (.int .i64 x1) (.int .i64 x2) (.int .i64 x3)
        have HPUT := Lib.hid hput.1
        have HEND := Lib.hid (HB11.out.trans hput.2)
        have HMF := Lib.hid (ownG_only HM11.out hwd (by decide) hon).rd
        have HSF := Lib.hid (And.intro (hon.at hS.1 (by omega)) (show RdrB _ _ _ _ from hon.at hS.2 (by omega)))
        clear hput hon
        refine wpAnyH_ready (rs := [3]) (by kernel_rfl) (by simp) ?_
        refine stepH rfl (fun K hK => ?_) AllReadyH.nil
        go_simp
        skip
        refine hK.out _ _ (HSF.out) (fun _ => ?_)
        clear hK K
        (try simp only [Act.put, List.setIfInBounds_toArray, List.set_cons_zero, List.set_cons_succ])
        have hS := HSF.out
        refine takeH (i := 4) (v := ?_) rfl (by kernel_rfl) (by kernel_rfl) (by kernel_rfl) (fun _ _ _ h => h) (Or.inl ⟨by rfl, ?_⟩) (by assumption) ?_
        rotate_left
        · (intro w hSw; (try dsimp only at hSw); go_simp; first | done | with_reducible rfl)
        (try simp only [Act.put, List.setIfInBounds_toArray, List.set_cons_zero, List.set_cons_succ])
        refine takeH (i := 5) (v := ?_) rfl (by kernel_rfl) (by kernel_rfl) (by kernel_rfl) (fun _ _ _ h => h) (Or.inl ⟨by rfl, ?_⟩) (by assumption) ?_
        rotate_left
        · (intro w hSw; (try dsimp only at hSw); go_simp; first | done | with_reducible rfl)
        (try simp only [Act.put, List.setIfInBounds_toArray, List.set_cons_zero, List.set_cons_succ])
        refine wpAnyH_done (by kernel_rfl) ?_ _
        clear z0 z1 z2 z3 f0 f1 f2 f3 hS hwd
        go_wp2
        refine gd_ret rfl rfl rfl HPUT.out rfl ⟨.slice sa slen sc, ?_, ?_, HEND.out⟩
        · rw [HFIN.out]
        · rw [HFIN.out]; exact HMF.out
      · have hRF := HRF.out
        rw [if_pos hE] at hRF
        have hneb : (EE != 0) = true := by simp [hE]
        have HFIN := Lib.hid hRF
        clear hRF HRF hE
        obtain ⟨⟨z0, z1, z2, z3⟩, f0, f1, f2, f3⟩ := row4_at HZ10.out
        go_wp2
        have hput := row4_put HZ10.out (.slice none 0 0) (.int .i64 0) (.int .i64 0) (.int .i64 0) w.heap.size (Nat.le_refl _)
        refine gd_ret rfl rfl rfl hput.1 rfl ⟨.slice none 0 0, ?_, ?_, HB10.out.trans hput.2⟩
        · rw [HFIN.out]; rfl
        · rw [HFIN.out]; exact RdG.nil hlM _

end Go.Proofs.YtkaafbdhgekeeaaGreat
