/-
  The call of merge, at integers and at entries of weights: it returns the union of two lists. No conditions beyond that the lists read.
-/
import Derived.Test.YtkaafbdhgekeeaaGreatMCopy
import Derived.Test.YtkaafbdhgekeeaaGreatMIni
namespace Go.Proofs.YtkaafbdhgekeeaaGreat
open Go.RowKit Go.Joins
open MM (Mem Ent Sm Tri)

def vLen : Value → Nat
  | .slice _ n _ => n
  | _ => 0
theorem run_cutL {α : Type} {P : Program} {t e : TypeId} {size bytes : Nat} {enc : α → List Value} (E : IsElem P t e size bytes enc) (g N cap n : Nat) (h1 : n ≤ N) :
    ∀ w0 : World, (Instr.slice t (.slice (some ⟨g, 0, none⟩) N cap) (some (.int .i64 (n : Int))) none none).run P w0 = .ok (.slice (if cap = n then some ⟨g, 0, none⟩ else some ⟨g, n * size, none⟩) (N - n) (cap - n)) w0 := fun w0 => by
  have e1 : (0 : Int) ≤ (n : Int) := by omega
  have e2 : (n : Int) ≤ (N : Int) := by omega
  have hz := E.run_size
  simp [Instr.slice, run_underlying E.ht, Instr.sliceBounds, run_sliceBound, e1, e2, hz, Result.andThen, addr_plain]
theorem wp_copyD {α : Type} {P : Program} {t e : TypeId} {size bytes : Nat} {enc : α → List Value} (E : IsElem P t e size bytes enc) {w : World} {ops : Array Oper} {rest : List Oper} {o : Oper} {a : Act} {Q : Exit → Act → World → Prop} {base : Nat} {g N cap n : Nat} {us zs : List α} {z dv : Value} (hgd : o.guard = none) (d s : Operand)
    (ho : o.op = .call { callee := .builtin .copy, args := #[d, s], argTypes := #[t, t] }) (hown : OwnG enc e size base w (.slice (some ⟨g, 0, none⟩) N cap) us) (hN : N = us.length) (hn : n + zs.length ≤ us.length) (hz : RdG enc size w z zs)
    (hdv : dv = .slice (if cap = n then some ⟨g, 0, none⟩ else some ⟨g, n * size, none⟩) (N - n) (cap - n)) (hd : a.eval d = dv) (hs : a.eval s = z)
    (h : ∀ w', OwnG enc e size base w' (.slice (some ⟨g, 0, none⟩) N cap) (us.take n ++ (zs ++ us.drop (n + zs.length))) → Below base w w' → KeepsX e w w' → wpList P ops Q rest (a.put o.dst (.int .i64 zs.length)) w') :
    wpList P ops Q (o :: rest) a w := wp_copyG E hgd d s ho hown hN hn hz (hd.trans hdv) hs h
theorem vnext (n : Nat) (h : n + 1 ≤ 4611686018427387904) : Value.int .i64 (wrap64 ((n : Int) + 1)) = .int .i64 ((n + 1 : Nat) : Int) := vint (by unfold wrap64; omega)
theorem own_put1 {base : Nat} {w : World} {g N cap k : Nat} {xs : List Int} {s : Int} (h : OwnI base w (.slice (some ⟨g, 0, none⟩) N cap) xs) (hk : xs[k]? = some s) (s' : Int) (o : Nat) (ho : o = k * 1) :
    OwnI base (w.setCell ⟨g, o, none⟩ (.int .i64 s')) (.slice (some ⟨g, 0, none⟩) N cap) (xs.set k s') ∧ Below base w (w.setCell ⟨g, o, none⟩ (.int .i64 s')) ∧ KeepsX 3 w (w.setCell ⟨g, o, none⟩ (.int .i64 s')) := by
  subst ho
  have := own_set h hk (j := 0) (y := s') (u := .int .i64 s') (by decide) rfl
  rwa [Nat.add_zero] at this
theorem cCmpBI (x y : Int) (w : World) : Calls Tryz.prog 50 #[.int .i64 x, .int .i64 y] w fun e w' => e = .returned (.int .i64 (cmpI x y)) ∧ Below w.heap.size w w' :=
  (cCmp x y w).mono fun _ _ ⟨h1, h2⟩ => ⟨h1, h2 ▸ Below.refl _ _⟩
theorem cCmpBW (s t v a n s' t' v' a' n' : Int) (w : World) : Calls Tryz.prog 49 #[wv s t v a n, wv s' t' v' a' n'] w fun e w' => e = .returned (.int .i64 (cmpI s s')) ∧ Below w.heap.size w w' := cCompareServers s t v a n s' t' v' a' n' w

set_option maxRecDepth 100000 in
set_option maxHeartbeats 4000000 in
theorem cMergeI (va vb : Value) (xs ys : List Int) (w : World) (ha : RdI w va xs) (hb : RdI w vb ys) (hx : xs.length ≤ 100000000) (hy : ys.length ≤ 100000000) :
    Calls Tryz.prog 54 #[va, vb, .func (.func 50) #[] #[], .func (.func 55) #[] #[]] w fun e w' => ∃ v, e = .returned v ∧ (∀ w'', Fr w.heap.size w' w'' → RdI w'' v (MM.mg MM.kI MM.fstI xs ys)) ∧ Below w.heap.size w w' := by
  obtain ⟨ad, c, rfl, hc, hl⟩ := ha.shape
  obtain ⟨bd, d, rfl, hd, hld⟩ := hb.shape
  obtain ⟨N, hN⟩ : ∃ N, N = xs.length + ys.length := ⟨_, rfl⟩
  obtain ⟨M, hM⟩ : ∃ M, M = MM.mg MM.kI MM.fstI xs ys := ⟨_, rfl⟩
  rw [← hM]
  have HA := Lib.hid ha
  have HB := Lib.hid hb
  have HM := Lib.hid (show M = [] ++ MM.mg MM.kI MM.fstI xs ys from hM)
  have HL0 := Lib.hid (show ([] : List Int).length + xs.length + ys.length ≤ N by simp; omega)
  have HNb := Lib.hid (show N ≤ 200000000 by omega)
  have HN := Lib.hid (show (xs.length : Int) + (ys.length : Int) = (N : Int) by omega)
  clear ha hb hM hN
  go_enter Tryz.func54, Tryz.ntmps54
  go_wp2_with (refine wp_makeG intE 0 (zv := .int .i64 0) (by kernel_rfl) (.int .i64 0) rfl rfl rfl _ _ rfl (n := N) (by rw [← HN.out]; rfl) (by rw [← HN.out]; rfl) (by have := HNb.out; omega) (Nat.le_refl _) ?_)
  intro w1 ho1 hb1
  have HO := Lib.hid (show ∃ rest : List Int, OwnI w.heap.size w1 (.slice (some ⟨w.heap.size, 0, none⟩) N N) ([] ++ rest) ∧ ([] ++ rest).length = N from ⟨_, ho1, by simp⟩)
  have HB1 := Lib.hid hb1
  clear ho1 hb1
  go_wp2
  go_loopw [0, 1, 10] (fun a b i wr => ∃ (ra rb dn : List Int), i = .int .i64 (dn.length : Int) ∧ Hid (RdI w a ra) ∧ Hid (RdI w b rb) ∧ Hid (∃ rest : List Int, OwnI w.heap.size wr (.slice (some ⟨w.heap.size, 0, none⟩) N N) (dn ++ rest) ∧ (dn ++ rest).length = N) ∧
    Hid (Below w.heap.size w wr) ∧ Hid (M = dn ++ MM.mg MM.kI MM.fstI ra rb) ∧ Hid (dn.length + ra.length + rb.length ≤ N)) (fun a b _ _ => vLen a + vLen b)
  case atStart => exact ⟨xs, ys, [], rfl, HA, HB, HO, HB1, HM, HL0⟩
  case round =>
    clear HA HB HO HB1 HM HL0
    obtain ⟨ra, rb, dn, rfl, HA, HB, HO, HB1, HM, HL⟩ := hrel
    obtain ⟨ad2, ca2, rfl, hca, hla⟩ := HA.out.shape
    obtain ⟨bd2, cb2, rfl, hcb, hlb⟩ := HB.out.shape
    by_cases hne : ra ≠ [] ∧ rb ≠ []
    · obtain ⟨hna, hnb⟩ := hne
      obtain ⟨x, ra, rfl⟩ := List.exists_cons_of_ne_nil hna
      obtain ⟨y, rb, rfl⟩ := List.exists_cons_of_ne_nil hnb
      clear hna hnb
      obtain ⟨ab, ao, ahi, ahb, a0⟩ := atI HA.out 0 x (show (x :: ra)[0]? = some x from rfl)
      obtain ⟨bb, bo, bhi, bhb, b0⟩ := atI HB.out 0 y (show (y :: rb)[0]? = some y from rfl)
      have A0 := Lib.hid a0
      have ap0 := fun p : Later wr => below_cell p.h (below_cell HB1.out a0)
      have B0 := Lib.hid b0
      have bp0 := fun p : Later wr => below_cell p.h (below_cell HB1.out b0)
      obtain ⟨va2, acut, ard⟩ := HA.out.cutL intE 1 (by simp)
      obtain ⟨vb2, bcut, brd⟩ := HB.out.cutL intE 1 (by simp)
      have HV := Lib.hid (show vLen va2 = ra.length ∧ vLen vb2 = rb.length from ⟨by obtain ⟨_, _, h, _⟩ := ard; rw [h]; simp [vLen], by obtain ⟨_, _, h, _⟩ := brd; rw [h]; simp [vLen]⟩)
      have HLA := Lib.hid (show ra.length + 1 = (x :: ra).length from rfl)
      have HLB := Lib.hid (show rb.length + 1 = (y :: rb).length from rfl)
      have hq1 : (0 : Int) < ((x :: ra).length : Int) := by simp
      have hq2 : (0 : Int) < ((y :: rb).length : Int) := by simp
      have ARD := Lib.hid (show RdI w va2 ra from ard)
      have BRD := Lib.hid (show RdI w vb2 rb from brd)
      clear ard brd
      generalize hlx : (x :: ra).length = la at *
      generalize hly : (y :: rb).length = lb at *
      have ACUT := Lib.hid (show ∀ w0 : World, (Instr.slice 34 (.slice ad2 la ca2) (some (.int .i64 1)) none none).run Tryz.prog w0 = .ok va2 w0 from acut)
      have BCUT := Lib.hid (show ∀ w0 : World, (Instr.slice 34 (.slice bd2 lb cb2) (some (.int .i64 1)) none none).run Tryz.prog w0 = .ok vb2 w0 from bcut)
      have ahi1 : ∀ w0, (Instr.indexAt 34 (.slice ad2 la ca2) (.int .i64 0)).run Tryz.prog w0 = .ok (.pointer (some ⟨ab, ao, none⟩)) w0 := ahi
      have bhi1 : ∀ w0, (Instr.indexAt 34 (.slice bd2 lb cb2) (.int .i64 0)).run Tryz.prog w0 = .ok (.pointer (some ⟨bb, bo, none⟩)) w0 := bhi
      have AHI := Lib.hid ahi1
      have BHI := Lib.hid bhi1
      have HLX := Lib.hid hlx
      have HLY := Lib.hid hly
      clear acut bcut ahi bhi hlx hly
      obtain ⟨rest, hO, hlen⟩ := HO.out
      obtain ⟨r0, rest, rfl⟩ : ∃ r0 rest', rest = r0 :: rest' := List.exists_cons_of_ne_nil (by rintro rfl; simp at hlen; have h1 := HL.out; have h2 := HLA.out; omega)
      have HLEN := Lib.hid hlen
      have HGET := Lib.hid (show (dn ++ r0 :: rest)[dn.length]? = some r0 by rw [List.getElem?_append_right (Nat.le_refl _), Nat.sub_self]; rfl)
      obtain ⟨o, ho⟩ : ∃ o, o = dn.length * 1 := ⟨_, rfl⟩
      have HOE := Lib.hid ho
      have HIU := Lib.hid (show ∀ w0, (Instr.indexAt 34 (.slice (some ⟨w.heap.size, 0, none⟩) N N) (.int .i64 (dn.length : Int))).run Tryz.prog w0 = .ok (.pointer (some ⟨w.heap.size, o, none⟩)) w0 by
        obtain ⟨g', cap', hv', hiu', -⟩ := own_at intE hO HGET.out
        rw [hlen] at hv' hiu'
        cases hv'
        rw [ho]
        exact hiu')
      have HO1 := Lib.hid hO
      have HCM := Lib.hid (fun p : Later wr => Calls.later (cCmpBI x y p.val))
      have hk := Int.lt_trichotomy (MM.kI x) (MM.kI y)
      clear hO hlen ho HO
      have HPK := Lib.hid (show ∀ w : World, Calls Tryz.prog 55 #[.int .i64 x, .int .i64 y] w fun e w' => e = .returned (.int .i64 x) ∧ Below w.heap.size w w' from fun w => (cFirstServer x y w).mono fun _ _ ⟨h1, h2⟩ => ⟨h1, h2 ▸ Below.refl _ _⟩)
      rcases hk with hk | hk | hk
      · have hC : cmpI (MM.kI x) (MM.kI y) = -1 := by unfold cmpI; rw [if_pos hk]
        have hcm := HCM.out
        rw [show cmpI x y = -1 from hC] at hcm
        replace HCM := Lib.hid hcm
        clear hcm hC
        have HME := Lib.hid (show M = (dn ++ [ x]) ++ MM.mg MM.kI MM.fstI (ra) (y :: rb) by rw [HM.out, MM.mg_lt MM.kI MM.fstI hk]; simp)
        clear hk HM
        go_wp2
        refine wp_region_later (by kernel_rfl) (by kernel_rfl) ?_
        repeat (go_big_quiet_step (first | (with_reducible exact HCM.out _)))
        refine wpQuiet_nil ?_
        rintro _ ⟨p', rfl⟩
        have HB2 := Lib.hid (HB1.out.trans (p'.h.mono HB1.out.size))
        have HO2 := Lib.hid (HO1.out.below p'.h)
        generalize p'.val = w2 at HB2 HO2 ⊢
        clear HB1 HO1 HCM ap0 a0 bp0 b0
        go_wp2
        refine wp_region_held_drew (S := fun w' => Below w.heap.size w w') (by kernel_rfl) (HB2.out.drew) (fun ha => ?_)
        replace ha : Below w.heap.size w w2.drew := HB2.out.drew
        have HOW := Lib.hid (show OwnI w.heap.size w2.drew (.slice (some ⟨w.heap.size, 0, none⟩) N N) (dn ++ r0 :: rest) from HO2.out)
        clear HB2 HO2
        generalize w2.drew = wa at ha HOW ⊢
        refine takeH (i := 0) (v := ?_) rfl (by kernel_rfl) (by kernel_rfl) (by kernel_rfl) (fun _ _ _ h => h) (Or.inl ⟨by rfl, ?_⟩) (by assumption) ?_
        rotate_left
        · (intro w hSw; (try dsimp only at hSw); go_simp; first | done | with_reducible rfl)
        (try simp only [Act.put, List.setIfInBounds_toArray, List.set_cons_zero, List.set_cons_succ])
        refine takeH (i := 1) (v := ?_) rfl (by kernel_rfl) (by kernel_rfl) (by kernel_rfl) (fun _ _ _ h => h) (Or.inl ⟨by rfl, ?_⟩) (by assumption) ?_
        rotate_left
        · (intro w hSw; (try dsimp only at hSw); go_simp; first | done | with_reducible rfl)
        (try simp only [Act.put, List.setIfInBounds_toArray, List.set_cons_zero, List.set_cons_succ])
        refine takeH (i := 2) (v := ?_) rfl (by kernel_rfl) (by kernel_rfl) (by kernel_rfl) (fun _ _ _ h => h) (Or.inl ⟨by rfl, ?_⟩) (by assumption) ?_
        rotate_left
        · (intro w hSw; (try dsimp only at hSw); go_simp; first | done | with_reducible rfl)
        (try simp only [Act.put, List.setIfInBounds_toArray, List.set_cons_zero, List.set_cons_succ])
        refine takeH (i := 3) (v := ?_) rfl (by kernel_rfl) (by kernel_rfl) (by kernel_rfl) (fun _ _ _ h => h) (Or.inl ⟨by rfl, ?_⟩) (by assumption) ?_
        rotate_left
        · (intro w hSw; (try dsimp only at hSw); have hix := AHI.out w; go_simp; first | done | with_reducible rfl)
        (try simp only [Act.put, List.setIfInBounds_toArray, List.set_cons_zero, List.set_cons_succ])
        refine takeH (i := 4) (v := ?_) rfl (by kernel_rfl) (by kernel_rfl) (by kernel_rfl) (fun _ _ _ h => h) (Or.inl ⟨by rfl, ?_⟩) (by assumption) ?_
        rotate_left
        · (intro w hSw; (try dsimp only at hSw); have af0 := below_cell hSw A0.out; go_simp; first | done | with_reducible rfl)
        (try simp only [Act.put, List.setIfInBounds_toArray, List.set_cons_zero, List.set_cons_succ])
        refine takeH (i := 5) (v := ?_) rfl (by kernel_rfl) (by kernel_rfl) (by kernel_rfl) (fun _ _ _ h => h) (Or.inl ⟨by rfl, ?_⟩) (by assumption) ?_
        rotate_left
        · (intro w hSw; (try dsimp only at hSw); go_simp; first | done | with_reducible rfl)
        (try simp only [Act.put, List.setIfInBounds_toArray, List.set_cons_zero, List.set_cons_succ])
        refine takeH (i := 6) (v := ?_) rfl (by kernel_rfl) (by kernel_rfl) (by kernel_rfl) (fun _ _ _ h => h) (Or.inl ⟨by rfl, ?_⟩) (by assumption) ?_
        rotate_left
        · (intro w hSw; (try dsimp only at hSw); have hcut := ACUT.out w; go_simp; first | done | with_reducible rfl)
        (try simp only [Act.put, List.setIfInBounds_toArray, List.set_cons_zero, List.set_cons_succ])
        refine takeH (i := 7) (v := ?_) rfl (by kernel_rfl) (by kernel_rfl) (by kernel_rfl) (fun _ _ _ h => h) (Or.inl ⟨by rfl, ?_⟩) (by assumption) ?_
        rotate_left
        · (intro w hSw; (try dsimp only at hSw); have hiu := HIU.out w; go_simp; first | done | with_reducible rfl)
        (try simp only [Act.put, List.setIfInBounds_toArray, List.set_cons_zero, List.set_cons_succ])
        obtain ⟨g', cap', hv', -, hgb, hgs, hcl⟩ := own_at intE HOW.out HGET.out
        obtain rfl : g' = w.heap.size := by cases hv'; rfl
        clear hv'
        obtain ⟨s0, t0⟩ := hcl 0 _ rfl
        rw [← HOE.out, Nat.add_zero] at s0 t0
        have hput := own_put1 HOW.out HGET.out ( x) o HOE.out
        have hd := ha.trans hput.2.1
        refine wpAnyH_ready (rs := [8]) (by kernel_rfl) (by simp) ?_
        refine stepH rfl (fun K hK => ?_) AllReadyH.nil
        go_simp
        skip
        refine hK.out _ _ (hd) (fun _ => ?_)
        clear hK K
        (try simp only [Act.put, List.setIfInBounds_toArray, List.set_cons_zero, List.set_cons_succ])
        generalize wa.setCell ⟨w.heap.size, o, none⟩ (.int .i64 x) = wd at hput hd ⊢
        refine takeH (i := 9) (v := ?_) rfl (by kernel_rfl) (by kernel_rfl) (by kernel_rfl) (fun _ _ _ h => h) (Or.inl ⟨by rfl, ?_⟩) (by assumption) ?_
        rotate_left
        · (intro w hSw; (try dsimp only at hSw); go_simp; first | done | with_reducible rfl)
        (try simp only [Act.put, List.setIfInBounds_toArray, List.set_cons_zero])
        refine wpAnyH_done (by kernel_rfl) ?_ _
        have HO3 := Lib.hid (show ∃ rest : List Int, OwnI w.heap.size wd (.slice (some ⟨w.heap.size, 0, none⟩) N N) ((dn ++ [ x]) ++ rest) ∧ ((dn ++ [ x]) ++ rest).length = N from ⟨rest, by have := hput.1; rw [List.set_append_right _ _ (Nat.le_refl _), Nat.sub_self] at this; simpa using this, by rw [← HLEN.out]; simp⟩)
        have HB3 := Lib.hid hd
        clear hput hd hcl hgb hgs s0 t0
        go_wp2
        go_roundw
        case rel => exact ⟨ra, y :: rb, dn ++ [ x], by rw [List.length_append]; exact vnext _ (by have h1 := HL.out; have h2 := HNb.out; omega), ARD, HB, HO3, HB3, Lib.hid HME.out, Lib.hid (by have h1 := HL.out; have h5 := HLX.out; have h6 := HLY.out; simp only [List.length_append, List.length_cons, List.length_nil] at h1 h5 h6 ⊢; omega)⟩
        case measure => have h1 := HV.out; have h2 := HLA.out; have h3 := HLB.out; have h5 := HLX.out; have h6 := HLY.out; rw [h1.1]; show _ + lb < la + lb; rw [List.length_cons] at h5 h6; omega
      · have hC : cmpI (MM.kI x) (MM.kI y) = 0 := by unfold cmpI; rw [if_neg (by omega), if_neg (by omega)]
        have hcm := HCM.out
        rw [show cmpI x y = 0 from hC] at hcm
        replace HCM := Lib.hid hcm
        clear hcm hC
        have HME := Lib.hid (show M = (dn ++ [ x]) ++ MM.mg MM.kI MM.fstI (ra) (rb) by rw [HM.out, MM.mg_eq MM.kI MM.fstI hk]; simp [MM.fstI])
        clear hk HM
        go_wp2
        refine wp_region_later (by kernel_rfl) (by kernel_rfl) ?_
        repeat (go_big_quiet_step (first | (with_reducible exact HCM.out _)))
        refine wpQuiet_nil ?_
        rintro _ ⟨p', rfl⟩
        have HB2 := Lib.hid (HB1.out.trans (p'.h.mono HB1.out.size))
        have HO2 := Lib.hid (HO1.out.below p'.h)
        generalize p'.val = w2 at HB2 HO2 ⊢
        clear HB1 HO1 HCM ap0 a0 bp0 b0
        go_wp2
        refine wp_region_held_drew (S := fun w' => Below w.heap.size w w') (by kernel_rfl) (HB2.out.drew) (fun ha => ?_)
        replace ha : Below w.heap.size w w2.drew := HB2.out.drew
        have HOW := Lib.hid (show OwnI w.heap.size w2.drew (.slice (some ⟨w.heap.size, 0, none⟩) N N) (dn ++ r0 :: rest) from HO2.out)
        clear HB2 HO2
        generalize w2.drew = wa at ha HOW ⊢
        refine takeH (i := 0) (v := ?_) rfl (by kernel_rfl) (by kernel_rfl) (by kernel_rfl) (fun _ _ _ h => h) (Or.inl ⟨by rfl, ?_⟩) (by assumption) ?_
        rotate_left
        · (intro w hSw; (try dsimp only at hSw); go_simp; first | done | with_reducible rfl)
        (try simp only [Act.put, List.setIfInBounds_toArray, List.set_cons_zero, List.set_cons_succ])
        refine takeH (i := 1) (v := ?_) rfl (by kernel_rfl) (by kernel_rfl) (by kernel_rfl) (fun _ _ _ h => h) (Or.inl ⟨by rfl, ?_⟩) (by assumption) ?_
        rotate_left
        · (intro w hSw; (try dsimp only at hSw); go_simp; first | done | with_reducible rfl)
        (try simp only [Act.put, List.setIfInBounds_toArray, List.set_cons_zero, List.set_cons_succ])
        refine takeH (i := 2) (v := ?_) rfl (by kernel_rfl) (by kernel_rfl) (by kernel_rfl) (fun _ _ _ h => h) (Or.inl ⟨by rfl, ?_⟩) (by assumption) ?_
        rotate_left
        · (intro w hSw; (try dsimp only at hSw); go_simp; first | done | with_reducible rfl)
        (try simp only [Act.put, List.setIfInBounds_toArray, List.set_cons_zero, List.set_cons_succ])
        refine takeH (i := 3) (v := ?_) rfl (by kernel_rfl) (by kernel_rfl) (by kernel_rfl) (fun _ _ _ h => h) (Or.inl ⟨by rfl, ?_⟩) (by assumption) ?_
        rotate_left
        · (intro w hSw; (try dsimp only at hSw); go_simp; first | done | with_reducible rfl)
        (try simp only [Act.put, List.setIfInBounds_toArray, List.set_cons_zero, List.set_cons_succ])
        refine takeH (i := 6) (v := ?_) rfl (by kernel_rfl) (by kernel_rfl) (by kernel_rfl) (fun _ _ _ h => h) (Or.inl ⟨by rfl, ?_⟩) (by assumption) ?_
        rotate_left
        · (intro w hSw; (try dsimp only at hSw); go_simp; first | done | with_reducible rfl)
        (try simp only [Act.put, List.setIfInBounds_toArray, List.set_cons_zero, List.set_cons_succ])
        refine takeH (i := 10) (v := ?_) rfl (by kernel_rfl) (by kernel_rfl) (by kernel_rfl) (fun _ _ _ h => h) (Or.inl ⟨by rfl, ?_⟩) (by assumption) ?_
        rotate_left
        · (intro w hSw; (try dsimp only at hSw); go_simp; first | done | with_reducible rfl)
        (try simp only [Act.put, List.setIfInBounds_toArray, List.set_cons_zero, List.set_cons_succ])
        refine takeH (i := 12) (v := ?_) rfl (by kernel_rfl) (by kernel_rfl) (by kernel_rfl) (fun _ _ _ h => h) (Or.inl ⟨by rfl, ?_⟩) (by assumption) ?_
        rotate_left
        · (intro w hSw; (try dsimp only at hSw); go_simp; first | done | with_reducible rfl)
        (try simp only [Act.put, List.setIfInBounds_toArray, List.set_cons_zero, List.set_cons_succ])
        refine takeH (i := 4) (v := ?_) rfl (by kernel_rfl) (by kernel_rfl) (by kernel_rfl) (fun _ _ _ h => h) (Or.inl ⟨by rfl, ?_⟩) (by assumption) ?_
        rotate_left
        · (intro w hSw; (try dsimp only at hSw); have hix := AHI.out w; go_simp; first | done | with_reducible rfl)
        (try simp only [Act.put, List.setIfInBounds_toArray, List.set_cons_zero, List.set_cons_succ])
        refine takeH (i := 5) (v := ?_) rfl (by kernel_rfl) (by kernel_rfl) (by kernel_rfl) (fun _ _ _ h => h) (Or.inl ⟨by rfl, ?_⟩) (by assumption) ?_
        rotate_left
        · (intro w hSw; (try dsimp only at hSw); have af0 := below_cell hSw A0.out; go_simp; first | done | with_reducible rfl)
        (try simp only [Act.put, List.setIfInBounds_toArray, List.set_cons_zero, List.set_cons_succ])
        refine takeH (i := 7) (v := ?_) rfl (by kernel_rfl) (by kernel_rfl) (by kernel_rfl) (fun _ _ _ h => h) (Or.inl ⟨by rfl, ?_⟩) (by assumption) ?_
        rotate_left
        · (intro w hSw; (try dsimp only at hSw); have hix := BHI.out w; go_simp; first | done | with_reducible rfl)
        (try simp only [Act.put, List.setIfInBounds_toArray, List.set_cons_zero, List.set_cons_succ])
        refine takeH (i := 8) (v := ?_) rfl (by kernel_rfl) (by kernel_rfl) (by kernel_rfl) (fun _ _ _ h => h) (Or.inl ⟨by rfl, ?_⟩) (by assumption) ?_
        rotate_left
        · (intro w hSw; (try dsimp only at hSw); have bf0 := below_cell hSw B0.out; go_simp; first | done | with_reducible rfl)
        (try simp only [Act.put, List.setIfInBounds_toArray, List.set_cons_zero, List.set_cons_succ])
        refine takeH (i := 11) (v := ?_) rfl (by kernel_rfl) (by kernel_rfl) (by kernel_rfl) (fun _ _ _ h => h) (Or.inl ⟨by rfl, ?_⟩) (by assumption) ?_
        rotate_left
        · (intro w hSw; (try dsimp only at hSw); have hcut := ACUT.out w; go_simp; first | done | with_reducible rfl)
        (try simp only [Act.put, List.setIfInBounds_toArray, List.set_cons_zero, List.set_cons_succ])
        refine takeH (i := 13) (v := ?_) rfl (by kernel_rfl) (by kernel_rfl) (by kernel_rfl) (fun _ _ _ h => h) (Or.inl ⟨by rfl, ?_⟩) (by assumption) ?_
        rotate_left
        · (intro w hSw; (try dsimp only at hSw); have hcut := BCUT.out w; go_simp; first | done | with_reducible rfl)
        (try simp only [Act.put, List.setIfInBounds_toArray, List.set_cons_zero, List.set_cons_succ])
        refine wpAnyH_ready (rs := [9]) (by kernel_rfl) (by simp) ?_
        refine stepH rfl (fun K hK => ?_) AllReadyH.nil
        go_simp
        refine (HPK.out wa).mono ?_
        rintro e wb ⟨rfl, hq⟩
        have hb := bnext ha hq
        go_wp2_with fail
        refine hK.out _ _ (hb) (fun _ => ?_)
        clear hK K
        (try simp only [Act.put, List.setIfInBounds_toArray, List.set_cons_zero, List.set_cons_succ])
        refine takeH (i := 14) (v := ?_) rfl (by kernel_rfl) (by kernel_rfl) (by kernel_rfl) (fun _ _ _ h => h) (Or.inl ⟨by rfl, ?_⟩) (by assumption) ?_
        rotate_left
        · (intro w hSw; (try dsimp only at hSw); have hiu := HIU.out w; go_simp; first | done | with_reducible rfl)
        (try simp only [Act.put, List.setIfInBounds_toArray, List.set_cons_zero, List.set_cons_succ])
        replace HOW := Lib.hid (HOW.out.below hq)
        obtain ⟨g', cap', hv', -, hgb, hgs, hcl⟩ := own_at intE HOW.out HGET.out
        obtain rfl : g' = w.heap.size := by cases hv'; rfl
        clear hv'
        obtain ⟨s0, t0⟩ := hcl 0 _ rfl
        rw [← HOE.out, Nat.add_zero] at s0 t0
        have hput := own_put1 HOW.out HGET.out ( x) o HOE.out
        have hd := hb.trans hput.2.1
        refine wpAnyH_ready (rs := [15]) (by kernel_rfl) (by simp) ?_
        refine stepH rfl (fun K hK => ?_) AllReadyH.nil
        go_simp
        skip
        refine hK.out _ _ (hd) (fun _ => ?_)
        clear hK K
        (try simp only [Act.put, List.setIfInBounds_toArray, List.set_cons_zero, List.set_cons_succ])
        generalize wb.setCell ⟨w.heap.size, o, none⟩ (.int .i64 x) = wd at hput hd ⊢
        refine takeH (i := 16) (v := ?_) rfl (by kernel_rfl) (by kernel_rfl) (by kernel_rfl) (fun _ _ _ h => h) (Or.inl ⟨by rfl, ?_⟩) (by assumption) ?_
        rotate_left
        · (intro w hSw; (try dsimp only at hSw); go_simp; first | done | with_reducible rfl)
        (try simp only [Act.put, List.setIfInBounds_toArray, List.set_cons_zero])
        refine takeH (i := 17) (v := ?_) rfl (by kernel_rfl) (by kernel_rfl) (by kernel_rfl) (fun _ _ _ h => h) (Or.inl ⟨by rfl, ?_⟩) (by assumption) ?_
        rotate_left
        · (intro w hSw; (try dsimp only at hSw); go_simp; first | done | with_reducible rfl)
        (try simp only [Act.put, List.setIfInBounds_toArray, List.set_cons_zero, List.set_cons_succ])
        refine wpAnyH_done (by kernel_rfl) ?_ _
        have HO3 := Lib.hid (show ∃ rest : List Int, OwnI w.heap.size wd (.slice (some ⟨w.heap.size, 0, none⟩) N N) ((dn ++ [ x]) ++ rest) ∧ ((dn ++ [ x]) ++ rest).length = N from ⟨rest, by have := hput.1; rw [List.set_append_right _ _ (Nat.le_refl _), Nat.sub_self] at this; simpa using this, by rw [← HLEN.out]; simp⟩)
        have HB3 := Lib.hid hd
        clear hput hd hcl hgb hgs s0 t0
        go_wp2
        go_roundw
        case rel => exact ⟨ra, rb, dn ++ [ x], by rw [List.length_append]; exact vnext _ (by have h1 := HL.out; have h2 := HNb.out; omega), ARD, BRD, HO3, HB3, Lib.hid HME.out, Lib.hid (by have h1 := HL.out; have h5 := HLX.out; have h6 := HLY.out; simp only [List.length_append, List.length_cons, List.length_nil] at h1 h5 h6 ⊢; omega)⟩
        case measure => have h1 := HV.out; have h2 := HLA.out; have h3 := HLB.out; have h5 := HLX.out; have h6 := HLY.out; rw [h1.1, h1.2]; show _ < la + lb; rw [List.length_cons] at h5 h6; omega
      · have hC : cmpI (MM.kI x) (MM.kI y) = 1 := by unfold cmpI; rw [if_neg (by omega), if_pos hk]
        have hcm := HCM.out
        rw [show cmpI x y = 1 from hC] at hcm
        replace HCM := Lib.hid hcm
        clear hcm hC
        have HME := Lib.hid (show M = (dn ++ [ y]) ++ MM.mg MM.kI MM.fstI (x :: ra) (rb) by rw [HM.out, MM.mg_gt MM.kI MM.fstI hk]; simp)
        clear hk HM
        go_wp2
        refine wp_region_later (by kernel_rfl) (by kernel_rfl) ?_
        repeat (go_big_quiet_step (first | (with_reducible exact HCM.out _)))
        refine wpQuiet_nil ?_
        rintro _ ⟨p', rfl⟩
        have HB2 := Lib.hid (HB1.out.trans (p'.h.mono HB1.out.size))
        have HO2 := Lib.hid (HO1.out.below p'.h)
        generalize p'.val = w2 at HB2 HO2 ⊢
        clear HB1 HO1 HCM ap0 a0 bp0 b0
        go_wp2
        refine wp_region_held_drew (S := fun w' => Below w.heap.size w w') (by kernel_rfl) (HB2.out.drew) (fun ha => ?_)
        replace ha : Below w.heap.size w w2.drew := HB2.out.drew
        have HOW := Lib.hid (show OwnI w.heap.size w2.drew (.slice (some ⟨w.heap.size, 0, none⟩) N N) (dn ++ r0 :: rest) from HO2.out)
        clear HB2 HO2
        generalize w2.drew = wa at ha HOW ⊢
        refine takeH (i := 0) (v := ?_) rfl (by kernel_rfl) (by kernel_rfl) (by kernel_rfl) (fun _ _ _ h => h) (Or.inl ⟨by rfl, ?_⟩) (by assumption) ?_
        rotate_left
        · (intro w hSw; (try dsimp only at hSw); go_simp; first | done | with_reducible rfl)
        (try simp only [Act.put, List.setIfInBounds_toArray, List.set_cons_zero, List.set_cons_succ])
        refine takeH (i := 1) (v := ?_) rfl (by kernel_rfl) (by kernel_rfl) (by kernel_rfl) (fun _ _ _ h => h) (Or.inl ⟨by rfl, ?_⟩) (by assumption) ?_
        rotate_left
        · (intro w hSw; (try dsimp only at hSw); go_simp; first | done | with_reducible rfl)
        (try simp only [Act.put, List.setIfInBounds_toArray, List.set_cons_zero, List.set_cons_succ])
        refine takeH (i := 2) (v := ?_) rfl (by kernel_rfl) (by kernel_rfl) (by kernel_rfl) (fun _ _ _ h => h) (Or.inl ⟨by rfl, ?_⟩) (by assumption) ?_
        rotate_left
        · (intro w hSw; (try dsimp only at hSw); go_simp; first | done | with_reducible rfl)
        (try simp only [Act.put, List.setIfInBounds_toArray, List.set_cons_zero, List.set_cons_succ])
        refine takeH (i := 3) (v := ?_) rfl (by kernel_rfl) (by kernel_rfl) (by kernel_rfl) (fun _ _ _ h => h) (Or.inl ⟨by rfl, ?_⟩) (by assumption) ?_
        rotate_left
        · (intro w hSw; (try dsimp only at hSw); have hix := BHI.out w; go_simp; first | done | with_reducible rfl)
        (try simp only [Act.put, List.setIfInBounds_toArray, List.set_cons_zero, List.set_cons_succ])
        refine takeH (i := 4) (v := ?_) rfl (by kernel_rfl) (by kernel_rfl) (by kernel_rfl) (fun _ _ _ h => h) (Or.inl ⟨by rfl, ?_⟩) (by assumption) ?_
        rotate_left
        · (intro w hSw; (try dsimp only at hSw); have bf0 := below_cell hSw B0.out; go_simp; first | done | with_reducible rfl)
        (try simp only [Act.put, List.setIfInBounds_toArray, List.set_cons_zero, List.set_cons_succ])
        refine takeH (i := 5) (v := ?_) rfl (by kernel_rfl) (by kernel_rfl) (by kernel_rfl) (fun _ _ _ h => h) (Or.inl ⟨by rfl, ?_⟩) (by assumption) ?_
        rotate_left
        · (intro w hSw; (try dsimp only at hSw); go_simp; first | done | with_reducible rfl)
        (try simp only [Act.put, List.setIfInBounds_toArray, List.set_cons_zero, List.set_cons_succ])
        refine takeH (i := 6) (v := ?_) rfl (by kernel_rfl) (by kernel_rfl) (by kernel_rfl) (fun _ _ _ h => h) (Or.inl ⟨by rfl, ?_⟩) (by assumption) ?_
        rotate_left
        · (intro w hSw; (try dsimp only at hSw); have hcut := BCUT.out w; go_simp; first | done | with_reducible rfl)
        (try simp only [Act.put, List.setIfInBounds_toArray, List.set_cons_zero, List.set_cons_succ])
        refine takeH (i := 7) (v := ?_) rfl (by kernel_rfl) (by kernel_rfl) (by kernel_rfl) (fun _ _ _ h => h) (Or.inl ⟨by rfl, ?_⟩) (by assumption) ?_
        rotate_left
        · (intro w hSw; (try dsimp only at hSw); have hiu := HIU.out w; go_simp; first | done | with_reducible rfl)
        (try simp only [Act.put, List.setIfInBounds_toArray, List.set_cons_zero, List.set_cons_succ])
        obtain ⟨g', cap', hv', -, hgb, hgs, hcl⟩ := own_at intE HOW.out HGET.out
        obtain rfl : g' = w.heap.size := by cases hv'; rfl
        clear hv'
        obtain ⟨s0, t0⟩ := hcl 0 _ rfl
        rw [← HOE.out, Nat.add_zero] at s0 t0
        have hput := own_put1 HOW.out HGET.out ( y) o HOE.out
        have hd := ha.trans hput.2.1
        refine wpAnyH_ready (rs := [8]) (by kernel_rfl) (by simp) ?_
        refine stepH rfl (fun K hK => ?_) AllReadyH.nil
        go_simp
        skip
        refine hK.out _ _ (hd) (fun _ => ?_)
        clear hK K
        (try simp only [Act.put, List.setIfInBounds_toArray, List.set_cons_zero, List.set_cons_succ])
        generalize wa.setCell ⟨w.heap.size, o, none⟩ (.int .i64 y) = wd at hput hd ⊢
        refine takeH (i := 9) (v := ?_) rfl (by kernel_rfl) (by kernel_rfl) (by kernel_rfl) (fun _ _ _ h => h) (Or.inl ⟨by rfl, ?_⟩) (by assumption) ?_
        rotate_left
        · (intro w hSw; (try dsimp only at hSw); go_simp; first | done | with_reducible rfl)
        (try simp only [Act.put, List.setIfInBounds_toArray, List.set_cons_zero, List.set_cons_succ])
        refine wpAnyH_done (by kernel_rfl) ?_ _
        have HO3 := Lib.hid (show ∃ rest : List Int, OwnI w.heap.size wd (.slice (some ⟨w.heap.size, 0, none⟩) N N) ((dn ++ [ y]) ++ rest) ∧ ((dn ++ [ y]) ++ rest).length = N from ⟨rest, by have := hput.1; rw [List.set_append_right _ _ (Nat.le_refl _), Nat.sub_self] at this; simpa using this, by rw [← HLEN.out]; simp⟩)
        have HB3 := Lib.hid hd
        clear hput hd hcl hgb hgs s0 t0
        go_wp2
        go_roundw
        case rel => exact ⟨x :: ra, rb, dn ++ [ y], by rw [List.length_append]; exact vnext _ (by have h1 := HL.out; have h2 := HNb.out; omega), HA, BRD, HO3, HB3, Lib.hid HME.out, Lib.hid (by have h1 := HL.out; have h5 := HLX.out; have h6 := HLY.out; simp only [List.length_append, List.length_cons, List.length_nil] at h1 h5 h6 ⊢; omega)⟩
        case measure => have h1 := HV.out; have h2 := HLA.out; have h3 := HLB.out; have h5 := HLX.out; have h6 := HLY.out; rw [h1.2]; show la + _ < la + lb; rw [List.length_cons] at h5 h6; omega
    · have hz : ra = [] ∨ rb = [] := by
        rcases Decidable.em (ra = []) with h | h
        · exact .inl h
        · rcases Decidable.em (rb = []) with h2 | h2
          · exact .inr h2
          · exact absurd ⟨h, h2⟩ hne
      have HM2 := Lib.hid (show M = dn ++ (ra ++ rb) by
        rw [HM.out]
        rcases hz with rfl | rfl
        · rw [MM.mg_nil]; rfl
        · rw [MM.mg_nil2, List.append_nil])
      have hq : ¬ ((0 : Int) < (ra.length : Int)) ∨ ((0 : Int) < (ra.length : Int) ∧ ¬ ((0 : Int) < (rb.length : Int))) := by
        rcases hz with rfl | rfl
        · left; simp
        · by_cases h : ra = []
          · left; rw [h]; simp
          · right; exact ⟨by have := List.length_pos_iff.2 h; omega, by simp⟩
      clear hz hne HM
      obtain ⟨rest, hO, hlen⟩ := HO.out
      have HLEN := Lib.hid hlen
      have HO1 := Lib.hid hO
      clear hO hlen HO
      obtain ⟨a0, ha0⟩ : ∃ a0, a0 = some (⟨w.heap.size, 0, none⟩ : Addr) := ⟨_, rfl⟩
      obtain ⟨v1, hv1, hcut1⟩ : ∃ v1, Hid (v1 = .slice (if N = dn.length then some ⟨w.heap.size, 0, none⟩ else some ⟨w.heap.size, dn.length * 1, none⟩) (N - dn.length) (N - dn.length)) ∧ ∀ w0 : World, (Instr.slice 34 (.slice a0 N N) (some (.int .i64 (dn.length : Int))) none none).run Tryz.prog w0 = .ok v1 w0 :=
        ⟨_, Lib.hid rfl, by rw [ha0]; exact run_cutL intE w.heap.size N N dn.length (by have := HL.out; omega)⟩
      obtain ⟨v2, hv2, hcut2⟩ : ∃ v1, Hid (v1 = .slice (if N = dn.length + ra.length then some ⟨w.heap.size, 0, none⟩ else some ⟨w.heap.size, (dn.length + ra.length) * 1, none⟩) (N - (dn.length + ra.length)) (N - (dn.length + ra.length))) ∧ ∀ w0 : World, (Instr.slice 34 (.slice a0 N N) (some (.int .i64 ((dn.length : Int) + (ra.length : Int)))) none none).run Tryz.prog w0 = .ok v1 w0 :=
        ⟨_, Lib.hid rfl, by rw [ha0, show (dn.length : Int) + (ra.length : Int) = ((dn.length + ra.length : Nat) : Int) by omega]; exact run_cutL intE w.heap.size N N (dn.length + ra.length) (by have := HL.out; omega)⟩
      have hnb1 := HL.out
      have hnb2 := HNb.out
      rw [← ha0]
      have HA0 := Lib.hid ha0
      clear ha0
      rcases hq with hq | ⟨hq, hq'⟩
      all_goals
        go_wp2_with (refine wp_copyD intE rfl _ _ rfl HO1.out HLEN.out.symm (n := dn.length) (by have h1 := HL.out; have h2 := HLEN.out; omega) (HA.out.below HB1.out) hv1.out rfl rfl ?_)
        intro w2 ho2 hb2 hk2
        have e2 : dn.length + ra.length ≤ (dn ++ rest).length := by have h1 := HL.out; have h2 := HLEN.out; omega
        obtain ⟨us2, hlen2, htk2, ho2⟩ : ∃ us2 : List Int, us2.length = N ∧ Hid (us2.take (dn.length + ra.length) = dn ++ ra) ∧ Hid (OwnI w.heap.size w2 (.slice (some ⟨w.heap.size, 0, none⟩) N N) us2) :=
          ⟨dn ++ (ra ++ rest.drop ra.length), (by
            have h1 := HL.out
            have h2 := HLEN.out
            rw [List.length_append] at h2
            rw [List.length_append, List.length_append, List.length_drop]
            omega), Lib.hid (by rw [← List.append_assoc, List.take_left' (by simp)]), Lib.hid (by simpa using ho2)⟩
        have HL3 := Lib.hid hlen2
        have HB3 := Lib.hid (HB1.out.trans hb2)
        clear hb2 hk2 e2 hlen2
        go_wp2_with (refine wp_copyD intE rfl _ _ rfl ho2.out HL3.out.symm (n := dn.length + ra.length) (by have h1 := HL.out; have h2 := HL3.out; omega) (HB.out.below HB3.out) hv2.out rfl rfl ?_)
        intro w3 ho3 hb3 hk3
        obtain ⟨us3, htk3, ho3⟩ : ∃ us3 : List Int, Hid (us3.take (dn.length + ra.length + rb.length) = dn ++ (ra ++ rb) ∧ us3.length = N) ∧ Hid (OwnI w.heap.size w3 (.slice (some ⟨w.heap.size, 0, none⟩) N N) us3) :=
          ⟨_, Lib.hid ⟨by rw [htk2.out, ← List.append_assoc, List.append_assoc dn ra rb, List.take_left' (by simp; omega)], by have h1 := HL.out; have h2 := HL3.out; simp; omega⟩, Lib.hid ho3⟩
        have HB4 := Lib.hid (HB3.out.trans hb3)
        obtain ⟨v3, hcut3, hrd3⟩ := ho3.out.rd.cut0 intE (dn.length + ra.length + rb.length) (by rw [htk3.out.2]; have := HL.out; omega)
        rw [htk3.out.1] at hrd3
        rw [← HA0.out] at hcut3
        have hcut4 : ∀ w0 : World, (Instr.slice 34 (.slice a0 N N) none (some (.int .i64 ((dn.length : Int) + (ra.length : Int) + (rb.length : Int)))) none).run Tryz.prog w0 = .ok v3 w0 := by
          rw [show (dn.length : Int) + (ra.length : Int) + (rb.length : Int) = ((dn.length + ra.length + rb.length : Nat) : Int) by omega]
          exact hcut3
        have HRD := Lib.hid (show ∀ w'', Fr w.heap.size w3 w'' → RdI w'' v3 (dn ++ (ra ++ rb)) from fun w'' hf => by
          obtain ⟨v4, hc4, hr4⟩ := (ho3.out.fr hf).rd.cut0 intE (dn.length + ra.length + rb.length) (by rw [htk3.out.2]; have := HL.out; omega)
          rw [htk3.out.1] at hr4
          rw [← HA0.out] at hc4
          have := (hc4 w).symm.trans (hcut3 w)
          cases this
          exact hr4)
        clear hb3 hk3 hcut3 hrd3
        go_wp2
        go_ret
        exact ⟨_, rfl, by rw [HM2.out]; exact HRD.out, HB4.out⟩

set_option maxRecDepth 100000 in
set_option maxHeartbeats 4000000 in
theorem cMergeW (va vb : Value) (xs ys : List Ent) (w : World) (ha : RdW w va xs) (hb : RdW w vb ys) (hx : xs.length ≤ 100000000) (hy : ys.length ≤ 100000000) :
    Calls Tryz.prog 56 #[va, vb, .func (.func 49) #[] #[], .func (.func 57) #[] #[]] w fun e w' => ∃ v, e = .returned v ∧ (∀ w'', Fr w.heap.size w' w'' → RdW w'' v (MM.mg MM.kW MM.lat xs ys)) ∧ Below w.heap.size w w' := by
  obtain ⟨ad, c, rfl, hc, hl⟩ := ha.shape
  obtain ⟨bd, d, rfl, hd, hld⟩ := hb.shape
  obtain ⟨N, hN⟩ : ∃ N, N = xs.length + ys.length := ⟨_, rfl⟩
  obtain ⟨M, hM⟩ : ∃ M, M = MM.mg MM.kW MM.lat xs ys := ⟨_, rfl⟩
  rw [← hM]
  have HA := Lib.hid ha
  have HB := Lib.hid hb
  have HM := Lib.hid (show M = [] ++ MM.mg MM.kW MM.lat xs ys from hM)
  have HL0 := Lib.hid (show ([] : List Ent).length + xs.length + ys.length ≤ N by simp; omega)
  have HNb := Lib.hid (show N ≤ 200000000 by omega)
  have HN := Lib.hid (show (xs.length : Int) + (ys.length : Int) = (N : Int) by omega)
  clear ha hb hM hN
  go_enter Tryz.func56, Tryz.ntmps56
  go_wp2_with (refine wp_makeG wgtE (0, 0, 0, 0, 0) (zv := .agg #[.int .i64 0, .int .i64 0, .int .i64 0, .int .i64 0, .int .i64 0]) (by kernel_rfl) (.int .i64 0) rfl rfl rfl _ _ rfl (n := N) (by rw [← HN.out]; rfl) (by rw [← HN.out]; rfl) (by have := HNb.out; omega) (Nat.le_refl _) ?_)
  intro w1 ho1 hb1
  have HO := Lib.hid (show ∃ rest : List Ent, OwnW w.heap.size w1 (.slice (some ⟨w.heap.size, 0, none⟩) N N) ([] ++ rest) ∧ ([] ++ rest).length = N from ⟨_, ho1, by simp⟩)
  have HB1 := Lib.hid hb1
  clear ho1 hb1
  go_wp2
  go_loopw [0, 1, 10] (fun a b i wr => ∃ (ra rb dn : List Ent), i = .int .i64 (dn.length : Int) ∧ Hid (RdW w a ra) ∧ Hid (RdW w b rb) ∧ Hid (∃ rest : List Ent, OwnW w.heap.size wr (.slice (some ⟨w.heap.size, 0, none⟩) N N) (dn ++ rest) ∧ (dn ++ rest).length = N) ∧
    Hid (Below w.heap.size w wr) ∧ Hid (M = dn ++ MM.mg MM.kW MM.lat ra rb) ∧ Hid (dn.length + ra.length + rb.length ≤ N)) (fun a b _ _ => vLen a + vLen b)
  case atStart => exact ⟨xs, ys, [], rfl, HA, HB, HO, HB1, HM, HL0⟩
  case round =>
    clear HA HB HO HB1 HM HL0
    obtain ⟨ra, rb, dn, rfl, HA, HB, HO, HB1, HM, HL⟩ := hrel
    obtain ⟨ad2, ca2, rfl, hca, hla⟩ := HA.out.shape
    obtain ⟨bd2, cb2, rfl, hcb, hlb⟩ := HB.out.shape
    by_cases hne : ra ≠ [] ∧ rb ≠ []
    · obtain ⟨hna, hnb⟩ := hne
      obtain ⟨x, ra, rfl⟩ := List.exists_cons_of_ne_nil hna
      obtain ⟨y, rb, rfl⟩ := List.exists_cons_of_ne_nil hnb
      clear hna hnb
      obtain ⟨x0, x1, x2, x3, x4⟩ := x
      obtain ⟨y0, y1, y2, y3, y4⟩ := y
      obtain ⟨ab, ao, ahi, ahb, a0, a1, a2, a3, a4⟩ := atW HA.out 0 _ _ _ _ _ (show ((x0, x1, x2, x3, x4) :: ra)[0]? = some (x0, x1, x2, x3, x4) from rfl)
      obtain ⟨bb, bo, bhi, bhb, b0, b1, b2, b3, b4⟩ := atW HB.out 0 _ _ _ _ _ (show ((y0, y1, y2, y3, y4) :: rb)[0]? = some (y0, y1, y2, y3, y4) from rfl)
      have A0 := Lib.hid a0
      have A1 := Lib.hid a1
      have A2 := Lib.hid a2
      have A3 := Lib.hid a3
      have A4 := Lib.hid a4
      have ap0 := fun p : Later wr => below_cell p.h (below_cell HB1.out a0)
      have ap1 := fun p : Later wr => below_cell p.h (below_cell HB1.out a1)
      have ap2 := fun p : Later wr => below_cell p.h (below_cell HB1.out a2)
      have ap3 := fun p : Later wr => below_cell p.h (below_cell HB1.out a3)
      have ap4 := fun p : Later wr => below_cell p.h (below_cell HB1.out a4)
      have B0 := Lib.hid b0
      have B1 := Lib.hid b1
      have B2 := Lib.hid b2
      have B3 := Lib.hid b3
      have B4 := Lib.hid b4
      have bp0 := fun p : Later wr => below_cell p.h (below_cell HB1.out b0)
      have bp1 := fun p : Later wr => below_cell p.h (below_cell HB1.out b1)
      have bp2 := fun p : Later wr => below_cell p.h (below_cell HB1.out b2)
      have bp3 := fun p : Later wr => below_cell p.h (below_cell HB1.out b3)
      have bp4 := fun p : Later wr => below_cell p.h (below_cell HB1.out b4)
      obtain ⟨va2, acut, ard⟩ := HA.out.cutL wgtE 1 (by simp)
      obtain ⟨vb2, bcut, brd⟩ := HB.out.cutL wgtE 1 (by simp)
      have HV := Lib.hid (show vLen va2 = ra.length ∧ vLen vb2 = rb.length from ⟨by obtain ⟨_, _, h, _⟩ := ard; rw [h]; simp [vLen], by obtain ⟨_, _, h, _⟩ := brd; rw [h]; simp [vLen]⟩)
      have HLA := Lib.hid (show ra.length + 1 = ((x0, x1, x2, x3, x4) :: ra).length from rfl)
      have HLB := Lib.hid (show rb.length + 1 = ((y0, y1, y2, y3, y4) :: rb).length from rfl)
      have hq1 : (0 : Int) < (((x0, x1, x2, x3, x4) :: ra).length : Int) := by simp
      have hq2 : (0 : Int) < (((y0, y1, y2, y3, y4) :: rb).length : Int) := by simp
      have ARD := Lib.hid (show RdW w va2 ra from ard)
      have BRD := Lib.hid (show RdW w vb2 rb from brd)
      clear ard brd
      generalize hlx : ((x0, x1, x2, x3, x4) :: ra).length = la at *
      generalize hly : ((y0, y1, y2, y3, y4) :: rb).length = lb at *
      have ACUT := Lib.hid (show ∀ w0 : World, (Instr.slice 35 (.slice ad2 la ca2) (some (.int .i64 1)) none none).run Tryz.prog w0 = .ok va2 w0 from acut)
      have BCUT := Lib.hid (show ∀ w0 : World, (Instr.slice 35 (.slice bd2 lb cb2) (some (.int .i64 1)) none none).run Tryz.prog w0 = .ok vb2 w0 from bcut)
      have ahi1 : ∀ w0, (Instr.indexAt 35 (.slice ad2 la ca2) (.int .i64 0)).run Tryz.prog w0 = .ok (.pointer (some ⟨ab, ao, none⟩)) w0 := ahi
      have bhi1 : ∀ w0, (Instr.indexAt 35 (.slice bd2 lb cb2) (.int .i64 0)).run Tryz.prog w0 = .ok (.pointer (some ⟨bb, bo, none⟩)) w0 := bhi
      have AHI := Lib.hid ahi1
      have BHI := Lib.hid bhi1
      have HLX := Lib.hid hlx
      have HLY := Lib.hid hly
      clear acut bcut ahi bhi hlx hly
      obtain ⟨rest, hO, hlen⟩ := HO.out
      obtain ⟨r0, rest, rfl⟩ : ∃ r0 rest', rest = r0 :: rest' := List.exists_cons_of_ne_nil (by rintro rfl; simp at hlen; have h1 := HL.out; have h2 := HLA.out; omega)
      have HLEN := Lib.hid hlen
      have HGET := Lib.hid (show (dn ++ r0 :: rest)[dn.length]? = some r0 by rw [List.getElem?_append_right (Nat.le_refl _), Nat.sub_self]; rfl)
      obtain ⟨o, ho⟩ : ∃ o, o = dn.length * 5 := ⟨_, rfl⟩
      have HOE := Lib.hid ho
      have HIU := Lib.hid (show ∀ w0, (Instr.indexAt 35 (.slice (some ⟨w.heap.size, 0, none⟩) N N) (.int .i64 (dn.length : Int))).run Tryz.prog w0 = .ok (.pointer (some ⟨w.heap.size, o, none⟩)) w0 by
        obtain ⟨g', cap', hv', hiu', -⟩ := own_at wgtE hO HGET.out
        rw [hlen] at hv' hiu'
        cases hv'
        rw [ho]
        exact hiu')
      have HO1 := Lib.hid hO
      have HCM := Lib.hid (fun p : Later wr => Calls.later (cCmpBW x0 x1 x2 x3 x4 y0 y1 y2 y3 y4 p.val))
      have hk := Int.lt_trichotomy (MM.kW (x0, x1, x2, x3, x4)) (MM.kW (y0, y1, y2, y3, y4))
      clear hO hlen ho HO
      obtain ⟨⟨q0, q1, q2, q3, q4⟩, hqq⟩ : ∃ q, q = MM.lat (x0, x1, x2, x3, x4) (y0, y1, y2, y3, y4) := ⟨_, rfl⟩
      have HQ := Lib.hid hqq.symm
      have HPK := Lib.hid (show ∀ w : World, Calls Tryz.prog 57 #[wv x0 x1 x2 x3 x4, wv y0 y1 y2 y3 y4] w fun e w' => e = .returned (wv q0 q1 q2 q3 q4) ∧ Below w.heap.size w w' from fun w => by
        have := cLater x0 x1 x2 x3 x4 y0 y1 y2 y3 y4 w
        rw [← hqq] at this
        exact this)
      clear hqq
      rcases hk with hk | hk | hk
      · have hC : cmpI (MM.kW (x0, x1, x2, x3, x4)) (MM.kW (y0, y1, y2, y3, y4)) = -1 := by unfold cmpI; rw [if_pos hk]
        have hcm := HCM.out
        rw [show cmpI x0 y0 = -1 from hC] at hcm
        replace HCM := Lib.hid hcm
        clear hcm hC
        have HME := Lib.hid (show M = (dn ++ [( x0,  x1,  x2,  x3,  x4)]) ++ MM.mg MM.kW MM.lat (ra) ((y0, y1, y2, y3, y4) :: rb) by rw [HM.out, MM.mg_lt MM.kW MM.lat hk]; simp)
        clear hk HM
        go_wp2
        refine wp_region_later (by kernel_rfl) (by kernel_rfl) ?_
        repeat (go_big_quiet_step (first | (with_reducible exact HCM.out _)))
        refine wpQuiet_nil ?_
        rintro _ ⟨p', rfl⟩
        have HB2 := Lib.hid (HB1.out.trans (p'.h.mono HB1.out.size))
        have HO2 := Lib.hid (HO1.out.below p'.h)
        generalize p'.val = w2 at HB2 HO2 ⊢
        clear HB1 HO1 HCM ap0 a0 ap1 a1 ap2 a2 ap3 a3 ap4 a4 bp0 b0 bp1 b1 bp2 b2 bp3 b3 bp4 b4
        go_wp2
        refine wp_region_held_drew (S := fun w' => Below w.heap.size w w') (by kernel_rfl) (HB2.out.drew) (fun ha => ?_)
        replace ha : Below w.heap.size w w2.drew := HB2.out.drew
        have HOW := Lib.hid (show OwnW w.heap.size w2.drew (.slice (some ⟨w.heap.size, 0, none⟩) N N) (dn ++ r0 :: rest) from HO2.out)
        clear HB2 HO2
        generalize w2.drew = wa at ha HOW ⊢
        refine takeH (i := 0) (v := ?_) rfl (by kernel_rfl) (by kernel_rfl) (by kernel_rfl) (fun _ _ _ h => h) (Or.inl ⟨by rfl, ?_⟩) (by assumption) ?_
        rotate_left
        · (intro w hSw; (try dsimp only at hSw); go_simp; first | done | with_reducible rfl)
        (try simp only [Act.put, List.setIfInBounds_toArray, List.set_cons_zero, List.set_cons_succ])
        refine takeH (i := 1) (v := ?_) rfl (by kernel_rfl) (by kernel_rfl) (by kernel_rfl) (fun _ _ _ h => h) (Or.inl ⟨by rfl, ?_⟩) (by assumption) ?_
        rotate_left
        · (intro w hSw; (try dsimp only at hSw); go_simp; first | done | with_reducible rfl)
        (try simp only [Act.put, List.setIfInBounds_toArray, List.set_cons_zero, List.set_cons_succ])
        refine takeH (i := 2) (v := ?_) rfl (by kernel_rfl) (by kernel_rfl) (by kernel_rfl) (fun _ _ _ h => h) (Or.inl ⟨by rfl, ?_⟩) (by assumption) ?_
        rotate_left
        · (intro w hSw; (try dsimp only at hSw); go_simp; first | done | with_reducible rfl)
        (try simp only [Act.put, List.setIfInBounds_toArray, List.set_cons_zero, List.set_cons_succ])
        refine takeH (i := 3) (v := ?_) rfl (by kernel_rfl) (by kernel_rfl) (by kernel_rfl) (fun _ _ _ h => h) (Or.inl ⟨by rfl, ?_⟩) (by assumption) ?_
        rotate_left
        · (intro w hSw; (try dsimp only at hSw); have hix := AHI.out w; go_simp; first | done | with_reducible rfl)
        (try simp only [Act.put, List.setIfInBounds_toArray, List.set_cons_zero, List.set_cons_succ])
        refine takeH (i := 4) (v := ?_) rfl (by kernel_rfl) (by kernel_rfl) (by kernel_rfl) (fun _ _ _ h => h) (Or.inl ⟨by rfl, ?_⟩) (by assumption) ?_
        rotate_left
        · (intro w hSw; (try dsimp only at hSw); have af0 := below_cell hSw A0.out ; have af1 := below_cell hSw A1.out ; have af2 := below_cell hSw A2.out ; have af3 := below_cell hSw A3.out ; have af4 := below_cell hSw A4.out; go_simp; first | done | with_reducible rfl)
        (try simp only [Act.put, List.setIfInBounds_toArray, List.set_cons_zero, List.set_cons_succ])
        refine takeH (i := 5) (v := ?_) rfl (by kernel_rfl) (by kernel_rfl) (by kernel_rfl) (fun _ _ _ h => h) (Or.inl ⟨by rfl, ?_⟩) (by assumption) ?_
        rotate_left
        · (intro w hSw; (try dsimp only at hSw); go_simp; first | done | with_reducible rfl)
        (try simp only [Act.put, List.setIfInBounds_toArray, List.set_cons_zero, List.set_cons_succ])
        refine takeH (i := 6) (v := ?_) rfl (by kernel_rfl) (by kernel_rfl) (by kernel_rfl) (fun _ _ _ h => h) (Or.inl ⟨by rfl, ?_⟩) (by assumption) ?_
        rotate_left
        · (intro w hSw; (try dsimp only at hSw); have hcut := ACUT.out w; go_simp; first | done | with_reducible rfl)
        (try simp only [Act.put, List.setIfInBounds_toArray, List.set_cons_zero, List.set_cons_succ])
        refine takeH (i := 7) (v := ?_) rfl (by kernel_rfl) (by kernel_rfl) (by kernel_rfl) (fun _ _ _ h => h) (Or.inl ⟨by rfl, ?_⟩) (by assumption) ?_
        rotate_left
        · (intro w hSw; (try dsimp only at hSw); have hiu := HIU.out w; go_simp; first | done | with_reducible rfl)
        (try simp only [Act.put, List.setIfInBounds_toArray, List.set_cons_zero, List.set_cons_succ])
        obtain ⟨g', cap', hv', -, hgb, hgs, hcl⟩ := own_at wgtE HOW.out HGET.out
        obtain rfl : g' = w.heap.size := by cases hv'; rfl
        clear hv'
        obtain ⟨s0, t0⟩ := hcl 0 _ rfl
        obtain ⟨s1, t1⟩ := hcl 1 _ rfl
        obtain ⟨s2, t2⟩ := hcl 2 _ rfl
        obtain ⟨s3, t3⟩ := hcl 3 _ rfl
        obtain ⟨s4, t4⟩ := hcl 4 _ rfl
        rw [← HOE.out, Nat.add_zero] at s0 t0
        rw [← HOE.out] at s1 t1
        rw [← HOE.out] at s2 t2
        rw [← HOE.out] at s3 t3
        rw [← HOE.out] at s4 t4
        have hput := own_put5 HOW.out HGET.out ( x0) ( x1) ( x2) ( x3) ( x4) o HOE.out
        have hd := ha.trans hput.2.1
        refine wpAnyH_ready (rs := [8]) (by kernel_rfl) (by simp) ?_
        refine stepH rfl (fun K hK => ?_) AllReadyH.nil
        go_simp
        skip
        refine hK.out _ _ (hd) (fun _ => ?_)
        clear hK K
        (try simp only [Act.put, List.setIfInBounds_toArray, List.set_cons_zero, List.set_cons_succ])
        generalize ((((wa.setCell ⟨w.heap.size, o, none⟩ (.int .i64 x0)).setCell ⟨w.heap.size, o + 1, none⟩ (.int .i64 x1)).setCell ⟨w.heap.size, o + 2, none⟩ (.int .i64 x2)).setCell ⟨w.heap.size, o + 3, none⟩ (.int .i64 x3)).setCell ⟨w.heap.size, o + 4, none⟩ (.int .i64 x4) = wd at hput hd ⊢
        refine takeH (i := 9) (v := ?_) rfl (by kernel_rfl) (by kernel_rfl) (by kernel_rfl) (fun _ _ _ h => h) (Or.inl ⟨by rfl, ?_⟩) (by assumption) ?_
        rotate_left
        · (intro w hSw; (try dsimp only at hSw); go_simp; first | done | with_reducible rfl)
        (try simp only [Act.put, List.setIfInBounds_toArray, List.set_cons_zero])
        refine wpAnyH_done (by kernel_rfl) ?_ _
        have HO3 := Lib.hid (show ∃ rest : List Ent, OwnW w.heap.size wd (.slice (some ⟨w.heap.size, 0, none⟩) N N) ((dn ++ [( x0,  x1,  x2,  x3,  x4)]) ++ rest) ∧ ((dn ++ [( x0,  x1,  x2,  x3,  x4)]) ++ rest).length = N from ⟨rest, by have := hput.1; rw [List.set_append_right _ _ (Nat.le_refl _), Nat.sub_self] at this; simpa using this, by rw [← HLEN.out]; simp⟩)
        have HB3 := Lib.hid hd
        clear hput hd hcl hgb hgs s0 t0 s1 t1 s2 t2 s3 t3 s4 t4
        go_wp2
        go_roundw
        case rel => exact ⟨ra, (y0, y1, y2, y3, y4) :: rb, dn ++ [( x0,  x1,  x2,  x3,  x4)], by rw [List.length_append]; exact vnext _ (by have h1 := HL.out; have h2 := HNb.out; omega), ARD, HB, HO3, HB3, Lib.hid HME.out, Lib.hid (by have h1 := HL.out; have h5 := HLX.out; have h6 := HLY.out; simp only [List.length_append, List.length_cons, List.length_nil] at h1 h5 h6 ⊢; omega)⟩
        case measure => have h1 := HV.out; have h2 := HLA.out; have h3 := HLB.out; have h5 := HLX.out; have h6 := HLY.out; rw [h1.1]; show _ + lb < la + lb; rw [List.length_cons] at h5 h6; omega
      · have hC : cmpI (MM.kW (x0, x1, x2, x3, x4)) (MM.kW (y0, y1, y2, y3, y4)) = 0 := by unfold cmpI; rw [if_neg (by omega), if_neg (by omega)]
        have hcm := HCM.out
        rw [show cmpI x0 y0 = 0 from hC] at hcm
        replace HCM := Lib.hid hcm
        clear hcm hC
        have HME := Lib.hid (show M = (dn ++ [( q0,  q1,  q2,  q3,  q4)]) ++ MM.mg MM.kW MM.lat (ra) (rb) by rw [HM.out, MM.mg_eq MM.kW MM.lat hk, HQ.out]; simp)
        clear hk HM
        go_wp2
        refine wp_region_later (by kernel_rfl) (by kernel_rfl) ?_
        repeat (go_big_quiet_step (first | (with_reducible exact HCM.out _)))
        refine wpQuiet_nil ?_
        rintro _ ⟨p', rfl⟩
        have HB2 := Lib.hid (HB1.out.trans (p'.h.mono HB1.out.size))
        have HO2 := Lib.hid (HO1.out.below p'.h)
        generalize p'.val = w2 at HB2 HO2 ⊢
        clear HB1 HO1 HCM ap0 a0 ap1 a1 ap2 a2 ap3 a3 ap4 a4 bp0 b0 bp1 b1 bp2 b2 bp3 b3 bp4 b4
        go_wp2
        refine wp_region_held_drew (S := fun w' => Below w.heap.size w w') (by kernel_rfl) (HB2.out.drew) (fun ha => ?_)
        replace ha : Below w.heap.size w w2.drew := HB2.out.drew
        have HOW := Lib.hid (show OwnW w.heap.size w2.drew (.slice (some ⟨w.heap.size, 0, none⟩) N N) (dn ++ r0 :: rest) from HO2.out)
        clear HB2 HO2
        generalize w2.drew = wa at ha HOW ⊢
        refine takeH (i := 0) (v := ?_) rfl (by kernel_rfl) (by kernel_rfl) (by kernel_rfl) (fun _ _ _ h => h) (Or.inl ⟨by rfl, ?_⟩) (by assumption) ?_
        rotate_left
        · (intro w hSw; (try dsimp only at hSw); go_simp; first | done | with_reducible rfl)
        (try simp only [Act.put, List.setIfInBounds_toArray, List.set_cons_zero, List.set_cons_succ])
        refine takeH (i := 1) (v := ?_) rfl (by kernel_rfl) (by kernel_rfl) (by kernel_rfl) (fun _ _ _ h => h) (Or.inl ⟨by rfl, ?_⟩) (by assumption) ?_
        rotate_left
        · (intro w hSw; (try dsimp only at hSw); go_simp; first | done | with_reducible rfl)
        (try simp only [Act.put, List.setIfInBounds_toArray, List.set_cons_zero, List.set_cons_succ])
        refine takeH (i := 2) (v := ?_) rfl (by kernel_rfl) (by kernel_rfl) (by kernel_rfl) (fun _ _ _ h => h) (Or.inl ⟨by rfl, ?_⟩) (by assumption) ?_
        rotate_left
        · (intro w hSw; (try dsimp only at hSw); go_simp; first | done | with_reducible rfl)
        (try simp only [Act.put, List.setIfInBounds_toArray, List.set_cons_zero, List.set_cons_succ])
        refine takeH (i := 3) (v := ?_) rfl (by kernel_rfl) (by kernel_rfl) (by kernel_rfl) (fun _ _ _ h => h) (Or.inl ⟨by rfl, ?_⟩) (by assumption) ?_
        rotate_left
        · (intro w hSw; (try dsimp only at hSw); go_simp; first | done | with_reducible rfl)
        (try simp only [Act.put, List.setIfInBounds_toArray, List.set_cons_zero, List.set_cons_succ])
        refine takeH (i := 6) (v := ?_) rfl (by kernel_rfl) (by kernel_rfl) (by kernel_rfl) (fun _ _ _ h => h) (Or.inl ⟨by rfl, ?_⟩) (by assumption) ?_
        rotate_left
        · (intro w hSw; (try dsimp only at hSw); go_simp; first | done | with_reducible rfl)
        (try simp only [Act.put, List.setIfInBounds_toArray, List.set_cons_zero, List.set_cons_succ])
        refine takeH (i := 10) (v := ?_) rfl (by kernel_rfl) (by kernel_rfl) (by kernel_rfl) (fun _ _ _ h => h) (Or.inl ⟨by rfl, ?_⟩) (by assumption) ?_
        rotate_left
        · (intro w hSw; (try dsimp only at hSw); go_simp; first | done | with_reducible rfl)
        (try simp only [Act.put, List.setIfInBounds_toArray, List.set_cons_zero, List.set_cons_succ])
        refine takeH (i := 12) (v := ?_) rfl (by kernel_rfl) (by kernel_rfl) (by kernel_rfl) (fun _ _ _ h => h) (Or.inl ⟨by rfl, ?_⟩) (by assumption) ?_
        rotate_left
        · (intro w hSw; (try dsimp only at hSw); go_simp; first | done | with_reducible rfl)
        (try simp only [Act.put, List.setIfInBounds_toArray, List.set_cons_zero, List.set_cons_succ])
        refine takeH (i := 4) (v := ?_) rfl (by kernel_rfl) (by kernel_rfl) (by kernel_rfl) (fun _ _ _ h => h) (Or.inl ⟨by rfl, ?_⟩) (by assumption) ?_
        rotate_left
        · (intro w hSw; (try dsimp only at hSw); have hix := AHI.out w; go_simp; first | done | with_reducible rfl)
        (try simp only [Act.put, List.setIfInBounds_toArray, List.set_cons_zero, List.set_cons_succ])
        refine takeH (i := 5) (v := ?_) rfl (by kernel_rfl) (by kernel_rfl) (by kernel_rfl) (fun _ _ _ h => h) (Or.inl ⟨by rfl, ?_⟩) (by assumption) ?_
        rotate_left
        · (intro w hSw; (try dsimp only at hSw); have af0 := below_cell hSw A0.out ; have af1 := below_cell hSw A1.out ; have af2 := below_cell hSw A2.out ; have af3 := below_cell hSw A3.out ; have af4 := below_cell hSw A4.out; go_simp; first | done | with_reducible rfl)
        (try simp only [Act.put, List.setIfInBounds_toArray, List.set_cons_zero, List.set_cons_succ])
        refine takeH (i := 7) (v := ?_) rfl (by kernel_rfl) (by kernel_rfl) (by kernel_rfl) (fun _ _ _ h => h) (Or.inl ⟨by rfl, ?_⟩) (by assumption) ?_
        rotate_left
        · (intro w hSw; (try dsimp only at hSw); have hix := BHI.out w; go_simp; first | done | with_reducible rfl)
        (try simp only [Act.put, List.setIfInBounds_toArray, List.set_cons_zero, List.set_cons_succ])
        refine takeH (i := 8) (v := ?_) rfl (by kernel_rfl) (by kernel_rfl) (by kernel_rfl) (fun _ _ _ h => h) (Or.inl ⟨by rfl, ?_⟩) (by assumption) ?_
        rotate_left
        · (intro w hSw; (try dsimp only at hSw); have bf0 := below_cell hSw B0.out ; have bf1 := below_cell hSw B1.out ; have bf2 := below_cell hSw B2.out ; have bf3 := below_cell hSw B3.out ; have bf4 := below_cell hSw B4.out; go_simp; first | done | with_reducible rfl)
        (try simp only [Act.put, List.setIfInBounds_toArray, List.set_cons_zero, List.set_cons_succ])
        refine takeH (i := 11) (v := ?_) rfl (by kernel_rfl) (by kernel_rfl) (by kernel_rfl) (fun _ _ _ h => h) (Or.inl ⟨by rfl, ?_⟩) (by assumption) ?_
        rotate_left
        · (intro w hSw; (try dsimp only at hSw); have hcut := ACUT.out w; go_simp; first | done | with_reducible rfl)
        (try simp only [Act.put, List.setIfInBounds_toArray, List.set_cons_zero, List.set_cons_succ])
        refine takeH (i := 13) (v := ?_) rfl (by kernel_rfl) (by kernel_rfl) (by kernel_rfl) (fun _ _ _ h => h) (Or.inl ⟨by rfl, ?_⟩) (by assumption) ?_
        rotate_left
        · (intro w hSw; (try dsimp only at hSw); have hcut := BCUT.out w; go_simp; first | done | with_reducible rfl)
        (try simp only [Act.put, List.setIfInBounds_toArray, List.set_cons_zero, List.set_cons_succ])
        refine wpAnyH_ready (rs := [9]) (by kernel_rfl) (by simp) ?_
        refine stepH rfl (fun K hK => ?_) AllReadyH.nil
        go_simp
        refine (HPK.out wa).mono ?_
        rintro e wb ⟨rfl, hq⟩
        have hb := bnext ha hq
        go_wp2_with fail
        refine hK.out _ _ (hb) (fun _ => ?_)
        clear hK K
        (try simp only [Act.put, List.setIfInBounds_toArray, List.set_cons_zero, List.set_cons_succ])
        refine takeH (i := 14) (v := ?_) rfl (by kernel_rfl) (by kernel_rfl) (by kernel_rfl) (fun _ _ _ h => h) (Or.inl ⟨by rfl, ?_⟩) (by assumption) ?_
        rotate_left
        · (intro w hSw; (try dsimp only at hSw); have hiu := HIU.out w; go_simp; first | done | with_reducible rfl)
        (try simp only [Act.put, List.setIfInBounds_toArray, List.set_cons_zero, List.set_cons_succ])
        replace HOW := Lib.hid (HOW.out.below hq)
        obtain ⟨g', cap', hv', -, hgb, hgs, hcl⟩ := own_at wgtE HOW.out HGET.out
        obtain rfl : g' = w.heap.size := by cases hv'; rfl
        clear hv'
        obtain ⟨s0, t0⟩ := hcl 0 _ rfl
        obtain ⟨s1, t1⟩ := hcl 1 _ rfl
        obtain ⟨s2, t2⟩ := hcl 2 _ rfl
        obtain ⟨s3, t3⟩ := hcl 3 _ rfl
        obtain ⟨s4, t4⟩ := hcl 4 _ rfl
        rw [← HOE.out, Nat.add_zero] at s0 t0
        rw [← HOE.out] at s1 t1
        rw [← HOE.out] at s2 t2
        rw [← HOE.out] at s3 t3
        rw [← HOE.out] at s4 t4
        have hput := own_put5 HOW.out HGET.out ( q0) ( q1) ( q2) ( q3) ( q4) o HOE.out
        have hd := hb.trans hput.2.1
        refine wpAnyH_ready (rs := [15]) (by kernel_rfl) (by simp) ?_
        refine stepH rfl (fun K hK => ?_) AllReadyH.nil
        go_simp
        skip
        refine hK.out _ _ (hd) (fun _ => ?_)
        clear hK K
        (try simp only [Act.put, List.setIfInBounds_toArray, List.set_cons_zero, List.set_cons_succ])
        generalize ((((wb.setCell ⟨w.heap.size, o, none⟩ (.int .i64 q0)).setCell ⟨w.heap.size, o + 1, none⟩ (.int .i64 q1)).setCell ⟨w.heap.size, o + 2, none⟩ (.int .i64 q2)).setCell ⟨w.heap.size, o + 3, none⟩ (.int .i64 q3)).setCell ⟨w.heap.size, o + 4, none⟩ (.int .i64 q4) = wd at hput hd ⊢
        refine takeH (i := 16) (v := ?_) rfl (by kernel_rfl) (by kernel_rfl) (by kernel_rfl) (fun _ _ _ h => h) (Or.inl ⟨by rfl, ?_⟩) (by assumption) ?_
        rotate_left
        · (intro w hSw; (try dsimp only at hSw); go_simp; first | done | with_reducible rfl)
        (try simp only [Act.put, List.setIfInBounds_toArray, List.set_cons_zero])
        refine takeH (i := 17) (v := ?_) rfl (by kernel_rfl) (by kernel_rfl) (by kernel_rfl) (fun _ _ _ h => h) (Or.inl ⟨by rfl, ?_⟩) (by assumption) ?_
        rotate_left
        · (intro w hSw; (try dsimp only at hSw); go_simp; first | done | with_reducible rfl)
        (try simp only [Act.put, List.setIfInBounds_toArray, List.set_cons_zero, List.set_cons_succ])
        refine wpAnyH_done (by kernel_rfl) ?_ _
        have HO3 := Lib.hid (show ∃ rest : List Ent, OwnW w.heap.size wd (.slice (some ⟨w.heap.size, 0, none⟩) N N) ((dn ++ [( q0,  q1,  q2,  q3,  q4)]) ++ rest) ∧ ((dn ++ [( q0,  q1,  q2,  q3,  q4)]) ++ rest).length = N from ⟨rest, by have := hput.1; rw [List.set_append_right _ _ (Nat.le_refl _), Nat.sub_self] at this; simpa using this, by rw [← HLEN.out]; simp⟩)
        have HB3 := Lib.hid hd
        clear hput hd hcl hgb hgs s0 t0 s1 t1 s2 t2 s3 t3 s4 t4
        go_wp2
        go_roundw
        case rel => exact ⟨ra, rb, dn ++ [( q0,  q1,  q2,  q3,  q4)], by rw [List.length_append]; exact vnext _ (by have h1 := HL.out; have h2 := HNb.out; omega), ARD, BRD, HO3, HB3, Lib.hid HME.out, Lib.hid (by have h1 := HL.out; have h5 := HLX.out; have h6 := HLY.out; simp only [List.length_append, List.length_cons, List.length_nil] at h1 h5 h6 ⊢; omega)⟩
        case measure => have h1 := HV.out; have h2 := HLA.out; have h3 := HLB.out; have h5 := HLX.out; have h6 := HLY.out; rw [h1.1, h1.2]; show _ < la + lb; rw [List.length_cons] at h5 h6; omega
      · have hC : cmpI (MM.kW (x0, x1, x2, x3, x4)) (MM.kW (y0, y1, y2, y3, y4)) = 1 := by unfold cmpI; rw [if_neg (by omega), if_pos hk]
        have hcm := HCM.out
        rw [show cmpI x0 y0 = 1 from hC] at hcm
        replace HCM := Lib.hid hcm
        clear hcm hC
        have HME := Lib.hid (show M = (dn ++ [( y0,  y1,  y2,  y3,  y4)]) ++ MM.mg MM.kW MM.lat ((x0, x1, x2, x3, x4) :: ra) (rb) by rw [HM.out, MM.mg_gt MM.kW MM.lat hk]; simp)
        clear hk HM
        go_wp2
        refine wp_region_later (by kernel_rfl) (by kernel_rfl) ?_
        repeat (go_big_quiet_step (first | (with_reducible exact HCM.out _)))
        refine wpQuiet_nil ?_
        rintro _ ⟨p', rfl⟩
        have HB2 := Lib.hid (HB1.out.trans (p'.h.mono HB1.out.size))
        have HO2 := Lib.hid (HO1.out.below p'.h)
        generalize p'.val = w2 at HB2 HO2 ⊢
        clear HB1 HO1 HCM ap0 a0 ap1 a1 ap2 a2 ap3 a3 ap4 a4 bp0 b0 bp1 b1 bp2 b2 bp3 b3 bp4 b4
        go_wp2
        refine wp_region_held_drew (S := fun w' => Below w.heap.size w w') (by kernel_rfl) (HB2.out.drew) (fun ha => ?_)
        replace ha : Below w.heap.size w w2.drew := HB2.out.drew
        have HOW := Lib.hid (show OwnW w.heap.size w2.drew (.slice (some ⟨w.heap.size, 0, none⟩) N N) (dn ++ r0 :: rest) from HO2.out)
        clear HB2 HO2
        generalize w2.drew = wa at ha HOW ⊢
        refine takeH (i := 0) (v := ?_) rfl (by kernel_rfl) (by kernel_rfl) (by kernel_rfl) (fun _ _ _ h => h) (Or.inl ⟨by rfl, ?_⟩) (by assumption) ?_
        rotate_left
        · (intro w hSw; (try dsimp only at hSw); go_simp; first | done | with_reducible rfl)
        (try simp only [Act.put, List.setIfInBounds_toArray, List.set_cons_zero, List.set_cons_succ])
        refine takeH (i := 1) (v := ?_) rfl (by kernel_rfl) (by kernel_rfl) (by kernel_rfl) (fun _ _ _ h => h) (Or.inl ⟨by rfl, ?_⟩) (by assumption) ?_
        rotate_left
        · (intro w hSw; (try dsimp only at hSw); go_simp; first | done | with_reducible rfl)
        (try simp only [Act.put, List.setIfInBounds_toArray, List.set_cons_zero, List.set_cons_succ])
        refine takeH (i := 2) (v := ?_) rfl (by kernel_rfl) (by kernel_rfl) (by kernel_rfl) (fun _ _ _ h => h) (Or.inl ⟨by rfl, ?_⟩) (by assumption) ?_
        rotate_left
        · (intro w hSw; (try dsimp only at hSw); go_simp; first | done | with_reducible rfl)
        (try simp only [Act.put, List.setIfInBounds_toArray, List.set_cons_zero, List.set_cons_succ])
        refine takeH (i := 3) (v := ?_) rfl (by kernel_rfl) (by kernel_rfl) (by kernel_rfl) (fun _ _ _ h => h) (Or.inl ⟨by rfl, ?_⟩) (by assumption) ?_
        rotate_left
        · (intro w hSw; (try dsimp only at hSw); have hix := BHI.out w; go_simp; first | done | with_reducible rfl)
        (try simp only [Act.put, List.setIfInBounds_toArray, List.set_cons_zero, List.set_cons_succ])
        refine takeH (i := 4) (v := ?_) rfl (by kernel_rfl) (by kernel_rfl) (by kernel_rfl) (fun _ _ _ h => h) (Or.inl ⟨by rfl, ?_⟩) (by assumption) ?_
        rotate_left
        · (intro w hSw; (try dsimp only at hSw); have bf0 := below_cell hSw B0.out ; have bf1 := below_cell hSw B1.out ; have bf2 := below_cell hSw B2.out ; have bf3 := below_cell hSw B3.out ; have bf4 := below_cell hSw B4.out; go_simp; first | done | with_reducible rfl)
        (try simp only [Act.put, List.setIfInBounds_toArray, List.set_cons_zero, List.set_cons_succ])
        refine takeH (i := 5) (v := ?_) rfl (by kernel_rfl) (by kernel_rfl) (by kernel_rfl) (fun _ _ _ h => h) (Or.inl ⟨by rfl, ?_⟩) (by assumption) ?_
        rotate_left
        · (intro w hSw; (try dsimp only at hSw); go_simp; first | done | with_reducible rfl)
        (try simp only [Act.put, List.setIfInBounds_toArray, List.set_cons_zero, List.set_cons_succ])
        refine takeH (i := 6) (v := ?_) rfl (by kernel_rfl) (by kernel_rfl) (by kernel_rfl) (fun _ _ _ h => h) (Or.inl ⟨by rfl, ?_⟩) (by assumption) ?_
        rotate_left
        · (intro w hSw; (try dsimp only at hSw); have hcut := BCUT.out w; go_simp; first | done | with_reducible rfl)
        (try simp only [Act.put, List.setIfInBounds_toArray, List.set_cons_zero, List.set_cons_succ])
        refine takeH (i := 7) (v := ?_) rfl (by kernel_rfl) (by kernel_rfl) (by kernel_rfl) (fun _ _ _ h => h) (Or.inl ⟨by rfl, ?_⟩) (by assumption) ?_
        rotate_left
        · (intro w hSw; (try dsimp only at hSw); have hiu := HIU.out w; go_simp; first | done | with_reducible rfl)
        (try simp only [Act.put, List.setIfInBounds_toArray, List.set_cons_zero, List.set_cons_succ])
        obtain ⟨g', cap', hv', -, hgb, hgs, hcl⟩ := own_at wgtE HOW.out HGET.out
        obtain rfl : g' = w.heap.size := by cases hv'; rfl
        clear hv'
        obtain ⟨s0, t0⟩ := hcl 0 _ rfl
        obtain ⟨s1, t1⟩ := hcl 1 _ rfl
        obtain ⟨s2, t2⟩ := hcl 2 _ rfl
        obtain ⟨s3, t3⟩ := hcl 3 _ rfl
        obtain ⟨s4, t4⟩ := hcl 4 _ rfl
        rw [← HOE.out, Nat.add_zero] at s0 t0
        rw [← HOE.out] at s1 t1
        rw [← HOE.out] at s2 t2
        rw [← HOE.out] at s3 t3
        rw [← HOE.out] at s4 t4
        have hput := own_put5 HOW.out HGET.out ( y0) ( y1) ( y2) ( y3) ( y4) o HOE.out
        have hd := ha.trans hput.2.1
        refine wpAnyH_ready (rs := [8]) (by kernel_rfl) (by simp) ?_
        refine stepH rfl (fun K hK => ?_) AllReadyH.nil
        go_simp
        skip
        refine hK.out _ _ (hd) (fun _ => ?_)
        clear hK K
        (try simp only [Act.put, List.setIfInBounds_toArray, List.set_cons_zero, List.set_cons_succ])
        generalize ((((wa.setCell ⟨w.heap.size, o, none⟩ (.int .i64 y0)).setCell ⟨w.heap.size, o + 1, none⟩ (.int .i64 y1)).setCell ⟨w.heap.size, o + 2, none⟩ (.int .i64 y2)).setCell ⟨w.heap.size, o + 3, none⟩ (.int .i64 y3)).setCell ⟨w.heap.size, o + 4, none⟩ (.int .i64 y4) = wd at hput hd ⊢
        refine takeH (i := 9) (v := ?_) rfl (by kernel_rfl) (by kernel_rfl) (by kernel_rfl) (fun _ _ _ h => h) (Or.inl ⟨by rfl, ?_⟩) (by assumption) ?_
        rotate_left
        · (intro w hSw; (try dsimp only at hSw); go_simp; first | done | with_reducible rfl)
        (try simp only [Act.put, List.setIfInBounds_toArray, List.set_cons_zero, List.set_cons_succ])
        refine wpAnyH_done (by kernel_rfl) ?_ _
        have HO3 := Lib.hid (show ∃ rest : List Ent, OwnW w.heap.size wd (.slice (some ⟨w.heap.size, 0, none⟩) N N) ((dn ++ [( y0,  y1,  y2,  y3,  y4)]) ++ rest) ∧ ((dn ++ [( y0,  y1,  y2,  y3,  y4)]) ++ rest).length = N from ⟨rest, by have := hput.1; rw [List.set_append_right _ _ (Nat.le_refl _), Nat.sub_self] at this; simpa using this, by rw [← HLEN.out]; simp⟩)
        have HB3 := Lib.hid hd
        clear hput hd hcl hgb hgs s0 t0 s1 t1 s2 t2 s3 t3 s4 t4
        go_wp2
        go_roundw
        case rel => exact ⟨(x0, x1, x2, x3, x4) :: ra, rb, dn ++ [( y0,  y1,  y2,  y3,  y4)], by rw [List.length_append]; exact vnext _ (by have h1 := HL.out; have h2 := HNb.out; omega), HA, BRD, HO3, HB3, Lib.hid HME.out, Lib.hid (by have h1 := HL.out; have h5 := HLX.out; have h6 := HLY.out; simp only [List.length_append, List.length_cons, List.length_nil] at h1 h5 h6 ⊢; omega)⟩
        case measure => have h1 := HV.out; have h2 := HLA.out; have h3 := HLB.out; have h5 := HLX.out; have h6 := HLY.out; rw [h1.2]; show la + _ < la + lb; rw [List.length_cons] at h5 h6; omega
    · have hz : ra = [] ∨ rb = [] := by
        rcases Decidable.em (ra = []) with h | h
        · exact .inl h
        · rcases Decidable.em (rb = []) with h2 | h2
          · exact .inr h2
          · exact absurd ⟨h, h2⟩ hne
      have HM2 := Lib.hid (show M = dn ++ (ra ++ rb) by
        rw [HM.out]
        rcases hz with rfl | rfl
        · rw [MM.mg_nil]; rfl
        · rw [MM.mg_nil2, List.append_nil])
      have hq : ¬ ((0 : Int) < (ra.length : Int)) ∨ ((0 : Int) < (ra.length : Int) ∧ ¬ ((0 : Int) < (rb.length : Int))) := by
        rcases hz with rfl | rfl
        · left; simp
        · by_cases h : ra = []
          · left; rw [h]; simp
          · right; exact ⟨by have := List.length_pos_iff.2 h; omega, by simp⟩
      clear hz hne HM
      obtain ⟨rest, hO, hlen⟩ := HO.out
      have HLEN := Lib.hid hlen
      have HO1 := Lib.hid hO
      clear hO hlen HO
      obtain ⟨a0, ha0⟩ : ∃ a0, a0 = some (⟨w.heap.size, 0, none⟩ : Addr) := ⟨_, rfl⟩
      obtain ⟨v1, hv1, hcut1⟩ : ∃ v1, Hid (v1 = .slice (if N = dn.length then some ⟨w.heap.size, 0, none⟩ else some ⟨w.heap.size, dn.length * 5, none⟩) (N - dn.length) (N - dn.length)) ∧ ∀ w0 : World, (Instr.slice 35 (.slice a0 N N) (some (.int .i64 (dn.length : Int))) none none).run Tryz.prog w0 = .ok v1 w0 :=
        ⟨_, Lib.hid rfl, by rw [ha0]; exact run_cutL wgtE w.heap.size N N dn.length (by have := HL.out; omega)⟩
      obtain ⟨v2, hv2, hcut2⟩ : ∃ v1, Hid (v1 = .slice (if N = dn.length + ra.length then some ⟨w.heap.size, 0, none⟩ else some ⟨w.heap.size, (dn.length + ra.length) * 5, none⟩) (N - (dn.length + ra.length)) (N - (dn.length + ra.length))) ∧ ∀ w0 : World, (Instr.slice 35 (.slice a0 N N) (some (.int .i64 ((dn.length : Int) + (ra.length : Int)))) none none).run Tryz.prog w0 = .ok v1 w0 :=
        ⟨_, Lib.hid rfl, by rw [ha0, show (dn.length : Int) + (ra.length : Int) = ((dn.length + ra.length : Nat) : Int) by omega]; exact run_cutL wgtE w.heap.size N N (dn.length + ra.length) (by have := HL.out; omega)⟩
      have hnb1 := HL.out
      have hnb2 := HNb.out
      rw [← ha0]
      have HA0 := Lib.hid ha0
      clear ha0
      rcases hq with hq | ⟨hq, hq'⟩
      all_goals
        go_wp2_with (refine wp_copyD wgtE rfl _ _ rfl HO1.out HLEN.out.symm (n := dn.length) (by have h1 := HL.out; have h2 := HLEN.out; omega) (HA.out.below HB1.out) hv1.out rfl rfl ?_)
        intro w2 ho2 hb2 hk2
        have e2 : dn.length + ra.length ≤ (dn ++ rest).length := by have h1 := HL.out; have h2 := HLEN.out; omega
        obtain ⟨us2, hlen2, htk2, ho2⟩ : ∃ us2 : List Ent, us2.length = N ∧ Hid (us2.take (dn.length + ra.length) = dn ++ ra) ∧ Hid (OwnW w.heap.size w2 (.slice (some ⟨w.heap.size, 0, none⟩) N N) us2) :=
          ⟨dn ++ (ra ++ rest.drop ra.length), (by
            have h1 := HL.out
            have h2 := HLEN.out
            rw [List.length_append] at h2
            rw [List.length_append, List.length_append, List.length_drop]
            omega), Lib.hid (by rw [← List.append_assoc, List.take_left' (by simp)]), Lib.hid (by simpa using ho2)⟩
        have HL3 := Lib.hid hlen2
        have HB3 := Lib.hid (HB1.out.trans hb2)
        clear hb2 hk2 e2 hlen2
        go_wp2_with (refine wp_copyD wgtE rfl _ _ rfl ho2.out HL3.out.symm (n := dn.length + ra.length) (by have h1 := HL.out; have h2 := HL3.out; omega) (HB.out.below HB3.out) hv2.out rfl rfl ?_)
        intro w3 ho3 hb3 hk3
        obtain ⟨us3, htk3, ho3⟩ : ∃ us3 : List Ent, Hid (us3.take (dn.length + ra.length + rb.length) = dn ++ (ra ++ rb) ∧ us3.length = N) ∧ Hid (OwnW w.heap.size w3 (.slice (some ⟨w.heap.size, 0, none⟩) N N) us3) :=
          ⟨_, Lib.hid ⟨by rw [htk2.out, ← List.append_assoc, List.append_assoc dn ra rb, List.take_left' (by simp; omega)], by have h1 := HL.out; have h2 := HL3.out; simp; omega⟩, Lib.hid ho3⟩
        have HB4 := Lib.hid (HB3.out.trans hb3)
        obtain ⟨v3, hcut3, hrd3⟩ := ho3.out.rd.cut0 wgtE (dn.length + ra.length + rb.length) (by rw [htk3.out.2]; have := HL.out; omega)
        rw [htk3.out.1] at hrd3
        rw [← HA0.out] at hcut3
        have hcut4 : ∀ w0 : World, (Instr.slice 35 (.slice a0 N N) none (some (.int .i64 ((dn.length : Int) + (ra.length : Int) + (rb.length : Int)))) none).run Tryz.prog w0 = .ok v3 w0 := by
          rw [show (dn.length : Int) + (ra.length : Int) + (rb.length : Int) = ((dn.length + ra.length + rb.length : Nat) : Int) by omega]
          exact hcut3
        have HRD := Lib.hid (show ∀ w'', Fr w.heap.size w3 w'' → RdW w'' v3 (dn ++ (ra ++ rb)) from fun w'' hf => by
          obtain ⟨v4, hc4, hr4⟩ := (ho3.out.fr hf).rd.cut0 wgtE (dn.length + ra.length + rb.length) (by rw [htk3.out.2]; have := HL.out; omega)
          rw [htk3.out.1] at hr4
          rw [← HA0.out] at hc4
          have := (hc4 w).symm.trans (hcut3 w)
          cases this
          exact hr4)
        clear hb3 hk3 hcut3 hrd3
        go_wp2
        go_ret
        exact ⟨_, rfl, by rw [HM2.out]; exact HRD.out, HB4.out⟩

end Go.Proofs.YtkaafbdhgekeeaaGreat
