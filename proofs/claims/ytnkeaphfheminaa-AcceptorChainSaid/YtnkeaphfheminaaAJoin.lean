/-
  The calls of slices.Concat of one vector, of acceptor's own join: the join of all, in memory of the call's own. Conditions: what comes in reads; valid vectors, of 1,000,000 entries in all.
-/
import Derived.Laws.Rows
import Derived.Test.YtnkeaphfheminaaALaw4
import Derived.Test.YtnkeaphfheminaaAMake
import Derived.Test.YtnkeaphfheminaaAC
import Derived.Test.YtnkeaphfheminaaReg
namespace Go.Proofs.Ytnkeaphfheminaa
open Go.RowKit
open VM (Ent)

/-- The join of all. -/
def VM.jns : List (List Ent) → List Ent
  | [] => []
  | x :: xs => VM.acF x xs
/-- How many entries they have in all. -/
def VM.sumL : List (List Ent) → Nat
  | [] => 0
  | x :: xs => x.length + VM.sumL xs
namespace VM
theorem sumL_append (k l : List (List Ent)) : sumL (k ++ l) = sumL k + sumL l := by
  induction k with
  | nil => simp [sumL]
  | cons x k ih => show x.length + sumL (k ++ l) = _; rw [ih]; simp only [sumL]; omega
theorem sumL_le {m : Nat} {l : List (List Ent)} (h : ∀ x ∈ l, x.length ≤ m) : sumL l ≤ m * l.length := by
  induction l with
  | nil => simp [sumL]
  | cons x l ih =>
    have h1 := ih fun y hy => h y (by simp [hy])
    have h2 := h x (by simp)
    rw [List.length_cons, Nat.mul_add, Nat.mul_one]
    simp only [sumL]
    omega
theorem acF_sum {l : List (List Ent)} : ∀ a, (acF a l).length ≤ a.length + sumL l := by
  induction l with
  | nil => intro a; simp [acF, sumL]
  | cons y l ih =>
    intro a
    have h1 := ih (jn a y)
    have h2 := jn_length a y
    show (acF (jn a y) l).length ≤ a.length + (y.length + sumL l)
    omega
theorem jns_len (l : List (List Ent)) : (jns l).length ≤ sumL l := by
  cases l with
  | nil => simp [jns, sumL]
  | cons x l => exact acF_sum x
theorem jns_val {l : List (List Ent)} (h : ∀ x ∈ l, Val 0 x) : Val 0 (jns l) := by
  cases l with
  | nil => exact trivial
  | cons x l => exact acF_val (h x (by simp)) fun y hy => h y (by simp [hy])
theorem acF_cons {l : List (List Ent)} : ∀ {a x : List Ent}, Val 0 a → Val 0 x → (∀ y ∈ l, Val 0 y) → acF a (x :: l) = jn a (acF x l) := by
  induction l with
  | nil => intro a x _ _ _; rfl
  | cons y l ih =>
    intro a x ha hx hl
    have hy := hl y (by simp)
    have hl' : ∀ z ∈ l, Val 0 z := fun z hz => hl z (by simp [hz])
    rw [show acF a (x :: y :: l) = acF (jn a x) (y :: l) from rfl, ih (jn_spec ha hx).1 hy hl', ih hx hy hl', jn_assoc ha hx (acF_val hy hl')]
theorem acF_append (k l : List (List Ent)) : ∀ a, acF a (k ++ l) = acF (acF a k) l := by
  induction k with
  | nil => intro a; rfl
  | cons x k ih => intro a; exact ih (jn a x)
theorem jns_append {k l : List (List Ent)} (hk : k ≠ []) (hl : l ≠ []) (h : ∀ x ∈ k ++ l, Val 0 x) : jns (k ++ l) = jn (jns k) (jns l) := by
  obtain ⟨a, k, rfl⟩ := List.exists_cons_of_ne_nil hk
  obtain ⟨b, l, rfl⟩ := List.exists_cons_of_ne_nil hl
  show acF a (k ++ b :: l) = jn (acF a k) (acF b l)
  rw [acF_append, acF_cons (acF_val (h a (by simp)) fun x hx => h x (by simp [hx])) (h b (by simp)) fun x hx => h x (by simp [hx])]
/-- A smaller vector has no more entries. -/
theorem len_cnt {b : List Ent} : ∀ {p q : Int} {a : List Ent}, Val p a → Val q b → (∀ c, 0 < cnt a c → 0 < cnt b c) → a.length ≤ b.length := by
  induction b with
  | nil =>
    intro p q a ha _ h
    cases a with
    | nil => simp
    | cons e a =>
      have h1 := h e.1 (by rw [cnt_cons, if_pos rfl]; have := ha.2.1; omega)
      simp [cnt] at h1
  | cons f b ih =>
    intro p q a ha hb h
    cases a with
    | nil => simp
    | cons e a =>
      have hf := hb.2.2.2
      have he := ha.2.2.2
      have h0 := h e.1 (by rw [cnt_cons, if_pos rfl]; have := ha.2.1; omega)
      rw [cnt_cons] at h0
      by_cases hq : f.1 = e.1
      · have := ih (p := e.1) (q := f.1) he hf fun c hc => by
          have hne : ¬ c ≤ e.1 := fun hle => by rw [cnt_low he hle] at hc; omega
          have h2 := h c (by rw [cnt_cons, if_neg (by omega)]; exact hc)
          rw [cnt_cons, if_neg (by omega)] at h2
          exact h2
        simp only [List.length_cons]
        omega
      · rw [if_neg hq] at h0
        have hlt : f.1 < e.1 := by
          by_cases hle : e.1 ≤ f.1
          · rw [cnt_low hf hle] at h0; omega
          · omega
        have := ih (p := p) (q := f.1) (a := e :: a) ha hf fun c hc => by
          have hne : ¬ c = f.1 := fun hcf => by
            have hce : ¬ e.1 = c := by omega
            rw [cnt_cons, if_neg hce, cnt_low he (by omega)] at hc
            omega
          have h2 := h c hc
          rw [cnt_cons, if_neg (by omega)] at h2
          exact h2
        simp only [List.length_cons] at this ⊢
        omega
theorem le_len {a b : List Ent} (ha : Val 0 a) (hb : Val 0 b) (h : le a b = true) : a.length ≤ b.length :=
  len_cnt ha hb fun c hc => by have := (le_iff ha hb).1 h c; omega
end VM

theorem RdVs.cut0 {w : World} {a : Option Addr} {n c : Nat} {ls : List (List Ent)} (h : RdVs w (.slice a n c) ls) (hi : Nat) (h2 : hi ≤ ls.length) :
    ∃ v', (∀ w0 : World, (Instr.slice 27 (.slice a n c) none (some (.int .i64 (hi : Int))) none).run Try.prog w0 = .ok v' w0) ∧ RdVs w v' (ls.take hi) := by
  obtain ⟨ps, h3, h4, rfl⟩ := h
  obtain ⟨v', h5, h6⟩ := h3.cut0 vecE hi (by simpa using h2)
  exact ⟨v', h5, ps.take hi, h6, fun p hp => h4 p (List.mem_of_mem_take hp), List.map_take⟩
theorem RdVs.cutL {w : World} {a : Option Addr} {n c : Nat} {ls : List (List Ent)} (h : RdVs w (.slice a n c) ls) (lo : Nat) (h2 : lo ≤ ls.length) :
    ∃ v', (∀ w0 : World, (Instr.slice 27 (.slice a n c) (some (.int .i64 (lo : Int))) none none).run Try.prog w0 = .ok v' w0) ∧ RdVs w v' (ls.drop lo) := by
  obtain ⟨ps, h3, h4, rfl⟩ := h
  obtain ⟨v', h5, h6⟩ := h3.cutL vecE lo (by simpa using h2)
  exact ⟨v', h5, ps.drop lo, h6, fun p hp => h4 p (List.mem_of_mem_drop hp), List.map_drop⟩

set_option maxRecDepth 100000 in
set_option maxHeartbeats 2000000 in
/-- slices.Concat of one vector: a copy. -/
theorem aConcat (v : Value) (xs : List Ent) (w : World) (h : RdVs w v [xs]) (hl : xs.length ≤ 1000000) :
    Calls Try.prog 23 #[v] w fun e w' => ∃ v', e = .returned v' ∧ VX.OwnV w.heap.size w' v' xs ∧ Below w.heap.size w w' := by
  have hgrow := VX.wGrow xs.length w (by omega)
  obtain ⟨la, lc, rfl, _, _⟩ := h.shape
  obtain ⟨b, o, xa, xc, hi, _, c0, hx⟩ := h.at_ 0 xs rfl
  have hi0 : ∀ w0, (Instr.indexAt 27 (.slice la 1 lc) (.int .i64 0)).run Try.prog w0 = .ok (.pointer (some ⟨b, o, none⟩)) w0 := hi
  have HT := Lib.hid hx
  clear h hx hi
  go_enter Try.func23, Try.ntmps23
  go_wp2
  refine wp_loop_rounds 2 ?_
  rw [rounds_succ]
  go_wp2
  rw [rounds_succ]
  go_wp2_with fail
  refine hgrow.mono ?_
  rintro e w1 ⟨v1, rfl, ho1, hb1⟩
  clear hgrow
  have d0 := below_cell hb1 c0
  have HT1 := HT.out.below hb1
  have hs1 := hb1.size
  go_wp2
  refine wp_loop_rounds 2 ?_
  rw [rounds_succ]
  go_wp2_with (at_builtin; refine VX.wp_appVS rfl _ _ rfl rfl ho1 rfl HT1 (by simp) (by omega) hs1 ?_)
  intro v2 w2 ho2 hb2
  have hb3 := hb1.trans hb2
  clear ho1 HT1 hb1 hb2 d0 c0 hs1
  go_wp2
  rw [rounds_succ]
  go_wp2
  go_ret
  exact ⟨_, rfl, ho2, hb3⟩

set_option maxRecDepth 100000 in
set_option maxHeartbeats 4000000 in
/-- acceptor's join of all values, by halves. -/
theorem aJoin (m : Nat) : ∀ (v : Value) (ls : List (List Ent)) (w : World), RdVs w v ls → ls ≠ [] → ls.length ≤ m → (∀ x ∈ ls, VM.Val 0 x) → ls.length ≤ 100000 → VM.sumL ls ≤ 1000000 →
    Calls Try.prog 19 #[v] w fun e w' => ∃ v', e = .returned v' ∧ VX.OwnV w.heap.size w' v' (VM.jns ls) ∧ Below w.heap.size w w' := by
  induction m with
  | zero => intro v ls w _ h1 h2; exact absurd (List.eq_nil_of_length_eq_zero (by omega)) h1
  | succ m ih =>
    intro v ls w h hne hm hv hl hs
    by_cases h2 : ls.length < 2
    · obtain ⟨x, rfl⟩ : ∃ x, ls = [x] := by
        match ls, hne, h2 with
        | [x], _, _ => exact ⟨x, rfl⟩
        | _ :: _ :: _, _, h2 => simp at h2; omega
      have H := Lib.hid (aConcat v x w h (by simp only [VM.sumL] at hs; omega))
      obtain ⟨la, lc, rfl, _, _⟩ := h.shape
      clear h hne hm hv hl hs h2
      go_enter Try.func19, Try.ntmps19
      go_wp2_with fail
      refine H.out.mono ?_
      rintro e w1 ⟨v1, rfl, ho1, hb1⟩
      go_wp2
      go_ret
      exact ⟨_, rfl, ho1, hb1⟩
    · obtain ⟨K, hK⟩ : ∃ K, K = ls.length / 2 := ⟨_, rfl⟩
      obtain ⟨la, lc, rfl, _, _⟩ := h.shape
      obtain ⟨v1, hc1, hr1⟩ := h.cut0 K (by omega)
      obtain ⟨v2, hc2, hr2⟩ := h.cutL K (by omega)
      have hd : ls = ls.take K ++ ls.drop K := (List.take_append_drop K ls).symm
      have hl1 : (ls.take K).length = K := by rw [List.length_take]; omega
      have hl2 : (ls.drop K).length = ls.length - K := List.length_drop
      have hn1 : ls.take K ≠ [] := fun h0 => by rw [h0] at hl1; simp at hl1; omega
      have hn2 : ls.drop K ≠ [] := fun h0 => by rw [h0] at hl2; simp at hl2; omega
      have hv1 : ∀ x ∈ ls.take K, VM.Val 0 x := fun x hx => hv x (List.mem_of_mem_take hx)
      have hv2 : ∀ x ∈ ls.drop K, VM.Val 0 x := fun x hx => hv x (List.mem_of_mem_drop hx)
      have hj := VM.jns_append hn1 hn2 (by rw [← hd]; exact hv)
      rw [← hd] at hj
      have hsum : VM.sumL ls = VM.sumL (ls.take K) + VM.sumL (ls.drop K) := by rw [← VM.sumL_append, ← hd]
      have HJ := Lib.hid hj
      have HLN := Lib.hid (show (VM.jns (ls.take K)).length + (VM.jns (ls.drop K)).length ≤ 1000000 by have := VM.jns_len (ls.take K); have := VM.jns_len (ls.drop K); omega)
      have H1 := Lib.hid (fun w' (hb : Below w.heap.size w w') => ih v1 _ w' (hr1.below hb) hn1 (by omega) hv1 (by omega) (by omega))
      have H2 := Lib.hid (fun w' (hb : Below w.heap.size w w') => ih v2 _ w' (hr2.below hb) hn2 (by omega) hv2 (by omega) (by omega))
      have hq : ¬ ((ls.length : Int) < 2) := by omega
      have hk2 : ((ls.length : Int) / 2) = (K : Int) := by omega
      have hk3 : ((ls.length : Int).tdiv 2) = (K : Int) := by rw [Int.tdiv_eq_ediv_of_nonneg (by omega)]; exact hk2
      generalize VM.jns (ls.take K) = A at HJ HLN H1
      generalize VM.jns (ls.drop K) = B at HJ HLN H2
      generalize VM.jns ls = J at HJ ⊢
      generalize ls.length = L at *
      clear hr1 hr2 hd hl1 hl2 hn1 hn2 hv1 hv2 hj hsum ih h hne hm hv hs hK h2
      go_enter Try.func19, Try.ntmps19
      go_upto_region 4 with fail
      refine wp_region_held_drew (S := fun w' => Below w.heap.size w w') (by kernel_rfl) ((Below.refl _ _).drew) (fun ha => ?_)
      replace ha : Below w.heap.size w w.drew := (Below.refl _ _).drew
      generalize w.drew = wa at ha ⊢
      refine takeH (i := 0) (v := ?_) rfl (by kernel_rfl) (by kernel_rfl) (by kernel_rfl) (fun _ _ _ h => h) (Or.inl ⟨by rfl, ?_⟩) (by assumption) ?_
      rotate_left
      · (intro w hSw; (try dsimp only at hSw); go_simp; first | done | with_reducible rfl)
      (try simp only [Act.put, List.setIfInBounds_toArray, List.set_cons_zero, List.set_cons_succ])
      refine takeH (i := 1) (v := ?_) rfl (by kernel_rfl) (by kernel_rfl) (by kernel_rfl) (fun _ _ _ h => h) (Or.inl ⟨by rfl, ?_⟩) (by assumption) ?_
      rotate_left
      · (intro w hSw; (try dsimp only at hSw); go_simp; first | done | with_reducible rfl)
      (try simp only [Act.put, List.setIfInBounds_toArray, List.set_cons_zero, List.set_cons_succ])
      refine takeH (i := 4) (v := ?_) rfl (by kernel_rfl) (by kernel_rfl) (by kernel_rfl) (fun _ _ _ h => h) (Or.inl ⟨by rfl, ?_⟩) (by assumption) ?_
      rotate_left
      · (intro w hSw; (try dsimp only at hSw); go_simp; first | done | with_reducible rfl)
      (try simp only [Act.put, List.setIfInBounds_toArray, List.set_cons_zero, List.set_cons_succ])
      refine takeH (i := 5) (v := ?_) rfl (by kernel_rfl) (by kernel_rfl) (by kernel_rfl) (fun _ _ _ h => h) (Or.inl ⟨by rfl, ?_⟩) (by assumption) ?_
      rotate_left
      · (intro w hSw; (try dsimp only at hSw); go_simp; first | done | with_reducible rfl)
      (try simp only [Act.put, List.setIfInBounds_toArray, List.set_cons_zero, List.set_cons_succ])
      refine takeH (i := 2) (v := ?_) rfl (by kernel_rfl) (by kernel_rfl) (by kernel_rfl) (fun _ _ _ h => h) (Or.inl ⟨by rfl, ?_⟩) (by assumption) ?_
      rotate_left
      · (intro w hSw; (try dsimp only at hSw); go_simp; first | done | with_reducible rfl)
      (try simp only [Act.put, List.setIfInBounds_toArray, List.set_cons_zero, List.set_cons_succ])
      refine takeH (i := 6) (v := ?_) rfl (by kernel_rfl) (by kernel_rfl) (by kernel_rfl) (fun _ _ _ h => h) (Or.inl ⟨by rfl, ?_⟩) (by assumption) ?_
      rotate_left
      · (intro w hSw; (try dsimp only at hSw); go_simp; first | done | with_reducible rfl)
      (try simp only [Act.put, List.setIfInBounds_toArray, List.set_cons_zero, List.set_cons_succ])
      refine wpAnyH_ready (rs := [3]) (by kernel_rfl) (by simp) ?_
      refine stepH rfl (fun K hK => ?_) AllReadyH.nil
      go_simp
      refine (H1.out wa ha).mono ?_
      rintro e wb ⟨u1, rfl, ho1, hq⟩
      have hb := bnext ha hq
      go_wp2_with fail
      refine hK.out _ _ (hb) (fun _ => ?_)
      clear hK K
      (try simp only [Act.put, List.setIfInBounds_toArray, List.set_cons_zero, List.set_cons_succ])
      refine wpAnyH_ready (rs := [7]) (by kernel_rfl) (by simp) ?_
      refine stepH rfl (fun K hK => ?_) AllReadyH.nil
      go_simp
      refine (H2.out wb hb).mono ?_
      rintro e wc ⟨u2, rfl, ho2, hq⟩
      have ho3 := ho1.below hq
      have hc := bnext hb hq
      go_wp2_with fail
      refine hK.out _ _ (hc) (fun _ => ?_)
      clear hK K
      (try simp only [Act.put, List.setIfInBounds_toArray, List.set_cons_zero, List.set_cons_succ])
      refine wpAnyH_ready (rs := [8]) (by kernel_rfl) (by simp) ?_
      refine stepH rfl (fun K hK => ?_) AllReadyH.nil
      go_simp
      refine (VX.wJoin u1 u2 A B wc ho3.rd ho2.rd HLN.out).mono ?_
      rintro e wd ⟨u3, rfl, ho4, hq⟩
      have ho5 := ho4.mono hc.size
      have hd := bnext hc hq
      go_wp2_with fail
      refine hK.out _ _ (hd) (fun _ => ?_)
      clear hK K
      (try simp only [Act.put, List.setIfInBounds_toArray, List.set_cons_zero, List.set_cons_succ])
      refine takeH (i := 9) (v := ?_) rfl (by kernel_rfl) (by kernel_rfl) (by kernel_rfl) (fun _ _ _ h => h) (Or.inl ⟨by rfl, ?_⟩) (by assumption) ?_
      rotate_left
      · (intro w hSw; (try dsimp only at hSw); go_simp; first | done | with_reducible rfl)
      (try simp only [Act.put, List.setIfInBounds_toArray, List.set_cons_zero, List.set_cons_succ])
      refine wpAnyH_done (by kernel_rfl) ?_ _
      go_wp2
      go_ret
      exact ⟨_, rfl, by rw [HJ.out]; exact ho5, hd⟩
end Go.Proofs.Ytnkeaphfheminaa
