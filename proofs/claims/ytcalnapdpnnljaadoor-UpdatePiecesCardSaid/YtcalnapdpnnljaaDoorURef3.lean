/-
  The encoding of an update (P11.4), and the calls of the reference's AppendInt and AppendUpdate. Conditions: the bytes and effects read; the update is valid, its numbers are of 64 bits.
-/
import Derived.Test.YtcalnapdpnnljaaDoorUMath
namespace Go.Proofs.YtcalnapdpnnljaaDoor
open Go.RowKit
open UM (Ef)
open WM (enc zig)

namespace UM
def encS (s : ByteArray) : List Int := enc s.size ++ nums s
def encE : Ef → List Int
  | (k, o, f, n, s) => JM.encN [k] ++ (encS o ++ encS f) ++ (enc (zig n) ++ encS s)
def encEs (es : List Ef) : List Int := es.flatMap encE
def encU (c q t : Int) (es : List Ef) : List Int := JM.encN [c, q, t, (es.length : Int)] ++ encEs es
/-- The effect's number is one of 64 bits. -/
def in64 (e : Ef) : Prop := -9223372036854775808 ≤ e.2.2.2.1 ∧ e.2.2.2.1 ≤ 9223372036854775807
theorem errE_ok {k : Int} {o f : ByteArray} {n : Int} {s : ByteArray} (h : errE (k, o, f, n, s) = 0) : 1 ≤ k ∧ k ≤ 5 ∧ o.size ≤ 16 ∧ f.size ≤ 16 ∧ s.size ≤ 32 := by
  unfold errE at h
  dsimp only at h
  split at h
  · omega
  split at h
  · omega
  split at h
  · omega
  · omega
theorem errL_ok : ∀ {es : List Ef}, errL es = 0 → ∀ e ∈ es, errE e = 0
  | [], _ => by simp
  | e :: r, h => by
    unfold errL at h
    split at h
    · exact absurd h (by assumption)
    · rename_i h1
      have h2 : errE e = 0 := by omega
      intro x hx
      rcases List.mem_cons.1 hx with rfl | hx
      · exact h2
      · exact errL_ok h x hx
theorem errU_ok {c q t : Int} {es : List Ef} (h : errU c q t es = 0) : isCl c = true ∧ 1 ≤ q ∧ q ≤ 8 ∧ 0 ≤ t ∧ t ≤ 1000 ∧ 1 ≤ es.length ∧ es.length ≤ 4 ∧ ∀ e ∈ es, errE e = 0 := by
  unfold errU at h
  split at h
  · omega
  rename_i h1
  split at h
  · omega
  rename_i h2
  split at h
  · omega
  rename_i h3
  split at h
  · rename_i h4
    exact absurd h h4
  rename_i h4
  have hl : 1 ≤ es.length := by cases es with | nil => exact absurd rfl h2 | cons _ _ => simp
  refine ⟨by cases hc : isCl c with | true => rfl | false => exact absurd (Or.inl hc) h1, ?_, ?_, ?_, ?_, hl, by omega, errL_ok (by omega)⟩ <;> omega
theorem isCl_ok {c : Int} (h : isCl c = true) : 101 ≤ c ∧ c ≤ 106 := of_decide_eq_true h
theorem encS_len (s : ByteArray) (h : s.size ≤ 1000000) : (encS s).length ≤ 10 + s.size := by
  unfold encS
  rw [List.length_append, nums_length]
  have := WM.enc_len10 s.size (by omega)
  omega
theorem encE_len {k : Int} {o f : ByteArray} {n : Int} {s : ByteArray} (h : errE (k, o, f, n, s) = 0) (hr : in64 (k, o, f, n, s)) : (encE (k, o, f, n, s)).length ≤ 200 := by
  obtain ⟨h1, h2, h3, h4, h5⟩ := errE_ok h
  have a1 := JM.encN_len [k] (by intro x hx; rw [List.mem_singleton] at hx; subst hx; unfold JM.small; omega)
  have a2 := encS_len o (by omega)
  have a3 := encS_len f (by omega)
  have a4 := encS_len s (by omega)
  have a5 := WM.enc_len10 (zig n) (WM.zig_lt n hr.1 hr.2)
  simp only [List.length_cons, List.length_nil] at a1
  unfold encE
  simp only [List.length_append]
  omega
theorem encEs_snoc {l : List Ef} {k : Nat} {x : Ef} (h : l[k]? = some x) : encEs (l.take (k + 1)) = encEs (l.take k) ++ encE x := by
  have hlt : k < l.length := (List.getElem?_eq_some_iff.1 h).1
  have hx : l[k] = x := (List.getElem?_eq_some_iff.1 h).2
  rw [← List.take_append_getElem hlt, hx]
  unfold encEs
  rw [List.flatMap_append]
  simp
theorem encEs_len (l : List Ef) (h : ∀ e ∈ l, errE e = 0) (hr : ∀ e ∈ l, in64 e) : (encEs l).length ≤ 200 * l.length := by
  induction l with
  | nil => simp [encEs]
  | cons x r ih =>
    obtain ⟨k, o, f, n, s⟩ := x
    have h1 := encE_len (h _ (List.mem_cons_self ..)) (hr _ (List.mem_cons_self ..))
    have h2 := ih (fun e he => h e (List.mem_cons_of_mem _ he)) (fun e he => hr e (List.mem_cons_of_mem _ he))
    have h3 : encEs ((k, o, f, n, s) :: r) = encE (k, o, f, n, s) ++ encEs r := by simp [encEs]
    rw [h3, List.length_append, List.length_cons]
    omega
end UM

set_option maxRecDepth 100000 in
set_option maxHeartbeats 1000000 in
theorem rAppendInt (v : Value) (xs : List Int) (z : Int) (w : World) (h : Rd w v xs) (hlen : xs.length ≤ 1099511627776) (hz : -9223372036854775808 ≤ z) (hz2 : z ≤ 9223372036854775807) :
    Calls Tryd.prog 47 #[v, .int .i64 z] w fun e w' => ∃ v', e = .returned v' ∧ Own w.heap.size w' v' (xs ++ enc (zig z)) ∧ Below w.heap.size w w' := by
  have HC := Lib.hid (rAppendUint v xs (zig z) w h hlen (WM.zig_lt z hz hz2))
  have HZ := Lib.hid (rZigzag z w hz hz2)
  clear h hlen
  go_enter Tryd.func47, Tryd.ntmps47
  go_wp2_with fail
  refine HZ.out.mono ?_
  rintro e w1 ⟨rfl, rfl⟩
  go_wp2_with fail
  refine HC.out.mono ?_
  rintro e w1 ⟨v1, rfl, hown, hb⟩
  go_wp2
  go_ret
  exact ⟨v1, rfl, hown, hb⟩

set_option maxRecDepth 100000 in
set_option maxHeartbeats 4000000 in
theorem rAppendU (v : Value) (bs : List Int) (c q t : Int) (u : Value) (es : List Ef) (w : World) (h : Rd w v bs) (hu : RdEf w u es) (he : UM.errU c q t es = 0) (hr : ∀ e ∈ es, UM.in64 e) (hlen : bs.length ≤ 1073741824) :
    Calls Tryd.prog 26 #[v, uv c q t u] w fun e w' => ∃ v', e = .returned v' ∧ Rd w' v' (bs ++ UM.encU c q t es) ∧ Below w.heap.size w w' := by
  obtain ⟨ad, cp, rfl, hc, hl⟩ := hu.shape
  obtain ⟨e1, e2, e3, e4, e5, e6, e7, e8⟩ := UM.errU_ok he
  have e1' := UM.isCl_ok e1
  have hsm : ∀ x ∈ [c, q, t, (es.length : Int)], JM.small x := by
    intro x hx
    simp only [List.mem_cons, List.not_mem_nil, or_false] at hx
    unfold JM.small
    rcases hx with rfl | rfl | rfl | rfl <;> omega
  have hb0 := below_fresh w (.cells #[.int .i64 c, .int .i64 q, .int .i64 t, .slice ad es.length cp] 30)
  have hx0 := heap_alloc_new w (.cells #[.int .i64 c, .int .i64 q, .int .i64 t, .slice ad es.length cp] 30)
  have HC0 := Lib.hid (hu.below hb0)
  have HB0 := Lib.hid hb0
  have hsz := World.size_alloc w (.cells #[.int .i64 c, .int .i64 q, .int .i64 t, .slice ad es.length cp] 30)
  have hv0 := h.below hb0
  generalize hw0 : w.alloc (.cells #[.int .i64 c, .int .i64 q, .int .i64 t, .slice ad es.length cp] 30) = w0 at hx0 HC0 HB0 hsz hv0
  have HW0 := Lib.hid hw0
  have HX0 := Lib.hid hx0
  have hf := below_fresh w0 (.cells #[.int .i64 c, .int .i64 q, .int .i64 t, .int .i64 (es.length : Int)] 3)
  have hg : RdI (w0.alloc (.cells #[.int .i64 c, .int .i64 q, .int .i64 t, .int .i64 (es.length : Int)] 3)) (.slice (some ⟨w.heap.size + 1, 0, none⟩) 4 4) [c, q, t, (es.length : Int)] := by
    rw [← hsz]; exact (ownG_fresh hlI 3 w0 [c, q, t, (es.length : Int)] (by simp [maxLen])).rd
  have HN := Lib.hid (rNumbers v bs _ _ _ (hv0.below hf) hg (by simp) hsm (by omega))
  have hh := JM.encN_len _ hsm
  have hall : ∀ k, k ≤ es.length → (bs ++ JM.encN [c, q, t, (es.length : Int)] ++ UM.encEs (es.take k)).length ≤ 2147483648 := by
    intro k hk
    have h1 := UM.encEs_len (es.take k) (fun y hy => e8 y (List.mem_of_mem_take hy)) (fun y hy => hr y (List.mem_of_mem_take hy))
    rw [List.length_take] at h1
    rw [List.length_append, List.length_append]
    simp only [List.length_cons, List.length_nil] at hh
    omega
  have HALL := Lib.hid hall
  have HE8 := Lib.hid e8
  have HR := Lib.hid hr
  have HF := Lib.hid hf
  obtain ⟨p0, p1, p2, p3⟩ := ubox hx0
  clear h hu he hsm hb0 hw0 hx0 hlen hh hall hsz hv0 hf hg hr e1 e2 e3 e4 e5 e6 e1' e8
  go_enter Tryd.func26, Tryd.ntmps26
  go_wp2_with fail
  rw [HW0.out]
  refine HN.out.mono ?_
  rintro e w1 ⟨v1, rfl, ho1, hb1⟩
  have HO1 := Lib.hid ho1
  have HB1 := Lib.hid (bnext HF.out hb1)
  clear p0 p1 p2 p3 HN ho1 hb1 HF
  go_wp2
  go_loopw [0, 5] (fun u i wr => ∃ k : Nat, k ≤ es.length ∧ i = .int .i64 k ∧ Hid (Rd wr u (bs ++ JM.encN [c, q, t, (es.length : Int)] ++ UM.encEs (es.take k))) ∧ Hid (Below w0.heap.size w0 wr)) (fun _ i _ => es.length - (intOf i).toNat)
  case atStart => exact ⟨0, Nat.zero_le _, rfl, (by show Rd _ _ _; rw [List.take_zero, show UM.encEs [] = [] from rfl, List.append_nil]; exact HO1.out), HB1.out⟩
  case round =>
    obtain ⟨k, hk, rfl, ho, hbl⟩ := hrel
    obtain ⟨p0, p1, p2, p3⟩ := ubox (below_block HX0.out hbl.out)
    by_cases hlt : k < es.length
    · have hq : (k : Int) < (es.length : Int) := by omega
      have hat := List.getElem?_eq_getElem hlt
      have hok := HE8.out es[k] (List.getElem_mem hlt)
      have h64 := HR.out es[k] (List.getElem_mem hlt)
      generalize es[k] = y at hat hok h64
      obtain ⟨k', o', f', n', s'⟩ := y
      obtain ⟨b, o, hi, hbb, d0, d1, d2, d3, d4⟩ := atEf (HC0.out.below hbl.out) k _ _ _ _ _ hat
      have hsn := UM.encEs_snoc hat
      have hal := HALL.out k hk
      have HSN := Lib.hid hsn
      obtain ⟨g1, g2, g3, g4, g5⟩ := UM.errE_ok hok
      have hbn := below_fresh wr (.cells #[.int .i64 k', .string o', .string f', .int .i64 n', .string s'] 23)
      have hcb := heap_alloc_new wr (.cells #[.int .i64 k', .string o', .string f', .int .i64 n', .string s'] 23)
      have hsz := World.size_alloc wr (.cells #[.int .i64 k', .string o', .string f', .int .i64 n', .string s'] 23)
      generalize hwc : wr.alloc (.cells #[.int .i64 k', .string o', .string f', .int .i64 n', .string s'] 23) = wc at hbn hcb hsz
      have HWC := Lib.hid hwc
      have hf := below_fresh wc (.cells #[.int .i64 k'] 3)
      have hg : RdI (wc.alloc (.cells #[.int .i64 k'] 3)) (.slice (some ⟨wr.heap.size + 1, 0, none⟩) 1 1) [k'] := by
        rw [← hsz]; exact (ownG_fresh hlI 3 wc [k'] (by simp [maxLen])).rd
      have hk1 : ∀ x ∈ [k'], JM.small x := by intro x hx; rw [List.mem_singleton] at hx; subst hx; unfold JM.small; omega
      have HN := Lib.hid (rNumbers _ _ _ _ _ ((ho.out.below hbn).below hf) hg (by simp) hk1 (by omega))
      have hl1 := JM.encN_len [k'] hk1
      simp only [List.length_cons, List.length_nil] at hl1
      have hl2 := UM.encS_len o' (by omega)
      have hl3 := UM.encS_len f' (by omega)
      have hl4 := WM.enc_len10 (zig n') (WM.zig_lt n' h64.1 h64.2)
      obtain ⟨bs', hbs'⟩ : ∃ z, z = bs ++ JM.encN [c, q, t, (es.length : Int)] ++ UM.encEs (es.take k) := ⟨_, rfl⟩
      rw [← hbs'] at hal HN
      have HBC := Lib.hid (bnext (bnext hbl.out hbn) hf)
      have HXC := Lib.hid (below_block hcb hf)
      have HE4 := Lib.hid (show ∀ w' v', Rd w' v' (bs' ++ JM.encN [k'] ++ (UM.encS o' ++ UM.encS f') ++ (enc (zig n') ++ UM.encS s')) → Rd w' v' (bs ++ JM.encN [c, q, t, (es.length : Int)] ++ UM.encEs (es.take (k + 1))) by
        intro w' v' hh; rw [HSN.out]; show Rd w' v' (_ ++ (_ ++ (JM.encN [k'] ++ (UM.encS o' ++ UM.encS f') ++ (enc (zig n') ++ UM.encS s')))); rw [hbs'] at hh; simpa only [List.append_assoc] using hh)
      have HS1 := Lib.hid (fun w' v' (hh : Rd w' v' (bs' ++ JM.encN [k'])) => rAppendString v' _ o' w' hh (by rw [List.length_append]; omega) (by omega))
      have HS2 := Lib.hid (fun w' v' (hh : Rd w' v' (bs' ++ JM.encN [k'] ++ enc o'.size ++ nums o')) => rAppendString v' _ f' w' hh (by rw [List.append_assoc, List.length_append, List.length_append]; change _ + (UM.encS o').length ≤ _; omega) (by omega))
      have HS3 := Lib.hid (fun w' v' (hh : Rd w' v' (bs' ++ JM.encN [k'] ++ (UM.encS o' ++ UM.encS f'))) => rAppendInt v' _ n' w' hh (by simp only [List.length_append]; omega) h64.1 h64.2)
      have HS4 := Lib.hid (fun w' v' (hh : Rd w' v' (bs' ++ JM.encN [k'] ++ (UM.encS o' ++ UM.encS f') ++ enc (zig n'))) => rAppendString v' _ s' w' hh (by simp only [List.length_append]; omega) (by omega))
      obtain ⟨x0, x1, x2, x3, x4⟩ := ebox hcb
      clear hat hok h64 hsn hal hbn hsz hwc hbl hf hg hcb hk1 g1 g2 g3 g4 g5 hl1 hl2 hl3 hl4 hbs' ho HSN
      go_wp2_with fail
      rw [HWC.out]
      refine HN.out.mono ?_
      rintro e w4 ⟨v4, rfl, ho4, hb4⟩
      have HO4 := Lib.hid ho4
      have HX4 := Lib.hid (below_block HXC.out hb4)
      have HB4 := Lib.hid (bnext HBC.out hb4)
      clear x0 x1 x2 x3 x4 p0 p1 p2 p3 d0 d1 d2 d3 d4 hi hbb HWC ho4 hb4 HN HBC HXC
      go_wp2_with fail
      refine wp_region_held_drew (S := fun w' => Below w4.heap.size w4 w') (by kernel_rfl) ((Below.refl _ _).drew) (fun ha => ?_)
      replace ha : Below w4.heap.size w4 w4.drew := (Below.refl _ _).drew
      generalize w4.drew = wa at ha ⊢
      refine takeH (i := 0) (v := ?_) rfl (by kernel_rfl) (by kernel_rfl) (by kernel_rfl) (fun _ _ _ h => h) (Or.inl ⟨by rfl, ?_⟩) (by assumption) ?_
      rotate_left
      · (intro w hSw; (try dsimp only at hSw); go_simp; first | done | with_reducible rfl)
      (try simp only [Act.put, List.setIfInBounds_toArray, List.set_cons_zero, List.set_cons_succ])
      refine takeH (i := 1) (v := ?_) rfl (by kernel_rfl) (by kernel_rfl) (by kernel_rfl) (fun _ _ _ h => h) (Or.inl ⟨by rfl, ?_⟩) (by assumption) ?_
      rotate_left
      · (intro w hSw; (try dsimp only at hSw); go_simp; first | done | with_reducible rfl)
      (try simp only [Act.put, List.setIfInBounds_toArray, List.set_cons_zero, List.set_cons_succ])
      refine takeH (i := 2) (v := ?_) rfl (by kernel_rfl) (by kernel_rfl) (by kernel_rfl) (fun _ _ _ h => h) (Or.inl ⟨by rfl, ?_⟩) (by assumption) ?_
      rotate_left
      · (intro w hSw; (try dsimp only at hSw); obtain ⟨d0, d1, d2, d3, d4⟩ := ebox (below_block HX4.out hSw); go_simp; first | done | with_reducible rfl)
      (try simp only [Act.put, List.setIfInBounds_toArray, List.set_cons_zero, List.set_cons_succ])
      refine takeH (i := 4) (v := ?_) rfl (by kernel_rfl) (by kernel_rfl) (by kernel_rfl) (fun _ _ _ h => h) (Or.inl ⟨by rfl, ?_⟩) (by assumption) ?_
      rotate_left
      · (intro w hSw; (try dsimp only at hSw); go_simp; first | done | with_reducible rfl)
      (try simp only [Act.put, List.setIfInBounds_toArray, List.set_cons_zero, List.set_cons_succ])
      refine takeH (i := 5) (v := ?_) rfl (by kernel_rfl) (by kernel_rfl) (by kernel_rfl) (fun _ _ _ h => h) (Or.inl ⟨by rfl, ?_⟩) (by assumption) ?_
      rotate_left
      · (intro w hSw; (try dsimp only at hSw); obtain ⟨d0, d1, d2, d3, d4⟩ := ebox (below_block HX4.out hSw); go_simp; first | done | with_reducible rfl)
      (try simp only [Act.put, List.setIfInBounds_toArray, List.set_cons_zero, List.set_cons_succ])
      refine wpAnyH_ready (rs := [3]) (by kernel_rfl) (by simp) ?_
      refine stepH rfl (fun K hK => ?_) AllReadyH.nil
      go_simp
      refine (HS1.out wa _ (HO4.out.below ha)).mono ?_
      rintro e wb ⟨vb, rfl, hob, hq⟩
      have hb := bnext ha hq
      go_wp2_with fail
      refine hK.out _ _ (hb) (fun _ => ?_)
      clear hK K
      (try simp only [Act.put, List.setIfInBounds_toArray, List.set_cons_zero, List.set_cons_succ])
      refine wpAnyH_ready (rs := [6]) (by kernel_rfl) (by simp) ?_
      refine stepH rfl (fun K hK => ?_) AllReadyH.nil
      go_simp
      refine (HS2.out wb vb hob.rd).mono ?_
      rintro e wc2 ⟨vc, rfl, hoc, hq⟩
      have hc := bnext hb hq
      go_wp2_with fail
      refine hK.out _ _ (hc) (fun _ => ?_)
      clear hK K
      (try simp only [Act.put, List.setIfInBounds_toArray, List.set_cons_zero, List.set_cons_succ])
      refine takeH (i := 7) (v := ?_) rfl (by kernel_rfl) (by kernel_rfl) (by kernel_rfl) (fun _ _ _ h => h) (Or.inl ⟨by rfl, ?_⟩) (by assumption) ?_
      rotate_left
      · (intro w hSw; (try dsimp only at hSw); go_simp; first | done | with_reducible rfl)
      (try simp only [Act.put, List.setIfInBounds_toArray, List.set_cons_zero])
      refine wpAnyH_done (by kernel_rfl) ?_ _
      have HO5 := Lib.hid (show Rd wc2 vc (bs' ++ JM.encN [k'] ++ (UM.encS o' ++ UM.encS f')) by have hh := hoc.rd; unfold UM.encS; simpa only [List.append_assoc] using hh)
      have HX5 := Lib.hid (below_block HX4.out hc)
      have HB5 := Lib.hid (bnext HB4.out hc)
      clear ha hb hc hob hoc HX4 HB4 HO4 HS1 HS2
      go_wp2_with fail
      refine wp_region_held_drew (S := fun w' => Below wc2.heap.size wc2 w') (by kernel_rfl) ((Below.refl _ _).drew) (fun ha => ?_)
      replace ha : Below wc2.heap.size wc2 wc2.drew := (Below.refl _ _).drew
      generalize wc2.drew = wa at ha ⊢
      refine takeH (i := 0) (v := ?_) rfl (by kernel_rfl) (by kernel_rfl) (by kernel_rfl) (fun _ _ _ h => h) (Or.inl ⟨by rfl, ?_⟩) (by assumption) ?_
      rotate_left
      · (intro w hSw; (try dsimp only at hSw); go_simp; first | done | with_reducible rfl)
      (try simp only [Act.put, List.setIfInBounds_toArray, List.set_cons_zero, List.set_cons_succ])
      refine takeH (i := 1) (v := ?_) rfl (by kernel_rfl) (by kernel_rfl) (by kernel_rfl) (fun _ _ _ h => h) (Or.inl ⟨by rfl, ?_⟩) (by assumption) ?_
      rotate_left
      · (intro w hSw; (try dsimp only at hSw); go_simp; first | done | with_reducible rfl)
      (try simp only [Act.put, List.setIfInBounds_toArray, List.set_cons_zero, List.set_cons_succ])
      refine takeH (i := 2) (v := ?_) rfl (by kernel_rfl) (by kernel_rfl) (by kernel_rfl) (fun _ _ _ h => h) (Or.inl ⟨by rfl, ?_⟩) (by assumption) ?_
      rotate_left
      · (intro w hSw; (try dsimp only at hSw); obtain ⟨d0, d1, d2, d3, d4⟩ := ebox (below_block HX5.out hSw); go_simp; first | done | with_reducible rfl)
      (try simp only [Act.put, List.setIfInBounds_toArray, List.set_cons_zero, List.set_cons_succ])
      refine takeH (i := 4) (v := ?_) rfl (by kernel_rfl) (by kernel_rfl) (by kernel_rfl) (fun _ _ _ h => h) (Or.inl ⟨by rfl, ?_⟩) (by assumption) ?_
      rotate_left
      · (intro w hSw; (try dsimp only at hSw); go_simp; first | done | with_reducible rfl)
      (try simp only [Act.put, List.setIfInBounds_toArray, List.set_cons_zero, List.set_cons_succ])
      refine takeH (i := 5) (v := ?_) rfl (by kernel_rfl) (by kernel_rfl) (by kernel_rfl) (fun _ _ _ h => h) (Or.inl ⟨by rfl, ?_⟩) (by assumption) ?_
      rotate_left
      · (intro w hSw; (try dsimp only at hSw); obtain ⟨d0, d1, d2, d3, d4⟩ := ebox (below_block HX5.out hSw); go_simp; first | done | with_reducible rfl)
      (try simp only [Act.put, List.setIfInBounds_toArray, List.set_cons_zero, List.set_cons_succ])
      refine wpAnyH_ready (rs := [3]) (by kernel_rfl) (by simp) ?_
      refine stepH rfl (fun K hK => ?_) AllReadyH.nil
      go_simp
      refine (HS3.out wa _ (HO5.out.below ha)).mono ?_
      rintro e wb ⟨vb, rfl, hob, hq⟩
      have hb := bnext ha hq
      go_wp2_with fail
      refine hK.out _ _ (hb) (fun _ => ?_)
      clear hK K
      (try simp only [Act.put, List.setIfInBounds_toArray, List.set_cons_zero, List.set_cons_succ])
      refine wpAnyH_ready (rs := [6]) (by kernel_rfl) (by simp) ?_
      refine stepH rfl (fun K hK => ?_) AllReadyH.nil
      go_simp
      refine (HS4.out wb vb hob.rd).mono ?_
      rintro e wd ⟨vd, rfl, hod, hq⟩
      have hc := bnext hb hq
      go_wp2_with fail
      refine hK.out _ _ (hc) (fun _ => ?_)
      clear hK K
      (try simp only [Act.put, List.setIfInBounds_toArray, List.set_cons_zero, List.set_cons_succ])
      refine takeH (i := 7) (v := ?_) rfl (by kernel_rfl) (by kernel_rfl) (by kernel_rfl) (fun _ _ _ h => h) (Or.inl ⟨by rfl, ?_⟩) (by assumption) ?_
      rotate_left
      · (intro w hSw; (try dsimp only at hSw); go_simp; first | done | with_reducible rfl)
      (try simp only [Act.put, List.setIfInBounds_toArray, List.set_cons_zero])
      refine wpAnyH_done (by kernel_rfl) ?_ _
      have HO6 := Lib.hid (HE4.out wd vd (by have hh := hod.rd; unfold UM.encS at hh ⊢; simpa only [List.append_assoc] using hh))
      have HB6 := Lib.hid (bnext HB5.out hc)
      clear ha hb hc hob hod HX5 HB5 HO5 HS3 HS4 HE4
      go_wp2
      go_roundw
      case rel => exact ⟨k + 1, by omega, by go_num, HO6, HB6⟩
      case measure => simp [intOf]; omega
    · have hq : ¬ ((k : Int) < (es.length : Int)) := by omega
      obtain rfl : k = es.length := by omega
      rw [List.take_length, List.append_assoc] at ho
      go_wp2
      go_ret
      exact ⟨_, rfl, ho.out, bnext HB0.out hbl.out⟩

end Go.Proofs.YtcalnapdpnnljaaDoor
