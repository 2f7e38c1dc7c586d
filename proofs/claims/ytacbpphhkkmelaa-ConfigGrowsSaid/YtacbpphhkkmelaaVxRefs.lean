/-
  The calls of the reference's With, Join, Meet: each returns the call's own vector that the plain mathematics says. Conditions: the arguments read as vectors, valid and within the bounds where they are named.
-/
import Derived.StillTailTactics
import Derived.Test.YtacbpphhkkmelaaVxRead
namespace Go.Proofs.Ytacbpphhkkmelaa.VX
open Go.RowKit
open VM (Ent)

set_option maxRecDepth 100000 in
set_option maxHeartbeats 1000000 in
theorem rWithOut (v : Value) (a c : Int) (w : World) (h : ¬ (1 ≤ a ∧ 0 ≤ c ∧ c ≤ 1000000)) :
    Calls Try.prog 50 #[v, .int .i64 a, .int .i64 c] w fun e w' => e = .returned v ∧ w = w' := by
  by_cases h1 : a < 1
  · clear h
    go_enter Try.func50, Try.ntmps50
    go_wp2
    go_ret
    exact ⟨rfl, rfl⟩
  · by_cases h2 : c < 0
    · clear h
      go_enter Try.func50, Try.ntmps50
      go_wp2
      go_ret
      exact ⟨rfl, rfl⟩
    · have h3 : 1000000 < c := by omega
      clear h
      go_enter Try.func50, Try.ntmps50
      go_wp2
      go_ret
      exact ⟨rfl, rfl⟩

theorem wl_cons (p : Bool) (a c : Int) (e : Ent) (v : List Ent) :
    VM.wl p a c (e :: v) = (if !p && decide (a ≤ e.1) then [(a, c)] else []) ++ ((if e.1 = a then [] else [e]) ++ VM.wl (p || decide (a ≤ e.1)) a c v) := rfl

set_option maxRecDepth 100000 in
set_option maxHeartbeats 2000000 in
theorem rWithIn (v : Value) (xs : List Ent) (a c : Int) (p0 : Bool) (w : World) (h : RdV w v xs) (ha : 1 ≤ a) (hc0 : 0 ≤ c) (hc1 : c ≤ 1000000) (hp : (c == 0) = p0) (hlx : xs.length ≤ 1000) :
    Calls Try.prog 50 #[v, .int .i64 a, .int .i64 c] w fun e w' => ∃ v', e = .returned v' ∧ OwnV w.heap.size w' v' (VM.wl p0 a c xs) ∧ Below w.heap.size w w' := by
  obtain ⟨ad, cap, rfl, hc, hl⟩ := h.shape
  have H := Lib.hid h
  clear h
  obtain ⟨R, hR⟩ : ∃ R, R = VM.wl p0 a c xs := ⟨_, rfl⟩
  rw [← hR]
  have HR := Lib.hid hR
  have k1 : ¬ a < 1 := by omega
  have k2 : ¬ c < 0 := by omega
  have k3 : ¬ 1000000 < c := by omega
  clear hR
  go_enter Try.func50, Try.ntmps50
  go_wp2
  clear hp
  go_loopw [7, 8, 9] (fun z p i wr => ∃ (k : Nat) (os : List Ent) (pb : Bool), k ≤ xs.length ∧ i = .int .i64 k ∧ p = .bool pb ∧ OwnV w.heap.size wr z os ∧ os.length ≤ 2 * k ∧ Below w.heap.size w wr ∧ Hid (os ++ VM.wl pb a c (xs.drop k) = R)) (fun _ _ i _ => xs.length - (intOf i).toNat)
  case atStart => exact ⟨0, [], p0, Nat.zero_le _, rfl, rfl, OwnV.nil _ _, Nat.zero_le _, Below.refl _ _, (by show _ = _; rw [HR.out]; rfl)⟩
  case round =>
    obtain ⟨k, os, pb, hk, rfl, rfl, ho, hol, hbl, he⟩ := hrel
    have hsz := hbl.size
    by_cases hlt : k < xs.length
    · obtain ⟨b, o, hi, hb, c0, c1⟩ := H.out.at k xs[k] (List.getElem?_eq_getElem hlt)
      have hq : (k : Int) < (xs.length : Int) := by omega
      have hd := Lib.hid (drop_get hlt)
      clear HR
      generalize xs[k] = en at c0 c1 hd
      obtain ⟨x, n⟩ := en
      simp only at c0 c1
      have C0 := Lib.hid c0
      have C1 := Lib.hid c1
      have d0 := below_cell hbl c0
      have d1 := below_cell hbl c1
      clear c0 c1
      cases pb with
      | true =>
        by_cases hx : x = a
        · have e2 := Lib.hid (show os ++ VM.wl true a c (xs.drop (k + 1)) = R by rw [← he.out, hd.out, wl_cons, if_pos hx]; rfl)
          have hx' : (x != a) = false := by simpa using hx
          clear he hd hx
          go_wp2
          go_roundw
          case rel => exact ⟨k + 1, os, true, by omega, by go_num, rfl, ho, by omega, hbl, e2⟩
          case measure => simp [intOf]; omega
        · have e2 := Lib.hid (show (os ++ [(x, n)]) ++ VM.wl true a c (xs.drop (k + 1)) = R by rw [← he.out, hd.out, wl_cons, if_neg hx, List.append_assoc]; rfl)
          have hx' : (x != a) = true := by simpa using hx
          clear he hd hx
          go_wp2_with (at_builtin; refine wp_appV1 rfl _ _ rfl rfl ho rfl (by omega) hsz ?_)
          intro v5 w5 ho6 hb7 _
          have hb8 := hbl.trans hb7
          clear ho hb7 d0 d1
          go_wp2
          go_roundw
          case rel => exact ⟨k + 1, _, true, by omega, by go_num, rfl, ho6, (by rw [List.length_append, List.length_singleton]; omega), hb8, e2⟩
          case measure => simp [intOf]; omega
      | false =>
        by_cases hle : a ≤ x
        · have hge : x ≥ a := hle
          by_cases hx : x = a
          · have e2 := Lib.hid (show (os ++ [(a, c)]) ++ VM.wl true a c (xs.drop (k + 1)) = R by rw [← he.out, hd.out, wl_cons, if_pos hx, List.append_assoc]; simp [hle])
            have hx' : (x != a) = false := by simpa using hx
            clear he hd hx
            go_wp2_with (at_builtin; refine wp_appV1 rfl _ _ rfl rfl ho rfl (by omega) hsz ?_)
            intro v5 w5 ho6 hb7 _
            have hb8 := hbl.trans hb7
            clear ho hb7 d0 d1
            have d0 := below_cell hb8 C0.out
            go_wp2
            go_roundw
            case rel => exact ⟨k + 1, _, true, by omega, by go_num, rfl, ho6, (by rw [List.length_append, List.length_singleton]; omega), hb8, e2⟩
            case measure => simp [intOf]; omega
          · have e2 := Lib.hid (show (os ++ [(a, c), (x, n)]) ++ VM.wl true a c (xs.drop (k + 1)) = R by rw [← he.out, hd.out, wl_cons, if_neg hx, List.append_assoc]; simp [hle])
            have hx' : (x != a) = true := by simpa using hx
            clear he hd hx
            go_wp2_with (at_builtin; refine wp_appV1 rfl _ _ rfl rfl ho rfl (by omega) hsz ?_)
            intro v5 w5 ho6 hb7 _
            have hb8 := hbl.trans hb7
            clear ho hb7 d0 d1
            have d0 := below_cell hb8 C0.out
            have d1 := below_cell hb8 C1.out
            have hs8 := hb8.size
            have hol2 : (os ++ [(a, c)]).length ≤ 2 * k + 1 := by rw [List.length_append, List.length_singleton]; omega
            go_wp2_with (at_builtin; refine wp_appV1 rfl _ _ rfl rfl ho6 rfl (by omega) hs8 ?_)
            intro v6 w6 ho7 hb9 _
            have hb10 := hb8.trans hb9
            clear ho6 hb9 d0 d1
            go_wp2
            go_roundw
            case rel => exact ⟨k + 1, _, true, by omega, by go_num, rfl, ho7, (by simp; omega), hb10, e2⟩
            case measure => simp [intOf]; omega
        · have hge : ¬ x ≥ a := hle
          have hx : ¬ x = a := by omega
          have e2 := Lib.hid (show (os ++ [(x, n)]) ++ VM.wl false a c (xs.drop (k + 1)) = R by rw [← he.out, hd.out, wl_cons, if_neg hx, List.append_assoc]; simp [hle])
          have hx' : (x != a) = true := by simpa using hx
          clear he hd hx
          go_wp2_with (at_builtin; refine wp_appV1 rfl _ _ rfl rfl ho rfl (by omega) hsz ?_)
          intro v5 w5 ho6 hb7 _
          have hb8 := hbl.trans hb7
          clear ho hb7 d0 d1
          go_wp2
          go_roundw
          case rel => exact ⟨k + 1, _, false, by omega, by go_num, rfl, ho6, (by rw [List.length_append, List.length_singleton]; omega), hb8, e2⟩
          case measure => simp [intOf]; omega
    · have hq : ¬ ((k : Int) < (xs.length : Int)) := by omega
      have e2 := he.out
      rw [List.drop_of_length_le (by omega)] at e2
      cases pb with
      | true =>
        have e3 := Lib.hid (show os = R by rw [← e2]; simp [VM.wl])
        clear he HR e2
        go_wp2
        go_ret
        rw [← e3.out]
        exact ⟨_, rfl, ho, hbl⟩
      | false =>
        have e3 := Lib.hid (show os ++ [(a, c)] = R by rw [← e2]; simp [VM.wl])
        clear he HR e2
        go_wp2_with (at_builtin; refine wp_appV1 rfl _ _ rfl rfl ho rfl (by omega) hsz ?_)
        intro v5 w5 ho6 hb7 _
        have hb8 := hbl.trans hb7
        clear ho hb7
        go_wp2
        go_ret
        rw [← e3.out]
        exact ⟨_, rfl, ho6, hb8⟩

theorem rWith (v : Value) (xs : List Ent) (a c : Int) (w : World) (h : RdV w v xs) (ha : 1 ≤ a) (hc0 : 0 ≤ c) (hc1 : c ≤ 1000000) (hlx : xs.length ≤ 1000) :
    Calls Try.prog 50 #[v, .int .i64 a, .int .i64 c] w fun e w' => ∃ v', e = .returned v' ∧ OwnV w.heap.size w' v' (VM.wi xs a c) ∧ Below w.heap.size w w' :=
  rWithIn v xs a c _ w h ha hc0 hc1 rfl hlx

theorem rj_cons (o : List Ent) (e : Ent) (b : List Ent) : VM.rj o (e :: b) = VM.rj (if VM.cnt o e.1 < e.2 then VM.wi o e.1 e.2 else o) b := rfl

set_option maxRecDepth 100000 in
set_option maxHeartbeats 2000000 in
theorem rJoin (va vb : Value) (xs ys : List Ent) (w : World) (ha : RdV w va xs) (hb : RdV w vb ys) (hv : VM.Val 0 ys) (hlx : xs.length ≤ 400) (hly : ys.length ≤ 400) :
    Calls Try.prog 30 #[va, vb] w fun e w' => ∃ v', e = .returned v' ∧ OwnV w.heap.size w' v' (VM.rj xs ys) ∧ Below w.heap.size w w' := by
  obtain ⟨bd, cap, rfl, hc, hl⟩ := hb.shape
  have HB := Lib.hid hb
  have HV := Lib.hid hv
  have ho0 := ownV_empty w
  have hb0 := below_fresh w (.cells #[] 68)
  have HA := ha.below hb0
  have hs0 := hb0.size
  clear ha hb hv
  obtain ⟨R, hR⟩ : ∃ R, R = VM.rj xs ys := ⟨_, rfl⟩
  rw [← hR]
  have HR := Lib.hid hR
  clear hR
  go_enter Try.func30, Try.ntmps30
  go_wp2_with (at_builtin; refine wp_appVS rfl _ _ rfl rfl ho0 rfl HA (by simp) (by omega) hs0 ?_)
  intro v1 w1 ho1 hb1
  have hb2 := hb0.trans hb1
  clear ho0 hb0 HA hs0 hb1
  go_wp2
  go_loopw [5, 6] (fun z i wr => ∃ (k : Nat) (os : List Ent), k ≤ ys.length ∧ i = .int .i64 k ∧ OwnV w.heap.size wr z os ∧ os.length ≤ xs.length + k ∧ Below w.heap.size w wr ∧ Hid (VM.rj os (ys.drop k) = R)) (fun _ i _ => ys.length - (intOf i).toNat)
  case atStart => exact ⟨0, xs, Nat.zero_le _, rfl, ho1, Nat.le_refl _, hb2, (by show _ = _; rw [HR.out]; rfl)⟩
  case round =>
    obtain ⟨k, os, hk, rfl, ho, hol, hbl, he⟩ := hrel
    have hsz := hbl.size
    by_cases hlt : k < ys.length
    · obtain ⟨b, o, hi, hb, c0, c1⟩ := HB.out.at k ys[k] (List.getElem?_eq_getElem hlt)
      have hq : (k : Int) < (ys.length : Int) := by omega
      have hd := Lib.hid (drop_get hlt)
      have hg := VM.val_get HV.out (List.getElem?_eq_getElem hlt)
      clear HR
      generalize ys[k] = en at c0 c1 hd hg
      obtain ⟨x, n⟩ := en
      simp only at c0 c1 hg
      obtain ⟨g1, g2, g3⟩ := hg
      have C0 := Lib.hid c0
      have C1 := Lib.hid c1
      have d0 := below_cell hbl c0
      have d1 := below_cell hbl c1
      have HO := Lib.hid ho
      have Hrd := Lib.hid ho.rd
      obtain ⟨az, cz, rfl, hcz, _⟩ := ho.rd.shape
      clear c0 c1 ho
      by_cases hx : VM.cnt os x < n
      · have e2 := Lib.hid (show VM.rj (VM.wi os x n) (ys.drop (k + 1)) = R by rw [← he.out, hd.out, rj_cons, if_pos hx])
        clear he hd
        go_wp2
        go_quiet ((go_at_call 51; exact rCountQ x Hrd.out _))
        have hbq := hbl.trans (below_drewN _ _ nq)
        have hoq := HO.out.below (below_drewN _ wr nq)
        clear d0 d1 hbl HO Hrd hsz
        go_wp2
        generalize wr.drewN nq = wq at hbq hoq
        have d0 := below_cell hbq C0.out
        have d1 := below_cell hbq C1.out
        have HOQ := Lib.hid hoq
        clear hoq
        go_still_tail 11, (by kernel_rfl)
        change wpList _ _ _ _ _ wq.drew
        have hb3 : Below w.heap.size w wq.drew := hbq.drew
        have ho3 : OwnV w.heap.size wq.drew (.slice az os.length cz) os := HOQ.out
        generalize wq.drew = w3 at hb3 ho3
        clear d0 d1 HOQ hbq
        go_wp2_with fail
        refine (rWith _ os x n _ ho3.rd (by omega) (by omega) g3 (by omega)).mono ?_
        rintro e w4 ⟨v4, rfl, ho4, hb4⟩
        have hb5 := hb3.trans (hb4.mono hb3.size)
        have ho5 := ho4.mono hb3.size
        have hwl := VM.wi_length os x n
        clear hb3 ho3 hb4 ho4
        go_wp2
        go_roundw
        case rel => exact ⟨k + 1, _, by omega, by go_num, ho5, by omega, hb5, e2⟩
        case measure => simp [intOf]; omega
      · have e2 := Lib.hid (show VM.rj os (ys.drop (k + 1)) = R by rw [← he.out, hd.out, rj_cons, if_neg hx])
        clear he hd
        go_wp2
        go_quiet ((go_at_call 51; exact rCountQ x Hrd.out _))
        go_wp2
        go_roundw
        case rel => exact ⟨k + 1, os, by omega, by go_num, HO.out.below (below_drewN _ _ _), by omega, hbl.trans (below_drewN _ _ _), e2⟩
        case measure => simp [intOf]; omega
    · have hq : ¬ ((k : Int) < (ys.length : Int)) := by omega
      have e2 := Lib.hid (show os = R by rw [← he.out, List.drop_of_length_le (by omega)]; rfl)
      clear he HR
      go_wp2
      go_ret
      rw [← e2.out]
      exact ⟨_, rfl, ho, hbl⟩

theorem rm_cons (b : List Ent) (e : Ent) (v : List Ent) : VM.rm b (e :: v) = (if 0 < min e.2 (VM.cnt b e.1) then [(e.1, min e.2 (VM.cnt b e.1))] else []) ++ VM.rm b v := rfl

set_option maxRecDepth 100000 in
set_option maxHeartbeats 2000000 in
theorem rMeet (va vb : Value) (xs ys : List Ent) (w : World) (ha : RdV w va xs) (hb : RdV w vb ys) (hlx : xs.length ≤ 400) :
    Calls Try.prog 31 #[va, vb] w fun e w' => ∃ v', e = .returned v' ∧ OwnV w.heap.size w' v' (VM.rm ys xs) ∧ Below w.heap.size w w' := by
  obtain ⟨ad, cap, rfl, hc, hl⟩ := ha.shape
  have HA := Lib.hid ha
  have HB := Lib.hid hb
  clear ha hb
  obtain ⟨R, hR⟩ : ∃ R, R = VM.rm ys xs := ⟨_, rfl⟩
  rw [← hR]
  have HR := Lib.hid hR
  clear hR
  go_enter Try.func31, Try.ntmps31
  go_wp2
  go_loopw [5, 6] (fun z i wr => ∃ (k : Nat) (os : List Ent), k ≤ xs.length ∧ i = .int .i64 k ∧ OwnV w.heap.size wr z os ∧ os.length ≤ k ∧ Below w.heap.size w wr ∧ Hid (os ++ VM.rm ys (xs.drop k) = R)) (fun _ i _ => xs.length - (intOf i).toNat)
  case atStart => exact ⟨0, [], Nat.zero_le _, rfl, OwnV.nil _ _, Nat.le_refl _, Below.refl _ _, (by show _ = _; rw [HR.out]; rfl)⟩
  case round =>
    obtain ⟨k, os, hk, rfl, ho, hol, hbl, he⟩ := hrel
    have hsz := hbl.size
    by_cases hlt : k < xs.length
    · obtain ⟨b, o, hi, hb, c0, c1⟩ := HA.out.at k xs[k] (List.getElem?_eq_getElem hlt)
      have hq : (k : Int) < (xs.length : Int) := by omega
      have hd := Lib.hid (drop_get hlt)
      clear HR
      generalize xs[k] = en at c0 c1 hd
      obtain ⟨x, n⟩ := en
      simp only at c0 c1
      have C0 := Lib.hid c0
      have d0 := below_cell hbl c0
      have d1 := below_cell hbl c1
      have HO := Lib.hid ho
      have HBr := Lib.hid (HB.out.below hbl)
      clear c0 c1 ho
      go_wp2
      go_quiet ((go_at_call 51; exact rCountQ x HBr.out _))
      generalize hM : (if VM.cnt ys x < n then VM.cnt ys x else n) = M
      have hM' : min n (VM.cnt ys x) = M := by rw [← hM]; split <;> omega
      have hbq := hbl.trans (below_drewN _ _ nq)
      have hoq := HO.out.below (below_drewN _ wr nq)
      clear d0 d1 hbl HO HBr hsz hM
      by_cases hm : 0 < M
      · have e2 := Lib.hid (show (os ++ [(x, M)]) ++ VM.rm ys (xs.drop (k + 1)) = R by rw [← he.out, hd.out, rm_cons, hM', if_pos hm, List.append_assoc])
        clear he hd hM'
        generalize wr.drewN nq = wq at hbq hoq
        have d0 := below_cell hbq C0.out
        have hsq := hbq.size
        go_wp2_with (at_builtin; refine wp_appV1 rfl _ _ rfl rfl hoq rfl (by omega) hsq ?_)
        intro v5 w5 ho6 hb7 _
        have hb8 := hbq.trans hb7
        clear hoq hb7 d0 hbq
        go_wp2
        go_roundw
        case rel => exact ⟨k + 1, _, by omega, by go_num, ho6, (by rw [List.length_append, List.length_singleton]; omega), hb8, e2⟩
        case measure => simp [intOf]; omega
      · have e2 := Lib.hid (show os ++ VM.rm ys (xs.drop (k + 1)) = R by rw [← he.out, hd.out, rm_cons, hM', if_neg hm, List.nil_append])
        clear he hd hM'
        go_wp2
        go_roundw
        case rel => exact ⟨k + 1, os, by omega, by go_num, hoq, by omega, hbq, e2⟩
        case measure => simp [intOf]; omega
    · have hq : ¬ ((k : Int) < (xs.length : Int)) := by omega
      have e2 := Lib.hid (show os = R by rw [← he.out, List.drop_of_length_le (by omega)]; simp [VM.rm])
      clear he HR
      go_wp2
      go_ret
      rw [← e2.out]
      exact ⟨_, rfl, ho, hbl⟩

end Go.Proofs.Ytacbpphhkkmelaa.VX
