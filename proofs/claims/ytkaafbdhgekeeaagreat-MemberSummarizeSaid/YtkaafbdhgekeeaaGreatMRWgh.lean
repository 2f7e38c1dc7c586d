/-
  The call of the reference's Weigh: ascending entries with an entry put in. Conditions: the list reads and is short.
-/
import Derived.Test.YtkaafbdhgekeeaaGreatMRIns
import Derived.StillTailTactics
namespace Go.Proofs.YtkaafbdhgekeeaaGreat
open Go.RowKit
open MM (Mem Ent Sm Tri)

section
variable {α : Type} {P : Program} {t e : TypeId} {size bytes : Nat} {enc : α → List Value}
variable {w : World} {ops : Array Oper} {o : Oper} {a : Act} {K : Act → World → Prop} {Q : Exit → Act → World → Prop} {F : Prop} {base : Nat} {v : Value} {ys : List α}
/-- 'append(out, u...)' as one step of a region that draws its order. -/
theorem step_appGS (E : IsElem P t e size bytes enc) {u : Value} {zs : List α} (hwant : Region.wanted o (yielded ops a.tmps) = true) (s r : Operand) (ho : o.op = .call { callee := .builtin .append, args := #[s, r], argTypes := #[t, t] })
    (hs : a.eval s = v) (hown : OwnG enc e size base w v ys) (hx : a.eval r = u) (hu : RdG enc size w u zs) (hlen : ys.length ≤ 1073741824) (hlen2 : zs.length ≤ 1073741824) (hb : base ≤ w.heap.size)
    (h : ∀ v' w', OwnG enc e size base w' v' (ys ++ zs) → Below base w w' → w.grownBy w' v.ownBlock → K (a.put o.dst v') w') :
    if Region.wanted o (yielded ops a.tmps) = true then Oper.wp P o a w K Q else F := by
  rw [if_pos hwant]
  obtain ⟨i0, z, hi, hz0, hz1, hz2, hz3⟩ := E.info
  obtain ⟨ad, c, rfl, h1, h2, h3, hl, h4⟩ := hu
  cases ad with
  | none =>
    obtain ⟨rfl, rfl⟩ := h3 rfl
    have hrun := run_append_owned_none (P := P) (w := w) base t o.type e i0 size E.ht hi _ _ _ hown.1
    unfold Oper.wp
    simp [execOp, ho, resolve, invoke, builtin, hs, hx, hrun, Result.andThen]
    exact h _ _ (by rw [List.append_nil]; exact hown) (Below.refl _ _) ⟨rfl, rfl, rfl, Nat.le_refl _, fun _ _ _ => rfl⟩
  | some ad =>
    refine wp_append_own w s r t ho base e i0 z size bytes E.ht hi hz0 hz1 hz2 hz3 E.pos _ _ _ hs hown.1 ad zs.length c (cellsOf enc zs) hx (cellsOf_length E.len zs) (h4 ad rfl) (cellsOf_one E.one zs) ?_ ?_ hb ?_
    · unfold maxLen; omega
    · have := E.fits
      calc (ys.length + zs.length) * bytes ≤ (1073741824 + 1073741824) * 4096 := Nat.mul_le_mul (by omega) this
        _ ≤ 140737488355328 := by decide
    · intro v' w1 ho1 hg1 _
      refine h v' w1 ⟨?_, hown.2⟩ ((Below.refl _ _).grown hg1 hb (fun k hk => (World.ownsRow.lt hown.1 k hk).1)) hg1
      rw [cellsOf_append, List.length_append]
      exact ho1
theorem RdG.grown {w w' : World} {b n c : Nat} {row : Option Nat} {xs : List α} (h : RdG enc size w (.slice (some ⟨b, 0, none⟩) n c) xs) (hg : w.grownBy w' row) (hne : some b ≠ row) : RdG enc size w' (.slice (some ⟨b, 0, none⟩) n c) xs := by
  obtain ⟨a, c', hv, h1, h2, h3, hl, h4⟩ := h
  refine ⟨a, c', hv, h1, h2, h3, hl, fun x hx j u hu => ?_⟩
  have h5 := h4 x hx j u hu
  cases hv
  cases hx
  have h6 := World.block_lt_of_cell? w _ h5
  rw [addr_block] at h6
  rw [World.cell?_of_block (w := w) (by rw [addr_block]; exact hg.block b h6 hne)]
  exact h5
end

/-- What Weigh builds. -/
def whF (e : Ent) : Bool → List Ent → List Ent
  | put, [] => if put then [] else [e]
  | put, y :: l => if y.1 = e.1 then MM.lat y e :: whF e true l else if (!put && decide (e.1 < y.1)) = true then e :: y :: whF e true l else y :: whF e put l
theorem whF_true {e : Ent} {l : List Ent} (h : ∀ y ∈ l, e.1 < y.1) : whF e true l = l := by
  induction l with
  | nil => rfl
  | cons y l ih =>
    have := h y (by simp)
    rw [whF, if_neg (by omega), if_neg (by simp), ih (fun z hz => h z (by simp [hz]))]
theorem whF_srt {e : Ent} {l : List Ent} (h : MM.Srt MM.kW l) : whF e false l = MM.insW e l := by
  induction l with
  | nil => rfl
  | cons y l ih =>
    have a1 := h.hd MM.kW
    unfold MM.insW MM.ins
    rw [whF]
    show _ = if y.1 = e.1 then MM.lat y e :: l else if e.1 < y.1 then e :: y :: l else y :: MM.insW e l
    by_cases h1 : y.1 = e.1
    · rw [if_pos h1, if_pos h1, whF_true (fun z hz => by have : y.1 < z.1 := a1 z hz; omega)]
    · rw [if_neg h1, if_neg h1]
      by_cases h2 : e.1 < y.1
      · rw [if_pos h2, if_pos (by simp [h2]), whF_true (fun z hz => by have : y.1 < z.1 := a1 z hz; omega)]
      · rw [if_neg h2, if_neg (by simp [h2]), ih (h.tl MM.kW)]

set_option maxRecDepth 100000 in
set_option maxHeartbeats 8000000 in
theorem rWeigh (v : Value) (l : List Ent) (s t x a n : Int) (w : World) (h : RdW w v l) (hl : l.length ≤ 1000000) :
    Calls Tryz.prog 59 #[v, wv s t x a n] w fun e w' => ∃ v', e = .returned v' ∧ OwnW w.heap.size w' v' (whF (s, t, x, a, n) false l) ∧ Below w.heap.size w w' := by
  obtain ⟨ad, c, rfl, hc, hlc⟩ := h.shape
  have hb0 := below_fresh w (.cells #[.int .i64 s, .int .i64 t, .int .i64 x, .int .i64 a, .int .i64 n] 62)
  have hP0 := WBox.fresh w 62 s t x a n
  obtain ⟨w1, hw1⟩ : ∃ w1, w.alloc (.cells #[.int .i64 s, .int .i64 t, .int .i64 x, .int .i64 a, .int .i64 n] 62) = w1 := ⟨_, rfl⟩
  rw [hw1] at hb0 hP0
  have hs1 : w1.heap.size = w.heap.size + 1 := by rw [← hw1]; exact World.size_alloc _ _
  have H := Lib.hid (h.below hb0)
  have HL := Lib.hid hl
  have HB0 := Lib.hid hb0
  have HP := Lib.hid hP0
  have HW := Lib.hid hw1
  have HS1 := Lib.hid hs1
  have HLT := Lib.hid (fun (y1 y2 y3 y4 y5 : Int) (w' : World) => rLater s t x a n y1 y2 y3 y4 y5 w')
  clear h hl hb0 hP0 hw1 hs1
  obtain ⟨R, hR⟩ : ∃ R, R = whF (s, t, x, a, n) false l := ⟨_, rfl⟩
  rw [← hR]
  have HR := Lib.hid (show R = [] ++ whF (s, t, x, a, n) false (l.drop 0) from hR)
  have HI0 := Lib.hid (show OwnW w1.heap.size w1 (.slice none 0 0) [] from OwnG.nil hlW _ _ _)
  clear hR
  go_enter Tryz.func59, Tryz.ntmps59
  go_wp2
  rw [HW.out]
  go_loopw [5, 6, 7] (fun o p i wr => ∃ (j : Nat) (put : Bool) (ys : List Ent), j ≤ l.length ∧ i = .int .i64 j ∧ p = .bool put ∧ Hid (OwnW w1.heap.size wr o ys) ∧ Hid (Below w1.heap.size w1 wr) ∧ Hid (ys.length ≤ 2 * j) ∧ Hid (R = ys ++ whF (s, t, x, a, n) put (l.drop j))) (fun _ _ i _ => l.length - (intOf i).toNat)
  case atStart => exact ⟨0, false, [], Nat.zero_le _, rfl, rfl, HI0, Lib.hid (Below.refl _ _), Lib.hid (Nat.le_refl _), HR⟩
  case round =>
    obtain ⟨j, put, ys, hj, rfl, rfl, ho, hb, hyl, he⟩ := hrel
    clear HR HI0
    obtain ⟨a5, l5, c5, hv5⟩ : ∃ a l c, u5 = .slice a l c := by obtain ⟨a, c, h, _⟩ := ho.out.rd.shape; exact ⟨a, _, c, h⟩
    subst hv5
    have hsz := hb.out.size
    have hyb : ys.length ≤ 1073741824 := by have h1 := hyl.out; have h2 := HL.out; omega
    obtain ⟨p0, p1, p2, p3, p4⟩ := HP.out
    replace p0 := below_cell hb.out p0
    replace p1 := below_cell hb.out p1
    replace p2 := below_cell hb.out p2
    replace p3 := below_cell hb.out p3
    replace p4 := below_cell hb.out p4
    by_cases hlt : j < l.length
    · obtain ⟨⟨y1, y2, y3, y4, y5⟩, hy⟩ : ∃ e, e = l[j] := ⟨_, rfl⟩
      have hg : l[j]? = some (y1, y2, y3, y4, y5) := by rw [hy]; exact List.getElem?_eq_getElem hlt
      obtain ⟨b, o, hi, hbb, c0, c1, c2, c3, c4⟩ := atW (H.out.below hb.out) j _ _ _ _ _ hg
      have hq : (j : Int) < (l.length : Int) := by omega
      have hd := Lib.hid (show l.drop j = (y1, y2, y3, y4, y5) :: l.drop (j + 1) by rw [drop_get hlt, hy])
      clear hy hg
      have P0 := fun p : Later wr => below_cell p.h p0
      have P1 := fun p : Later wr => below_cell p.h p1
      have P2 := fun p : Later wr => below_cell p.h p2
      have P3 := fun p : Later wr => below_cell p.h p3
      have P4 := fun p : Later wr => below_cell p.h p4
      have C0 := fun p : Later wr => below_cell p.h c0
      have C1 := fun p : Later wr => below_cell p.h c1
      have C2 := fun p : Later wr => below_cell p.h c2
      have C3 := fun p : Later wr => below_cell p.h c3
      have C4 := fun p : Later wr => below_cell p.h c4
      have hlt2 := fun p : Later wr => Calls.later (HLT.out y1 y2 y3 y4 y5 p.val)
      by_cases h1 : y1 = s
      · have hy1 : (y1 == s) = true := beq_t h1
        have e1 := Lib.hid (show R = (ys ++ [if MM.aft (x, a, n) (y3, y4, y5) = true then (s, t, x, a, n) else (y1, y2, y3, y4, y5)]) ++ whF (s, t, x, a, n) true (l.drop (j + 1)) by
          rw [he.out, hd.out, whF, if_pos h1]; simp [MM.lat])
        generalize MM.aft (x, a, n) (y3, y4, y5) = u at hlt2 e1
        have HT := Lib.hid hlt2
        clear he h1 hlt2
        cases u
        · replace e1 := Lib.hid (show R = (ys ++ [(y1, y2, y3, y4, y5)]) ++ whF (s, t, x, a, n) true (l.drop (j + 1)) from e1.out)
          go_wp2
          refine wp_region_later (by kernel_rfl) (by kernel_rfl) ?_
          repeat (go_big_quiet_step (first | (with_reducible exact HT.out _)))
          refine wpQuiet_nil ?_
          rintro _ ⟨p', rfl⟩
          have HO2 := Lib.hid (ho.out.below p'.h)
          have HB2 := Lib.hid (hb.out.trans (p'.h.mono hb.out.size))
          have k0 := C0 p'
          have k1 := C1 p'
          have k2 := C2 p'
          have k3 := C3 p'
          have k4 := C4 p'
          have m0 := P0 p'
          have m1 := P1 p'
          have m2 := P2 p'
          have m3 := P3 p'
          have m4 := P4 p'
          generalize p'.val = w2 at HO2 HB2 k0 k1 k2 k3 k4 m0 m1 m2 m3 m4 ⊢
          clear P0 P1 P2 P3 P4 C0 C1 C2 C3 C4 p0 p1 p2 p3 p4 c0 c1 c2 c3 c4
          have hsz2 := HB2.out.size
          go_wp2
          go_quiet (fail)
          go_wp2_with (at_builtin; refine wp_appG1 wgtE (y1, y2, y3, y4, y5) rfl _ _ rfl rfl (HO2.out.drewN _) rfl hyb hsz2 ?_)
          intro v3 w3 ho3 hb3 _ _
          have HO3 := Lib.hid ho3
          have HB3 := Lib.hid (HB2.out.trans (show Below w1.heap.size w2 w3 from ⟨hb3.os, hb3.tape, hb3.output, hb3.size, hb3.block⟩))
          clear ho3 hb3 k0 k1 k2 k3 k4 m0 m1 m2 m3 m4 HO2 HB2
          go_wp2
          go_roundw
          case rel => exact ⟨j + 1, true, ys ++ [(y1, y2, y3, y4, y5)], by omega, by go_num, rfl, HO3, HB3, Lib.hid (by have := hyl.out; simp; omega), e1⟩
          case measure => simp [intOf]; omega
        · replace e1 := Lib.hid (show R = (ys ++ [(s, t, x, a, n)]) ++ whF (s, t, x, a, n) true (l.drop (j + 1)) from e1.out)
          go_wp2
          refine wp_region_later (by kernel_rfl) (by kernel_rfl) ?_
          repeat (go_big_quiet_step (first | (with_reducible exact HT.out _)))
          refine wpQuiet_nil ?_
          rintro _ ⟨p', rfl⟩
          have HO2 := Lib.hid (ho.out.below p'.h)
          have HB2 := Lib.hid (hb.out.trans (p'.h.mono hb.out.size))
          have k0 := C0 p'
          have k1 := C1 p'
          have k2 := C2 p'
          have k3 := C3 p'
          have k4 := C4 p'
          have m0 := P0 p'
          have m1 := P1 p'
          have m2 := P2 p'
          have m3 := P3 p'
          have m4 := P4 p'
          generalize p'.val = w2 at HO2 HB2 k0 k1 k2 k3 k4 m0 m1 m2 m3 m4 ⊢
          clear P0 P1 P2 P3 P4 C0 C1 C2 C3 C4 p0 p1 p2 p3 p4 c0 c1 c2 c3 c4
          have hsz2 := HB2.out.size
          go_wp2_with (at_builtin; refine wp_appG1 wgtE (s, t, x, a, n) rfl _ _ rfl rfl (HO2.out) rfl hyb hsz2 ?_)
          intro v3 w3 ho3 hb3 _ _
          have HO3 := Lib.hid ho3
          have HB3 := Lib.hid (HB2.out.trans (show Below w1.heap.size w2 w3 from ⟨hb3.os, hb3.tape, hb3.output, hb3.size, hb3.block⟩))
          clear ho3 hb3 k0 k1 k2 k3 k4 m0 m1 m2 m3 m4 HO2 HB2
          go_wp2
          go_roundw
          case rel => exact ⟨j + 1, true, ys ++ [(s, t, x, a, n)], by omega, by go_num, rfl, HO3, HB3, Lib.hid (by have := hyl.out; simp; omega), e1⟩
          case measure => simp [intOf]; omega
      · have hy1 : (y1 == s) = false := beq_f h1
        clear hlt2
        cases put
        · by_cases h2 : s < y1
          · have e1 := Lib.hid (show R = (ys ++ [(s, t, x, a, n), (y1, y2, y3, y4, y5)]) ++ whF (s, t, x, a, n) true (l.drop (j + 1)) by rw [he.out, hd.out, whF, if_neg h1, if_pos (by simp [h2])]; simp)
            clear he h1
            go_wp2
            refine wp_region_later (by kernel_rfl) (by kernel_rfl) ?_
            repeat (go_big_quiet_step (fail))
            refine wpQuiet_nil ?_
            rintro _ ⟨p', rfl⟩
            have HO2 := Lib.hid (ho.out.below p'.h)
            have HB2 := Lib.hid (hb.out.trans (p'.h.mono hb.out.size))
            have k0 := C0 p'
            have k1 := C1 p'
            have k2 := C2 p'
            have k3 := C3 p'
            have k4 := C4 p'
            have m0 := P0 p'
            have m1 := P1 p'
            have m2 := P2 p'
            have m3 := P3 p'
            have m4 := P4 p'
            generalize p'.val = w2 at HO2 HB2 k0 k1 k2 k3 k4 m0 m1 m2 m3 m4 ⊢
            clear P0 P1 P2 P3 P4 C0 C1 C2 C3 C4 p0 p1 p2 p3 p4 c0 c1 c2 c3 c4
            have hsz2 := HB2.out.size
            go_wp2
            go_quiet (fail)
            go_wp2
            go_quiet (fail)
            go_wp2
            generalize hw : World.drewN (World.drewN w2 _) _ = wq
            have HOq := Lib.hid (show OwnW w1.heap.size wq (.slice a5 l5 c5) ys by rw [← hw]; exact (HO2.out.drewN _).drewN _)
            have HBq := Lib.hid (show Below w1.heap.size w1 wq by rw [← hw]; exact ⟨HB2.out.os, HB2.out.tape, HB2.out.output, HB2.out.size, HB2.out.block⟩)
            have k0 : wq.cell? ⟨b, o, none⟩ = some (.int .i64 y1) := by rw [← hw]; exact k0
            have k1 : wq.cell? ⟨b, o + 1, none⟩ = some (.int .i64 y2) := by rw [← hw]; exact k1
            have k2 : wq.cell? ⟨b, o + 2, none⟩ = some (.int .i64 y3) := by rw [← hw]; exact k2
            have k3 : wq.cell? ⟨b, o + 3, none⟩ = some (.int .i64 y4) := by rw [← hw]; exact k3
            have k4 : wq.cell? ⟨b, o + 4, none⟩ = some (.int .i64 y5) := by rw [← hw]; exact k4
            have m0 : wq.cell? ⟨w.heap.size, 0, none⟩ = some (.int .i64 s) := by rw [← hw]; exact m0
            have m1 : wq.cell? ⟨w.heap.size, 1, none⟩ = some (.int .i64 t) := by rw [← hw]; exact m1
            have m2 : wq.cell? ⟨w.heap.size, 2, none⟩ = some (.int .i64 x) := by rw [← hw]; exact m2
            have m3 : wq.cell? ⟨w.heap.size, 3, none⟩ = some (.int .i64 a) := by rw [← hw]; exact m3
            have m4 : wq.cell? ⟨w.heap.size, 4, none⟩ = some (.int .i64 n) := by rw [← hw]; exact m4
            clear hw HO2 HB2 hsz2
            have HOq2 := Lib.hid (show OwnW w1.heap.size wq.drew (.slice a5 l5 c5) ys from HOq.out)
            have HBq2 := Lib.hid (HBq.out.drew)
            have hz0 := ownG_fresh hlW 62 wq.drew [(s, t, x, a, n), (y1, y2, y3, y4, y5)] (by unfold maxLen; simp)
            have hzb := below_fresh wq.drew (.cells #[.int .i64 s, .int .i64 t, .int .i64 x, .int .i64 a, .int .i64 n, .int .i64 y1, .int .i64 y2, .int .i64 y3, .int .i64 y4, .int .i64 y5] 62)
            have HZ := Lib.hid (show RdW (wq.drew.alloc (.cells #[.int .i64 s, .int .i64 t, .int .i64 x, .int .i64 a, .int .i64 n, .int .i64 y1, .int .i64 y2, .int .i64 y3, .int .i64 y4, .int .i64 y5] 62)) (.slice (some ⟨wq.drew.heap.size, 0, none⟩) 2 2) [(s, t, x, a, n), (y1, y2, y3, y4, y5)] from hz0.rd)
            have HO2 := Lib.hid (HOq2.out.below hzb)
            have HB2 := Lib.hid (HBq2.out.trans (hzb.mono HBq2.out.size))
            have hsz2 := HB2.out.size
            clear hz0 hzb
            go_region_law (first
              | (refine step_appGS (base := w1.heap.size) wgtE (by rfl) _ _ rfl (by rfl) HO2.out (by rfl) HZ.out hyb (by simp) hsz2 ?_; intro v3 w3 ho3 hb3 _; have HO3 := Lib.hid ho3; have HB3 := Lib.hid (HB2.out.trans hb3); obtain ⟨a3, l3, c3, hv3⟩ : ∃ a l c, v3 = .slice a l c := (by obtain ⟨a, c, h, _⟩ := ho3.rd.shape; exact ⟨a, _, c, h⟩); subst hv3; clear ho3 hb3))
            all_goals
              clear HO2 HB2 HZ k0 k1 k2 k3 k4 m0 m1 m2 m3 m4
              go_wp2
              go_roundw
              case rel => exact ⟨j + 1, true, ys ++ [(s, t, x, a, n), (y1, y2, y3, y4, y5)], by omega, by go_num, rfl, HO3, HB3, Lib.hid (by have := hyl.out; simp; omega), e1⟩
              case measure => simp [intOf]; omega
          · have e1 := Lib.hid (show R = (ys ++ [(y1, y2, y3, y4, y5)]) ++ whF (s, t, x, a, n) false (l.drop (j + 1)) by rw [he.out, hd.out, whF, if_neg h1, if_neg (by simp [h2])]; simp)
            clear he h1
            go_wp2
            refine wp_region_later (by kernel_rfl) (by kernel_rfl) ?_
            repeat (go_big_quiet_step (fail))
            refine wpQuiet_nil ?_
            rintro _ ⟨p', rfl⟩
            have HO2 := Lib.hid (ho.out.below p'.h)
            have HB2 := Lib.hid (hb.out.trans (p'.h.mono hb.out.size))
            have k0 := C0 p'
            have k1 := C1 p'
            have k2 := C2 p'
            have k3 := C3 p'
            have k4 := C4 p'
            have m0 := P0 p'
            have m1 := P1 p'
            have m2 := P2 p'
            have m3 := P3 p'
            have m4 := P4 p'
            generalize p'.val = w2 at HO2 HB2 k0 k1 k2 k3 k4 m0 m1 m2 m3 m4 ⊢
            clear P0 P1 P2 P3 P4 C0 C1 C2 C3 C4 p0 p1 p2 p3 p4 c0 c1 c2 c3 c4
            have hsz2 := HB2.out.size
            go_wp2
            go_quiet (fail)
            go_wp2
            go_quiet (fail)
            go_wp2_with (at_builtin; refine wp_appG1 wgtE (y1, y2, y3, y4, y5) rfl _ _ rfl rfl (HO2.out.drewN _) rfl hyb hsz2 ?_)
            intro v3 w3 ho3 hb3 _ _
            have HO3 := Lib.hid ho3
            have HB3 := Lib.hid (HB2.out.trans (show Below w1.heap.size w2 w3 from ⟨hb3.os, hb3.tape, hb3.output, hb3.size, hb3.block⟩))
            clear ho3 hb3 k0 k1 k2 k3 k4 m0 m1 m2 m3 m4 HO2 HB2
            go_wp2
            go_roundw
            case rel => exact ⟨j + 1, false, ys ++ [(y1, y2, y3, y4, y5)], by omega, by go_num, rfl, HO3, HB3, Lib.hid (by have := hyl.out; simp; omega), e1⟩
            case measure => simp [intOf]; omega
        · have e1 := Lib.hid (show R = (ys ++ [(y1, y2, y3, y4, y5)]) ++ whF (s, t, x, a, n) true (l.drop (j + 1)) by rw [he.out, hd.out, whF, if_neg h1, if_neg (by simp)]; simp)
          clear he h1
          go_wp2
          refine wp_region_later (by kernel_rfl) (by kernel_rfl) ?_
          repeat (go_big_quiet_step (fail))
          refine wpQuiet_nil ?_
          rintro _ ⟨p', rfl⟩
          have HO2 := Lib.hid (ho.out.below p'.h)
          have HB2 := Lib.hid (hb.out.trans (p'.h.mono hb.out.size))
          have k0 := C0 p'
          have k1 := C1 p'
          have k2 := C2 p'
          have k3 := C3 p'
          have k4 := C4 p'
          have m0 := P0 p'
          have m1 := P1 p'
          have m2 := P2 p'
          have m3 := P3 p'
          have m4 := P4 p'
          generalize p'.val = w2 at HO2 HB2 k0 k1 k2 k3 k4 m0 m1 m2 m3 m4 ⊢
          clear P0 P1 P2 P3 P4 C0 C1 C2 C3 C4 p0 p1 p2 p3 p4 c0 c1 c2 c3 c4
          have hsz2 := HB2.out.size
          go_wp2
          go_quiet (fail)
          go_wp2
          go_quiet (fail)
          go_wp2_with (at_builtin; refine wp_appG1 wgtE (y1, y2, y3, y4, y5) rfl _ _ rfl rfl (HO2.out.drewN _) rfl hyb hsz2 ?_)
          intro v3 w3 ho3 hb3 _ _
          have HO3 := Lib.hid ho3
          have HB3 := Lib.hid (HB2.out.trans (show Below w1.heap.size w2 w3 from ⟨hb3.os, hb3.tape, hb3.output, hb3.size, hb3.block⟩))
          clear ho3 hb3 k0 k1 k2 k3 k4 m0 m1 m2 m3 m4 HO2 HB2
          go_wp2
          go_roundw
          case rel => exact ⟨j + 1, true, ys ++ [(y1, y2, y3, y4, y5)], by omega, by go_num, rfl, HO3, HB3, Lib.hid (by have := hyl.out; simp; omega), e1⟩
          case measure => simp [intOf]; omega
    · have hq : ¬ ((j : Int) < (l.length : Int)) := by omega
      have HBF := Lib.hid (show Below w.heap.size w wr from HB0.out.trans (hb.out.mono (by have := HS1.out; omega)))
      cases put
      · have e2 := Lib.hid (show R = ys ++ [(s, t, x, a, n)] by rw [he.out, List.drop_of_length_le (by omega)]; rfl)
        clear he
        go_wp2_with (at_builtin; refine wp_appG1 wgtE (s, t, x, a, n) rfl _ _ rfl rfl ho.out rfl hyb hsz ?_)
        intro v3 w3 ho3 hb3 _ _
        have HO3 := Lib.hid (ho3.mono (show w.heap.size ≤ w1.heap.size by have := HS1.out; omega))
        have HB3 := Lib.hid (HBF.out.trans (hb3.mono (show w.heap.size ≤ w1.heap.size by have := HS1.out; omega)))
        clear ho3 hb3
        go_wp2
        go_ret
        exact ⟨_, rfl, by rw [e2.out]; exact HO3.out, HB3.out⟩
      · have e2 := Lib.hid (show R = ys by rw [he.out, List.drop_of_length_le (by omega)]; show ys ++ [] = ys; simp)
        clear he
        go_wp2
        go_ret
        exact ⟨_, rfl, by rw [e2.out]; exact ho.out.mono (by have := HS1.out; omega), HBF.out⟩

end Go.Proofs.YtkaafbdhgekeeaaGreat
