/-
  The library's CompactFunc at entries of weights, on the call's own list: of entries of one server, one behind the other, the first stays; every other block stays. Conditions: the list is the call's own and short.
-/
import Derived.Test.YtkaafbdhgekeeaaGreatMMg
import Derived.Test.YtkaafbdhgekeeaaGreatMOfM
namespace Go.Proofs.YtkaafbdhgekeeaaGreat
open Go.RowKit Go.Joins
open MM (Mem Ent Sm Tri)

section
variable {α : Type} {P : Program} {t e : TypeId} {size bytes : Nat} {enc : α → List Value}
/-- 'clear' of elements of whatever size. -/
theorem run_clearK (w : World) (sT ty elem : TypeId) (k g o n c : Nat) (cur : Array Value) (t : TypeId) (v0 zv : Value) (by0 : Nat)
    (hu : P.underlying sT = some (.slice elem)) (hzv : (P.info? elem).map (fun i => (i.zero, i.size, i.bytes)) = some (some zv, k, by0)) (hzc : zv.cells = Array.replicate k v0) (h0 : 0 < k) (hn : 0 < n)
    (hg : w.heap[g]? = some (.cells cur t (0, 0))) (hfit : o + n * k ≤ cur.size) (h1 : v0.oneCell' = true) :
    (Builtin.clear_ #[sT] ty #[.slice (some ⟨g, o, none⟩) n c]).run P w =
      .ok (.tuple #[]) (w.setRow g (cur.toList.take o ++ List.replicate (n * k) v0 ++ cur.toList.drop (o + n * k)).toArray) := by
  obtain ⟨i0, hi, hz0, _, _⟩ := info_parts hzv
  have hz : (Builtin.zeroCells zv.cells n).toList = List.replicate (n * k) v0 := by
    rw [hzc]
    refine List.eq_replicate_iff.2 ⟨by simp [Builtin.zeroCells], fun b hb => ?_⟩
    simp [Builtin.zeroCells] at hb
    obtain ⟨i, hi, rfl⟩ := hb
    have hlt : i % k < k := Nat.mod_lt _ h0
    simp [hlt]
  have hst := run_storeCells_at P g o t (List.replicate (n * k) v0) 0 cur w hg (by simpa using hfit) (fun v hv => by rw [List.eq_of_mem_replicate hv]; exact h1)
  obtain ⟨m, rfl⟩ : ∃ m, n = m + 1 := ⟨n - 1, by omega⟩
  simp [Builtin.clear_, run_underlying hu, zeroValue, typeInfo, hi, hz0, hz, hst]
/-- 'clear(out[n:])', out the call's own: what it leaves. -/
theorem clear_own (E : IsElem P t e size bytes enc) (z0 : α) {zv : Value} (hzv : (P.info? e).map (fun i => (i.zero, i.size, i.bytes)) = some (some zv, size, bytes)) (v0 : Value) (hzc : zv.cells = Array.replicate size v0) (hze : enc z0 = List.replicate size v0) (h1 : v0.oneCell' = true)
    {w : World} {base : Nat} {g N cap n : Nat} {us : List α} (ty : TypeId) (hown : OwnG enc e size base w (.slice (some ⟨g, 0, none⟩) N cap) us) (hN : N = us.length) (hn : n < us.length) :
    ∃ w', (Builtin.clear_ #[t] ty #[.slice (some ⟨g, n * size, none⟩) (N - n) (cap - n)]).run P w = .ok (.tuple #[]) w' ∧ OwnG enc e size base w' (.slice (some ⟨g, 0, none⟩) N cap) (us.take n ++ List.replicate (us.length - n) z0) ∧ Below base w w' ∧ (∀ k, k ≠ g → w'.heap[k]? = w.heap[k]?) := by
  obtain ⟨g', cap', cur, hv, hg, hh, hcn, hm, hcs, ht⟩ := hown.form (by omega)
  cases hv
  have hfit : n * size + (us.length - n) * size ≤ cur.size := by
    rw [hcs, ← Nat.add_mul]
    exact Nat.mul_le_mul_right _ (by omega)
  have hrun := run_clearK (P := P) w t ty e size g (n * size) (us.length - n) (cap - n) cur e v0 zv bytes E.ht hzv hzc E.pos (by omega) hh hfit h1
  refine ⟨_, hrun, ⟨⟨?_, .inr ⟨g, cap, _, ?_, hg, setRow_heap _ _ _ _ _ _ hh, ?_, hm, ?_, ?_⟩⟩, hown.2⟩, below_setRow (Below.refl _ _) hg _, ?_⟩
  · rw [cellsOf_length E.len]
  · congr 1; simp; omega
  · simp; omega
  · simp; omega
  · have hcur : cur.toList.length = cap * size := by simpa using hcs
    have e1 : cur.toList.take (n * size) = cellsOf enc (us.take n) := by
      rw [cellsOf_take E.len us n (by omega), ← ht, List.take_take, Nat.min_eq_left (Nat.mul_le_mul_right _ (by omega))]
    have hlen2 : (us.take n ++ List.replicate (us.length - n) z0).length = us.length := by simp; omega
    rw [hlen2, cellsOf_append, ← e1, cells_rep E.len z0 v0 hze]
    have a1 : (cur.toList.take (n * size)).length = n * size := by
      rw [List.length_take, hcur]; exact Nat.min_eq_left (Nat.mul_le_mul_right _ (by omega))
    have b1 : n * size + (us.length - n) * size = us.length * size := by rw [← Nat.add_mul]; congr 1; omega
    dsimp only
    have a2 : (cur.toList.take (n * size) ++ List.replicate ((us.length - n) * size) v0).length = us.length * size := by rw [List.length_append, a1, List.length_replicate, b1]
    rw [take_app (by rw [a2]; exact Nat.le_refl _), a2, Nat.sub_self, List.take_zero, List.append_nil]
  · intro i hne
    exact setRow_other _ _ _ _ hne
end

/-- 'v[:hi]', the value written out. -/
theorem RdG.takeN {α : Type} {enc : α → List Value} {size : Nat} {w : World} {a : Option Addr} {n c : Nat} {xs : List α} (h : RdG enc size w (.slice a n c) xs) (hi : Nat) (h2 : hi ≤ xs.length) : RdG enc size w (.slice a hi c) (xs.take hi) := by
  obtain ⟨a', c', hv, h3, h4, h5, ⟨hp, hl⟩, h6⟩ := h
  cases hv
  refine ⟨a, c, by rw [List.length_take]; congr 1; omega, by rw [List.length_take]; omega, h4, fun ha => ?_, ⟨hp, hl⟩, fun x hx j u hu => ?_⟩
  · obtain ⟨rfl, rfl⟩ := h5 ha
    simp
  · refine h6 x hx j u ?_
    rw [cellsOf_take hl xs hi h2, List.getElem?_take] at hu
    split at hu
    · exact hu
    · cases hu
/-- 's[k:]' of the call's own list reads. -/
theorem cut_own {base : Nat} {w : World} {g cap : Nat} {us : List Ent} (h : OwnW base w (.slice (some ⟨g, 0, none⟩) us.length cap) us) (k : Nat) (hk : k < us.length) :
    RdW w (.slice (some ⟨g, k * 5, none⟩) (us.length - k) (cap - k)) (us.drop k) := by
  obtain ⟨g', cap', cur, hv, _, _, hcn, _⟩ := h.form (by omega)
  cases hv
  obtain ⟨v', h1, h2⟩ := h.rd.cutL wgtE k (by omega)
  have h3 := h1 w
  rw [run_cutL wgtE g us.length cap k (by omega) w, if_neg (by omega)] at h3
  injection h3 with h3
  rw [h3]; exact h2
theorem cSameB (s t v a n s' t' v' a' n' : Int) (w : World) : Calls Tryz.prog 52 #[wv s t v a n, wv s' t' v' a' n'] w fun e w' => e = .returned (.bool (s == s')) ∧ Below w.heap.size w w' := cSameServer s t v a n s' t' v' a' n' w

set_option maxRecDepth 100000 in
set_option maxHeartbeats 4000000 in
theorem cCompact (w : World) (base : Nat) (v : Value) (xs : List Ent) (h : OwnW base w v xs) (hbs : base ≤ w.heap.size) (hl : xs.length ≤ 1000000) :
    Calls Tryz.prog 51 #[v, .func (.func 52) #[] #[]] w fun e w' => ∃ v', e = .returned v' ∧ (∀ w'', Fr base w' w'' → RdW w'' v' (MM.cto xs xs.length)) ∧ Below base w w' ∧
      (∀ k, k < w.heap.size → v.ownBlock ≠ some k → w'.heap[k]? = w.heap[k]?) := by
  by_cases h2 : xs.length < 2
  · have hcto : MM.cto xs xs.length = xs := by rw [MM.cto_all (Nat.le_refl _) (fun j hj => MM.kp_lt_one xs j (by omega)), List.take_length]
    obtain ⟨ad, c, rfl, hc, _⟩ := h.rd.shape
    have HH := Lib.hid h
    have HC := Lib.hid hcto
    have hq : (xs.length : Int) < 2 := by omega
    clear h hcto
    go_enter Tryz.func51, Tryz.ntmps51
    go_wp2
    go_ret
    exact ⟨_, rfl, fun w'' hf => by rw [HC.out]; exact (HH.out.fr hf).rd, Below.refl _ _, fun _ _ _ => rfl⟩
  · obtain ⟨g, cap, cur, rfl, hg, hh, hn, hm, hs, ht⟩ := h.form (by omega)
    have hgs : g < w.heap.size := (Array.getElem?_eq_some_iff.1 hh).1
    have HH := Lib.hid h
    have HL := Lib.hid hl
    have HG := Lib.hid hg
    have HGS := Lib.hid hgs
    have HB := Lib.hid hbs
    have HN := Lib.hid hn
    have hq2 : ¬ (xs.length : Int) < 2 := by omega
    have HC0 := Lib.hid (show ∀ j, j < 0 + 1 → MM.kp xs j = true from fun j hj => MM.kp_lt_one xs j (by omega))
    have HN2 := Lib.hid (show 2 ≤ xs.length by omega)
    clear h hl hg hh hm hs ht hgs hbs hn h2
    go_enter Tryz.func51, Tryz.ntmps51
    go_wp2
    go_loopw [5] (fun i wr => ∃ k : Nat, k + 1 ≤ xs.length ∧ i = .int .i64 ((k : Int) + 1) ∧ Hid (Below w.heap.size w wr) ∧ Hid (∀ j, j < k + 1 → MM.kp xs j = true)) (fun i _ => xs.length - (intOf i).toNat)
    case atStart => exact ⟨0, by have := HN2.out; omega, rfl, Lib.hid (Below.refl _ _), HC0⟩
    case round =>
      obtain ⟨k, hk, rfl, hbl, hall⟩ := hrel
      clear HC0
      by_cases hlt : k + 1 < xs.length
      · have HO := Lib.hid (HH.out.below hbl.out)
        obtain ⟨⟨x1, x2, x3, x4, x5⟩, hx⟩ : ∃ x : Ent, xs[k]? = some x := ⟨_, List.getElem?_eq_getElem (by omega)⟩
        obtain ⟨⟨y1, y2, y3, y4, y5⟩, hy⟩ : ∃ y : Ent, xs[k + 1]? = some y := ⟨_, List.getElem?_eq_getElem (by omega)⟩
        obtain ⟨b, o, hi, hb, c0, c1, c2, c3, c4⟩ := atW HO.out.rd k _ _ _ _ _ hx
        obtain ⟨b2, o2, hi2, hb2, d0, d1, d2, d3, d4⟩ := atW HO.out.rd (k + 1) _ _ _ _ _ hy
        rw [show ((k + 1 : Nat) : Int) = (k : Int) + 1 by omega] at hi2
        have hq : (k : Int) + 1 < (xs.length : Int) := by omega
        have hkb : (k : Int) ≤ 1000000 := by have := HL.out; omega
        have hz : (k : Int) + 1 - 1 = (k : Int) := by omega
        have k0 := fun p : Later wr => below_cell p.h c0
        have k1 := fun p : Later wr => below_cell p.h c1
        have k2 := fun p : Later wr => below_cell p.h c2
        have k3 := fun p : Later wr => below_cell p.h c3
        have k4 := fun p : Later wr => below_cell p.h c4
        have j0 := fun p : Later wr => below_cell p.h d0
        have j1 := fun p : Later wr => below_cell p.h d1
        have j2 := fun p : Later wr => below_cell p.h d2
        have j3 := fun p : Later wr => below_cell p.h d3
        have j4 := fun p : Later wr => below_cell p.h d4
        have hC := fun p : Later wr => Calls.later (cSameB y1 y2 y3 y4 y5 x1 x2 x3 x4 x5 p.val)
        have HXY := Lib.hid (And.intro hx hy)
        have hw1 : wrap64 (k : Int) = (k : Int) := by have := HL.out; unfold wrap64; omega
        clear hx hy c0 c1 c2 c3 c4 d0 d1 d2 d3 d4 hb hb2
        by_cases hxy : y1 = x1
        · rw [show (y1 == x1) = true by rw [hxy]; simp] at hC
          have HC := Lib.hid hC
          have HD := Lib.hid (show MM.kp xs (k + 1) = false from MM.kp_neg (by omega) HXY.out.2 (by rw [Nat.add_sub_cancel]; exact HXY.out.1) hxy)
          clear hC hxy
          go_wp2
          refine wp_region_later (by kernel_rfl) (by kernel_rfl) ?_
          repeat (go_big_quiet_step (first | (with_reducible exact HC.out _)))
          refine wpQuiet_nil ?_
          rintro _ ⟨p', rfl⟩
          have HB2 := Lib.hid (bnext hbl.out p'.h)
          have HO2 := Lib.hid (HO.out.below p'.h)
          generalize p'.val = w2 at HB2 HO2 ⊢
          obtain ⟨o3, ho3⟩ : ∃ o3, o3 = (k + 1) * 5 := ⟨_, rfl⟩
          obtain ⟨L3, hL3⟩ : ∃ L3, L3 = xs.length - (k + 1) := ⟨_, rfl⟩
          obtain ⟨C3, hC3⟩ : ∃ C3, C3 = cap - (k + 1) := ⟨_, rfl⟩
          have hcut : ∀ w0 : World, (Instr.slice 35 (.slice (some ⟨g, 0, none⟩) xs.length cap) (some (.int .i64 ((k : Int) + 1))) none none).run Tryz.prog w0 = .ok (.slice (some ⟨g, o3, none⟩) L3 C3) w0 := by
            intro w0
            have := run_cutL wgtE g xs.length cap (k + 1) (by omega) w0
            rw [if_neg (by have := HN.out; omega), ← ho3, ← hL3, ← hC3, show ((k + 1 : Nat) : Int) = (k : Int) + 1 by omega] at this
            exact this
          have HO3 := Lib.hid ho3
          have HL3 := Lib.hid hL3
          have HC3 := Lib.hid hC3
          have HST := Lib.hid (MM.CInv.start (by omega) hall.out HD.out)
          clear ho3 hL3 hC3 HC HD hall HO HXY hi hi2 hbl k0 k1 k2 k3 k4 j0 j1 j2 j3 j4 hw1 hz
          go_wp2
          go_loopw [5, 7] (fun i j wr => ∃ (kk q : Nat) (us : List Ent), i = .int .i64 kk ∧ j = .int .i64 ((q : Int) + 1) ∧ q + 1 ≤ L3 ∧ Hid (MM.CInv xs us (k + 1 + (q + 1)) kk) ∧ Hid (OwnW base wr (.slice (some ⟨g, 0, none⟩) xs.length cap) us) ∧ Hid (Below base w wr) ∧ Hid (∀ k, k < w.heap.size → k ≠ g → wr.heap[k]? = w.heap[k]?)) (fun _ j _ => L3 - (intOf j).toNat)
          case atStart => exact ⟨k + 1, 0, xs, vint (by omega), rfl, by have := HL3.out; omega, HST, HO2, Lib.hid (HB2.out.mono HB.out), Lib.hid (fun k hk _ => HB2.out.block k hk)⟩
          case round =>
            obtain ⟨kk, q, us, rfl, rfl, hqL, hinv, how, hbw, hot⟩ := hrel
            clear HST HO2 HB2
            have hus := hinv.out.size
            have HUS := Lib.hid hus
            have hkl := hinv.out.lt
            by_cases hlt2 : q + 1 < L3
            · have hm : k + 1 + (q + 1) < xs.length := by have := HL3.out; omega
              obtain ⟨⟨x1, x2, x3, x4, x5⟩, hx⟩ : ∃ x : Ent, xs[k + 1 + q]? = some x := ⟨_, List.getElem?_eq_getElem (by omega)⟩
              obtain ⟨⟨y1, y2, y3, y4, y5⟩, hy⟩ : ∃ y : Ent, xs[k + 1 + (q + 1)]? = some y := ⟨_, List.getElem?_eq_getElem (by omega)⟩
              have hcr : RdW wr (.slice (some ⟨g, o3, none⟩) L3 C3) (us.drop (k + 1)) := by
                have hw := how.out
                rw [← hus] at hw
                have := cut_own hw (k + 1) (by omega)
                rw [HO3.out, HL3.out, HC3.out, ← hus]
                exact this
              obtain ⟨b, o, hi, hb, c0, c1, c2, c3, c4⟩ := atW hcr q x1 x2 x3 x4 x5 (by rw [List.getElem?_drop, hinv.out.high _ (by omega)]; exact hx)
              obtain ⟨b2, o2, hi2, hb2, d0, d1, d2, d3, d4⟩ := atW hcr (q + 1) y1 y2 y3 y4 y5 (by rw [List.getElem?_drop, hinv.out.high _ (by omega)]; exact hy)
              rw [show ((q + 1 : Nat) : Int) = (q : Int) + 1 by omega] at hi2
              have hq : (q : Int) + 1 < (L3 : Int) := by omega
              have hqb : (q : Int) ≤ 1000000 := by have := HL.out; have := HL3.out; omega
              have hkkb : (kk : Int) ≤ 1000000 := by have := HL.out; omega
              have hz : (q : Int) + 1 - 1 = (q : Int) := by omega
              have k0 := fun p : Later wr => below_cell p.h c0
              have k1 := fun p : Later wr => below_cell p.h c1
              have k2 := fun p : Later wr => below_cell p.h c2
              have k3 := fun p : Later wr => below_cell p.h c3
              have k4 := fun p : Later wr => below_cell p.h c4
              have j0 := fun p : Later wr => below_cell p.h d0
              have j1 := fun p : Later wr => below_cell p.h d1
              have j2 := fun p : Later wr => below_cell p.h d2
              have j3 := fun p : Later wr => below_cell p.h d3
              have j4 := fun p : Later wr => below_cell p.h d4
              have hC := fun p : Later wr => Calls.later (cSameB y1 y2 y3 y4 y5 x1 x2 x3 x4 x5 p.val)
              have HXY := Lib.hid (And.intro hx hy)
              have HDD := Lib.hid (And.intro d0 (And.intro d1 (And.intro d2 (And.intro d3 d4))))
              have hw1 : wrap64 (q : Int) = (q : Int) := by have := HL.out; have := HL3.out; unfold wrap64; omega
              have HBS := Lib.hid (show base ≤ wr.heap.size from Nat.le_trans HB.out hbw.out.size)
              clear hx hy c0 c1 c2 c3 c4 d0 d1 d2 d3 d4 hb hb2 hcr hus
              by_cases hxy : y1 = x1
              · rw [show (y1 == x1) = true by rw [hxy]; simp] at hC
                have HC := Lib.hid hC
                have HD := Lib.hid (show MM.kp xs (k + 1 + (q + 1)) = false from MM.kp_neg (by omega) HXY.out.2 (by rw [show k + 1 + (q + 1) - 1 = k + 1 + q by omega]; exact HXY.out.1) hxy)
                clear hC hxy
                go_wp2
                refine wp_region_later (by kernel_rfl) (by kernel_rfl) ?_
                repeat (go_big_quiet_step (first | (with_reducible exact HC.out _)))
                refine wpQuiet_nil ?_
                rintro _ ⟨p', rfl⟩
                have hB2 := Lib.hid (hbw.out.trans (p'.h.mono HBS.out))
                have hO2 := Lib.hid (how.out.below p'.h)
                have hT2 := Lib.hid (show ∀ k, k < w.heap.size → k ≠ g → p'.val.heap[k]? = w.heap[k]? from fun k hk hne => (p'.h.block k (Nat.lt_of_lt_of_le hk hbw.out.size)).trans (hot.out k hk hne))
                generalize p'.val = w3 at hB2 hO2 hT2 ⊢
                have HI2 := Lib.hid (hinv.out.skip HD.out)
                clear HC HD how hbw hot hinv k0 k1 k2 k3 k4 j0 j1 j2 j3 j4 hw1 hz hi hi2 HXY HDD HBS hkl HUS
                go_wp2
                go_roundw
                case rel => exact ⟨kk, q + 1, us, rfl, by go_num, by omega, HI2, hO2, hB2, hT2⟩
                case measure => simp [intOf]; omega
              · rw [show (y1 == x1) = false by simpa using hxy] at hC
                have HC := Lib.hid hC
                have HD := Lib.hid (show MM.kp xs (k + 1 + (q + 1)) = true from MM.kp_pos HXY.out.2 (by rw [show k + 1 + (q + 1) - 1 = k + 1 + q by omega]; exact HXY.out.1) hxy)
                clear hC hxy
                go_wp2
                refine wp_region_later (by kernel_rfl) (by kernel_rfl) ?_
                repeat (go_big_quiet_step (first | (with_reducible exact HC.out _)))
                refine wpQuiet_nil ?_
                rintro _ ⟨p', rfl⟩
                have hB2 := Lib.hid (hbw.out.trans (p'.h.mono HBS.out))
                have hO2 := Lib.hid (how.out.below p'.h)
                have hT2 := Lib.hid (show ∀ k, k < w.heap.size → k ≠ g → p'.val.heap[k]? = w.heap[k]? from fun k hk hne => (p'.h.block k (Nat.lt_of_lt_of_le hk hbw.out.size)).trans (hot.out k hk hne))
                obtain ⟨dd0, dd1, dd2, dd3, dd4⟩ := HDD.out
                have d0 := below_cell p'.h dd0
                have d1 := below_cell p'.h dd1
                have d2 := below_cell p'.h dd2
                have d3 := below_cell p'.h dd3
                have d4 := below_cell p'.h dd4
                generalize p'.val = w3 at hB2 hO2 hT2 d0 d1 d2 d3 d4 ⊢
                have hklt : kk < us.length := by have := HUS.out; omega
                obtain ⟨⟨z1, z2, z3, z4, z5⟩, hzz⟩ : ∃ z : Ent, us[kk]? = some z := ⟨_, List.getElem?_eq_getElem hklt⟩
                obtain ⟨g', cap', hv', hiu', -, -, hcl⟩ := own_at wgtE hO2.out hzz
                rw [HUS.out] at hv' hiu'
                cases hv'
                obtain ⟨ok, hok⟩ : ∃ ok, ok = kk * 5 := ⟨_, rfl⟩
                rw [← hok] at hiu' hcl
                obtain ⟨s0, t0⟩ := hcl 0 _ rfl
                obtain ⟨s1, t1⟩ := hcl 1 _ rfl
                obtain ⟨s2, t2⟩ := hcl 2 _ rfl
                obtain ⟨s3, t3⟩ := hcl 3 _ rfl
                obtain ⟨s4, t4⟩ := hcl 4 _ rfl
                rw [Nat.add_zero] at s0 t0
                have hput := own_put5 hO2.out hzz y1 y2 y3 y4 y5 ok hok
                have hI2 := hinv.out.keep HXY.out.2 HD.out
                have HI2 := Lib.hid hI2
                have HP1 := Lib.hid hput.1
                have HP2 := Lib.hid (hB2.out.trans hput.2.1)
                have HPO := Lib.hid hT2
                clear hI2 hput hcl HC HD how hbw hot hinv k0 k1 k2 k3 k4 j0 j1 j2 j3 j4 hw1 hz hi HXY HDD dd0 dd1 dd2 dd3 dd4 HBS hkl HUS hok hzz hB2 hO2 hT2
                go_wp2
                go_roundw
                case rel =>
                  refine ⟨kk + 1, q + 1, _, by go_num, by go_num, by omega, HI2, HP1, HP2, Lib.hid (fun k hk hne => ?_)⟩
                  rw [heap_setCell_other _ _ _ _ hne, heap_setCell_other _ _ _ _ hne, heap_setCell_other _ _ _ _ hne, heap_setCell_other _ _ _ _ hne, heap_setCell_other _ _ _ _ hne]
                  exact HPO.out k hk hne
                case measure => simp [intOf]; omega
            · have hq : ¬ ((q : Int) + 1 < (L3 : Int)) := by omega
              have hend : k + 1 + (q + 1) = xs.length := by have := HL3.out; omega
              obtain ⟨dv, hdv⟩ : ∃ dv : Value, dv = .slice (some ⟨g, kk * 5, none⟩) (xs.length - kk) (cap - kk) := ⟨_, rfl⟩
              have hcut2 : ∀ w0 : World, (Instr.slice 35 (.slice (some ⟨g, 0, none⟩) xs.length cap) (some (.int .i64 (kk : Int))) none none).run Tryz.prog w0 = .ok dv w0 := by
                intro w0
                have := run_cutL wgtE g xs.length cap kk (by omega) w0
                rw [if_neg (by have := HN.out; omega), ← hdv] at this
                exact this
              have HDV := Lib.hid hdv
              have HKL := Lib.hid (show kk < us.length by omega)
              have HLW := Lib.hid (show MM.cto xs xs.length = us.take kk by rw [← hend]; exact hinv.out.low.symm)
              have HLN := Lib.hid (show kk ≤ xs.length by omega)
              clear hdv hcut hend hkl hinv hus hlt2
              obtain ⟨w4, hrun, ho4, hb4, hoth⟩ := clear_own wgtE MM.z0 (zv := .agg #[.int .i64 0, .int .i64 0, .int .i64 0, .int .i64 0, .int .i64 0]) (by kernel_rfl) (.int .i64 0) rfl rfl rfl 0 how.out HUS.out.symm HKL.out
              rw [← HDV.out] at hrun
              have hkc : kk ≤ cap := by have := HN.out; have := HLN.out; omega
              have hkc2 : (kk : Int) ≤ (cap : Int) := by omega
              have HO4 := Lib.hid ho4
              have HB4 := Lib.hid (hbw.out.trans hb4)
              have HT4 := Lib.hid (show ∀ k, k < w.heap.size → k ≠ g → w4.heap[k]? = w.heap[k]? from fun k hk hne => (hoth k hne).trans (hot.out k hk hne))
              clear ho4 hb4 hoth how hbw hot
              go_wp2
              go_ret
              refine ⟨_, rfl, fun w'' hf => ?_, HB4.out, fun k hk hne => HT4.out k hk (fun he => hne (by rw [he]; rfl))⟩
              have hr6 := (HO4.out.fr hf).rd.takeN kk (by have := HKL.out; simp; omega)
              rw [List.take_append_of_le_length (by rw [List.length_take]; have := HKL.out; omega), List.take_take, Nat.min_self] at hr6
              rw [HLW.out]
              exact hr6
        · rw [show (y1 == x1) = false by simpa using hxy] at hC
          have HC := Lib.hid hC
          have HD := Lib.hid (show ∀ j, j < k + 1 + 1 → MM.kp xs j = true from fun j hj => by
            by_cases e : j = k + 1
            · rw [e]; exact MM.kp_pos HXY.out.2 (by rw [Nat.add_sub_cancel]; exact HXY.out.1) hxy
            · exact hall.out j (by omega))
          clear hC hxy
          go_wp2
          refine wp_region_later (by kernel_rfl) (by kernel_rfl) ?_
          repeat (go_big_quiet_step (first | (with_reducible exact HC.out _)))
          refine wpQuiet_nil ?_
          rintro _ ⟨p', rfl⟩
          have HB2 := Lib.hid (bnext hbl.out p'.h)
          generalize p'.val = w2 at HB2 ⊢
          clear HC hall HO HXY hi hi2 hbl k0 k1 k2 k3 k4 j0 j1 j2 j3 j4 hw1 hz
          go_wp2
          go_roundw
          case rel => exact ⟨k + 1, by omega, by go_num, HB2, HD⟩
          case measure => simp [intOf]; omega
      · have hq : ¬ ((k : Int) + 1 < (xs.length : Int)) := by omega
        have HCT := Lib.hid (show MM.cto xs xs.length = xs by rw [MM.cto_all (Nat.le_refl _) (fun j hj => hall.out j (by omega)), List.take_length])
        clear hall
        go_wp2
        go_ret
        exact ⟨_, rfl, fun w'' hf => by rw [HCT.out]; exact ((HH.out.below hbl.out).fr hf).rd, hbl.out.mono HB.out, fun k hk _ => hbl.out.block k hk⟩

end Go.Proofs.YtkaafbdhgekeeaaGreat
