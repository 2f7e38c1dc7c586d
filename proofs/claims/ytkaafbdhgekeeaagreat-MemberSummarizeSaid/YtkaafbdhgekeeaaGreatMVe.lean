/-
  The calls of Validate, the program's and the reference's: each returns the error that the plain mathematics says. No conditions beyond that the summary reads.
-/
import Derived.Test.YtkaafbdhgekeeaaGreatMVd
import Derived.Deep.RegionHeld3
namespace Go.Proofs.YtkaafbdhgekeeaaGreat
open Go.RowKit
open MM (Mem Ent Sm Tri)

/-- The server ahead of place k. -/
def prevW (xs : List Ent) (k : Nat) : Int := if k = 0 then 0 else (xs.getD (k - 1) (0, 0, 0, 0, 0)).1
theorem prevW_succ {xs : List Ent} {k : Nat} {m : Ent} (h : xs[k]? = some m) : prevW xs (k + 1) = m.1 := by simp [prevW, List.getD, h]
theorem errW_cons (p : Int) (e : Ent) (l : List Ent) : MM.errW p (e :: l) = if MM.offW e = true then 9 else if e.1 ≤ p then 7 else MM.errW e.1 l := rfl

set_option maxRecDepth 100000 in
set_option maxHeartbeats 4000000 in
theorem cValWeights (v : Value) (ws : List Ent) (w : World) (h : RdW w v ws) :
    Calls Tryz.prog 42 #[v] w fun e w' => e = .returned (.int .i64 (MM.errW 0 ws)) ∧ Below w.heap.size w w' := by
  obtain ⟨ad, cp, rfl, hcp, hl⟩ := h.shape
  have H := Lib.hid h
  clear h
  obtain ⟨R, hR⟩ : ∃ R, R = MM.errW 0 ws := ⟨_, rfl⟩
  rw [← hR]
  have HR := Lib.hid (show R = MM.errW (prevW ws 0) (ws.drop 0) from hR)
  clear hR
  go_enter Tryz.func42, Tryz.ntmps42
  go_wp2
  go_loopw [3, 8] (fun p i wr => ∃ j : Nat, j ≤ ws.length ∧ p = .int .i64 (prevW ws j) ∧ i = .int .i64 j ∧ Below w.heap.size w wr ∧ Hid (R = MM.errW (prevW ws j) (ws.drop j))) (fun _ i _ => ws.length - (intOf i).toNat)
  case atStart => exact ⟨0, Nat.zero_le _, rfl, rfl, Below.refl _ _, HR⟩
  case round =>
    obtain ⟨j, hj, rfl, rfl, hbl, he⟩ := hrel
    clear HR
    by_cases hlt : j < ws.length
    · obtain ⟨⟨x, t, v, a, n⟩, hx⟩ : ∃ e, e = ws[j] := ⟨_, rfl⟩
      obtain ⟨b, o, hi, hb, c0, c1, c2, c3, c4⟩ := atW (H.out.below hbl) j x t v a n (by rw [hx]; exact List.getElem?_eq_getElem hlt)
      have hq : (j : Int) < (ws.length : Int) := by omega
      have hd := Lib.hid (show ws.drop j = (x, t, v, a, n) :: ws.drop (j + 1) by rw [drop_get hlt, hx])
      have hp := Lib.hid (show prevW ws (j + 1) = x from prevW_succ (by rw [List.getElem?_eq_getElem hlt, ← hx]))
      have HY := Lib.hid (hbl.alloc hbl.size (.cells #[.int .i64 x, .int .i64 t, .int .i64 v, .int .i64 a, .int .i64 n] 62))
      have HS := Lib.hid (fun w => mIsServer x w)
      have HO := Lib.hid (fun w => cWeightOrigin x t v a n w)
      have HN := Lib.hid (fun w => cNeg v a n w)
      have e1 := Lib.hid (show R = if (!JM.isSrv x || decide (t < 1) || decide (9 < t) || MM.neg (v, a, n)) = true then 9 else if x ≤ prevW ws j then 7 else MM.errW (prevW ws (j + 1)) (ws.drop (j + 1)) by rw [he.out, hd.out, errW_cons, hp.out]; rfl)
      generalize prevW ws j = P at e1
      clear he hd hx
      generalize JM.isSrv x = sx at HS e1
      generalize MM.neg (v, a, n) = ng at HN e1
      have hfin9 : Hid (sx = false ∨ t < 1 ∨ 9 < t ∨ ng = true → R = 9) := by
        refine Lib.hid (fun h => ?_)
        rw [e1.out, if_pos]
        rcases h with h | h | h | h <;> simp [h]
      have hfin : Hid (sx = true → ¬ t < 1 → ¬ 9 < t → ng = false → R = if x ≤ P then 7 else MM.errW (prevW ws (j + 1)) (ws.drop (j + 1))) := by
        refine Lib.hid (fun h1 h2 h3 h4 => ?_)
        rw [e1.out, if_neg]
        simp [h1, h4]; omega
      clear e1
      cases sx
      · have e2 := Lib.hid (hfin9.out (.inl rfl))
        clear hfin hfin9
        go_wp2_with (go_at_call 72; refine (HS.out _).mono ?_; rintro e w2 ⟨rfl, rfl⟩)
        go_ret
        rw [e2.out]
        exact ⟨rfl, HY.out⟩
      by_cases ht : t < 1
      · have e2 := Lib.hid (hfin9.out (.inr (.inl ht)))
        clear hfin hfin9
        go_wp2_with (go_at_call 72; refine (HS.out _).mono ?_; rintro e w2 ⟨rfl, rfl⟩)
        go_ret
        rw [e2.out]
        exact ⟨rfl, HY.out⟩
      by_cases ht2 : 9 < t
      · have e2 := Lib.hid (hfin9.out (.inr (.inr (.inl ht2))))
        clear hfin hfin9
        go_wp2_with (go_at_call 72; refine (HS.out _).mono ?_; rintro e w2 ⟨rfl, rfl⟩)
        go_ret
        rw [e2.out]
        exact ⟨rfl, HY.out⟩
      have ht' : 1 ≤ t := by omega
      have ht2' : t ≤ 9 := by omega
      generalize hwn : wr.alloc (.cells #[.int .i64 x, .int .i64 t, .int .i64 v, .int .i64 a, .int .i64 n] 62) = wn at HY
      obtain ⟨x0, x1, x2, x3, x4⟩ : wn.cell? ⟨wr.heap.size, 0, none⟩ = some (.int .i64 x) ∧ wn.cell? ⟨wr.heap.size, 1, none⟩ = some (.int .i64 t) ∧ wn.cell? ⟨wr.heap.size, 2, none⟩ = some (.int .i64 v) ∧ wn.cell? ⟨wr.heap.size, 3, none⟩ = some (.int .i64 a) ∧ wn.cell? ⟨wr.heap.size, 4, none⟩ = some (.int .i64 n) := by
        rw [← hwn]; exact WBox.fresh wr _ x t v a n
      have HBX := Lib.hid x0
      cases ng
      · have e2 := Lib.hid (hfin.out rfl ht ht2 rfl)
        clear hfin hfin9 ht ht2
        by_cases hxp : x ≤ P
        · have e3 := Lib.hid (show R = 7 by rw [e2.out, if_pos hxp])
          clear e2
          go_wp2_with fail
          refine (HS.out _).mono ?_
          rintro e w2 ⟨rfl, rfl⟩
          go_wp2_with fail
          clear hwn x0 x1 x2 x3 x4
          refine (HO.out _).mono ?_
          rintro e w2 ⟨rfl, hb2⟩
          have HB2 := Lib.hid (bnext HY.out hb2)
          have hx2 := below_cell hb2 HBX.out
          clear hb2
          go_wp2_with fail
          refine (HN.out _).mono ?_
          rintro e w3 ⟨rfl, hb3⟩
          have HB3 := Lib.hid (bnext HB2.out hb3)
          have hx3 := below_cell hb3 hx2
          clear hb3
          go_wp2
          go_ret
          rw [e3.out]
          exact ⟨rfl, HB3.out⟩
        · have e3 := Lib.hid (show R = MM.errW (prevW ws (j + 1)) (ws.drop (j + 1)) by rw [e2.out, if_neg hxp])
          have hxp' : P < x := by omega
          clear e2
          go_wp2_with fail
          refine (HS.out _).mono ?_
          rintro e w2 ⟨rfl, rfl⟩
          go_wp2_with fail
          clear hwn x0 x1 x2 x3 x4
          refine (HO.out _).mono ?_
          rintro e w2 ⟨rfl, hb2⟩
          have HB2 := Lib.hid (bnext HY.out hb2)
          have hx2 := below_cell hb2 HBX.out
          clear hb2
          go_wp2_with fail
          refine (HN.out _).mono ?_
          rintro e w3 ⟨rfl, hb3⟩
          have HB3 := Lib.hid (bnext HB2.out hb3)
          have hx3 := below_cell hb3 hx2
          clear hb3
          go_wp2
          go_roundw
          case rel => exact ⟨j + 1, by omega, by rw [hp.out], by go_num, HB3.out, e3⟩
          case measure => simp [intOf]; omega
      · have e2 := Lib.hid (hfin9.out (.inr (.inr (.inr rfl))))
        clear hfin hfin9 ht ht2
        go_wp2_with fail
        refine (HS.out _).mono ?_
        rintro e w2 ⟨rfl, rfl⟩
        go_wp2_with fail
        clear hwn x0 x1 x2 x3 x4
        refine (HO.out _).mono ?_
        rintro e w2 ⟨rfl, hb2⟩
        have HB2 := Lib.hid (bnext HY.out hb2)
        clear hb2
        go_wp2_with fail
        refine (HN.out _).mono ?_
        rintro e w3 ⟨rfl, hb3⟩
        have HB3 := Lib.hid (bnext HB2.out hb3)
        clear hb3
        go_wp2
        go_ret
        rw [e2.out]
        exact ⟨rfl, HB3.out⟩
    · have hq : ¬ ((j : Int) < (ws.length : Int)) := by omega
      have e2 := Lib.hid (show R = 0 by rw [he.out, List.drop_of_length_le (by omega)]; rfl)
      clear he
      go_wp2
      go_ret
      rw [e2.out]
      exact ⟨rfl, hbl⟩

end Go.Proofs.YtkaafbdhgekeeaaGreat
