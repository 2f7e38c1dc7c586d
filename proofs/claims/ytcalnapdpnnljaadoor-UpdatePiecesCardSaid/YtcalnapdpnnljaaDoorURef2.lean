/-
  '!=' of two effects; the call of the reference's EqualUpdate. Conditions: the effects read.
-/
import Derived.ChangeKeysEq
import Derived.Test.YtcalnapdpnnljaaDoorUMath
namespace Go.Proofs.YtcalnapdpnnljaaDoor
open Go.RowKit
open UM (Ef)

theorem toList_inj {a b : ByteArray} : a.toList = b.toList ↔ a = b := by
  rw [ByteArray.toList_eq, ByteArray.toList_eq]
  constructor
  · intro h
    obtain ⟨⟨x⟩⟩ := a
    obtain ⟨⟨y⟩⟩ := b
    simp at h
    rw [h]
  · rintro rfl; rfl
theorem eq_ev (k : Int) (o f : ByteArray) (n : Int) (s : ByteArray) (k' : Int) (o' f' : ByteArray) (n' : Int) (s' : ByteArray) (w : World) :
    (Op.equalIn 10000 23 (ev k o f n s) (ev k' o' f' n' s')).run Tryd.prog w = .ok (decide ((k, o, f, n, s) = (k', o', f', n', s'))) w := by
  have u3 := Tryd.underlying3
  have a3 := Tryd.isAgg3
  have z3 := Tryd.sizeOf3
  have u4 := Tryd.underlying2
  have a4 := Tryd.isAgg2
  have z4 := Tryd.sizeOf2
  have u5 := Tryd.underlying9
  have a5 := Tryd.isAgg9
  have z5 := Tryd.sizeOf9
  have hS : Tryd.prog.underlying 23 = some (.struct (Tryd.prog.fieldsOf 23)) := by kernel_rfl
  have hp : Tryd.prog.stoodInHeld 23 = false := by kernel_rfl
  rw [show (10000 : Nat) = 9999 + 1 from rfl, run_equalIn_agg w 9999 23 _ _ hS hp]
  simp only [Program.fieldsOf, Tryd.underlying23]
  go_simp
  by_cases h1 : k = k' <;> by_cases h2 : o = o' <;> by_cases h3 : f = f' <;> by_cases h4 : n = n' <;> by_cases h5 : s = s' <;> simp [h1, h2, h3, h4, h5, toList_inj]
theorem neq_ev (k : Int) (o f : ByteArray) (n : Int) (s : ByteArray) (k' : Int) (o' f' : ByteArray) (n' : Int) (s' : ByteArray) (w : World) :
    (binOp .neq 23 (ev k o f n s) (ev k' o' f' n' s')).run Tryd.prog w = .ok (.bool (!decide ((k, o, f, n, s) = (k', o', f', n', s')))) w := by
  rw [run_neq_struct]
  rw [eq_ev]; rfl

namespace UM
def eqU (c q t : Int) (es : List Ef) (d r y : Int) (fs : List Ef) : Bool := decide (c = d ∧ q = r ∧ t = y ∧ es = fs)
end UM
theorem list_drop_eq {α : Type} {xs ys : List α} {k : Nat} {x y : α} (hx : xs.drop k = x :: xs.drop (k + 1)) (hy : ys.drop k = y :: ys.drop (k + 1)) : (xs.drop k = ys.drop k) = (x = y ∧ xs.drop (k + 1) = ys.drop (k + 1)) := by
  rw [hx, hy]; exact propext List.cons_eq_cons

set_option maxRecDepth 100000 in
set_option maxHeartbeats 4000000 in
theorem rEqU (c q t : Int) (u : Value) (es : List Ef) (d r y : Int) (v : Value) (fs : List Ef) (w : World) (hu : RdEf w u es) (hv : RdEf w v fs) :
    Calls Tryd.prog 23 #[uv c q t u, uv d r y v] w fun e w' => e = .returned (.bool (UM.eqU c q t es d r y fs)) ∧ Below w.heap.size w w' := by
  obtain ⟨a1, k1, rfl, hk1, _⟩ := hu.shape
  obtain ⟨a2, k2, rfl, hk2, _⟩ := hv.shape
  obtain ⟨R, hR⟩ : ∃ R, R = UM.eqU c q t es d r y fs := ⟨_, rfl⟩
  rw [← hR]
  unfold UM.eqU at hR
  have HE := Lib.hid hu
  have HF := Lib.hid hv
  have hl1 : es.length ≤ 9223372036854775807 := by omega
  have hl2 : fs.length ≤ 9223372036854775807 := by omega
  have hx := heap_alloc_new w (.cells #[.int .i64 c, .int .i64 q, .int .i64 t, .slice a1 es.length k1] 30)
  have hb := below_fresh w (.cells #[.int .i64 c, .int .i64 q, .int .i64 t, .slice a1 es.length k1] 30)
  have hy := heap_alloc_new (w.alloc (.cells #[.int .i64 c, .int .i64 q, .int .i64 t, .slice a1 es.length k1] 30)) (.cells #[.int .i64 d, .int .i64 r, .int .i64 y, .slice a2 fs.length k2] 30)
  have hb2 := below_fresh (w.alloc (.cells #[.int .i64 c, .int .i64 q, .int .i64 t, .slice a1 es.length k1] 30)) (.cells #[.int .i64 d, .int .i64 r, .int .i64 y, .slice a2 fs.length k2] 30)
  rw [World.size_alloc] at hy
  obtain ⟨w1, hw1⟩ : ∃ z, (w.alloc (.cells #[.int .i64 c, .int .i64 q, .int .i64 t, .slice a1 es.length k1] 30)).alloc (.cells #[.int .i64 d, .int .i64 r, .int .i64 y, .slice a2 fs.length k2] 30) = z := ⟨_, rfl⟩
  rw [hw1] at hy hb2
  have HW := Lib.hid hw1
  have HB := Lib.hid (bnext hb hb2)
  have HX := Lib.hid (below_block hx hb2)
  have HY := Lib.hid hy
  obtain ⟨c0, c1, c2, c3⟩ := ubox (below_block hx hb2)
  obtain ⟨d0, d1, d2, d3⟩ := ubox hy
  clear hw1 hb hb2 hx hy hu hv
  go_enter Tryd.func23, Tryd.ntmps23
  go_upto_region 1 with fail
  rw [HW.out]
  clear HW
  by_cases h1 : c = d
  case neg =>
    have g1 : (c != d) = true := bne_t h1
    have HR := Lib.hid (show R = false by rw [hR]; exact decide_eq_false (by intro h; exact h1 h.1))
    clear hR h1 HE HF
    go_wp2
    go_ret
    exact ⟨by rw [HR.out]; rfl, HB.out⟩
  by_cases h2 : q = r
  case neg =>
    have g1 : (c != d) = false := by simp [h1]
    have g2 : (q != r) = true := bne_t h2
    have HR := Lib.hid (show R = false by rw [hR]; exact decide_eq_false (by intro h; exact h2 h.2.1))
    clear hR h1 h2 HE HF
    go_wp2
    go_ret
    exact ⟨by rw [HR.out]; rfl, HB.out⟩
  by_cases h3 : t = y
  case neg =>
    have g1 : (c != d) = false := by simp [h1]
    have g2 : (q != r) = false := by simp [h2]
    have g3 : (t != y) = true := bne_t h3
    have HR := Lib.hid (show R = false by rw [hR]; exact decide_eq_false (by intro h; exact h3 h.2.2.1))
    clear hR h1 h2 h3 HE HF
    go_wp2
    go_ret
    exact ⟨by rw [HR.out]; rfl, HB.out⟩
  have g1 : (c != d) = false := by simp [h1]
  have g2 : (q != r) = false := by simp [h2]
  have g3 : (t != y) = false := by simp [h3]
  replace hR : R = decide (es = fs) := by rw [hR]; simp [h1, h2, h3]
  clear h1 h2 h3
  by_cases h4 : es.length = fs.length
  case neg =>
    have g4 : ((es.length : Int) != (fs.length : Int)) = true := bne_t (by omega)
    have HR := Lib.hid (show R = false by rw [hR]; exact decide_eq_false (by rintro rfl; exact h4 rfl))
    clear hR h4 HE HF
    go_wp2
    go_ret
    exact ⟨by rw [HR.out]; rfl, HB.out⟩
  have g4 : ((es.length : Int) != (fs.length : Int)) = false := by simp; omega
  have HR := Lib.hid hR
  have HL := Lib.hid h4
  clear hR h4
  go_wp2
  clear g1 g2 g3 g4 c0 c1 c2 c3 d0 d1 d2 d3
  go_loopw [5] (fun i wr => ∃ k : Nat, k ≤ es.length ∧ i = .int .i64 k ∧ Hid (R = decide (es.drop k = fs.drop k)) ∧ Hid (Below w1.heap.size w1 wr)) (fun i _ => es.length - (intOf i).toNat)
  case atStart => exact ⟨0, Nat.zero_le _, rfl, HR, Lib.hid (Below.refl _ _)⟩
  case round =>
    obtain ⟨k, hk, rfl, hc, hbw⟩ := hrel
    obtain ⟨c0, c1, c2, c3⟩ := ubox (below_block HX.out hbw.out)
    by_cases hlt : k < es.length
    · have hq : (k : Int) < (es.length : Int) := by omega
      have hlt2 : k < fs.length := by have := HL.out; omega
      have hq2 : (k : Int) < (fs.length : Int) := by omega
      have hat := List.getElem?_eq_getElem hlt
      have hat2 := List.getElem?_eq_getElem hlt2
      have hdx := drop_get hlt
      have hdy := drop_get hlt2
      generalize es[k] = e at hat hdx
      generalize fs[k] = f at hat2 hdy
      have HDX := Lib.hid (show R = decide (e = f ∧ es.drop (k + 1) = fs.drop (k + 1)) by rw [hc.out]; exact decide_eq_decide.2 (by rw [list_drop_eq hdx hdy]))
      obtain ⟨k', o', f', n', s'⟩ := e
      obtain ⟨k2', o2, f2, n2, s2⟩ := f
      have HBW := Lib.hid (bnext HB.out hbw.out)
      obtain ⟨b, p, hi, hbb, e0, e1, e2, e3, e4⟩ := atEf HE.out k _ _ _ _ _ hat
      obtain ⟨bb, pp, hi2, hbb2, f0, f1, f2', f3, f4⟩ := atEf HF.out k _ _ _ _ _ hat2
      have hneq := fun w => neq_ev k' o' f' n' s' k2' o2 f2 n2 s2 w
      obtain ⟨Z, hZ⟩ : ∃ Z : Bool, Z = decide ((k', o', f', n', s') = (k2', o2, f2, n2, s2)) := ⟨_, rfl⟩
      rw [← hZ] at hneq
      have hgm : Tryd.prog.eqGuardType Tryd.prog.depth 23 = false := by kernel_rfl
      have l0 : ∀ p' : Later wr, p'.val.cell? ⟨b, p, none⟩ = some (.int .i64 k') := fun p' => below_cell (bnext HBW.out p'.h) e0
      have l1 : ∀ p' : Later wr, p'.val.cell? ⟨b, p + 1, none⟩ = some (.string o') := fun p' => below_cell (bnext HBW.out p'.h) e1
      have l2 : ∀ p' : Later wr, p'.val.cell? ⟨b, p + 2, none⟩ = some (.string f') := fun p' => below_cell (bnext HBW.out p'.h) e2
      have l3 : ∀ p' : Later wr, p'.val.cell? ⟨b, p + 3, none⟩ = some (.int .i64 n') := fun p' => below_cell (bnext HBW.out p'.h) e3
      have l4 : ∀ p' : Later wr, p'.val.cell? ⟨b, p + 4, none⟩ = some (.string s') := fun p' => below_cell (bnext HBW.out p'.h) e4
      have r0 : ∀ p' : Later wr, p'.val.cell? ⟨bb, pp, none⟩ = some (.int .i64 k2') := fun p' => below_cell (bnext HBW.out p'.h) f0
      have r1 : ∀ p' : Later wr, p'.val.cell? ⟨bb, pp + 1, none⟩ = some (.string o2) := fun p' => below_cell (bnext HBW.out p'.h) f1
      have r2 : ∀ p' : Later wr, p'.val.cell? ⟨bb, pp + 2, none⟩ = some (.string f2) := fun p' => below_cell (bnext HBW.out p'.h) f2'
      have r3 : ∀ p' : Later wr, p'.val.cell? ⟨bb, pp + 3, none⟩ = some (.int .i64 n2) := fun p' => below_cell (bnext HBW.out p'.h) f3
      have r4 : ∀ p' : Later wr, p'.val.cell? ⟨bb, pp + 4, none⟩ = some (.string s2) := fun p' => below_cell (bnext HBW.out p'.h) f4
      have m3 : ∀ p' : Later wr, p'.val.cell? ⟨w.heap.size, 3, none⟩ = some (.slice a1 es.length k1) := fun p' => (ubox (below_block HX.out (bnext hbw.out p'.h))).2.2.2
      have m7 : ∀ p' : Later wr, p'.val.cell? ⟨w.heap.size + 1, 3, none⟩ = some (.slice a2 fs.length k2) := fun p' => (ubox (below_block HY.out (bnext hbw.out p'.h))).2.2.2
      clear hat hat2 hdx hdy hc e0 e1 e2 e3 e4 f0 f1 f2' f3 f4 hbb hbb2
      go_wp2
      refine wp_region_later (by kernel_rfl) (by kernel_rfl) ?_
      repeat (go_big_quiet_step (fail))
      refine wpQuiet_nil ?_
      rintro _ ⟨p', rfl⟩
      have hbx := Lib.hid (bnext hbw.out p'.h)
      have HZ := Lib.hid hZ
      clear l0 l1 l2 l3 l4 r0 r1 r2 r3 r4 m3 m7 HBW hZ hneq c0 c1 c2 c3
      generalize p'.val = wr2 at hbx ⊢
      clear hbw
      by_cases he : (k', o', f', n', s') = (k2', o2, f2, n2, s2)
      · have HR1 := Lib.hid (show R = decide (es.drop (k + 1) = fs.drop (k + 1)) by rw [HDX.out]; exact decide_eq_decide.2 ⟨fun h => h.2, fun h => ⟨he, h⟩⟩)
        clear HDX HZ
        simp only [Prod.mk.injEq] at he
        obtain ⟨rfl, rfl, rfl, rfl, rfl⟩ := he
        go_wp2
        go_roundw
        case rel => exact ⟨k + 1, by omega, by go_num, HR1, hbx⟩
        case measure => simp [intOf]; omega
      · have HR1 := Lib.hid (show R = false by rw [HDX.out]; exact decide_eq_false (by intro h; exact he h.1))
        clear HDX HZ
        simp only [Prod.mk.injEq] at he
        have HHe := Lib.hid he
        clear he
        go_wp2
        all_goals first | (exfalso; rename_i hh; simp at hh; exact HHe.out hh) | skip
        go_ret
        exact ⟨by rw [HR1.out]; rfl, bnext HB.out hbx.out⟩
    have hq : ¬ ((k : Int) < (es.length : Int)) := by omega
    have HR1 := Lib.hid (show R = true by rw [hc.out, List.drop_of_length_le (by omega), List.drop_of_length_le (by have := HL.out; omega)]; rfl)
    go_wp2
    go_ret
    exact ⟨by rw [HR1.out]; rfl, bnext HB.out hbw.out⟩

end Go.Proofs.YtcalnapdpnnljaaDoor
