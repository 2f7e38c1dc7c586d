/-
  The reference's Restrict: a result that is the call's own. Conditions: what comes in reads.
-/
import Derived.Test.YthfpafnljnnndaaGreatST2
import Derived.Test.YthfpafnljnnndaaGreatSKH
import Derived.Test.YthfpafnljnnndaaGreatSKG
namespace Go.Proofs.YthfpafnljnnndaaGreat
open Go.RowKit
open JM (Chg)
open CM (Fp)
open VM (Ent)

theorem OwnF.keep {w0 : World} {base : Nat} {e : TypeId} {w w' : World} {v : Value} {fs : List Fp} (h : OwnF w0 base w v fs) (hk : KeepsX e w w') (h1 : 70 ≠ e) : OwnF w0 base w' v fs := by
  obtain ⟨qs, g1, g2⟩ := h; exact ⟨qs, ownG_keep g1 hk h1, g2⟩

set_option maxRecDepth 100000 in
set_option maxHeartbeats 4000000 in
theorem rRestrictO (va vb : Value) (fs : List Fp) (vs : List Ent) (w0 w : World) (h : RdF w0 va fs) (hb0 : Below w0.heap.size w0 w) (hb : VX.RdV w vb vs) (hl : fs.length ≤ 1000) :
    Calls Tryz.prog 40 #[va, vb] w fun e w' => ∃ v', e = .returned v' ∧ OwnF w0 w.heap.size w' v' (CM.rs fs (VM.cnt vs)) ∧ Below w.heap.size w w' := by
  obtain ⟨ad, cp, rfl, hc, _⟩ := h.shape
  have H := Lib.hid h
  have HB0 := Lib.hid hb0
  have HL := Lib.hid hl
  have HG := Lib.hid (fun x w' (hh : Below w.heap.size w w') => VX.rCount vb vs x w' (hb.below hh))
  clear h hl hb hb0
  go_enter Tryz.func40, Tryz.ntmps40
  go_wp2
  go_loopw [5, 6] (fun u i wr => ∃ k : Nat, k ≤ fs.length ∧ i = .int .i64 k ∧ Hid (OwnF w0 w.heap.size wr u (CM.rs (fs.take k) (VM.cnt vs))) ∧ Hid (Below w.heap.size w wr)) (fun _ i _ => fs.length - (intOf i).toNat)
  case atStart => exact ⟨0, Nat.zero_le _, rfl, OwnF.nil _ _ _, Below.refl _ _⟩
  case round =>
    obtain ⟨k, hk, rfl, ho, hbl⟩ := hrel
    by_cases hlt : k < fs.length
    · have hq : (k : Int) < (fs.length : Int) := by omega
      have hk2 := List.getElem?_eq_getElem hlt
      generalize fs[k] = f at hk2
      have hnext := rs_snoc (fs.take k) f (VM.cnt vs)
      rw [← take_snocF hk2] at hnext
      obtain ⟨x, m, cs⟩ := f
      simp only at hnext
      obtain ⟨b, o, da, dl, dc, hi, hbw, c0, c1, c2, hrd⟩ := H.out.at_ k x m cs hk2
      have HT1 := Lib.hid (show Tell1 w0 (x, m, da, dl, dc) (x, m, cs) from ⟨rfl, rfl, hrd⟩)
      have c0 := below_cell (bnext HB0.out hbl.out) c0
      have c1 := below_cell (bnext HB0.out hbl.out) c1
      have c2 := below_cell (bnext HB0.out hbl.out) c2
      have hbw : b < wr.heap.size := Nat.lt_of_lt_of_le hbw (bnext HB0.out hbl.out).size
      obtain ⟨uq, hu1, hu2, hu3⟩ := ho.out.out
      have hlu : uq.length ≤ 1073741824 := by
        have h1 := CM.rs_len (fs.take k) (VM.cnt vs)
        rw [List.length_take] at h1
        have := HL.out
        omega
      have HTU := Lib.hid hu2
      have HBX := Lib.hid hbl.out
      have hG := fun p : Later wr => Calls.later_same (HG.out x p.val (bnext HBX.out p.h))
      generalize VM.cnt vs x = N at hnext hG
      have HGC := Lib.hid hG
      have k0 : ∀ p : Later wr, p.val.cell? ⟨b, o, none⟩ = some (.int .i64 x) := fun p => below_cell p.h c0
      have k1 : ∀ p : Later wr, p.val.cell? ⟨b, o + 1, none⟩ = some (.int .i64 m) := fun p => below_cell p.h c1
      have HNX := Lib.hid hnext
      clear hu2 hu3 hnext hG hk2 hrd ho hbl
      by_cases hm : m ≤ N
      · have HNX2 := Lib.hid (HNX.out.trans (by rw [if_pos hm]))
        clear HNX
        go_wp2
        refine wp_region_later (by kernel_rfl) (by kernel_rfl) ?_
        repeat (go_big_quiet_step (first | (go_at_call 29; with_reducible exact HGC.out _)))
        refine wpQuiet_nil ?_
        rintro _ ⟨p', rfl⟩
        have hh := p'.h
        obtain ⟨w2, hw2⟩ : ∃ w2, w2 = p'.val := ⟨_, rfl⟩
        rw [← hw2] at hh ⊢
        clear hw2 k0 k1 HGC
        have hu2 := hu1.below hh
        have HB2 := Lib.hid (bnext HBX.out hh)
        have c0 := below_cell hh c0
        have c1 := below_cell hh c1
        have c2 := below_cell hh c2
        have hbw : b < w2.heap.size := Nat.lt_of_lt_of_le hbw hh.size
        have hsz := HB2.out.size
        clear hu1 hh HBX
        go_wp2_with (at_builtin; refine wp_appG1' proE (x, m, da, dl, dc) _ rfl rfl _ _ rfl rfl hu2 rfl hlu hsz ?_)
        intro v3 w3 ho3 hb3 _
        have HO3 := Lib.hid (show OwnF w0 w.heap.size w3 v3 (CM.rs (fs.take (k + 1)) (VM.cnt vs)) by rw [HNX2.out]; exact OwnF.snoc ho3 HTU.out HT1.out)
        have HB3 := Lib.hid (HB2.out.trans hb3)
        clear ho3 hb3 hu2 HTU HT1 c0 c1 c2 HB2 hsz HNX2
        go_wp2
        go_roundw
        case rel => exact ⟨k + 1, by omega, by go_num, HO3, HB3⟩
        case measure => simp [intOf]; omega
      · have HNX2 := Lib.hid (HNX.out.trans (by rw [if_neg hm, List.append_nil]))
        have hm' : decide (m ≤ N) = false := decide_eq_false hm
        clear HNX
        go_wp2
        refine wp_region_later (by kernel_rfl) (by kernel_rfl) ?_
        repeat (go_big_quiet_step (first | (go_at_call 29; with_reducible exact HGC.out _)))
        refine wpQuiet_nil ?_
        rintro _ ⟨p', rfl⟩
        have HO3 := Lib.hid (show OwnF w0 w.heap.size p'.val _ (CM.rs (fs.take (k + 1)) (VM.cnt vs)) by rw [HNX2.out]; exact ⟨uq, hu1.below p'.h, HTU.out⟩)
        have HB3 := Lib.hid (bnext HBX.out p'.h)
        generalize p'.val = w3 at HO3 HB3 ⊢
        clear k0 k1 HGC HNX2 hu1 HTU HBX c0 c1 c2
        go_wp2
        go_roundw
        case rel => exact ⟨k + 1, by omega, by go_num, HO3, HB3⟩
        case measure => simp [intOf]; omega
    · have hq : ¬ ((k : Int) < (fs.length : Int)) := by omega
      obtain rfl : k = fs.length := by omega
      rw [List.take_length] at ho
      have HR3 := Lib.hid ho.out
      clear ho
      go_wp2
      go_ret
      exact ⟨_, rfl, HR3.out, hbl.out⟩

end Go.Proofs.YthfpafnljnnndaaGreat
