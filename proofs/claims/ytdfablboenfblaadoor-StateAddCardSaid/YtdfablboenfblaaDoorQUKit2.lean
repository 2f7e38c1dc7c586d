/-
  The call of the laws' own Update: a valid update. Conditions: the identifier is one of a client, the number from 1 to 8. (Written by mk_ukit2.py.)
-/
import Derived.Deep.RegionHeld3
import Derived.Deep.CutRange
import Derived.Test.YtdfablboenfblaaDoorQUKit
namespace Go.Proofs.YtdfablboenfblaaDoor
open Go.RowKit
open UM (Ef)

namespace UM
theorem errL_zero {es : List Ef} (h : ∀ e ∈ es, errE e = 0) : errL es = 0 := by
  induction es with
  | nil => rfl
  | cons e r ih =>
    rw [errL, if_neg (by rw [h e (List.mem_cons_self ..)]; simp)]
    exact ih fun x hx => h x (List.mem_cons_of_mem _ hx)
theorem errU_one {c q t : Int} {e : Ef} (hc : isCl c = true) (hq : 1 ≤ q ∧ q ≤ 8) (ht : 0 ≤ t ∧ t ≤ 1000) (he : errE e = 0) (h1 : e.1 = 1) : errU c q t [e] = 0 := by
  have hz : errL [e] = 0 := errL_zero (by intro x hx; rw [List.mem_singleton] at hx; subst hx; exact he)
  have hcm : com [e] = false := by simp [com, h1]
  unfold errU
  rw [hc, hcm, hz, if_neg (by simp; omega), if_neg (by simp), if_neg (by simp), if_neg (by simp), if_neg (by simp)]
theorem errU_more {c q : Int} {es : List Ef} (hc : isCl c = true) (hq : 1 ≤ q ∧ q ≤ 8) (h : ∀ e ∈ es, errE e = 0 ∧ in64 e ∧ e.1 ≠ 1) (h1 : 1 ≤ es.length) (h4 : es.length ≤ 4) : errU c q 0 es = 0 := by
  have hz : errL es = 0 := errL_zero fun e he => (h e he).1
  have hcm : com es = true := by
    unfold com
    rw [List.all_eq_true]
    exact fun e he => decide_eq_true (h e he).2.2
  unfold errU
  rw [hc, hcm, hz, if_neg (by simp; omega), if_neg (by rintro rfl; simp at h1), if_neg (by omega), if_neg (by simp), if_neg (by simp)]
end UM
theorem kupd_ret {R : Ending → World → Prop} {a : Act} {w : World} {g : Nat} {c q t : Int} {s : Value} (hp : a.tmps.getD 6 undef = .pointer (some ⟨g, 0, none⟩)) (hg : OU w g c q t s)
    (hd : a.defers = []) (hR : R (.returned (uv c q t s)) w) : bodyPost Tryd.prog Tryd.f57 R .ret a w :=
  bodyPost_ret (results_cell_row (P := Tryd.prog) rfl a.tmps w g 43 _ _ _ hp hg Tryd.underlying43 rfl (by kernel_rfl)) hd hR
theorem OU.put2 {w : World} {B : Nat} {c q t : Int} {s : Value} (h : OU w B c q t s) (t' : Int) : OU (w.setCell ⟨B, 2, none⟩ (.int .i64 t')) B c q t' s := heap_setCell_same w B 2 _ _ _ h

set_option maxRecDepth 100000 in
set_option maxHeartbeats 8000000 in
theorem kUpdate (c q n : Int) (w : World) (hc : UM.isCl c = true) (hq : 1 ≤ q ∧ q ≤ 8) :
    Calls Tryd.prog 57 #[.int .i64 c, .int .i64 q, .int .i64 n] w fun e w' => ∃ (t : Int) (sv : Value) (es : List Ef), e = .returned (uv c q t sv) ∧ OwnEf w.heap.size w' sv es ∧ UM.errU c q t es = 0 ∧ (∀ e ∈ es, UM.in64 e) ∧ Below w.heap.size w w' := by
  have b1 := below_fresh w (.cells #[.int .i64 0, .int .i64 0, .int .i64 0, .slice none 0 0] 43)
  have g1 := OU.fresh w 0 0 0 (.slice none 0 0)
  have z1 := World.size_alloc w (.cells #[.int .i64 0, .int .i64 0, .int .i64 0, .slice none 0 0] 43)
  obtain ⟨wp, hwp⟩ : ∃ z', w.alloc (.cells #[.int .i64 0, .int .i64 0, .int .i64 0, .slice none 0 0] 43) = z' := ⟨_, rfl⟩
  rw [hwp] at b1 g1 z1
  have b2 := below_fresh wp (.cells #[.int .i64 c, .int .i64 q, .int .i64 0, .slice none 0 0] 43)
  have x2 := OU.fresh wp c q 0 (.slice none 0 0)
  obtain ⟨w1, hw1⟩ : ∃ z', wp.alloc (.cells #[.int .i64 c, .int .i64 q, .int .i64 0, .slice none 0 0] 43) = z' := ⟨_, rfl⟩
  rw [hw1] at b2 x2
  rw [z1] at x2
  have HW := Lib.hid (show (w.alloc (.cells #[.int .i64 0, .int .i64 0, .int .i64 0, .slice none 0 0] 43)).alloc (.cells #[.int .i64 c, .int .i64 q, .int .i64 0, .slice none 0 0] 43) = w1 by rw [hwp, hw1])
  have HB := Lib.hid (bnext b1 b2)
  have HG := Lib.hid (g1.below b2)
  have HX := Lib.hid x2
  have HD8 := Lib.hid (fun w' => kDigit n 3 8 w' (by decide) (by decide) (by decide))
  have HD4 := Lib.hid (fun w' => kDigit n 16 4 w' (by decide) (by decide) (by decide))
  have HD9 := Lib.hid (fun w' => kDigit n 3 9 w' (by decide) (by decide) (by decide))
  have HI := Lib.hid (fun w' => kIndex n 1099511627776 w' (by decide) (by decide))
  have hi := ix_range (n := n) (show (1 : Int) ≤ 1099511627776 by decide)
  have HIX := Lib.hid hi
  have HET := Lib.hid (fun w' => kEffect n true w')
  have hok := UM.efK_ok n true
  have ht := dg_lt n 4 (show 0 < 16 by decide)
  have h9 := dg_lt n 9 (show 0 < 3 by decide)
  clear b1 g1 z1 hwp b2 x2 hw1 hi
  generalize dg n 3 8 = d8 at HD8
  generalize dg n 16 4 = d4 at HD4 ht
  generalize dg n 3 9 = d9 at HD9 h9
  generalize UM.efK n true = X at HET hok
  obtain ⟨k', o', f', n', s'⟩ := X
  have HC := Lib.hid hc
  have HQ := Lib.hid hq
  clear hc hq
  go_enter Tryd.func57, Tryd.ntmps57
  go_upto_region 2 with fail
  rw [HW.out]
  clear HW
  obtain ⟨p, hp⟩ : ∃ p, p = w.heap.size + 1 := ⟨_, rfl⟩
  rw [← hp] at HX ⊢
  have hpg : w.heap.size < p := by omega
  clear hp
  go_wp2_with fail
  refine (HD8.out _).mono ?_
  rintro e w2 ⟨rfl, rfl⟩
  clear HD8
  by_cases h8 : d8 = 0
  · subst h8
    obtain ⟨x0, x1, x2, x3, y0, y1, y2, y3⟩ := HX.out.cells
    have HOK := Lib.hid hok
    clear hok HI HIX HD9
    go_wp2_with fail
    refine (HD4.out _).mono ?_
    rintro e w2 ⟨rfl, rfl⟩
    go_upto_region 4 with fail
    have hon : Only p w1 (w1.setCell ⟨p, 2, none⟩ (.int .i64 (d4 : Int))) := Only.set 2 _
    have HX2 := Lib.hid (HX.out.put2 (d4 : Int))
    have HG2 := Lib.hid (HG.out.only hon (by omega))
    have HB2 := Lib.hid (seen HB.out (by omega) hon)
    clear hon HX HG HB x0 x1 x2 x3 y0 y1 y2 y3
    generalize w1.setCell ⟨p, 2, none⟩ (.int .i64 (d4 : Int)) = w2 at HX2 HG2 HB2 ⊢
    go_wp2_with fail
    refine (HET.out _).mono ?_
    rintro e w3 ⟨rfl, hb3⟩
    have f4 := below_fresh w3 (.cells #[.int .i64 k', .string o', .string f', .int .i64 n', .string s'] 62)
    have hof := ownG_fresh hlEf 62 w3 [(k', o', f', n', s')] (by simp [maxLen])
    have hof : OwnEf w3.heap.size (w3.alloc (.cells #[.int .i64 k', .string o', .string f', .int .i64 n', .string s'] 62)) (.slice (some ⟨w3.heap.size, 0, none⟩) 1 1) [(k', o', f', n', s')] := hof
    have hb34 := bnext hb3 f4
    have HB4 := Lib.hid (bnext HB2.out hb34)
    have HX4 := Lib.hid (HX2.out.below hb34)
    have HG4 := Lib.hid (HG2.out.below hb34)
    have HO4 := Lib.hid (hof.mono (show w.heap.size ≤ w3.heap.size from (bnext HB2.out hb3).size))
    obtain ⟨w4, hw4⟩ : ∃ z', w3.alloc (.cells #[.int .i64 k', .string o', .string f', .int .i64 n', .string s'] 62) = z' := ⟨_, rfl⟩
    rw [hw4] at HB4 HX4 HG4 HO4
    have HW4 := Lib.hid hw4
    obtain ⟨g4, hg4⟩ : ∃ g, g = w3.heap.size := ⟨_, rfl⟩
    rw [← hg4] at HO4
    have HG4' := Lib.hid hg4
    clear hb3 f4 hof hb34 hw4 HX2 HG2 HB2 hg4
    obtain ⟨x0, x1, x2, x3, y0, y1, y2, y3⟩ := (show OU (w3.alloc (.cells #[.int .i64 k', .string o', .string f', .int .i64 n', .string s'] 62)) p c q (d4 : Int) (.slice none 0 0) by rw [HW4.out]; exact HX4.out).cells
    go_upto_region 5 with fail
    rw [HW4.out, ← HG4'.out]
    clear x0 x1 x2 x3 y0 y1 y2 y3 HW4 HG4'
    have hon : Only p w4 (w4.setCell ⟨p, 3, none⟩ (.slice (some ⟨g4, 0, none⟩) 1 1)) := Only.set 3 _
    have HX5 := Lib.hid (HX4.out.put (.slice (some ⟨g4, 0, none⟩) 1 1))
    have HG5 := Lib.hid (HG4.out.only hon (by omega))
    have HO5 := Lib.hid (ownG_only HO4.out HX4.out (by decide) hon)
    have HB5 := Lib.hid (seen HB4.out (by omega) hon)
    clear hon HX4 HG4 HO4 HB4
    generalize w4.setCell ⟨p, 3, none⟩ (.slice (some ⟨g4, 0, none⟩) 1 1) = w5 at HX5 HG5 HO5 HB5 ⊢
    obtain ⟨x0, x1, x2, x3, _⟩ := HX5.out.cells
    obtain ⟨o0, o1, o2, o3, y0, y1, y2, y3⟩ := HG5.out.cells
    go_wp2
    refine kupd_ret rfl (HG5.out.put4 _ _ _ _) rfl ⟨_, _, _, rfl, ownG_only HO5.out HG5.out (by decide) (only4 _ _ _ _), UM.errU_one HC.out HQ.out (by omega) HOK.out.1 (HOK.out.2.2.2 (by trivial)), ?_, seen HB5.out (Nat.le_refl _) (only4 _ _ _ _)⟩
    intro e he
    rw [List.mem_singleton] at he
    subst he
    exact HOK.out.2.1
  have h8' : ((d8 : Int) == 0) = false := by simp [h8]
  clear hok HET HD4 ht h8
  go_wp2
  go_loopw [8] (fun i wr => ∃ (k : Nat) (av : Option Addr) (cv : Nat) (es : List Ef), i = .int .i64 es.length ∧ es.length ≤ d9 + 1 ∧ Hid (∀ e ∈ es, UM.errE e = 0 ∧ UM.in64 e ∧ e.1 ≠ 1) ∧ Hid (OU wr p c q 0 (.slice av es.length cv)) ∧ Hid (OU wr w.heap.size 0 0 0 (.slice none 0 0)) ∧ Hid (OwnEf w.heap.size wr (.slice av es.length cv) es) ∧ Hid (Below w.heap.size w wr)) (fun i _ => d9 + 1 - (intOf i).toNat)
  case atStart => exact ⟨0, none, 0, [], rfl, Nat.zero_le _, (by intro e he; cases he), HX.out, HG.out, OwnG.nil hlEf _ _ _, HB.out⟩
  case round =>
    obtain ⟨k0, av, cv, es, rfl, hk, hes, hx, hg, ho, hbl⟩ := hrel
    clear HX HG HB
    obtain ⟨wo, rfl⟩ : ∃ wo, wo = wr := ⟨wr, rfl⟩
    go_wp2_with fail
    refine (HD9.out _).mono ?_
    rintro e w2 ⟨rfl, rfl⟩
    by_cases hlt : (es.length : Int) ≤ (d9 : Int)
    case neg =>
      have HES := Lib.hid (show UM.errU c q 0 es = 0 from UM.errU_more HC.out HQ.out hes.out (by omega) (by omega))
      have HE2 := Lib.hid (fun e he => (hes.out e he).2.1)
      obtain ⟨x0, x1, x2, x3, _⟩ := hx.out.cells
      obtain ⟨o0, o1, o2, o3, y0, y1, y2, y3⟩ := hg.out.cells
      go_wp2
      refine kupd_ret rfl (hg.out.put4 _ _ _ _) rfl ⟨_, _, es, rfl, ownG_only ho.out hg.out (by decide) (only4 _ _ _ _), HES.out, HE2.out, seen hbl.out (Nat.le_refl _) (only4 _ _ _ _)⟩
    have hi0 := HIX.out
    have hz : ¬ ((es.length : Int) + 1 = 0) := by omega
    have hzw : IntKind.i64.wrap ((es.length : Int) + 1) = (es.length : Int) + 1 := IntWalk.i64_in _ (by omega)
    have hY : 0 ≤ (ix n 1099511627776).tdiv ((es.length : Int) + 1) ∧ (ix n 1099511627776).tdiv ((es.length : Int) + 1) ≤ ix n 1099511627776 := by
      rw [Int.tdiv_eq_ediv_of_nonneg hi0.1]
      exact ⟨Int.ediv_nonneg hi0.1 (by omega), Int.ediv_le_self _ hi0.1⟩
    obtain ⟨Y, hYd⟩ : ∃ Y, (ix n 1099511627776).tdiv ((es.length : Int) + 1) = Y := ⟨_, rfl⟩
    rw [hYd] at hY
    have hYw : IntKind.i64.wrap Y = Y := IntWalk.i64_in _ (by omega)
    have HEF := Lib.hid (fun w' => kEffect Y false w')
    have hok := UM.efK_ok Y false
    generalize UM.efK Y false = X at HEF hok
    obtain ⟨k', o', f', n', s'⟩ := X
    dsimp only [efv] at HEF
    have HES := Lib.hid (show ∀ e ∈ es ++ [(k', o', f', n', s')], UM.errE e = 0 ∧ UM.in64 e ∧ e.1 ≠ 1 by
      intro e he
      rcases List.mem_append.1 he with h | h
      · exact hes.out e h
      · rw [List.mem_singleton] at h
        subst h
        exact ⟨hok.1, hok.2.1, fun h => by have := hok.2.2.1 h; cases this⟩)
    have HYB := Lib.hid (show es.length ≤ 1073741824 by omega)
    have hlt9 : es.length ≤ d9 := by omega
    clear hok hes hY hi0
    generalize ix n 1099511627776 = J at HI hYd
    go_wp2
    have HXa := Lib.hid (show OU wo.drew p c q 0 (.slice av es.length cv) from hx.out)
    have HGa := Lib.hid (show OU wo.drew w.heap.size 0 0 0 (.slice none 0 0) from hg.out)
    have HOa := Lib.hid (show OwnEf w.heap.size wo.drew (.slice av es.length cv) es from ho.out.drewN 1)
    have HBa := Lib.hid hbl.out.drew
    clear hx hg ho hbl
    refine wp_region_held_drew (S := fun _ => True) (by kernel_rfl) trivial (fun _ => ?_)
    generalize wo.drew = wa at HXa HGa HOa HBa ⊢
    refine takeH (i := 0) (v := ?_) rfl (by kernel_rfl) (by kernel_rfl) (by kernel_rfl) (fun _ _ _ h => h) (Or.inl ⟨by rfl, ?_⟩) (by assumption) ?_
    rotate_left
    · (intro w hSw; (try dsimp only at hSw); go_simp; first | done | with_reducible rfl)
    (try simp only [Act.put, List.setIfInBounds_toArray, List.set_cons_zero, List.set_cons_succ])
    refine takeH (i := 2) (v := ?_) rfl (by kernel_rfl) (by kernel_rfl) (by kernel_rfl) (fun _ _ _ h => h) (Or.inl ⟨by rfl, ?_⟩) (by assumption) ?_
    rotate_left
    · (intro w hSw; (try dsimp only at hSw); go_simp; first | done | with_reducible rfl)
    (try simp only [Act.put, List.setIfInBounds_toArray, List.set_cons_zero, List.set_cons_succ])
    refine takeH (i := 4) (v := ?_) rfl (by kernel_rfl) (by kernel_rfl) (by kernel_rfl) (fun _ _ _ h => h) (Or.inl ⟨by rfl, ?_⟩) (by assumption) ?_
    rotate_left
    · (intro w hSw; (try dsimp only at hSw); go_simp; first | done | with_reducible rfl)
    (try simp only [Act.put, List.setIfInBounds_toArray, List.set_cons_zero, List.set_cons_succ])
    refine takeH (i := 5) (v := ?_) rfl (by kernel_rfl) (by kernel_rfl) (by kernel_rfl) (fun _ _ _ h => h) (Or.inl ⟨by rfl, ?_⟩) (by assumption) ?_
    rotate_left
    · (intro w hSw; (try dsimp only at hSw); go_simp; first | done | with_reducible rfl)
    (try simp only [Act.put, List.setIfInBounds_toArray, List.set_cons_zero, List.set_cons_succ])
    refine wpAnyH_ready (rs := [1, 3]) (by kernel_rfl) (by simp) ?_
    refine stepH rfl (fun K hK => ?_) (stepH rfl (fun K hK => ?_) AllReadyH.nil)
    · obtain ⟨x0, x1, x2, x3, _⟩ := HXa.out.cells
      go_simp
      refine hK.out _ _ trivial (fun _ => ?_)
      clear hK K x0 x1 x2 x3
      (try simp only [Act.put, List.setIfInBounds_toArray, List.set_cons_zero, List.set_cons_succ])
      refine wpAnyH_ready (rs := [3]) (by kernel_rfl) (by simp) ?_
      refine stepH rfl (fun K hK => ?_) AllReadyH.nil
      go_simp
      refine (HI.out _).mono ?_
      rintro e wi ⟨rfl, rfl⟩
      go_wp2_with fail
      refine hK.out _ _ trivial (fun _ => ?_)
      clear hK K
      (try simp only [Act.put, List.setIfInBounds_toArray, List.set_cons_zero, List.set_cons_succ])
      refine takeH (i := 6) (v := ?_) rfl (by kernel_rfl) (by kernel_rfl) (by kernel_rfl) (fun _ _ _ h => h) (Or.inl ⟨by rfl, ?_⟩) (by assumption) ?_
      rotate_left
      · (intro w hSw; (try dsimp only at hSw); go_simp; first | done | with_reducible rfl)
      (try simp only [Act.put, List.setIfInBounds_toArray, List.set_cons_zero, List.set_cons_succ])
      refine wpAnyH_ready (rs := [7]) (by kernel_rfl) (by simp) ?_
      refine stepH rfl (fun K hK => ?_) AllReadyH.nil
      go_simp
      refine (HEF.out _).mono ?_
      rintro e wb ⟨rfl, hq⟩
      have HXb := Lib.hid (HXa.out.below hq)
      have HGb := Lib.hid (HGa.out.below hq)
      have HOb := Lib.hid (HOa.out.below hq)
      have HBb := Lib.hid (bnext HBa.out hq)
      clear hq HXa HGa HOa HBa
      go_wp2_with fail
      refine hK.out _ _ trivial (fun _ => ?_)
      clear hK K
      (try simp only [Act.put, List.setIfInBounds_toArray, List.set_cons_zero, List.set_cons_succ])
      refine wpAnyH_ready (rs := [8]) (by kernel_rfl) (by simp) ?_
      refine stepH rfl (fun K hK => ?_) AllReadyH.nil
      go_simp
      refine hK.out _ _ trivial (fun _ => ?_)
      clear hK K
      (try simp only [Act.put, List.setIfInBounds_toArray, List.set_cons_zero, List.set_cons_succ])
      refine wpAnyH_ready (rs := [9]) (by kernel_rfl) (by simp) ?_
      refine stepH rfl (fun K hK => ?_) AllReadyH.nil
      refine step_appG1 efE (k', o', f', n', s') rfl _ _ rfl rfl HOb.out rfl HYB.out HBb.out.size ?_
      intro v6 w6 ho6 hb6 hk6
      have el : (es ++ [(k', o', f', n', s')]).length = es.length + 1 := by simp
      obtain ⟨av6, cv6, rfl, _, _⟩ := ho6.rd.shape
      rw [el] at ho6
      have HX6 := Lib.hid (OU.keep (e := 62) HXb.out (by decide) hk6)
      have HG6 := Lib.hid (OU.keep (e := 62) HGb.out (by decide) hk6)
      have HB6 := Lib.hid (HBb.out.trans hb6)
      refine hK.out _ _ trivial (fun _ => ?_)
      clear hK K
      (try simp only [Act.put, List.setIfInBounds_toArray, List.set_cons_zero, List.set_cons_succ])
      refine takeH (i := 10) (v := ?_) rfl (by kernel_rfl) (by kernel_rfl) (by kernel_rfl) (fun _ _ _ h => h) (Or.inl ⟨by rfl, ?_⟩) (by assumption) ?_
      rotate_left
      · (intro w hSw; (try dsimp only at hSw); go_simp; first | done | with_reducible rfl)
      (try simp only [Act.put, List.setIfInBounds_toArray, List.set_cons_zero, List.set_cons_succ])
      refine wpAnyH_ready (rs := [11]) (by kernel_rfl) (by simp) ?_
      refine stepH rfl (fun K hK => ?_) AllReadyH.nil
      obtain ⟨x0, x1, x2, x3, y0, y1, y2, y3⟩ := HX6.out.cells
      go_simp
      refine hK.out _ _ trivial (fun _ => ?_)
      clear hK K x0 x1 x2 x3 y0 y1 y2 y3
      (try simp only [Act.put, List.setIfInBounds_toArray, List.set_cons_zero, List.set_cons_succ])
      refine wpAnyH_done (by kernel_rfl) ?_ _
      have hon : Only p w6 (w6.setCell ⟨p, 3, none⟩ (.slice av6 (es.length + 1) cv6)) := Only.set 3 _
      have HX7 := Lib.hid (HX6.out.put (.slice av6 (es.length + 1) cv6))
      have HG7 := Lib.hid (HG6.out.only hon (by omega))
      have HO7 := Lib.hid (ownG_only ho6 HX6.out (by decide) hon)
      have HB7 := Lib.hid (seen HB6.out (by omega) hon)
      clear hon ho6 hb6 hk6 HX6 HG6 HB6 HXb HGb HOb HBb
      generalize w6.setCell ⟨p, 3, none⟩ (.slice av6 (es.length + 1) cv6) = w7 at HX7 HG7 HO7 HB7 ⊢
      go_wp2
      go_roundw
      case rel => exact ⟨es.length + 1, av6, cv6, es ++ [(k', o', f', n', s')], by go_num, by omega, HES, by rw [el]; exact HX7, HG7, by rw [el]; exact HO7, HB7⟩
      case measure => simp [intOf]; omega
    · go_simp
      refine (HI.out _).mono ?_
      rintro e wi ⟨rfl, rfl⟩
      go_wp2_with fail
      refine hK.out _ _ trivial (fun _ => ?_)
      clear hK K
      (try simp only [Act.put, List.setIfInBounds_toArray, List.set_cons_zero, List.set_cons_succ])
      refine takeH (i := 6) (v := ?_) rfl (by kernel_rfl) (by kernel_rfl) (by kernel_rfl) (fun _ _ _ h => h) (Or.inl ⟨by rfl, ?_⟩) (by assumption) ?_
      rotate_left
      · (intro w hSw; (try dsimp only at hSw); go_simp; first | done | with_reducible rfl)
      (try simp only [Act.put, List.setIfInBounds_toArray, List.set_cons_zero, List.set_cons_succ])
      refine wpAnyH_ready (rs := [1, 7]) (by kernel_rfl) (by simp) ?_
      refine stepH rfl (fun K hK => ?_) (stepH rfl (fun K hK => ?_) AllReadyH.nil)
      · obtain ⟨x0, x1, x2, x3, _⟩ := HXa.out.cells
        go_simp
        refine hK.out _ _ trivial (fun _ => ?_)
        clear hK K x0 x1 x2 x3
        (try simp only [Act.put, List.setIfInBounds_toArray, List.set_cons_zero, List.set_cons_succ])
        refine wpAnyH_ready (rs := [7]) (by kernel_rfl) (by simp) ?_
        refine stepH rfl (fun K hK => ?_) AllReadyH.nil
        go_simp
        refine (HEF.out _).mono ?_
        rintro e wb ⟨rfl, hq⟩
        have HXb := Lib.hid (HXa.out.below hq)
        have HGb := Lib.hid (HGa.out.below hq)
        have HOb := Lib.hid (HOa.out.below hq)
        have HBb := Lib.hid (bnext HBa.out hq)
        clear hq HXa HGa HOa HBa
        go_wp2_with fail
        refine hK.out _ _ trivial (fun _ => ?_)
        clear hK K
        (try simp only [Act.put, List.setIfInBounds_toArray, List.set_cons_zero, List.set_cons_succ])
        refine wpAnyH_ready (rs := [8]) (by kernel_rfl) (by simp) ?_
        refine stepH rfl (fun K hK => ?_) AllReadyH.nil
        go_simp
        refine hK.out _ _ trivial (fun _ => ?_)
        clear hK K
        (try simp only [Act.put, List.setIfInBounds_toArray, List.set_cons_zero, List.set_cons_succ])
        refine wpAnyH_ready (rs := [9]) (by kernel_rfl) (by simp) ?_
        refine stepH rfl (fun K hK => ?_) AllReadyH.nil
        refine step_appG1 efE (k', o', f', n', s') rfl _ _ rfl rfl HOb.out rfl HYB.out HBb.out.size ?_
        intro v6 w6 ho6 hb6 hk6
        have el : (es ++ [(k', o', f', n', s')]).length = es.length + 1 := by simp
        obtain ⟨av6, cv6, rfl, _, _⟩ := ho6.rd.shape
        rw [el] at ho6
        have HX6 := Lib.hid (OU.keep (e := 62) HXb.out (by decide) hk6)
        have HG6 := Lib.hid (OU.keep (e := 62) HGb.out (by decide) hk6)
        have HB6 := Lib.hid (HBb.out.trans hb6)
        refine hK.out _ _ trivial (fun _ => ?_)
        clear hK K
        (try simp only [Act.put, List.setIfInBounds_toArray, List.set_cons_zero, List.set_cons_succ])
        refine takeH (i := 10) (v := ?_) rfl (by kernel_rfl) (by kernel_rfl) (by kernel_rfl) (fun _ _ _ h => h) (Or.inl ⟨by rfl, ?_⟩) (by assumption) ?_
        rotate_left
        · (intro w hSw; (try dsimp only at hSw); go_simp; first | done | with_reducible rfl)
        (try simp only [Act.put, List.setIfInBounds_toArray, List.set_cons_zero, List.set_cons_succ])
        refine wpAnyH_ready (rs := [11]) (by kernel_rfl) (by simp) ?_
        refine stepH rfl (fun K hK => ?_) AllReadyH.nil
        obtain ⟨x0, x1, x2, x3, y0, y1, y2, y3⟩ := HX6.out.cells
        go_simp
        refine hK.out _ _ trivial (fun _ => ?_)
        clear hK K x0 x1 x2 x3 y0 y1 y2 y3
        (try simp only [Act.put, List.setIfInBounds_toArray, List.set_cons_zero, List.set_cons_succ])
        refine wpAnyH_done (by kernel_rfl) ?_ _
        have hon : Only p w6 (w6.setCell ⟨p, 3, none⟩ (.slice av6 (es.length + 1) cv6)) := Only.set 3 _
        have HX7 := Lib.hid (HX6.out.put (.slice av6 (es.length + 1) cv6))
        have HG7 := Lib.hid (HG6.out.only hon (by omega))
        have HO7 := Lib.hid (ownG_only ho6 HX6.out (by decide) hon)
        have HB7 := Lib.hid (seen HB6.out (by omega) hon)
        clear hon ho6 hb6 hk6 HX6 HG6 HB6 HXb HGb HOb HBb
        generalize w6.setCell ⟨p, 3, none⟩ (.slice av6 (es.length + 1) cv6) = w7 at HX7 HG7 HO7 HB7 ⊢
        go_wp2
        go_roundw
        case rel => exact ⟨es.length + 1, av6, cv6, es ++ [(k', o', f', n', s')], by go_num, by omega, HES, by rw [el]; exact HX7, HG7, by rw [el]; exact HO7, HB7⟩
        case measure => simp [intOf]; omega
      · go_simp
        refine (HEF.out _).mono ?_
        rintro e wb ⟨rfl, hq⟩
        have HXb := Lib.hid (HXa.out.below hq)
        have HGb := Lib.hid (HGa.out.below hq)
        have HOb := Lib.hid (HOa.out.below hq)
        have HBb := Lib.hid (bnext HBa.out hq)
        clear hq HXa HGa HOa HBa
        go_wp2_with fail
        refine hK.out _ _ trivial (fun _ => ?_)
        clear hK K
        (try simp only [Act.put, List.setIfInBounds_toArray, List.set_cons_zero, List.set_cons_succ])
        refine wpAnyH_ready (rs := [1, 8]) (by kernel_rfl) (by simp) ?_
        refine stepH rfl (fun K hK => ?_) (stepH rfl (fun K hK => ?_) AllReadyH.nil)
        · obtain ⟨x0, x1, x2, x3, _⟩ := HXb.out.cells
          go_simp
          refine hK.out _ _ trivial (fun _ => ?_)
          clear hK K x0 x1 x2 x3
          (try simp only [Act.put, List.setIfInBounds_toArray, List.set_cons_zero, List.set_cons_succ])
          refine wpAnyH_ready (rs := [8]) (by kernel_rfl) (by simp) ?_
          refine stepH rfl (fun K hK => ?_) AllReadyH.nil
          go_simp
          refine hK.out _ _ trivial (fun _ => ?_)
          clear hK K
          (try simp only [Act.put, List.setIfInBounds_toArray, List.set_cons_zero, List.set_cons_succ])
          refine wpAnyH_ready (rs := [9]) (by kernel_rfl) (by simp) ?_
          refine stepH rfl (fun K hK => ?_) AllReadyH.nil
          refine step_appG1 efE (k', o', f', n', s') rfl _ _ rfl rfl HOb.out rfl HYB.out HBb.out.size ?_
          intro v6 w6 ho6 hb6 hk6
          have el : (es ++ [(k', o', f', n', s')]).length = es.length + 1 := by simp
          obtain ⟨av6, cv6, rfl, _, _⟩ := ho6.rd.shape
          rw [el] at ho6
          have HX6 := Lib.hid (OU.keep (e := 62) HXb.out (by decide) hk6)
          have HG6 := Lib.hid (OU.keep (e := 62) HGb.out (by decide) hk6)
          have HB6 := Lib.hid (HBb.out.trans hb6)
          refine hK.out _ _ trivial (fun _ => ?_)
          clear hK K
          (try simp only [Act.put, List.setIfInBounds_toArray, List.set_cons_zero, List.set_cons_succ])
          refine takeH (i := 10) (v := ?_) rfl (by kernel_rfl) (by kernel_rfl) (by kernel_rfl) (fun _ _ _ h => h) (Or.inl ⟨by rfl, ?_⟩) (by assumption) ?_
          rotate_left
          · (intro w hSw; (try dsimp only at hSw); go_simp; first | done | with_reducible rfl)
          (try simp only [Act.put, List.setIfInBounds_toArray, List.set_cons_zero, List.set_cons_succ])
          refine wpAnyH_ready (rs := [11]) (by kernel_rfl) (by simp) ?_
          refine stepH rfl (fun K hK => ?_) AllReadyH.nil
          obtain ⟨x0, x1, x2, x3, y0, y1, y2, y3⟩ := HX6.out.cells
          go_simp
          refine hK.out _ _ trivial (fun _ => ?_)
          clear hK K x0 x1 x2 x3 y0 y1 y2 y3
          (try simp only [Act.put, List.setIfInBounds_toArray, List.set_cons_zero, List.set_cons_succ])
          refine wpAnyH_done (by kernel_rfl) ?_ _
          have hon : Only p w6 (w6.setCell ⟨p, 3, none⟩ (.slice av6 (es.length + 1) cv6)) := Only.set 3 _
          have HX7 := Lib.hid (HX6.out.put (.slice av6 (es.length + 1) cv6))
          have HG7 := Lib.hid (HG6.out.only hon (by omega))
          have HO7 := Lib.hid (ownG_only ho6 HX6.out (by decide) hon)
          have HB7 := Lib.hid (seen HB6.out (by omega) hon)
          clear hon ho6 hb6 hk6 HX6 HG6 HB6 HXb HGb HOb HBb
          generalize w6.setCell ⟨p, 3, none⟩ (.slice av6 (es.length + 1) cv6) = w7 at HX7 HG7 HO7 HB7 ⊢
          go_wp2
          go_roundw
          case rel => exact ⟨es.length + 1, av6, cv6, es ++ [(k', o', f', n', s')], by go_num, by omega, HES, by rw [el]; exact HX7, HG7, by rw [el]; exact HO7, HB7⟩
          case measure => simp [intOf]; omega
        · go_simp
          refine hK.out _ _ trivial (fun _ => ?_)
          clear hK K
          (try simp only [Act.put, List.setIfInBounds_toArray, List.set_cons_zero, List.set_cons_succ])
          refine wpAnyH_ready (rs := [1]) (by kernel_rfl) (by simp) ?_
          refine stepH rfl (fun K hK => ?_) AllReadyH.nil
          obtain ⟨x0, x1, x2, x3, _⟩ := (HXb.out.below (below_fresh wb (.cells #[.int .i64 k', .string o', .string f', .int .i64 n', .string s'] 62))).cells
          go_simp
          refine hK.out _ _ trivial (fun _ => ?_)
          clear hK K x0 x1 x2 x3
          (try simp only [Act.put, List.setIfInBounds_toArray, List.set_cons_zero, List.set_cons_succ])
          refine wpAnyH_ready (rs := [9]) (by kernel_rfl) (by simp) ?_
          refine stepH rfl (fun K hK => ?_) AllReadyH.nil
          refine step_appG1 efE (k', o', f', n', s') rfl _ _ rfl rfl HOb.out rfl HYB.out HBb.out.size ?_
          intro v6 w6 ho6 hb6 hk6
          have el : (es ++ [(k', o', f', n', s')]).length = es.length + 1 := by simp
          obtain ⟨av6, cv6, rfl, _, _⟩ := ho6.rd.shape
          rw [el] at ho6
          have HX6 := Lib.hid (OU.keep (e := 62) HXb.out (by decide) hk6)
          have HG6 := Lib.hid (OU.keep (e := 62) HGb.out (by decide) hk6)
          have HB6 := Lib.hid (HBb.out.trans hb6)
          refine hK.out _ _ trivial (fun _ => ?_)
          clear hK K
          (try simp only [Act.put, List.setIfInBounds_toArray, List.set_cons_zero, List.set_cons_succ])
          refine takeH (i := 10) (v := ?_) rfl (by kernel_rfl) (by kernel_rfl) (by kernel_rfl) (fun _ _ _ h => h) (Or.inl ⟨by rfl, ?_⟩) (by assumption) ?_
          rotate_left
          · (intro w hSw; (try dsimp only at hSw); go_simp; first | done | with_reducible rfl)
          (try simp only [Act.put, List.setIfInBounds_toArray, List.set_cons_zero, List.set_cons_succ])
          refine wpAnyH_ready (rs := [11]) (by kernel_rfl) (by simp) ?_
          refine stepH rfl (fun K hK => ?_) AllReadyH.nil
          obtain ⟨x0, x1, x2, x3, y0, y1, y2, y3⟩ := HX6.out.cells
          go_simp
          refine hK.out _ _ trivial (fun _ => ?_)
          clear hK K x0 x1 x2 x3 y0 y1 y2 y3
          (try simp only [Act.put, List.setIfInBounds_toArray, List.set_cons_zero, List.set_cons_succ])
          refine wpAnyH_done (by kernel_rfl) ?_ _
          have hon : Only p w6 (w6.setCell ⟨p, 3, none⟩ (.slice av6 (es.length + 1) cv6)) := Only.set 3 _
          have HX7 := Lib.hid (HX6.out.put (.slice av6 (es.length + 1) cv6))
          have HG7 := Lib.hid (HG6.out.only hon (by omega))
          have HO7 := Lib.hid (ownG_only ho6 HX6.out (by decide) hon)
          have HB7 := Lib.hid (seen HB6.out (by omega) hon)
          clear hon ho6 hb6 hk6 HX6 HG6 HB6 HXb HGb HOb HBb
          generalize w6.setCell ⟨p, 3, none⟩ (.slice av6 (es.length + 1) cv6) = w7 at HX7 HG7 HO7 HB7 ⊢
          go_wp2
          go_roundw
          case rel => exact ⟨es.length + 1, av6, cv6, es ++ [(k', o', f', n', s')], by go_num, by omega, HES, by rw [el]; exact HX7, HG7, by rw [el]; exact HO7, HB7⟩
          case measure => simp [intOf]; omega

end Go.Proofs.YtdfablboenfblaaDoor
