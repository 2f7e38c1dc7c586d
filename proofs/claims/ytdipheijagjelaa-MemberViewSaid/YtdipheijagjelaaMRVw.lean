/-
  The calls of the reference's weight and of its View. Conditions: the summary reads, its lists are short.
-/
import Derived.Test.YtdipheijagjelaaMROf
import Derived.Test.YtdipheijagjelaaMKit
namespace Go.Proofs.Ytdipheijagjelaa
open Go.RowKit Go.Joins
open MM (Mem Ent Sm Tri)

theorem wtOf_cons (e : Ent) (l : List Ent) (x : Int) : MM.wtOf (e :: l) x = if e.1 = x then e.2.1 else MM.wtOf l x := by
  unfold MM.wtOf
  rw [MM.lk]
  by_cases h : e.1 = x
  · simp [MM.kW, h]
  · simp [MM.kW, h]

set_option maxRecDepth 100000 in
set_option maxHeartbeats 2000000 in
theorem rWeight (xv : Value) (s : Sm) (n : Int) (w : World) (h : RdS w xv s) (hl : s.W.length ≤ 1000000) :
    Calls Try.prog 72 #[xv, .int .i64 n] w fun e w' => e = .returned (.int .i64 (MM.wtOf s.W n)) ∧ Below w.heap.size w w' := by
  obtain ⟨x, y, z, rfl, _, _, hw⟩ := h
  obtain ⟨R, hR⟩ : ∃ R, R = MM.wtOf s.W n := ⟨_, rfl⟩
  rw [← hR]
  obtain ⟨J, Rm, Ws, k, c, f, v, a, m⟩ := s
  dsimp only at hw hl hR
  obtain ⟨az, cz, rfl, _, _⟩ := hw.shape
  obtain ⟨w1, hw1⟩ : ∃ w1, w.alloc (.cells (s9 x y (.slice az Ws.length cz) k c f v a m) 34) = w1 := ⟨_, rfl⟩
  have hB := below_fresh w (.cells (s9 x y (.slice az Ws.length cz) k c f v a m) 34)
  have hX := heap_alloc_new w (.cells (s9 x y (.slice az Ws.length cz) k c f v a m) 34)
  rw [hw1] at hB hX
  have HRW := Lib.hid (hw.below hB)
  have HX := Lib.hid hX
  have HB := Lib.hid hB
  have HW := Lib.hid hw1
  have HL := Lib.hid hl
  have HR := Lib.hid (show R = MM.wtOf (Ws.drop 0) n from hR)
  have HB1 := Lib.hid (Below.refl w1.heap.size w1)
  clear hw hl hR hB hX hw1
  go_enter Try.func72, Try.ntmps72
  go_wp2
  rw [HW.out]
  go_loopw [5] (fun i wr => ∃ j : Nat, j ≤ Ws.length ∧ i = .int .i64 j ∧ Hid (Below w1.heap.size w1 wr) ∧ Hid (R = MM.wtOf (Ws.drop j) n)) (fun i _ => Ws.length - (intOf i).toNat)
  case atStart => exact ⟨0, Nat.zero_le _, rfl, HB1, HR⟩
  case round =>
    clear HB1 HR HW
    obtain ⟨j, hj, rfl, HB1, he⟩ := hrel
    obtain ⟨⟨s0, s1, s2, s3, s4, s5, s6, s7, s8⟩, _⟩ := row9_at (below_block HX.out HB1.out)
    by_cases hlt : j < Ws.length
    · have hq : (j : Int) < (Ws.length : Int) := by omega
      have hjb : (j : Int) ≤ 1000000 := by have := HL.out; omega
      have hd := Lib.hid (drop_get hlt)
      obtain ⟨⟨q1, q2, q3, q4, q5⟩, hx⟩ : ∃ e : Ent, e = Ws[j] := ⟨_, rfl⟩
      have hg : Ws[j]? = some (q1, q2, q3, q4, q5) := by rw [List.getElem?_eq_getElem hlt, ← hx]
      rw [← hx] at hd
      obtain ⟨b, o, hi, hbb, c0, c1, c2, c3, c4⟩ := atW (HRW.out.below HB1.out) j q1 q2 q3 q4 q5 hg
      clear hx hg
      by_cases hyx : q1 = n
      · subst hyx
        have e2 := Lib.hid (show R = q2 by rw [he.out, hd.out, wtOf_cons]; simp)
        clear he hd
        go_wp2
        go_ret
        rw [e2.out]
        exact ⟨rfl, bnext HB.out HB1.out⟩
      · have e2 := Lib.hid (show R = MM.wtOf (Ws.drop (j + 1)) n by rw [he.out, hd.out, wtOf_cons, if_neg hyx])
        have hne : (q1 == n) = false := by simpa using hyx
        clear he hd
        go_wp2
        go_roundw
        case rel => exact ⟨j + 1, by omega, by go_num, HB1, e2⟩
        case measure => simp [intOf]; omega
    · have hq : ¬ ((j : Int) < (Ws.length : Int)) := by omega
      have e2 := Lib.hid (show R = 1 by rw [he.out, List.drop_of_length_le (by omega)]; rfl)
      clear he
      go_wp2
      go_ret
      rw [e2.out]
      exact ⟨rfl, bnext HB.out HB1.out⟩

/-! The members so far. -/
def mj (s : Sm) (j : Nat) : List Mem := ((s.J.take j).filter fun x => !s.R.contains x).map fun x => (x, MM.wtOf s.W x)
theorem mj_succ (s : Sm) (j : Nat) (x : Int) (h : s.J[j]? = some x) : mj s (j + 1) = if s.R.contains x then mj s j else mj s j ++ [(x, MM.wtOf s.W x)] := by
  unfold mj
  rw [List.take_add_one, h, List.filter_append, List.map_append]
  have e : (([x] : List Int).filter fun x => !s.R.contains x) = if s.R.contains x then [] else [x] := by
    rw [List.filter_cons, List.filter_nil]
    cases s.R.contains x <;> rfl
  show List.map _ (List.filter _ _) ++ List.map _ (List.filter _ [x]) = _
  rw [e]
  cases s.R.contains x
  · rfl
  · exact List.append_nil _
theorem mj_len (s : Sm) (j : Nat) : (mj s j).length ≤ j := by
  unfold mj
  rw [List.length_map]
  exact Nat.le_trans (List.length_filter_le _ _) (by rw [List.length_take]; omega)
theorem mj_all (s : Sm) : mj s s.J.length = MM.mems s := by unfold mj MM.mems; rw [List.take_length]
theorem rview_ret {R : Ending → World → Prop} {a : Act} {w : World} {g : Nat} {s : Value} {k c f : Int} (hp : a.tmps.getD 2 undef = .pointer (some ⟨g, 0, none⟩)) (hg : w.heap[g]? = some (.cells (v4 s k c f) 46 (0, 0)))
    (hd : a.defers = []) (hR : R (.returned (vw s k c f)) w) : bodyPost Try.prog Try.f27 R .ret a w :=
  bodyPost_ret (results_cell_row (P := Try.prog) rfl a.tmps w g 46 _ _ _ hp hg Try.underlying46 rfl (by kernel_rfl)) hd hR
theorem view_blocks (w : World) (o1 o2 o3 : Obj) :
    ∃ w3, ((w.alloc o1).alloc o2).alloc o3 = w3 ∧ Below w.heap.size w w3 ∧ w3.heap.size = w.heap.size + 3 ∧ w3.heap[w.heap.size]? = some o1 ∧ w3.heap[w.heap.size + 1]? = some o2 ∧ w3.heap[w.heap.size + 1 + 1]? = some o3 := by
  have b1 := below_fresh w o1
  have h1 := heap_alloc_new w o1
  have z1 := World.size_alloc w o1
  generalize w.alloc o1 = wa at *
  have b2 := below_fresh wa o2
  have h2 := heap_alloc_new wa o2
  have z2 := World.size_alloc wa o2
  generalize wa.alloc o2 = wb at *
  have b3 := below_fresh wb o3
  have h3 := heap_alloc_new wb o3
  have z3 := World.size_alloc wb o3
  rw [z1] at h2
  rw [z2, z1] at h3
  exact ⟨_, rfl, bnext (bnext b1 b2) b3, by omega, below_block (below_block h1 b2) b3, below_block h2 b3, h3⟩

set_option maxRecDepth 100000 in
set_option maxHeartbeats 8000000 in
theorem rViewO (xv : Value) (s : Sm) (w : World) (h : RdS w xv s) (hl : s.J.length ≤ 1000000 ∧ s.R.length ≤ 1000000 ∧ s.W.length ≤ 1000000) :
    Calls Try.prog 27 #[xv] w fun e w' => ∃ sl, e = .returned (vw sl (MM.vk s) s.c s.f) ∧ OwnM w.heap.size w' sl (MM.mems s) ∧ Below w.heap.size w w' := by
  have hRS := h
  obtain ⟨x, y, z, rfl, hj, hr, hw⟩ := h
  have HWT := Lib.hid (fun w' (hb : Below w.heap.size w w') n => rWeight (sv x y z s.k s.c s.f s.v s.a s.n) s n w' (hRS.below hb) hl.2.2)
  have HIN := Lib.hid (fun w' (hb : Below w.heap.size w w') n => rIn y s.R n w' (hr.below hb))
  have HLJ := Lib.hid hl.1
  have HALL := Lib.hid (mj_all s)
  have HSUC := Lib.hid (mj_succ s)
  have HMLN := Lib.hid (mj_len s)
  have HM0 := Lib.hid (show mj s 0 = [] by unfold mj; simp)
  have HVK := Lib.hid (show MM.vk s = if MM.rz s then 1 else s.k from rfl)
  have HRZ := Lib.hid (show MM.rz s = decide (s.k = 0 ∧ s.c = 0 ∧ s.f = 0) from rfl)
  have HJL := Lib.hid hj
  obtain ⟨ax, cx, hx, _, _⟩ := hj.shape
  obtain ⟨ary, cry, hy, _, _⟩ := hr.shape
  obtain ⟨az, cz, hz, _, _⟩ := hw.shape
  subst hx hy hz
  generalize MM.mems s = MS at HALL ⊢
  generalize mj s = MJ at HALL HSUC HMLN HM0
  generalize MM.vk s = vk at HVK ⊢
  generalize MM.rz s = za at HVK HRZ
  clear hRS hj hr hw hl
  obtain ⟨J, Rm, Ws, k, c, f, v, a, n⟩ := s
  dsimp only at HWT HIN HLJ HALL HSUC HMLN HVK HRZ HJL ⊢
  generalize Rm.length = lr at HIN HWT ⊢
  generalize Ws.length = lw at HIN HWT ⊢
  generalize Rm.contains = RC at HIN HSUC
  generalize MM.wtOf Ws = WO at HWT HSUC
  obtain ⟨w3, hw3, hB3, hz3, hp3, hr3, hv3⟩ := view_blocks w (Obj.cells (s9 (.slice ax J.length cx) (.slice ary lr cry) (.slice az lw cz) k c f v a n) 34 (0, 0)) (Obj.cells (v4 (.slice none 0 0) 0 0 0) 46 (0, 0)) (Obj.cells (v4 (.slice none 0 0) k c f) 46 (0, 0))
  have HW3 := Lib.hid hw3
  have HP5 := Lib.hid hp3
  have HZ5 := Lib.hid hr3
  have HG5 := Lib.hid hv3
  have HB5 := Lib.hid hB3
  have HSZ := Lib.hid hz3
  have heq := fun w => eql_rule k c f 0 0 0 w
  rw [← HRZ.out] at heq
  clear hw3 hp3 hr3 hv3 hB3 hz3
  have HM5 := Lib.hid (show OwnM (w.heap.size + 3) w3 (.slice none 0 0) (MJ 0) by rw [HM0.out]; exact OwnG.nil hlM _ _ _)
  go_enter Try.func27, Try.ntmps27
  go_upto_region 2 with fail
  rw [HW3.out]
  obtain ⟨⟨p0, p1, p2, p3, p4, p5, p6, p7, p8⟩, _⟩ := row9_at HP5.out
  obtain ⟨⟨q0, q1, q2, q3⟩, g0, g1, g2, g3⟩ := row4_at HG5.out
  cases za
  · have HK := Lib.hid (show vk = k from HVK.out)
    have HC := Lib.hid (rfl : c = c)
    have HF := Lib.hid (rfl : f = f)
    go_upto_region 4 with fail
    clear heq p0 p1 p2 p3 p4 p5 p6 p7 p8 q0 q1 q2 q3 g0 g1 g2 g3 HVK HRZ HW3
    have HS3 := Lib.hid (show w.heap.size + 3 ≤ w3.heap.size by have := HSZ.out; omega)
    go_wp2
    go_loopw [4] (fun i wr => ∃ (j : Nat) (sl : Value), j ≤ J.length ∧ i = .int .i64 j ∧ Hid (wr.heap[w.heap.size]? = some (.cells (s9 (.slice ax J.length cx) (.slice ary lr cry) (.slice az lw cz) k c f v a n) 34 (0, 0))) ∧ Hid (wr.heap[w.heap.size + 1]? = some (.cells (v4 (.slice none 0 0) 0 0 0) 46 (0, 0))) ∧ Hid (wr.heap[w.heap.size + 1 + 1]? = some (.cells (v4 sl k c f) 46 (0, 0))) ∧ Hid (OwnM (w.heap.size + 3) wr sl (MJ j)) ∧ Hid (Below w.heap.size w wr) ∧ Hid (w.heap.size + 3 ≤ wr.heap.size)) (fun i _ => J.length - (intOf i).toNat)
    case atStart => exact ⟨0, _, Nat.zero_le _, rfl, HP5, HZ5, HG5, HM5, HB5, HS3⟩
    case round =>
      clear HP5 HZ5 HG5 HM5 HB5 HS3
      obtain ⟨j, sl, hj, rfl, HP5, HZ5, HG5, HM5, HB5, HS5⟩ := hrel
      obtain ⟨sa, slen, sc, hvs⟩ : ∃ a l c, sl = .slice a l c := by obtain ⟨a, c, h, _⟩ := HM5.out.rd.shape; exact ⟨a, _, c, h⟩
      subst hvs
      by_cases hlt : j < J.length
      · have hq : (j : Int) < (J.length : Int) := by omega
        have hjb : (j : Int) ≤ 1000000 := by have := HLJ.out; omega
        obtain ⟨m, hx⟩ : ∃ m : Int, J[j]? = some m := ⟨_, List.getElem?_eq_getElem hlt⟩
        obtain ⟨o1, oo, hi, hob, c0⟩ := atI HJL.out j m hx
        have HHI := Lib.hid hi
        have HCL := Lib.hid (fun w' (b : Below w.heap.size w w') => (b.cell hob).trans c0)
        have HSN := Lib.hid (HSUC.out j m hx)
        have HLN := Lib.hid (show (MJ j).length ≤ 1073741824 by have := HMLN.out j; have := HLJ.out; omega)
        have HWM := Lib.hid (fun w' (b : Below w.heap.size w w') => HWT.out w' b m)
        have HIM := Lib.hid (fun w' (b : Below w.heap.size w w') => HIN.out w' b m)
        generalize WO m = WT at HSN HWM
        generalize RC m = rb at HSN HIM
        obtain ⟨⟨p0, p1, p2, p3, p4, p5, p6, p7, p8⟩, _⟩ := row9_at HP5.out
        clear hx hi hob c0
        go_wp2
        clear p0 p1 p2 p3 p4 p5 p6 p7 p8
        refine wp_region_held_drew (S := fun w' => Below wr.heap.size wr w') (by kernel_rfl) ((Below.refl _ _).drew) (fun ha => ?_)
        replace ha : Below wr.heap.size wr wr.drew := (Below.refl _ _).drew
        generalize wr.drew = wa at ha ⊢
        refine takeH (i := 0) (v := ?_) rfl (by kernel_rfl) (by kernel_rfl) (by kernel_rfl) (fun _ _ _ h => h) (Or.inl ⟨by rfl, ?_⟩) (by assumption) ?_
        rotate_left
        · (intro w hSw; (try dsimp only at hSw); go_simp; first | done | with_reducible rfl)
        (try simp only [Act.put, List.setIfInBounds_toArray, List.set_cons_zero, List.set_cons_succ])
        refine takeH (i := 1) (v := ?_) rfl (by kernel_rfl) (by kernel_rfl) (by kernel_rfl) (fun _ _ _ h => h) (Or.inl ⟨by rfl, ?_⟩) (by assumption) ?_
        rotate_left
        · (intro w hSw; (try dsimp only at hSw); obtain ⟨⟨p0, p1, p2, p3, p4, p5, p6, p7, p8⟩, _⟩ := row9_at (below_block HP5.out hSw); go_simp; first | done | with_reducible rfl)
        (try simp only [Act.put, List.setIfInBounds_toArray, List.set_cons_zero, List.set_cons_succ])
        refine takeH (i := 2) (v := ?_) rfl (by kernel_rfl) (by kernel_rfl) (by kernel_rfl) (fun _ _ _ h => h) (Or.inl ⟨by rfl, ?_⟩) (by assumption) ?_
        rotate_left
        · (intro w hSw; (try dsimp only at hSw); go_simp; first | done | with_reducible rfl)
        (try simp only [Act.put, List.setIfInBounds_toArray, List.set_cons_zero, List.set_cons_succ])
        refine takeH (i := 3) (v := ?_) rfl (by kernel_rfl) (by kernel_rfl) (by kernel_rfl) (fun _ _ _ h => h) (Or.inl ⟨by rfl, ?_⟩) (by assumption) ?_
        rotate_left
        · (intro w hSw; (try dsimp only at hSw); obtain ⟨⟨p0, p1, p2, p3, p4, p5, p6, p7, p8⟩, _⟩ := row9_at (below_block HP5.out hSw); go_simp; first | done | with_reducible rfl)
        (try simp only [Act.put, List.setIfInBounds_toArray, List.set_cons_zero, List.set_cons_succ])
        refine takeH (i := 4) (v := ?_) rfl (by kernel_rfl) (by kernel_rfl) (by kernel_rfl) (fun _ _ _ h => h) (Or.inl ⟨by rfl, ?_⟩) (by assumption) ?_
        rotate_left
        · (intro w hSw; (try dsimp only at hSw); go_simp; first | done | with_reducible rfl)
        (try simp only [Act.put, List.setIfInBounds_toArray, List.set_cons_zero, List.set_cons_succ])
        refine takeH (i := 5) (v := ?_) rfl (by kernel_rfl) (by kernel_rfl) (by kernel_rfl) (fun _ _ _ h => h) (Or.inl ⟨by rfl, ?_⟩) (by assumption) ?_
        rotate_left
        · (intro w hSw; (try dsimp only at hSw); have hi := HHI.out; go_simp; first | done | with_reducible rfl)
        (try simp only [Act.put, List.setIfInBounds_toArray, List.set_cons_zero, List.set_cons_succ])
        refine takeH (i := 6) (v := ?_) rfl (by kernel_rfl) (by kernel_rfl) (by kernel_rfl) (fun _ _ _ h => h) (Or.inl ⟨by rfl, ?_⟩) (by assumption) ?_
        rotate_left
        · (intro w hSw; (try dsimp only at hSw); have hc := HCL.out w (bnext HB5.out hSw); go_simp; first | done | with_reducible rfl)
        (try simp only [Act.put, List.setIfInBounds_toArray, List.set_cons_zero, List.set_cons_succ])
        refine wpAnyH_ready (rs := [7]) (by kernel_rfl) (by simp) ?_
        refine stepH rfl (fun K hK => ?_) AllReadyH.nil
        go_simp
        refine (HIM.out wa (bnext HB5.out ha)).mono ?_
        rintro e wb ⟨rfl, hq⟩
        have hb := bnext ha hq
        go_wp2_with fail
        refine hK.out _ _ (hb) (fun _ => ?_)
        clear hK K
        (try simp only [Act.put, List.setIfInBounds_toArray, List.set_cons_zero, List.set_cons_succ])
        refine takeH (i := 8) (v := ?_) rfl (by kernel_rfl) (by kernel_rfl) (by kernel_rfl) (fun _ _ _ h => h) (Or.inl ⟨by rfl, ?_⟩) (by assumption) ?_
        rotate_left
        · (intro w hSw; (try dsimp only at hSw); go_simp; first | done | with_reducible rfl)
        (try simp only [Act.put, List.setIfInBounds_toArray, List.set_cons_zero, List.set_cons_succ])
        refine wpAnyH_done (by kernel_rfl) ?_ _
        replace HP5 := Lib.hid (below_block HP5.out hb)
        replace HZ5 := Lib.hid (below_block HZ5.out hb)
        replace HG5 := Lib.hid (below_block HG5.out hb)
        replace HM5 := Lib.hid (HM5.out.below hb)
        replace HB5 := Lib.hid (bnext HB5.out hb)
        replace HS5 := Lib.hid (Nat.le_trans HS5.out hb.size)
        clear ha hb HIM
        cases rb
        · go_wp2
          refine wp_region_held_drew (S := fun w' => w'.heap[w.heap.size]? = some (Obj.cells (s9 (.slice ax J.length cx) (.slice ary lr cry) (.slice az lw cz) k c f v a n) 34 (0, 0)) ∧ Below w.heap.size w w') (by kernel_rfl) (by first | exact ⟨HP5.out, HB5.out⟩ | exact ⟨HP5.out, HB5.out.drew⟩) (fun _ => ?_)
          replace HP5 := Lib.hid (show wb.drew.heap[w.heap.size]? = some (Obj.cells (s9 (.slice ax J.length cx) (.slice ary lr cry) (.slice az lw cz) k c f v a n) 34 (0, 0)) from by first | exact HP5.out | (have hq : Below wb.heap.size wb wb.drew := (Below.refl _ wb).drew; exact below_block HP5.out hq))
          replace HZ5 := Lib.hid (show wb.drew.heap[w.heap.size + 1]? = some (Obj.cells (v4 (.slice none 0 0) 0 0 0) 46 (0, 0)) from by first | exact HZ5.out | (have hq : Below wb.heap.size wb wb.drew := (Below.refl _ wb).drew; exact below_block HZ5.out hq))
          replace HB5 := Lib.hid (show Below w.heap.size w wb.drew from by first | exact HB5.out | (have hq : Below wb.heap.size wb wb.drew := (Below.refl _ wb).drew; exact HB5.out.trans (hq.mono HB5.out.size)))
          replace HS5 := Lib.hid (show w.heap.size + 3 ≤ wb.drew.heap.size from by first | exact HS5.out | (have hq : Below wb.heap.size wb wb.drew := (Below.refl _ wb).drew; exact Nat.le_trans HS5.out hq.size))
          replace HM5 := Lib.hid (show OwnM (w.heap.size + 3) wb.drew (.slice sa slen sc) (MJ j) from HM5.out)
          replace HG5 := Lib.hid (show wb.drew.heap[w.heap.size + 1 + 1]? = some (Obj.cells (v4 (.slice sa slen sc) k c f) 46 (0, 0)) from HG5.out)
          have hS : wb.drew.heap[w.heap.size]? = some (Obj.cells (s9 (.slice ax J.length cx) (.slice ary lr cry) (.slice az lw cz) k c f v a n) 34 (0, 0)) ∧ Below w.heap.size w wb.drew := ⟨HP5.out, HB5.out⟩
          generalize wb.drew = wa at HP5 HZ5 HB5 HS5 HM5 HG5 hS ⊢
          refine takeH (i := 0) (v := ?_) rfl (by kernel_rfl) (by kernel_rfl) (by kernel_rfl) (fun _ _ _ h => h) (Or.inl ⟨by rfl, ?_⟩) (by assumption) ?_
          rotate_left
          · (intro w hSw; (try dsimp only at hSw); go_simp; first | done | with_reducible rfl)
          (try simp only [Act.put, List.setIfInBounds_toArray, List.set_cons_zero, List.set_cons_succ])
          refine takeH (i := 2) (v := ?_) rfl (by kernel_rfl) (by kernel_rfl) (by kernel_rfl) (fun _ _ _ h => h) (Or.inl ⟨by rfl, ?_⟩) (by assumption) ?_
          rotate_left
          · (intro w hSw; (try dsimp only at hSw); go_simp; first | done | with_reducible rfl)
          (try simp only [Act.put, List.setIfInBounds_toArray, List.set_cons_zero, List.set_cons_succ])
          refine takeH (i := 4) (v := ?_) rfl (by kernel_rfl) (by kernel_rfl) (by kernel_rfl) (fun _ _ _ h => h) (Or.inl ⟨by rfl, ?_⟩) (by assumption) ?_
          rotate_left
          · (intro w hSw; (try dsimp only at hSw); go_simp; first | done | with_reducible rfl)
          (try simp only [Act.put, List.setIfInBounds_toArray, List.set_cons_zero, List.set_cons_succ])
          refine takeH (i := 8) (v := ?_) rfl (by kernel_rfl) (by kernel_rfl) (by kernel_rfl) (fun _ _ _ h => h) (Or.inl ⟨by rfl, ?_⟩) (by assumption) ?_
          rotate_left
          · (intro w hSw; (try dsimp only at hSw); go_simp; first | done | with_reducible rfl)
          (try simp only [Act.put, List.setIfInBounds_toArray, List.set_cons_zero, List.set_cons_succ])
          refine takeH (i := 10) (v := ?_) rfl (by kernel_rfl) (by kernel_rfl) (by kernel_rfl) (fun _ _ _ h => h) (Or.inl ⟨by rfl, ?_⟩) (by assumption) ?_
          rotate_left
          · (intro w hSw; (try dsimp only at hSw); go_simp; first | done | with_reducible rfl)
          (try simp only [Act.put, List.setIfInBounds_toArray, List.set_cons_zero, List.set_cons_succ])
          refine takeH (i := 3) (v := ?_) rfl (by kernel_rfl) (by kernel_rfl) (by kernel_rfl) (fun _ _ _ h => h) (Or.inl ⟨by rfl, ?_⟩) (by assumption) ?_
          rotate_left
          · (intro w hSw; (try dsimp only at hSw); obtain ⟨⟨p0, p1, p2, p3, p4, p5, p6, p7, p8⟩, _⟩ := row9_at hSw.1; go_simp; first | done | with_reducible rfl)
          (try simp only [Act.put, List.setIfInBounds_toArray, List.set_cons_zero, List.set_cons_succ])
          refine takeH (i := 5) (v := ?_) rfl (by kernel_rfl) (by kernel_rfl) (by kernel_rfl) (fun _ _ _ h => h) (Or.inl ⟨by rfl, ?_⟩) (by assumption) ?_
          rotate_left
          · (intro w hSw; (try dsimp only at hSw); have hi := HHI.out; go_simp; first | done | with_reducible rfl)
          (try simp only [Act.put, List.setIfInBounds_toArray, List.set_cons_zero, List.set_cons_succ])
          refine takeH (i := 6) (v := ?_) rfl (by kernel_rfl) (by kernel_rfl) (by kernel_rfl) (fun _ _ _ h => h) (Or.inl ⟨by rfl, ?_⟩) (by assumption) ?_
          rotate_left
          · (intro w hSw; (try dsimp only at hSw); have hc := HCL.out w hSw.2; go_simp; first | done | with_reducible rfl)
          (try simp only [Act.put, List.setIfInBounds_toArray, List.set_cons_zero, List.set_cons_succ])
          refine takeH (i := 7) (v := ?_) rfl (by kernel_rfl) (by kernel_rfl) (by kernel_rfl) (fun _ _ _ h => h) (Or.inl ⟨by rfl, ?_⟩) (by assumption) ?_
          rotate_left
          · (intro w hSw; (try dsimp only at hSw); obtain ⟨⟨p0, p1, p2, p3, p4, p5, p6, p7, p8⟩, _⟩ := row9_at hSw.1; go_simp; first | done | with_reducible rfl)
          (try simp only [Act.put, List.setIfInBounds_toArray, List.set_cons_zero, List.set_cons_succ])
          refine takeH (i := 9) (v := ?_) rfl (by kernel_rfl) (by kernel_rfl) (by kernel_rfl) (fun _ _ _ h => h) (Or.inl ⟨by rfl, ?_⟩) (by assumption) ?_
          rotate_left
          · (intro w hSw; (try dsimp only at hSw); obtain ⟨⟨p0, p1, p2, p3, p4, p5, p6, p7, p8⟩, _⟩ := row9_at hSw.1; go_simp; first | done | with_reducible rfl)
          (try simp only [Act.put, List.setIfInBounds_toArray, List.set_cons_zero, List.set_cons_succ])
          refine takeH (i := 11) (v := ?_) rfl (by kernel_rfl) (by kernel_rfl) (by kernel_rfl) (fun _ _ _ h => h) (Or.inl ⟨by rfl, ?_⟩) (by assumption) ?_
          rotate_left
          · (intro w hSw; (try dsimp only at hSw); have hi := HHI.out; go_simp; first | done | with_reducible rfl)
          (try simp only [Act.put, List.setIfInBounds_toArray, List.set_cons_zero, List.set_cons_succ])
          refine takeH (i := 12) (v := ?_) rfl (by kernel_rfl) (by kernel_rfl) (by kernel_rfl) (fun _ _ _ h => h) (Or.inl ⟨by rfl, ?_⟩) (by assumption) ?_
          rotate_left
          · (intro w hSw; (try dsimp only at hSw); have hc := HCL.out w hSw.2; go_simp; first | done | with_reducible rfl)
          (try simp only [Act.put, List.setIfInBounds_toArray, List.set_cons_zero, List.set_cons_succ])
          refine wpAnyH_ready (rs := [1, 13]) (by kernel_rfl) (by simp) ?_
          refine stepH rfl (fun K hK => ?_) (stepH rfl (fun K hK => ?_) AllReadyH.nil)
          · obtain ⟨⟨q0, q1, q2, q3⟩, _⟩ := row4_at (HG5.out)
            go_simp
            refine hK.out _ _ (⟨HP5.out, HB5.out⟩) (fun _ => ?_)
            clear hK K
            (try simp only [Act.put, List.setIfInBounds_toArray, List.set_cons_zero, List.set_cons_succ])
            clear q0 q1 q2 q3
            refine wpAnyH_ready (rs := [13]) (by kernel_rfl) (by simp) ?_
            refine stepH rfl (fun K hK => ?_) AllReadyH.nil
            go_simp
            refine (HWM.out wa HB5.out).mono ?_
            rintro e waq ⟨rfl, hq⟩
            replace HP5 := Lib.hid (show waq.heap[w.heap.size]? = some (Obj.cells (s9 (.slice ax J.length cx) (.slice ary lr cry) (.slice az lw cz) k c f v a n) 34 (0, 0)) from below_block HP5.out hq)
            replace HZ5 := Lib.hid (show waq.heap[w.heap.size + 1]? = some (Obj.cells (v4 (.slice none 0 0) 0 0 0) 46 (0, 0)) from below_block HZ5.out hq)
            replace HB5 := Lib.hid (show Below w.heap.size w waq from HB5.out.trans (hq.mono HB5.out.size))
            replace HS5 := Lib.hid (show w.heap.size + 3 ≤ waq.heap.size from Nat.le_trans HS5.out hq.size)
            replace HM5 := Lib.hid (HM5.out.below hq)
            replace HG5 := Lib.hid (below_block HG5.out hq)
            replace hS : waq.heap[w.heap.size]? = some (Obj.cells (s9 (.slice ax J.length cx) (.slice ary lr cry) (.slice az lw cz) k c f v a n) 34 (0, 0)) ∧ Below w.heap.size w waq := ⟨HP5.out, HB5.out⟩
            clear hq
            go_wp2_with fail
            refine hK.out _ _ (⟨HP5.out, HB5.out⟩) (fun _ => ?_)
            clear hK K
            (try simp only [Act.put, List.setIfInBounds_toArray, List.set_cons_zero, List.set_cons_succ])
            refine takeH (i := 14) (v := ?_) rfl (by kernel_rfl) (by kernel_rfl) (by kernel_rfl) (fun _ _ _ h => h) (Or.inl ⟨by rfl, ?_⟩) (by assumption) ?_
            rotate_left
            · (intro w hSw; (try dsimp only at hSw); go_simp; first | done | with_reducible rfl)
            (try simp only [Act.put, List.setIfInBounds_toArray, List.set_cons_zero, List.set_cons_succ])
            refine wpAnyH_ready (rs := [15]) (by kernel_rfl) (by simp) ?_
            refine stepH rfl (fun K hK => ?_) AllReadyH.nil
            go_simp
            refine hK.out _ _ (⟨(by have hq := below_fresh waq (.cells #[.int .i64 m, .int .i64 WT] 58); exact below_block HP5.out hq), (by have hq := below_fresh waq (.cells #[.int .i64 m, .int .i64 WT] 58); exact HB5.out.trans (hq.mono HB5.out.size))⟩) (fun _ => ?_)
            clear hK K
            (try simp only [Act.put, List.setIfInBounds_toArray, List.set_cons_zero, List.set_cons_succ])
            refine wpAnyH_ready (rs := [16]) (by kernel_rfl) (by simp) ?_
            refine stepH rfl (fun K hK => ?_) AllReadyH.nil
            refine step_appG1 memE (m, WT) rfl (.tmp 31) (.tmp 45) rfl (by rfl) HM5.out (by rfl) HLN.out HS5.out ?_
            intro vy wy hoy hb hk
            obtain ⟨ay, ly, cy, hvy⟩ : ∃ a l c, vy = .slice a l c := (by obtain ⟨a, c, h, _⟩ := hoy.rd.shape; exact ⟨a, _, c, h⟩)
            subst hvy
            replace HP5 := Lib.hid (show wy.heap[w.heap.size]? = some (Obj.cells (s9 (.slice ax J.length cx) (.slice ary lr cry) (.slice az lw cz) k c f v a n) 34 (0, 0)) from hk.at HP5.out (by decide))
            replace HZ5 := Lib.hid (show wy.heap[w.heap.size + 1]? = some (Obj.cells (v4 (.slice none 0 0) 0 0 0) 46 (0, 0)) from hk.at HZ5.out (by decide))
            replace HB5 := Lib.hid (show Below w.heap.size w wy from HB5.out.trans (hb.mono (by omega)))
            replace HS5 := Lib.hid (show w.heap.size + 3 ≤ wy.heap.size from Nat.le_trans HS5.out hb.size)
            replace HG5 := Lib.hid (hk.at HG5.out (by decide))
            replace HM5 := Lib.hid hoy
            replace hS : wy.heap[w.heap.size]? = some (Obj.cells (s9 (.slice ax J.length cx) (.slice ary lr cry) (.slice az lw cz) k c f v a n) 34 (0, 0)) ∧ Below w.heap.size w wy := ⟨HP5.out, HB5.out⟩
            clear hoy hb hk
            refine hK.out _ _ (⟨HP5.out, HB5.out⟩) (fun _ => ?_)
            clear hK K
            (try simp only [Act.put, List.setIfInBounds_toArray, List.set_cons_zero, List.set_cons_succ])
            refine takeH (i := 17) (v := ?_) rfl (by kernel_rfl) (by kernel_rfl) (by kernel_rfl) (fun _ _ _ h => h) (Or.inl ⟨by rfl, ?_⟩) (by assumption) ?_
            rotate_left
            · (intro w hSw; (try dsimp only at hSw); go_simp; first | done | with_reducible rfl)
            (try simp only [Act.put, List.setIfInBounds_toArray, List.set_cons_zero, List.set_cons_succ])
            obtain ⟨⟨q0, q1, q2, q3⟩, g0, g1, g2, g3⟩ := row4_at HG5.out
            have hg8 : (wy.setCell ⟨w.heap.size + 1 + 1, 0, none⟩ (.slice ay ly cy)).heap[w.heap.size + 1 + 1]? = some (Obj.cells (v4 (.slice ay ly cy) k c f) 46 (0, 0)) := heap_setCell_same wy _ 0 _ _ _ HG5.out
            have ho : Only (w.heap.size + 1 + 1) wy (wy.setCell ⟨w.heap.size + 1 + 1, 0, none⟩ (.slice ay ly cy)) := Only.set 0 _
            replace HM5 := Lib.hid (ownG_only HM5.out HG5.out (by decide) ho)
            replace HP5 := Lib.hid (show (wy.setCell ⟨w.heap.size + 1 + 1, 0, none⟩ (.slice ay ly cy)).heap[w.heap.size]? = some (Obj.cells (s9 (.slice ax J.length cx) (.slice ary lr cry) (.slice az lw cz) k c f v a n) 34 (0, 0)) from ho.at HP5.out (by omega))
            replace HZ5 := Lib.hid (show (wy.setCell ⟨w.heap.size + 1 + 1, 0, none⟩ (.slice ay ly cy)).heap[w.heap.size + 1]? = some (Obj.cells (v4 (.slice none 0 0) 0 0 0) 46 (0, 0)) from ho.at HZ5.out (by omega))
            replace HB5 := Lib.hid (show Below w.heap.size w (wy.setCell ⟨w.heap.size + 1 + 1, 0, none⟩ (.slice ay ly cy)) from HB5.out.trans (ho.below (by omega) HB5.out.size))
            replace HS5 := Lib.hid (show w.heap.size + 3 ≤ (wy.setCell ⟨w.heap.size + 1 + 1, 0, none⟩ (.slice ay ly cy)).heap.size from Nat.le_trans HS5.out ho.size)
            replace HG5 := Lib.hid hg8
            replace hS : (wy.setCell ⟨w.heap.size + 1 + 1, 0, none⟩ (.slice ay ly cy)).heap[w.heap.size]? = some (Obj.cells (s9 (.slice ax J.length cx) (.slice ary lr cry) (.slice az lw cz) k c f v a n) 34 (0, 0)) ∧ Below w.heap.size w (wy.setCell ⟨w.heap.size + 1 + 1, 0, none⟩ (.slice ay ly cy)) := ⟨HP5.out, HB5.out⟩
            clear hg8 ho
            refine wpAnyH_ready (rs := [18]) (by kernel_rfl) (by simp) ?_
            refine stepH rfl (fun K hK => ?_) AllReadyH.nil
            go_simp
            refine hK.out _ _ (⟨HP5.out, HB5.out⟩) (fun _ => ?_)
            clear hK K
            (try simp only [Act.put, List.setIfInBounds_toArray, List.set_cons_zero, List.set_cons_succ])
            refine wpAnyH_done (by kernel_rfl) ?_ _
            generalize (wy.setCell ⟨w.heap.size + 1 + 1, 0, none⟩ (.slice ay ly cy)) = wz at HP5 HZ5 HB5 HS5 HM5 HG5 hS ⊢
            clear hS q0 q1 q2 q3 g0 g1 g2 g3
            go_wp2
            go_roundw
            case rel => exact ⟨j + 1, _, by omega, by go_num, HP5, HZ5, HG5, Lib.hid (by rw [HSN.out]; exact HM5.out), HB5, HS5⟩
            case measure => simp [intOf]; omega
          · go_simp
            refine (HWM.out wa HB5.out).mono ?_
            rintro e waq ⟨rfl, hq⟩
            replace HP5 := Lib.hid (show waq.heap[w.heap.size]? = some (Obj.cells (s9 (.slice ax J.length cx) (.slice ary lr cry) (.slice az lw cz) k c f v a n) 34 (0, 0)) from below_block HP5.out hq)
            replace HZ5 := Lib.hid (show waq.heap[w.heap.size + 1]? = some (Obj.cells (v4 (.slice none 0 0) 0 0 0) 46 (0, 0)) from below_block HZ5.out hq)
            replace HB5 := Lib.hid (show Below w.heap.size w waq from HB5.out.trans (hq.mono HB5.out.size))
            replace HS5 := Lib.hid (show w.heap.size + 3 ≤ waq.heap.size from Nat.le_trans HS5.out hq.size)
            replace HM5 := Lib.hid (HM5.out.below hq)
            replace HG5 := Lib.hid (below_block HG5.out hq)
            replace hS : waq.heap[w.heap.size]? = some (Obj.cells (s9 (.slice ax J.length cx) (.slice ary lr cry) (.slice az lw cz) k c f v a n) 34 (0, 0)) ∧ Below w.heap.size w waq := ⟨HP5.out, HB5.out⟩
            clear hq
            go_wp2_with fail
            refine hK.out _ _ (⟨HP5.out, HB5.out⟩) (fun _ => ?_)
            clear hK K
            (try simp only [Act.put, List.setIfInBounds_toArray, List.set_cons_zero, List.set_cons_succ])
            refine takeH (i := 14) (v := ?_) rfl (by kernel_rfl) (by kernel_rfl) (by kernel_rfl) (fun _ _ _ h => h) (Or.inl ⟨by rfl, ?_⟩) (by assumption) ?_
            rotate_left
            · (intro w hSw; (try dsimp only at hSw); go_simp; first | done | with_reducible rfl)
            (try simp only [Act.put, List.setIfInBounds_toArray, List.set_cons_zero, List.set_cons_succ])
            refine wpAnyH_ready (rs := [1, 15]) (by kernel_rfl) (by simp) ?_
            refine stepH rfl (fun K hK => ?_) (stepH rfl (fun K hK => ?_) AllReadyH.nil)
            · obtain ⟨⟨q0, q1, q2, q3⟩, _⟩ := row4_at (HG5.out)
              go_simp
              refine hK.out _ _ (⟨HP5.out, HB5.out⟩) (fun _ => ?_)
              clear hK K
              (try simp only [Act.put, List.setIfInBounds_toArray, List.set_cons_zero, List.set_cons_succ])
              clear q0 q1 q2 q3
              refine wpAnyH_ready (rs := [15]) (by kernel_rfl) (by simp) ?_
              refine stepH rfl (fun K hK => ?_) AllReadyH.nil
              go_simp
              refine hK.out _ _ (⟨(by have hq := below_fresh waq (.cells #[.int .i64 m, .int .i64 WT] 58); exact below_block HP5.out hq), (by have hq := below_fresh waq (.cells #[.int .i64 m, .int .i64 WT] 58); exact HB5.out.trans (hq.mono HB5.out.size))⟩) (fun _ => ?_)
              clear hK K
              (try simp only [Act.put, List.setIfInBounds_toArray, List.set_cons_zero, List.set_cons_succ])
              refine wpAnyH_ready (rs := [16]) (by kernel_rfl) (by simp) ?_
              refine stepH rfl (fun K hK => ?_) AllReadyH.nil
              refine step_appG1 memE (m, WT) rfl (.tmp 31) (.tmp 45) rfl (by rfl) HM5.out (by rfl) HLN.out HS5.out ?_
              intro vy wy hoy hb hk
              obtain ⟨ay, ly, cy, hvy⟩ : ∃ a l c, vy = .slice a l c := (by obtain ⟨a, c, h, _⟩ := hoy.rd.shape; exact ⟨a, _, c, h⟩)
              subst hvy
              replace HP5 := Lib.hid (show wy.heap[w.heap.size]? = some (Obj.cells (s9 (.slice ax J.length cx) (.slice ary lr cry) (.slice az lw cz) k c f v a n) 34 (0, 0)) from hk.at HP5.out (by decide))
              replace HZ5 := Lib.hid (show wy.heap[w.heap.size + 1]? = some (Obj.cells (v4 (.slice none 0 0) 0 0 0) 46 (0, 0)) from hk.at HZ5.out (by decide))
              replace HB5 := Lib.hid (show Below w.heap.size w wy from HB5.out.trans (hb.mono (by omega)))
              replace HS5 := Lib.hid (show w.heap.size + 3 ≤ wy.heap.size from Nat.le_trans HS5.out hb.size)
              replace HG5 := Lib.hid (hk.at HG5.out (by decide))
              replace HM5 := Lib.hid hoy
              replace hS : wy.heap[w.heap.size]? = some (Obj.cells (s9 (.slice ax J.length cx) (.slice ary lr cry) (.slice az lw cz) k c f v a n) 34 (0, 0)) ∧ Below w.heap.size w wy := ⟨HP5.out, HB5.out⟩
              clear hoy hb hk
              refine hK.out _ _ (⟨HP5.out, HB5.out⟩) (fun _ => ?_)
              clear hK K
              (try simp only [Act.put, List.setIfInBounds_toArray, List.set_cons_zero, List.set_cons_succ])
              refine takeH (i := 17) (v := ?_) rfl (by kernel_rfl) (by kernel_rfl) (by kernel_rfl) (fun _ _ _ h => h) (Or.inl ⟨by rfl, ?_⟩) (by assumption) ?_
              rotate_left
              · (intro w hSw; (try dsimp only at hSw); go_simp; first | done | with_reducible rfl)
              (try simp only [Act.put, List.setIfInBounds_toArray, List.set_cons_zero, List.set_cons_succ])
              obtain ⟨⟨q0, q1, q2, q3⟩, g0, g1, g2, g3⟩ := row4_at HG5.out
              have hg8 : (wy.setCell ⟨w.heap.size + 1 + 1, 0, none⟩ (.slice ay ly cy)).heap[w.heap.size + 1 + 1]? = some (Obj.cells (v4 (.slice ay ly cy) k c f) 46 (0, 0)) := heap_setCell_same wy _ 0 _ _ _ HG5.out
              have ho : Only (w.heap.size + 1 + 1) wy (wy.setCell ⟨w.heap.size + 1 + 1, 0, none⟩ (.slice ay ly cy)) := Only.set 0 _
              replace HM5 := Lib.hid (ownG_only HM5.out HG5.out (by decide) ho)
              replace HP5 := Lib.hid (show (wy.setCell ⟨w.heap.size + 1 + 1, 0, none⟩ (.slice ay ly cy)).heap[w.heap.size]? = some (Obj.cells (s9 (.slice ax J.length cx) (.slice ary lr cry) (.slice az lw cz) k c f v a n) 34 (0, 0)) from ho.at HP5.out (by omega))
              replace HZ5 := Lib.hid (show (wy.setCell ⟨w.heap.size + 1 + 1, 0, none⟩ (.slice ay ly cy)).heap[w.heap.size + 1]? = some (Obj.cells (v4 (.slice none 0 0) 0 0 0) 46 (0, 0)) from ho.at HZ5.out (by omega))
              replace HB5 := Lib.hid (show Below w.heap.size w (wy.setCell ⟨w.heap.size + 1 + 1, 0, none⟩ (.slice ay ly cy)) from HB5.out.trans (ho.below (by omega) HB5.out.size))
              replace HS5 := Lib.hid (show w.heap.size + 3 ≤ (wy.setCell ⟨w.heap.size + 1 + 1, 0, none⟩ (.slice ay ly cy)).heap.size from Nat.le_trans HS5.out ho.size)
              replace HG5 := Lib.hid hg8
              replace hS : (wy.setCell ⟨w.heap.size + 1 + 1, 0, none⟩ (.slice ay ly cy)).heap[w.heap.size]? = some (Obj.cells (s9 (.slice ax J.length cx) (.slice ary lr cry) (.slice az lw cz) k c f v a n) 34 (0, 0)) ∧ Below w.heap.size w (wy.setCell ⟨w.heap.size + 1 + 1, 0, none⟩ (.slice ay ly cy)) := ⟨HP5.out, HB5.out⟩
              clear hg8 ho
              refine wpAnyH_ready (rs := [18]) (by kernel_rfl) (by simp) ?_
              refine stepH rfl (fun K hK => ?_) AllReadyH.nil
              go_simp
              refine hK.out _ _ (⟨HP5.out, HB5.out⟩) (fun _ => ?_)
              clear hK K
              (try simp only [Act.put, List.setIfInBounds_toArray, List.set_cons_zero, List.set_cons_succ])
              refine wpAnyH_done (by kernel_rfl) ?_ _
              generalize (wy.setCell ⟨w.heap.size + 1 + 1, 0, none⟩ (.slice ay ly cy)) = wz at HP5 HZ5 HB5 HS5 HM5 HG5 hS ⊢
              clear hS q0 q1 q2 q3 g0 g1 g2 g3
              go_wp2
              go_roundw
              case rel => exact ⟨j + 1, _, by omega, by go_num, HP5, HZ5, HG5, Lib.hid (by rw [HSN.out]; exact HM5.out), HB5, HS5⟩
              case measure => simp [intOf]; omega
            · go_simp
              refine hK.out _ _ (⟨(by have hq := below_fresh waq (.cells #[.int .i64 m, .int .i64 WT] 58); exact below_block HP5.out hq), (by have hq := below_fresh waq (.cells #[.int .i64 m, .int .i64 WT] 58); exact HB5.out.trans (hq.mono HB5.out.size))⟩) (fun _ => ?_)
              clear hK K
              (try simp only [Act.put, List.setIfInBounds_toArray, List.set_cons_zero, List.set_cons_succ])
              refine wpAnyH_ready (rs := [1]) (by kernel_rfl) (by simp) ?_
              refine stepH rfl (fun K hK => ?_) AllReadyH.nil
              obtain ⟨⟨q0, q1, q2, q3⟩, _⟩ := row4_at (below_block HG5.out (below_fresh waq (.cells #[.int .i64 m, .int .i64 WT] 58)))
              go_simp
              refine hK.out _ _ (⟨(by have hq := below_fresh waq (.cells #[.int .i64 m, .int .i64 WT] 58); exact below_block HP5.out hq), (by have hq := below_fresh waq (.cells #[.int .i64 m, .int .i64 WT] 58); exact HB5.out.trans (hq.mono HB5.out.size))⟩) (fun _ => ?_)
              clear hK K
              (try simp only [Act.put, List.setIfInBounds_toArray, List.set_cons_zero, List.set_cons_succ])
              clear q0 q1 q2 q3
              refine wpAnyH_ready (rs := [16]) (by kernel_rfl) (by simp) ?_
              refine stepH rfl (fun K hK => ?_) AllReadyH.nil
              refine step_appG1 memE (m, WT) rfl (.tmp 31) (.tmp 45) rfl (by rfl) HM5.out (by rfl) HLN.out HS5.out ?_
              intro vy wy hoy hb hk
              obtain ⟨ay, ly, cy, hvy⟩ : ∃ a l c, vy = .slice a l c := (by obtain ⟨a, c, h, _⟩ := hoy.rd.shape; exact ⟨a, _, c, h⟩)
              subst hvy
              replace HP5 := Lib.hid (show wy.heap[w.heap.size]? = some (Obj.cells (s9 (.slice ax J.length cx) (.slice ary lr cry) (.slice az lw cz) k c f v a n) 34 (0, 0)) from hk.at HP5.out (by decide))
              replace HZ5 := Lib.hid (show wy.heap[w.heap.size + 1]? = some (Obj.cells (v4 (.slice none 0 0) 0 0 0) 46 (0, 0)) from hk.at HZ5.out (by decide))
              replace HB5 := Lib.hid (show Below w.heap.size w wy from HB5.out.trans (hb.mono (by omega)))
              replace HS5 := Lib.hid (show w.heap.size + 3 ≤ wy.heap.size from Nat.le_trans HS5.out hb.size)
              replace HG5 := Lib.hid (hk.at HG5.out (by decide))
              replace HM5 := Lib.hid hoy
              replace hS : wy.heap[w.heap.size]? = some (Obj.cells (s9 (.slice ax J.length cx) (.slice ary lr cry) (.slice az lw cz) k c f v a n) 34 (0, 0)) ∧ Below w.heap.size w wy := ⟨HP5.out, HB5.out⟩
              clear hoy hb hk
              refine hK.out _ _ (⟨HP5.out, HB5.out⟩) (fun _ => ?_)
              clear hK K
              (try simp only [Act.put, List.setIfInBounds_toArray, List.set_cons_zero, List.set_cons_succ])
              refine takeH (i := 17) (v := ?_) rfl (by kernel_rfl) (by kernel_rfl) (by kernel_rfl) (fun _ _ _ h => h) (Or.inl ⟨by rfl, ?_⟩) (by assumption) ?_
              rotate_left
              · (intro w hSw; (try dsimp only at hSw); go_simp; first | done | with_reducible rfl)
              (try simp only [Act.put, List.setIfInBounds_toArray, List.set_cons_zero, List.set_cons_succ])
              obtain ⟨⟨q0, q1, q2, q3⟩, g0, g1, g2, g3⟩ := row4_at HG5.out
              have hg8 : (wy.setCell ⟨w.heap.size + 1 + 1, 0, none⟩ (.slice ay ly cy)).heap[w.heap.size + 1 + 1]? = some (Obj.cells (v4 (.slice ay ly cy) k c f) 46 (0, 0)) := heap_setCell_same wy _ 0 _ _ _ HG5.out
              have ho : Only (w.heap.size + 1 + 1) wy (wy.setCell ⟨w.heap.size + 1 + 1, 0, none⟩ (.slice ay ly cy)) := Only.set 0 _
              replace HM5 := Lib.hid (ownG_only HM5.out HG5.out (by decide) ho)
              replace HP5 := Lib.hid (show (wy.setCell ⟨w.heap.size + 1 + 1, 0, none⟩ (.slice ay ly cy)).heap[w.heap.size]? = some (Obj.cells (s9 (.slice ax J.length cx) (.slice ary lr cry) (.slice az lw cz) k c f v a n) 34 (0, 0)) from ho.at HP5.out (by omega))
              replace HZ5 := Lib.hid (show (wy.setCell ⟨w.heap.size + 1 + 1, 0, none⟩ (.slice ay ly cy)).heap[w.heap.size + 1]? = some (Obj.cells (v4 (.slice none 0 0) 0 0 0) 46 (0, 0)) from ho.at HZ5.out (by omega))
              replace HB5 := Lib.hid (show Below w.heap.size w (wy.setCell ⟨w.heap.size + 1 + 1, 0, none⟩ (.slice ay ly cy)) from HB5.out.trans (ho.below (by omega) HB5.out.size))
              replace HS5 := Lib.hid (show w.heap.size + 3 ≤ (wy.setCell ⟨w.heap.size + 1 + 1, 0, none⟩ (.slice ay ly cy)).heap.size from Nat.le_trans HS5.out ho.size)
              replace HG5 := Lib.hid hg8
              replace hS : (wy.setCell ⟨w.heap.size + 1 + 1, 0, none⟩ (.slice ay ly cy)).heap[w.heap.size]? = some (Obj.cells (s9 (.slice ax J.length cx) (.slice ary lr cry) (.slice az lw cz) k c f v a n) 34 (0, 0)) ∧ Below w.heap.size w (wy.setCell ⟨w.heap.size + 1 + 1, 0, none⟩ (.slice ay ly cy)) := ⟨HP5.out, HB5.out⟩
              clear hg8 ho
              refine wpAnyH_ready (rs := [18]) (by kernel_rfl) (by simp) ?_
              refine stepH rfl (fun K hK => ?_) AllReadyH.nil
              go_simp
              refine hK.out _ _ (⟨HP5.out, HB5.out⟩) (fun _ => ?_)
              clear hK K
              (try simp only [Act.put, List.setIfInBounds_toArray, List.set_cons_zero, List.set_cons_succ])
              refine wpAnyH_done (by kernel_rfl) ?_ _
              generalize (wy.setCell ⟨w.heap.size + 1 + 1, 0, none⟩ (.slice ay ly cy)) = wz at HP5 HZ5 HB5 HS5 HM5 HG5 hS ⊢
              clear hS q0 q1 q2 q3 g0 g1 g2 g3
              go_wp2
              go_roundw
              case rel => exact ⟨j + 1, _, by omega, by go_num, HP5, HZ5, HG5, Lib.hid (by rw [HSN.out]; exact HM5.out), HB5, HS5⟩
              case measure => simp [intOf]; omega
        · replace HM5 := Lib.hid (show OwnM (w.heap.size + 3) wb (.slice sa slen sc) (MJ (j + 1)) by rw [HSN.out]; exact HM5.out)
          go_wp2
          go_roundw
          case rel => exact ⟨j + 1, _, by omega, by go_num, HP5, HZ5, HG5, HM5, HB5, HS5⟩
          case measure => simp [intOf]; omega
      · have hq : ¬ ((j : Int) < (J.length : Int)) := by omega
        obtain rfl : j = J.length := by omega
        rw [HALL.out] at HM5
        obtain ⟨⟨p0, p1, p2, p3, p4, p5, p6, p7, p8⟩, _⟩ := row9_at HP5.out
        obtain ⟨⟨y0, y1, y2, y3⟩, _⟩ := row4_at HG5.out
        obtain ⟨⟨z0, z1, z2, z3⟩, f0, f1, f2, f3⟩ := row4_at HZ5.out
        go_wp2
        have hput := row4_put HZ5.out (.slice sa slen sc) (.int .i64 k) (.int .i64 c) (.int .i64 f) w.heap.size (by omega)
        have hon := onlyc4 (w := wr) (g := w.heap.size + 1) (.slice sa slen sc) (.int .i64 k) (.int .i64 c) (.int .i64 f)
        exact rview_ret rfl hput.1 rfl ⟨.slice sa slen sc, by rw [HK.out], (ownG_only HM5.out HZ5.out (by decide) hon).mono (by omega), HB5.out.trans hput.2⟩
  · have hz0 : k = 0 ∧ c = 0 ∧ f = 0 := by have := HRZ.out; simpa using this.symm
    have HK := Lib.hid (show vk = 1 from HVK.out)
    have HC := Lib.hid (show c = 0 from hz0.2.1)
    have HF := Lib.hid (show f = 0 from hz0.2.2)
    clear hz0
    go_upto_region 4 with fail
    clear heq p0 p1 p2 p3 p4 p5 p6 p7 p8 q0 q1 q2 q3 g0 g1 g2 g3 HVK HRZ HW3
    have t1 := heap_setCell_same w3 (w.heap.size + 1 + 1) 1 _ _ (.int .i64 1) HG5.out
    have t2 := heap_setCell_same _ (w.heap.size + 1 + 1) 2 _ _ (.int .i64 0) t1
    have t3 : (((w3.setCell ⟨w.heap.size + 1 + 1, 1, none⟩ (.int .i64 1)).setCell ⟨w.heap.size + 1 + 1, 2, none⟩ (.int .i64 0)).setCell ⟨w.heap.size + 1 + 1, 3, none⟩ (.int .i64 0)).heap[w.heap.size + 1 + 1]? = some (.cells (v4 (.slice none 0 0) 1 0 0) 46 (0, 0)) := heap_setCell_same _ (w.heap.size + 1 + 1) 3 _ _ (.int .i64 0) t2
    have ho : Only (w.heap.size + 1 + 1) w3 (((w3.setCell ⟨w.heap.size + 1 + 1, 1, none⟩ (.int .i64 1)).setCell ⟨w.heap.size + 1 + 1, 2, none⟩ (.int .i64 0)).setCell ⟨w.heap.size + 1 + 1, 3, none⟩ (.int .i64 0)) := ((Only.set 1 _).trans (Only.set 2 _)).trans (Only.set 3 _)
    clear t1 t2
    replace HP5 := Lib.hid (ho.at HP5.out (by omega))
    replace HZ5 := Lib.hid (ho.at HZ5.out (by omega))
    replace HM5 := Lib.hid (ownG_only HM5.out HG5.out (by decide) ho)
    replace HB5 := Lib.hid (HB5.out.trans (ho.below (by omega) HB5.out.size))
    replace HG5 := Lib.hid t3
    have HS3 := Lib.hid (show w.heap.size + 3 ≤ (((w3.setCell ⟨w.heap.size + 1 + 1, 1, none⟩ (.int .i64 1)).setCell ⟨w.heap.size + 1 + 1, 2, none⟩ (.int .i64 0)).setCell ⟨w.heap.size + 1 + 1, 3, none⟩ (.int .i64 0)).heap.size by have := HSZ.out; have := ho.size; omega)
    clear t3 ho
    generalize (((w3.setCell ⟨w.heap.size + 1 + 1, 1, none⟩ (.int .i64 1)).setCell ⟨w.heap.size + 1 + 1, 2, none⟩ (.int .i64 0)).setCell ⟨w.heap.size + 1 + 1, 3, none⟩ (.int .i64 0)) = w5 at HP5 HZ5 HG5 HB5 HM5 HS3 ⊢
    go_wp2
    go_loopw [4] (fun i wr => ∃ (j : Nat) (sl : Value), j ≤ J.length ∧ i = .int .i64 j ∧ Hid (wr.heap[w.heap.size]? = some (.cells (s9 (.slice ax J.length cx) (.slice ary lr cry) (.slice az lw cz) k c f v a n) 34 (0, 0))) ∧ Hid (wr.heap[w.heap.size + 1]? = some (.cells (v4 (.slice none 0 0) 0 0 0) 46 (0, 0))) ∧ Hid (wr.heap[w.heap.size + 1 + 1]? = some (.cells (v4 sl 1 0 0) 46 (0, 0))) ∧ Hid (OwnM (w.heap.size + 3) wr sl (MJ j)) ∧ Hid (Below w.heap.size w wr) ∧ Hid (w.heap.size + 3 ≤ wr.heap.size)) (fun i _ => J.length - (intOf i).toNat)
    case atStart => exact ⟨0, _, Nat.zero_le _, rfl, HP5, HZ5, HG5, HM5, HB5, HS3⟩
    case round =>
      clear HP5 HZ5 HG5 HM5 HB5 HS3
      obtain ⟨j, sl, hj, rfl, HP5, HZ5, HG5, HM5, HB5, HS5⟩ := hrel
      obtain ⟨sa, slen, sc, hvs⟩ : ∃ a l c, sl = .slice a l c := by obtain ⟨a, c, h, _⟩ := HM5.out.rd.shape; exact ⟨a, _, c, h⟩
      subst hvs
      by_cases hlt : j < J.length
      · have hq : (j : Int) < (J.length : Int) := by omega
        have hjb : (j : Int) ≤ 1000000 := by have := HLJ.out; omega
        obtain ⟨m, hx⟩ : ∃ m : Int, J[j]? = some m := ⟨_, List.getElem?_eq_getElem hlt⟩
        obtain ⟨o1, oo, hi, hob, c0⟩ := atI HJL.out j m hx
        have HHI := Lib.hid hi
        have HCL := Lib.hid (fun w' (b : Below w.heap.size w w') => (b.cell hob).trans c0)
        have HSN := Lib.hid (HSUC.out j m hx)
        have HLN := Lib.hid (show (MJ j).length ≤ 1073741824 by have := HMLN.out j; have := HLJ.out; omega)
        have HWM := Lib.hid (fun w' (b : Below w.heap.size w w') => HWT.out w' b m)
        have HIM := Lib.hid (fun w' (b : Below w.heap.size w w') => HIN.out w' b m)
        generalize WO m = WT at HSN HWM
        generalize RC m = rb at HSN HIM
        obtain ⟨⟨p0, p1, p2, p3, p4, p5, p6, p7, p8⟩, _⟩ := row9_at HP5.out
        clear hx hi hob c0
        go_wp2
        clear p0 p1 p2 p3 p4 p5 p6 p7 p8
        refine wp_region_held_drew (S := fun w' => Below wr.heap.size wr w') (by kernel_rfl) ((Below.refl _ _).drew) (fun ha => ?_)
        replace ha : Below wr.heap.size wr wr.drew := (Below.refl _ _).drew
        generalize wr.drew = wa at ha ⊢
        refine takeH (i := 0) (v := ?_) rfl (by kernel_rfl) (by kernel_rfl) (by kernel_rfl) (fun _ _ _ h => h) (Or.inl ⟨by rfl, ?_⟩) (by assumption) ?_
        rotate_left
        · (intro w hSw; (try dsimp only at hSw); go_simp; first | done | with_reducible rfl)
        (try simp only [Act.put, List.setIfInBounds_toArray, List.set_cons_zero, List.set_cons_succ])
        refine takeH (i := 1) (v := ?_) rfl (by kernel_rfl) (by kernel_rfl) (by kernel_rfl) (fun _ _ _ h => h) (Or.inl ⟨by rfl, ?_⟩) (by assumption) ?_
        rotate_left
        · (intro w hSw; (try dsimp only at hSw); obtain ⟨⟨p0, p1, p2, p3, p4, p5, p6, p7, p8⟩, _⟩ := row9_at (below_block HP5.out hSw); go_simp; first | done | with_reducible rfl)
        (try simp only [Act.put, List.setIfInBounds_toArray, List.set_cons_zero, List.set_cons_succ])
        refine takeH (i := 2) (v := ?_) rfl (by kernel_rfl) (by kernel_rfl) (by kernel_rfl) (fun _ _ _ h => h) (Or.inl ⟨by rfl, ?_⟩) (by assumption) ?_
        rotate_left
        · (intro w hSw; (try dsimp only at hSw); go_simp; first | done | with_reducible rfl)
        (try simp only [Act.put, List.setIfInBounds_toArray, List.set_cons_zero, List.set_cons_succ])
        refine takeH (i := 3) (v := ?_) rfl (by kernel_rfl) (by kernel_rfl) (by kernel_rfl) (fun _ _ _ h => h) (Or.inl ⟨by rfl, ?_⟩) (by assumption) ?_
        rotate_left
        · (intro w hSw; (try dsimp only at hSw); obtain ⟨⟨p0, p1, p2, p3, p4, p5, p6, p7, p8⟩, _⟩ := row9_at (below_block HP5.out hSw); go_simp; first | done | with_reducible rfl)
        (try simp only [Act.put, List.setIfInBounds_toArray, List.set_cons_zero, List.set_cons_succ])
        refine takeH (i := 4) (v := ?_) rfl (by kernel_rfl) (by kernel_rfl) (by kernel_rfl) (fun _ _ _ h => h) (Or.inl ⟨by rfl, ?_⟩) (by assumption) ?_
        rotate_left
        · (intro w hSw; (try dsimp only at hSw); go_simp; first | done | with_reducible rfl)
        (try simp only [Act.put, List.setIfInBounds_toArray, List.set_cons_zero, List.set_cons_succ])
        refine takeH (i := 5) (v := ?_) rfl (by kernel_rfl) (by kernel_rfl) (by kernel_rfl) (fun _ _ _ h => h) (Or.inl ⟨by rfl, ?_⟩) (by assumption) ?_
        rotate_left
        · (intro w hSw; (try dsimp only at hSw); have hi := HHI.out; go_simp; first | done | with_reducible rfl)
        (try simp only [Act.put, List.setIfInBounds_toArray, List.set_cons_zero, List.set_cons_succ])
        refine takeH (i := 6) (v := ?_) rfl (by kernel_rfl) (by kernel_rfl) (by kernel_rfl) (fun _ _ _ h => h) (Or.inl ⟨by rfl, ?_⟩) (by assumption) ?_
        rotate_left
        · (intro w hSw; (try dsimp only at hSw); have hc := HCL.out w (bnext HB5.out hSw); go_simp; first | done | with_reducible rfl)
        (try simp only [Act.put, List.setIfInBounds_toArray, List.set_cons_zero, List.set_cons_succ])
        refine wpAnyH_ready (rs := [7]) (by kernel_rfl) (by simp) ?_
        refine stepH rfl (fun K hK => ?_) AllReadyH.nil
        go_simp
        refine (HIM.out wa (bnext HB5.out ha)).mono ?_
        rintro e wb ⟨rfl, hq⟩
        have hb := bnext ha hq
        go_wp2_with fail
        refine hK.out _ _ (hb) (fun _ => ?_)
        clear hK K
        (try simp only [Act.put, List.setIfInBounds_toArray, List.set_cons_zero, List.set_cons_succ])
        refine takeH (i := 8) (v := ?_) rfl (by kernel_rfl) (by kernel_rfl) (by kernel_rfl) (fun _ _ _ h => h) (Or.inl ⟨by rfl, ?_⟩) (by assumption) ?_
        rotate_left
        · (intro w hSw; (try dsimp only at hSw); go_simp; first | done | with_reducible rfl)
        (try simp only [Act.put, List.setIfInBounds_toArray, List.set_cons_zero, List.set_cons_succ])
        refine wpAnyH_done (by kernel_rfl) ?_ _
        replace HP5 := Lib.hid (below_block HP5.out hb)
        replace HZ5 := Lib.hid (below_block HZ5.out hb)
        replace HG5 := Lib.hid (below_block HG5.out hb)
        replace HM5 := Lib.hid (HM5.out.below hb)
        replace HB5 := Lib.hid (bnext HB5.out hb)
        replace HS5 := Lib.hid (Nat.le_trans HS5.out hb.size)
        clear ha hb HIM
        cases rb
        · go_wp2
          refine wp_region_held_drew (S := fun w' => w'.heap[w.heap.size]? = some (Obj.cells (s9 (.slice ax J.length cx) (.slice ary lr cry) (.slice az lw cz) k c f v a n) 34 (0, 0)) ∧ Below w.heap.size w w') (by kernel_rfl) (by first | exact ⟨HP5.out, HB5.out⟩ | exact ⟨HP5.out, HB5.out.drew⟩) (fun _ => ?_)
          replace HP5 := Lib.hid (show wb.drew.heap[w.heap.size]? = some (Obj.cells (s9 (.slice ax J.length cx) (.slice ary lr cry) (.slice az lw cz) k c f v a n) 34 (0, 0)) from by first | exact HP5.out | (have hq : Below wb.heap.size wb wb.drew := (Below.refl _ wb).drew; exact below_block HP5.out hq))
          replace HZ5 := Lib.hid (show wb.drew.heap[w.heap.size + 1]? = some (Obj.cells (v4 (.slice none 0 0) 0 0 0) 46 (0, 0)) from by first | exact HZ5.out | (have hq : Below wb.heap.size wb wb.drew := (Below.refl _ wb).drew; exact below_block HZ5.out hq))
          replace HB5 := Lib.hid (show Below w.heap.size w wb.drew from by first | exact HB5.out | (have hq : Below wb.heap.size wb wb.drew := (Below.refl _ wb).drew; exact HB5.out.trans (hq.mono HB5.out.size)))
          replace HS5 := Lib.hid (show w.heap.size + 3 ≤ wb.drew.heap.size from by first | exact HS5.out | (have hq : Below wb.heap.size wb wb.drew := (Below.refl _ wb).drew; exact Nat.le_trans HS5.out hq.size))
          replace HM5 := Lib.hid (show OwnM (w.heap.size + 3) wb.drew (.slice sa slen sc) (MJ j) from HM5.out)
          replace HG5 := Lib.hid (show wb.drew.heap[w.heap.size + 1 + 1]? = some (Obj.cells (v4 (.slice sa slen sc) 1 0 0) 46 (0, 0)) from HG5.out)
          have hS : wb.drew.heap[w.heap.size]? = some (Obj.cells (s9 (.slice ax J.length cx) (.slice ary lr cry) (.slice az lw cz) k c f v a n) 34 (0, 0)) ∧ Below w.heap.size w wb.drew := ⟨HP5.out, HB5.out⟩
          generalize wb.drew = wa at HP5 HZ5 HB5 HS5 HM5 HG5 hS ⊢
          refine takeH (i := 0) (v := ?_) rfl (by kernel_rfl) (by kernel_rfl) (by kernel_rfl) (fun _ _ _ h => h) (Or.inl ⟨by rfl, ?_⟩) (by assumption) ?_
          rotate_left
          · (intro w hSw; (try dsimp only at hSw); go_simp; first | done | with_reducible rfl)
          (try simp only [Act.put, List.setIfInBounds_toArray, List.set_cons_zero, List.set_cons_succ])
          refine takeH (i := 2) (v := ?_) rfl (by kernel_rfl) (by kernel_rfl) (by kernel_rfl) (fun _ _ _ h => h) (Or.inl ⟨by rfl, ?_⟩) (by assumption) ?_
          rotate_left
          · (intro w hSw; (try dsimp only at hSw); go_simp; first | done | with_reducible rfl)
          (try simp only [Act.put, List.setIfInBounds_toArray, List.set_cons_zero, List.set_cons_succ])
          refine takeH (i := 4) (v := ?_) rfl (by kernel_rfl) (by kernel_rfl) (by kernel_rfl) (fun _ _ _ h => h) (Or.inl ⟨by rfl, ?_⟩) (by assumption) ?_
          rotate_left
          · (intro w hSw; (try dsimp only at hSw); go_simp; first | done | with_reducible rfl)
          (try simp only [Act.put, List.setIfInBounds_toArray, List.set_cons_zero, List.set_cons_succ])
          refine takeH (i := 8) (v := ?_) rfl (by kernel_rfl) (by kernel_rfl) (by kernel_rfl) (fun _ _ _ h => h) (Or.inl ⟨by rfl, ?_⟩) (by assumption) ?_
          rotate_left
          · (intro w hSw; (try dsimp only at hSw); go_simp; first | done | with_reducible rfl)
          (try simp only [Act.put, List.setIfInBounds_toArray, List.set_cons_zero, List.set_cons_succ])
          refine takeH (i := 10) (v := ?_) rfl (by kernel_rfl) (by kernel_rfl) (by kernel_rfl) (fun _ _ _ h => h) (Or.inl ⟨by rfl, ?_⟩) (by assumption) ?_
          rotate_left
          · (intro w hSw; (try dsimp only at hSw); go_simp; first | done | with_reducible rfl)
          (try simp only [Act.put, List.setIfInBounds_toArray, List.set_cons_zero, List.set_cons_succ])
          refine takeH (i := 3) (v := ?_) rfl (by kernel_rfl) (by kernel_rfl) (by kernel_rfl) (fun _ _ _ h => h) (Or.inl ⟨by rfl, ?_⟩) (by assumption) ?_
          rotate_left
          · (intro w hSw; (try dsimp only at hSw); obtain ⟨⟨p0, p1, p2, p3, p4, p5, p6, p7, p8⟩, _⟩ := row9_at hSw.1; go_simp; first | done | with_reducible rfl)
          (try simp only [Act.put, List.setIfInBounds_toArray, List.set_cons_zero, List.set_cons_succ])
          refine takeH (i := 5) (v := ?_) rfl (by kernel_rfl) (by kernel_rfl) (by kernel_rfl) (fun _ _ _ h => h) (Or.inl ⟨by rfl, ?_⟩) (by assumption) ?_
          rotate_left
          · (intro w hSw; (try dsimp only at hSw); have hi := HHI.out; go_simp; first | done | with_reducible rfl)
          (try simp only [Act.put, List.setIfInBounds_toArray, List.set_cons_zero, List.set_cons_succ])
          refine takeH (i := 6) (v := ?_) rfl (by kernel_rfl) (by kernel_rfl) (by kernel_rfl) (fun _ _ _ h => h) (Or.inl ⟨by rfl, ?_⟩) (by assumption) ?_
          rotate_left
          · (intro w hSw; (try dsimp only at hSw); have hc := HCL.out w hSw.2; go_simp; first | done | with_reducible rfl)
          (try simp only [Act.put, List.setIfInBounds_toArray, List.set_cons_zero, List.set_cons_succ])
          refine takeH (i := 7) (v := ?_) rfl (by kernel_rfl) (by kernel_rfl) (by kernel_rfl) (fun _ _ _ h => h) (Or.inl ⟨by rfl, ?_⟩) (by assumption) ?_
          rotate_left
          · (intro w hSw; (try dsimp only at hSw); obtain ⟨⟨p0, p1, p2, p3, p4, p5, p6, p7, p8⟩, _⟩ := row9_at hSw.1; go_simp; first | done | with_reducible rfl)
          (try simp only [Act.put, List.setIfInBounds_toArray, List.set_cons_zero, List.set_cons_succ])
          refine takeH (i := 9) (v := ?_) rfl (by kernel_rfl) (by kernel_rfl) (by kernel_rfl) (fun _ _ _ h => h) (Or.inl ⟨by rfl, ?_⟩) (by assumption) ?_
          rotate_left
          · (intro w hSw; (try dsimp only at hSw); obtain ⟨⟨p0, p1, p2, p3, p4, p5, p6, p7, p8⟩, _⟩ := row9_at hSw.1; go_simp; first | done | with_reducible rfl)
          (try simp only [Act.put, List.setIfInBounds_toArray, List.set_cons_zero, List.set_cons_succ])
          refine takeH (i := 11) (v := ?_) rfl (by kernel_rfl) (by kernel_rfl) (by kernel_rfl) (fun _ _ _ h => h) (Or.inl ⟨by rfl, ?_⟩) (by assumption) ?_
          rotate_left
          · (intro w hSw; (try dsimp only at hSw); have hi := HHI.out; go_simp; first | done | with_reducible rfl)
          (try simp only [Act.put, List.setIfInBounds_toArray, List.set_cons_zero, List.set_cons_succ])
          refine takeH (i := 12) (v := ?_) rfl (by kernel_rfl) (by kernel_rfl) (by kernel_rfl) (fun _ _ _ h => h) (Or.inl ⟨by rfl, ?_⟩) (by assumption) ?_
          rotate_left
          · (intro w hSw; (try dsimp only at hSw); have hc := HCL.out w hSw.2; go_simp; first | done | with_reducible rfl)
          (try simp only [Act.put, List.setIfInBounds_toArray, List.set_cons_zero, List.set_cons_succ])
          refine wpAnyH_ready (rs := [1, 13]) (by kernel_rfl) (by simp) ?_
          refine stepH rfl (fun K hK => ?_) (stepH rfl (fun K hK => ?_) AllReadyH.nil)
          · obtain ⟨⟨q0, q1, q2, q3⟩, _⟩ := row4_at (HG5.out)
            go_simp
            refine hK.out _ _ (⟨HP5.out, HB5.out⟩) (fun _ => ?_)
            clear hK K
            (try simp only [Act.put, List.setIfInBounds_toArray, List.set_cons_zero, List.set_cons_succ])
            clear q0 q1 q2 q3
            refine wpAnyH_ready (rs := [13]) (by kernel_rfl) (by simp) ?_
            refine stepH rfl (fun K hK => ?_) AllReadyH.nil
            go_simp
            refine (HWM.out wa HB5.out).mono ?_
            rintro e waq ⟨rfl, hq⟩
            replace HP5 := Lib.hid (show waq.heap[w.heap.size]? = some (Obj.cells (s9 (.slice ax J.length cx) (.slice ary lr cry) (.slice az lw cz) k c f v a n) 34 (0, 0)) from below_block HP5.out hq)
            replace HZ5 := Lib.hid (show waq.heap[w.heap.size + 1]? = some (Obj.cells (v4 (.slice none 0 0) 0 0 0) 46 (0, 0)) from below_block HZ5.out hq)
            replace HB5 := Lib.hid (show Below w.heap.size w waq from HB5.out.trans (hq.mono HB5.out.size))
            replace HS5 := Lib.hid (show w.heap.size + 3 ≤ waq.heap.size from Nat.le_trans HS5.out hq.size)
            replace HM5 := Lib.hid (HM5.out.below hq)
            replace HG5 := Lib.hid (below_block HG5.out hq)
            replace hS : waq.heap[w.heap.size]? = some (Obj.cells (s9 (.slice ax J.length cx) (.slice ary lr cry) (.slice az lw cz) k c f v a n) 34 (0, 0)) ∧ Below w.heap.size w waq := ⟨HP5.out, HB5.out⟩
            clear hq
            go_wp2_with fail
            refine hK.out _ _ (⟨HP5.out, HB5.out⟩) (fun _ => ?_)
            clear hK K
            (try simp only [Act.put, List.setIfInBounds_toArray, List.set_cons_zero, List.set_cons_succ])
            refine takeH (i := 14) (v := ?_) rfl (by kernel_rfl) (by kernel_rfl) (by kernel_rfl) (fun _ _ _ h => h) (Or.inl ⟨by rfl, ?_⟩) (by assumption) ?_
            rotate_left
            · (intro w hSw; (try dsimp only at hSw); go_simp; first | done | with_reducible rfl)
            (try simp only [Act.put, List.setIfInBounds_toArray, List.set_cons_zero, List.set_cons_succ])
            refine wpAnyH_ready (rs := [15]) (by kernel_rfl) (by simp) ?_
            refine stepH rfl (fun K hK => ?_) AllReadyH.nil
            go_simp
            refine hK.out _ _ (⟨(by have hq := below_fresh waq (.cells #[.int .i64 m, .int .i64 WT] 58); exact below_block HP5.out hq), (by have hq := below_fresh waq (.cells #[.int .i64 m, .int .i64 WT] 58); exact HB5.out.trans (hq.mono HB5.out.size))⟩) (fun _ => ?_)
            clear hK K
            (try simp only [Act.put, List.setIfInBounds_toArray, List.set_cons_zero, List.set_cons_succ])
            refine wpAnyH_ready (rs := [16]) (by kernel_rfl) (by simp) ?_
            refine stepH rfl (fun K hK => ?_) AllReadyH.nil
            refine step_appG1 memE (m, WT) rfl (.tmp 31) (.tmp 45) rfl (by rfl) HM5.out (by rfl) HLN.out HS5.out ?_
            intro vy wy hoy hb hk
            obtain ⟨ay, ly, cy, hvy⟩ : ∃ a l c, vy = .slice a l c := (by obtain ⟨a, c, h, _⟩ := hoy.rd.shape; exact ⟨a, _, c, h⟩)
            subst hvy
            replace HP5 := Lib.hid (show wy.heap[w.heap.size]? = some (Obj.cells (s9 (.slice ax J.length cx) (.slice ary lr cry) (.slice az lw cz) k c f v a n) 34 (0, 0)) from hk.at HP5.out (by decide))
            replace HZ5 := Lib.hid (show wy.heap[w.heap.size + 1]? = some (Obj.cells (v4 (.slice none 0 0) 0 0 0) 46 (0, 0)) from hk.at HZ5.out (by decide))
            replace HB5 := Lib.hid (show Below w.heap.size w wy from HB5.out.trans (hb.mono (by omega)))
            replace HS5 := Lib.hid (show w.heap.size + 3 ≤ wy.heap.size from Nat.le_trans HS5.out hb.size)
            replace HG5 := Lib.hid (hk.at HG5.out (by decide))
            replace HM5 := Lib.hid hoy
            replace hS : wy.heap[w.heap.size]? = some (Obj.cells (s9 (.slice ax J.length cx) (.slice ary lr cry) (.slice az lw cz) k c f v a n) 34 (0, 0)) ∧ Below w.heap.size w wy := ⟨HP5.out, HB5.out⟩
            clear hoy hb hk
            refine hK.out _ _ (⟨HP5.out, HB5.out⟩) (fun _ => ?_)
            clear hK K
            (try simp only [Act.put, List.setIfInBounds_toArray, List.set_cons_zero, List.set_cons_succ])
            refine takeH (i := 17) (v := ?_) rfl (by kernel_rfl) (by kernel_rfl) (by kernel_rfl) (fun _ _ _ h => h) (Or.inl ⟨by rfl, ?_⟩) (by assumption) ?_
            rotate_left
            · (intro w hSw; (try dsimp only at hSw); go_simp; first | done | with_reducible rfl)
            (try simp only [Act.put, List.setIfInBounds_toArray, List.set_cons_zero, List.set_cons_succ])
            obtain ⟨⟨q0, q1, q2, q3⟩, g0, g1, g2, g3⟩ := row4_at HG5.out
            have hg8 : (wy.setCell ⟨w.heap.size + 1 + 1, 0, none⟩ (.slice ay ly cy)).heap[w.heap.size + 1 + 1]? = some (Obj.cells (v4 (.slice ay ly cy) 1 0 0) 46 (0, 0)) := heap_setCell_same wy _ 0 _ _ _ HG5.out
            have ho : Only (w.heap.size + 1 + 1) wy (wy.setCell ⟨w.heap.size + 1 + 1, 0, none⟩ (.slice ay ly cy)) := Only.set 0 _
            replace HM5 := Lib.hid (ownG_only HM5.out HG5.out (by decide) ho)
            replace HP5 := Lib.hid (show (wy.setCell ⟨w.heap.size + 1 + 1, 0, none⟩ (.slice ay ly cy)).heap[w.heap.size]? = some (Obj.cells (s9 (.slice ax J.length cx) (.slice ary lr cry) (.slice az lw cz) k c f v a n) 34 (0, 0)) from ho.at HP5.out (by omega))
            replace HZ5 := Lib.hid (show (wy.setCell ⟨w.heap.size + 1 + 1, 0, none⟩ (.slice ay ly cy)).heap[w.heap.size + 1]? = some (Obj.cells (v4 (.slice none 0 0) 0 0 0) 46 (0, 0)) from ho.at HZ5.out (by omega))
            replace HB5 := Lib.hid (show Below w.heap.size w (wy.setCell ⟨w.heap.size + 1 + 1, 0, none⟩ (.slice ay ly cy)) from HB5.out.trans (ho.below (by omega) HB5.out.size))
            replace HS5 := Lib.hid (show w.heap.size + 3 ≤ (wy.setCell ⟨w.heap.size + 1 + 1, 0, none⟩ (.slice ay ly cy)).heap.size from Nat.le_trans HS5.out ho.size)
            replace HG5 := Lib.hid hg8
            replace hS : (wy.setCell ⟨w.heap.size + 1 + 1, 0, none⟩ (.slice ay ly cy)).heap[w.heap.size]? = some (Obj.cells (s9 (.slice ax J.length cx) (.slice ary lr cry) (.slice az lw cz) k c f v a n) 34 (0, 0)) ∧ Below w.heap.size w (wy.setCell ⟨w.heap.size + 1 + 1, 0, none⟩ (.slice ay ly cy)) := ⟨HP5.out, HB5.out⟩
            clear hg8 ho
            refine wpAnyH_ready (rs := [18]) (by kernel_rfl) (by simp) ?_
            refine stepH rfl (fun K hK => ?_) AllReadyH.nil
            go_simp
            refine hK.out _ _ (⟨HP5.out, HB5.out⟩) (fun _ => ?_)
            clear hK K
            (try simp only [Act.put, List.setIfInBounds_toArray, List.set_cons_zero, List.set_cons_succ])
            refine wpAnyH_done (by kernel_rfl) ?_ _
            generalize (wy.setCell ⟨w.heap.size + 1 + 1, 0, none⟩ (.slice ay ly cy)) = wz at HP5 HZ5 HB5 HS5 HM5 HG5 hS ⊢
            clear hS q0 q1 q2 q3 g0 g1 g2 g3
            go_wp2
            go_roundw
            case rel => exact ⟨j + 1, _, by omega, by go_num, HP5, HZ5, HG5, Lib.hid (by rw [HSN.out]; exact HM5.out), HB5, HS5⟩
            case measure => simp [intOf]; omega
          · go_simp
            refine (HWM.out wa HB5.out).mono ?_
            rintro e waq ⟨rfl, hq⟩
            replace HP5 := Lib.hid (show waq.heap[w.heap.size]? = some (Obj.cells (s9 (.slice ax J.length cx) (.slice ary lr cry) (.slice az lw cz) k c f v a n) 34 (0, 0)) from below_block HP5.out hq)
            replace HZ5 := Lib.hid (show waq.heap[w.heap.size + 1]? = some (Obj.cells (v4 (.slice none 0 0) 0 0 0) 46 (0, 0)) from below_block HZ5.out hq)
            replace HB5 := Lib.hid (show Below w.heap.size w waq from HB5.out.trans (hq.mono HB5.out.size))
            replace HS5 := Lib.hid (show w.heap.size + 3 ≤ waq.heap.size from Nat.le_trans HS5.out hq.size)
            replace HM5 := Lib.hid (HM5.out.below hq)
            replace HG5 := Lib.hid (below_block HG5.out hq)
            replace hS : waq.heap[w.heap.size]? = some (Obj.cells (s9 (.slice ax J.length cx) (.slice ary lr cry) (.slice az lw cz) k c f v a n) 34 (0, 0)) ∧ Below w.heap.size w waq := ⟨HP5.out, HB5.out⟩
            clear hq
            go_wp2_with fail
            refine hK.out _ _ (⟨HP5.out, HB5.out⟩) (fun _ => ?_)
            clear hK K
            (try simp only [Act.put, List.setIfInBounds_toArray, List.set_cons_zero, List.set_cons_succ])
            refine takeH (i := 14) (v := ?_) rfl (by kernel_rfl) (by kernel_rfl) (by kernel_rfl) (fun _ _ _ h => h) (Or.inl ⟨by rfl, ?_⟩) (by assumption) ?_
            rotate_left
            · (intro w hSw; (try dsimp only at hSw); go_simp; first | done | with_reducible rfl)
            (try simp only [Act.put, List.setIfInBounds_toArray, List.set_cons_zero, List.set_cons_succ])
            refine wpAnyH_ready (rs := [1, 15]) (by kernel_rfl) (by simp) ?_
            refine stepH rfl (fun K hK => ?_) (stepH rfl (fun K hK => ?_) AllReadyH.nil)
            · obtain ⟨⟨q0, q1, q2, q3⟩, _⟩ := row4_at (HG5.out)
              go_simp
              refine hK.out _ _ (⟨HP5.out, HB5.out⟩) (fun _ => ?_)
              clear hK K
              (try simp only [Act.put, List.setIfInBounds_toArray, List.set_cons_zero, List.set_cons_succ])
              clear q0 q1 q2 q3
              refine wpAnyH_ready (rs := [15]) (by kernel_rfl) (by simp) ?_
              refine stepH rfl (fun K hK => ?_) AllReadyH.nil
              go_simp
              refine hK.out _ _ (⟨(by have hq := below_fresh waq (.cells #[.int .i64 m, .int .i64 WT] 58); exact below_block HP5.out hq), (by have hq := below_fresh waq (.cells #[.int .i64 m, .int .i64 WT] 58); exact HB5.out.trans (hq.mono HB5.out.size))⟩) (fun _ => ?_)
              clear hK K
              (try simp only [Act.put, List.setIfInBounds_toArray, List.set_cons_zero, List.set_cons_succ])
              refine wpAnyH_ready (rs := [16]) (by kernel_rfl) (by simp) ?_
              refine stepH rfl (fun K hK => ?_) AllReadyH.nil
              refine step_appG1 memE (m, WT) rfl (.tmp 31) (.tmp 45) rfl (by rfl) HM5.out (by rfl) HLN.out HS5.out ?_
              intro vy wy hoy hb hk
              obtain ⟨ay, ly, cy, hvy⟩ : ∃ a l c, vy = .slice a l c := (by obtain ⟨a, c, h, _⟩ := hoy.rd.shape; exact ⟨a, _, c, h⟩)
              subst hvy
              replace HP5 := Lib.hid (show wy.heap[w.heap.size]? = some (Obj.cells (s9 (.slice ax J.length cx) (.slice ary lr cry) (.slice az lw cz) k c f v a n) 34 (0, 0)) from hk.at HP5.out (by decide))
              replace HZ5 := Lib.hid (show wy.heap[w.heap.size + 1]? = some (Obj.cells (v4 (.slice none 0 0) 0 0 0) 46 (0, 0)) from hk.at HZ5.out (by decide))
              replace HB5 := Lib.hid (show Below w.heap.size w wy from HB5.out.trans (hb.mono (by omega)))
              replace HS5 := Lib.hid (show w.heap.size + 3 ≤ wy.heap.size from Nat.le_trans HS5.out hb.size)
              replace HG5 := Lib.hid (hk.at HG5.out (by decide))
              replace HM5 := Lib.hid hoy
              replace hS : wy.heap[w.heap.size]? = some (Obj.cells (s9 (.slice ax J.length cx) (.slice ary lr cry) (.slice az lw cz) k c f v a n) 34 (0, 0)) ∧ Below w.heap.size w wy := ⟨HP5.out, HB5.out⟩
              clear hoy hb hk
              refine hK.out _ _ (⟨HP5.out, HB5.out⟩) (fun _ => ?_)
              clear hK K
              (try simp only [Act.put, List.setIfInBounds_toArray, List.set_cons_zero, List.set_cons_succ])
              refine takeH (i := 17) (v := ?_) rfl (by kernel_rfl) (by kernel_rfl) (by kernel_rfl) (fun _ _ _ h => h) (Or.inl ⟨by rfl, ?_⟩) (by assumption) ?_
              rotate_left
              · (intro w hSw; (try dsimp only at hSw); go_simp; first | done | with_reducible rfl)
              (try simp only [Act.put, List.setIfInBounds_toArray, List.set_cons_zero, List.set_cons_succ])
              obtain ⟨⟨q0, q1, q2, q3⟩, g0, g1, g2, g3⟩ := row4_at HG5.out
              have hg8 : (wy.setCell ⟨w.heap.size + 1 + 1, 0, none⟩ (.slice ay ly cy)).heap[w.heap.size + 1 + 1]? = some (Obj.cells (v4 (.slice ay ly cy) 1 0 0) 46 (0, 0)) := heap_setCell_same wy _ 0 _ _ _ HG5.out
              have ho : Only (w.heap.size + 1 + 1) wy (wy.setCell ⟨w.heap.size + 1 + 1, 0, none⟩ (.slice ay ly cy)) := Only.set 0 _
              replace HM5 := Lib.hid (ownG_only HM5.out HG5.out (by decide) ho)
              replace HP5 := Lib.hid (show (wy.setCell ⟨w.heap.size + 1 + 1, 0, none⟩ (.slice ay ly cy)).heap[w.heap.size]? = some (Obj.cells (s9 (.slice ax J.length cx) (.slice ary lr cry) (.slice az lw cz) k c f v a n) 34 (0, 0)) from ho.at HP5.out (by omega))
              replace HZ5 := Lib.hid (show (wy.setCell ⟨w.heap.size + 1 + 1, 0, none⟩ (.slice ay ly cy)).heap[w.heap.size + 1]? = some (Obj.cells (v4 (.slice none 0 0) 0 0 0) 46 (0, 0)) from ho.at HZ5.out (by omega))
              replace HB5 := Lib.hid (show Below w.heap.size w (wy.setCell ⟨w.heap.size + 1 + 1, 0, none⟩ (.slice ay ly cy)) from HB5.out.trans (ho.below (by omega) HB5.out.size))
              replace HS5 := Lib.hid (show w.heap.size + 3 ≤ (wy.setCell ⟨w.heap.size + 1 + 1, 0, none⟩ (.slice ay ly cy)).heap.size from Nat.le_trans HS5.out ho.size)
              replace HG5 := Lib.hid hg8
              replace hS : (wy.setCell ⟨w.heap.size + 1 + 1, 0, none⟩ (.slice ay ly cy)).heap[w.heap.size]? = some (Obj.cells (s9 (.slice ax J.length cx) (.slice ary lr cry) (.slice az lw cz) k c f v a n) 34 (0, 0)) ∧ Below w.heap.size w (wy.setCell ⟨w.heap.size + 1 + 1, 0, none⟩ (.slice ay ly cy)) := ⟨HP5.out, HB5.out⟩
              clear hg8 ho
              refine wpAnyH_ready (rs := [18]) (by kernel_rfl) (by simp) ?_
              refine stepH rfl (fun K hK => ?_) AllReadyH.nil
              go_simp
              refine hK.out _ _ (⟨HP5.out, HB5.out⟩) (fun _ => ?_)
              clear hK K
              (try simp only [Act.put, List.setIfInBounds_toArray, List.set_cons_zero, List.set_cons_succ])
              refine wpAnyH_done (by kernel_rfl) ?_ _
              generalize (wy.setCell ⟨w.heap.size + 1 + 1, 0, none⟩ (.slice ay ly cy)) = wz at HP5 HZ5 HB5 HS5 HM5 HG5 hS ⊢
              clear hS q0 q1 q2 q3 g0 g1 g2 g3
              go_wp2
              go_roundw
              case rel => exact ⟨j + 1, _, by omega, by go_num, HP5, HZ5, HG5, Lib.hid (by rw [HSN.out]; exact HM5.out), HB5, HS5⟩
              case measure => simp [intOf]; omega
            · go_simp
              refine hK.out _ _ (⟨(by have hq := below_fresh waq (.cells #[.int .i64 m, .int .i64 WT] 58); exact below_block HP5.out hq), (by have hq := below_fresh waq (.cells #[.int .i64 m, .int .i64 WT] 58); exact HB5.out.trans (hq.mono HB5.out.size))⟩) (fun _ => ?_)
              clear hK K
              (try simp only [Act.put, List.setIfInBounds_toArray, List.set_cons_zero, List.set_cons_succ])
              refine wpAnyH_ready (rs := [1]) (by kernel_rfl) (by simp) ?_
              refine stepH rfl (fun K hK => ?_) AllReadyH.nil
              obtain ⟨⟨q0, q1, q2, q3⟩, _⟩ := row4_at (below_block HG5.out (below_fresh waq (.cells #[.int .i64 m, .int .i64 WT] 58)))
              go_simp
              refine hK.out _ _ (⟨(by have hq := below_fresh waq (.cells #[.int .i64 m, .int .i64 WT] 58); exact below_block HP5.out hq), (by have hq := below_fresh waq (.cells #[.int .i64 m, .int .i64 WT] 58); exact HB5.out.trans (hq.mono HB5.out.size))⟩) (fun _ => ?_)
              clear hK K
              (try simp only [Act.put, List.setIfInBounds_toArray, List.set_cons_zero, List.set_cons_succ])
              clear q0 q1 q2 q3
              refine wpAnyH_ready (rs := [16]) (by kernel_rfl) (by simp) ?_
              refine stepH rfl (fun K hK => ?_) AllReadyH.nil
              refine step_appG1 memE (m, WT) rfl (.tmp 31) (.tmp 45) rfl (by rfl) HM5.out (by rfl) HLN.out HS5.out ?_
              intro vy wy hoy hb hk
              obtain ⟨ay, ly, cy, hvy⟩ : ∃ a l c, vy = .slice a l c := (by obtain ⟨a, c, h, _⟩ := hoy.rd.shape; exact ⟨a, _, c, h⟩)
              subst hvy
              replace HP5 := Lib.hid (show wy.heap[w.heap.size]? = some (Obj.cells (s9 (.slice ax J.length cx) (.slice ary lr cry) (.slice az lw cz) k c f v a n) 34 (0, 0)) from hk.at HP5.out (by decide))
              replace HZ5 := Lib.hid (show wy.heap[w.heap.size + 1]? = some (Obj.cells (v4 (.slice none 0 0) 0 0 0) 46 (0, 0)) from hk.at HZ5.out (by decide))
              replace HB5 := Lib.hid (show Below w.heap.size w wy from HB5.out.trans (hb.mono (by omega)))
              replace HS5 := Lib.hid (show w.heap.size + 3 ≤ wy.heap.size from Nat.le_trans HS5.out hb.size)
              replace HG5 := Lib.hid (hk.at HG5.out (by decide))
              replace HM5 := Lib.hid hoy
              replace hS : wy.heap[w.heap.size]? = some (Obj.cells (s9 (.slice ax J.length cx) (.slice ary lr cry) (.slice az lw cz) k c f v a n) 34 (0, 0)) ∧ Below w.heap.size w wy := ⟨HP5.out, HB5.out⟩
              clear hoy hb hk
              refine hK.out _ _ (⟨HP5.out, HB5.out⟩) (fun _ => ?_)
              clear hK K
              (try simp only [Act.put, List.setIfInBounds_toArray, List.set_cons_zero, List.set_cons_succ])
              refine takeH (i := 17) (v := ?_) rfl (by kernel_rfl) (by kernel_rfl) (by kernel_rfl) (fun _ _ _ h => h) (Or.inl ⟨by rfl, ?_⟩) (by assumption) ?_
              rotate_left
              · (intro w hSw; (try dsimp only at hSw); go_simp; first | done | with_reducible rfl)
              (try simp only [Act.put, List.setIfInBounds_toArray, List.set_cons_zero, List.set_cons_succ])
              obtain ⟨⟨q0, q1, q2, q3⟩, g0, g1, g2, g3⟩ := row4_at HG5.out
              have hg8 : (wy.setCell ⟨w.heap.size + 1 + 1, 0, none⟩ (.slice ay ly cy)).heap[w.heap.size + 1 + 1]? = some (Obj.cells (v4 (.slice ay ly cy) 1 0 0) 46 (0, 0)) := heap_setCell_same wy _ 0 _ _ _ HG5.out
              have ho : Only (w.heap.size + 1 + 1) wy (wy.setCell ⟨w.heap.size + 1 + 1, 0, none⟩ (.slice ay ly cy)) := Only.set 0 _
              replace HM5 := Lib.hid (ownG_only HM5.out HG5.out (by decide) ho)
              replace HP5 := Lib.hid (show (wy.setCell ⟨w.heap.size + 1 + 1, 0, none⟩ (.slice ay ly cy)).heap[w.heap.size]? = some (Obj.cells (s9 (.slice ax J.length cx) (.slice ary lr cry) (.slice az lw cz) k c f v a n) 34 (0, 0)) from ho.at HP5.out (by omega))
              replace HZ5 := Lib.hid (show (wy.setCell ⟨w.heap.size + 1 + 1, 0, none⟩ (.slice ay ly cy)).heap[w.heap.size + 1]? = some (Obj.cells (v4 (.slice none 0 0) 0 0 0) 46 (0, 0)) from ho.at HZ5.out (by omega))
              replace HB5 := Lib.hid (show Below w.heap.size w (wy.setCell ⟨w.heap.size + 1 + 1, 0, none⟩ (.slice ay ly cy)) from HB5.out.trans (ho.below (by omega) HB5.out.size))
              replace HS5 := Lib.hid (show w.heap.size + 3 ≤ (wy.setCell ⟨w.heap.size + 1 + 1, 0, none⟩ (.slice ay ly cy)).heap.size from Nat.le_trans HS5.out ho.size)
              replace HG5 := Lib.hid hg8
              replace hS : (wy.setCell ⟨w.heap.size + 1 + 1, 0, none⟩ (.slice ay ly cy)).heap[w.heap.size]? = some (Obj.cells (s9 (.slice ax J.length cx) (.slice ary lr cry) (.slice az lw cz) k c f v a n) 34 (0, 0)) ∧ Below w.heap.size w (wy.setCell ⟨w.heap.size + 1 + 1, 0, none⟩ (.slice ay ly cy)) := ⟨HP5.out, HB5.out⟩
              clear hg8 ho
              refine wpAnyH_ready (rs := [18]) (by kernel_rfl) (by simp) ?_
              refine stepH rfl (fun K hK => ?_) AllReadyH.nil
              go_simp
              refine hK.out _ _ (⟨HP5.out, HB5.out⟩) (fun _ => ?_)
              clear hK K
              (try simp only [Act.put, List.setIfInBounds_toArray, List.set_cons_zero, List.set_cons_succ])
              refine wpAnyH_done (by kernel_rfl) ?_ _
              generalize (wy.setCell ⟨w.heap.size + 1 + 1, 0, none⟩ (.slice ay ly cy)) = wz at HP5 HZ5 HB5 HS5 HM5 HG5 hS ⊢
              clear hS q0 q1 q2 q3 g0 g1 g2 g3
              go_wp2
              go_roundw
              case rel => exact ⟨j + 1, _, by omega, by go_num, HP5, HZ5, HG5, Lib.hid (by rw [HSN.out]; exact HM5.out), HB5, HS5⟩
              case measure => simp [intOf]; omega
        · replace HM5 := Lib.hid (show OwnM (w.heap.size + 3) wb (.slice sa slen sc) (MJ (j + 1)) by rw [HSN.out]; exact HM5.out)
          go_wp2
          go_roundw
          case rel => exact ⟨j + 1, _, by omega, by go_num, HP5, HZ5, HG5, HM5, HB5, HS5⟩
          case measure => simp [intOf]; omega
      · have hq : ¬ ((j : Int) < (J.length : Int)) := by omega
        obtain rfl : j = J.length := by omega
        rw [HALL.out] at HM5
        obtain ⟨⟨p0, p1, p2, p3, p4, p5, p6, p7, p8⟩, _⟩ := row9_at HP5.out
        obtain ⟨⟨y0, y1, y2, y3⟩, _⟩ := row4_at HG5.out
        obtain ⟨⟨z0, z1, z2, z3⟩, f0, f1, f2, f3⟩ := row4_at HZ5.out
        go_wp2
        have hput := row4_put HZ5.out (.slice sa slen sc) (.int .i64 1) (.int .i64 0) (.int .i64 0) w.heap.size (by omega)
        have hon := onlyc4 (w := wr) (g := w.heap.size + 1) (.slice sa slen sc) (.int .i64 1) (.int .i64 0) (.int .i64 0)
        exact rview_ret rfl hput.1 rfl ⟨.slice sa slen sc, by rw [HK.out, HC.out, HF.out], (ownG_only HM5.out HZ5.out (by decide) hon).mono (by omega), HB5.out.trans hput.2⟩

theorem rView (xv : Value) (s : Sm) (w : World) (h : RdS w xv s) (hl : s.J.length ≤ 1000000 ∧ s.R.length ≤ 1000000 ∧ s.W.length ≤ 1000000) :
    Calls Try.prog 27 #[xv] w fun e w' => ∃ sl, e = .returned (vw sl (MM.vk s) s.c s.f) ∧ RdM w' sl (MM.mems s) ∧ Below w.heap.size w w' :=
  (rViewO xv s w h hl).mono (by rintro e w' ⟨sl, h1, h2, h3⟩; exact ⟨sl, h1, h2.rd, h3⟩)

end Go.Proofs.Ytdipheijagjelaa
