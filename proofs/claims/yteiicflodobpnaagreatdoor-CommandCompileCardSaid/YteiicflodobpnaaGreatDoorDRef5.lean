/-
  The reference's ParseCommand gives DM.prs. Conditions: the line has at most a million bytes.
-/
import Derived.Test.YteiicflodobpnaaGreatDoorDRef4
import Derived.Test.YteiicflodobpnaaGreatDoorDRef1
import Derived.Test.YteiicflodobpnaaGreatDoorDComp
namespace Go.Proofs.YteiicflodobpnaaGreatDoor
open Go.RowKit Go.Joins Go.Shelf
open JM (Chg)

theorem rpc_ret {R : Ending → World → Prop} {a : Act} {w : World} {g : Nat} {k s t v x y z er : Int} (hp : a.tmps.getD 2 undef = .pointer (some ⟨g, 0, none⟩)) (h3 : a.tmps.getD 3 undef = .int .i64 er) (hg : w.heap[g]? = some (cBox k s t v x y z))
    (hd : a.defers = []) (hR : R (.returned (.tuple #[cv k s t v x y z, .int .i64 er])) w) : bodyPost Tryz.prog Tryz.f26 R .ret a w := by
  have := results_cell_tmp1 (P := Tryz.prog) (fn := Tryz.f26) rfl a.tmps w g 52 _ _ _ hp hg Tryz.underlying52 rfl (by kernel_rfl)
  rw [h3] at this
  exact bodyPost_ret this hd hR
theorem rpc_fin {l : List UInt8} {w X : World} (hX : X.heap[w.heap.size]? = some (cBox 0 0 0 0 0 0 0)) (hB : Below w.heap.size w X) (k s t v a b c er : Int) (tm : Array Value) (e1 : DM.prs l = ((k, s, t, v, a, b, c), er))
    (e2 : tm.getD 2 undef = .pointer (some ⟨w.heap.size, 0, none⟩)) (e3 : tm.getD 3 undef = .int .i64 er) :
    bodyPost Tryz.prog Tryz.f26 (Ppost l w) .ret ⟨tm, []⟩ (((((((X.setCell ⟨w.heap.size, 0, none⟩ (.int .i64 k)).setCell ⟨w.heap.size, 1, none⟩ (.int .i64 s)).setCell ⟨w.heap.size, 2, none⟩ (.int .i64 t)).setCell ⟨w.heap.size, 3, none⟩ (.int .i64 v)).setCell ⟨w.heap.size, 4, none⟩ (.int .i64 a)).setCell ⟨w.heap.size, 5, none⟩ (.int .i64 b)).setCell ⟨w.heap.size, 6, none⟩ (.int .i64 c)) := by
  have hput := row7_putO hX (.int .i64 k) (.int .i64 s) (.int .i64 t) (.int .i64 v) (.int .i64 a) (.int .i64 b) (.int .i64 c)
  refine rpc_ret e2 e3 hput.1 rfl ⟨?_, hB.trans (hput.2.below (Nat.le_refl _) hB.size)⟩
  rw [e1]
  rfl

set_option maxRecDepth 100000 in
set_option maxHeartbeats 4000000 in
theorem rParse (s : ByteArray) (w : World) (hs : s.size ≤ 1000000) : Calls Tryz.prog 26 #[.string s] w (Ppost s.data.toList w) := by
  have hb := below_fresh w (cBox 0 0 0 0 0 0 0)
  have hx := heap_alloc_new w (cBox 0 0 0 0 0 0 0)
  have hw : ∃ w1, w.alloc (cBox 0 0 0 0 0 0 0) = w1 := ⟨_, rfl⟩
  obtain ⟨w1, hw1⟩ := hw
  rw [hw1] at hb hx
  have HB := Lib.hid hb
  have HX := Lib.hid hx
  have HW := Lib.hid hw1
  have HF := Lib.hid (rForm s w1 hs)
  obtain ⟨l, hl⟩ : ∃ l, l = s.data.toList := ⟨_, rfl⟩
  rw [← hl] at HF ⊢
  clear hb hx hw1 hs hl
  go_enter Tryz.func26, Tryz.ntmps26
  go_upto_region 1 with fail
  rw [HW.out]
  go_wp2_with fail
  refine HF.out.mono ?_
  rintro e w2 ⟨⟨k, sv, t, v, a, b, c, ok, rfl, hok⟩, hb2⟩
  have HX3 := Lib.hid (below_block (below_block HX.out hb2) (below_fresh w2 (cBox k sv t v a b c)))
  have HB3 := Lib.hid (bnext (bnext HB.out hb2) (below_fresh w2 (cBox k sv t v a b c)))
  have hx3 := heap_alloc_new w2 (cBox k sv t v a b c)
  have hlt : w.heap.size < w2.heap.size := (Array.getElem?_eq_some_iff.1 (below_block HX.out hb2)).1
  have HOK := Lib.hid hok
  clear HX HB HW HF hb2 hok
  go_upto_region 2 with fail
  obtain ⟨w3, hw3⟩ : ∃ w3, w2.alloc (cBox k sv t v a b c) = w3 := ⟨_, rfl⟩
  rw [hw3] at HX3 HB3 hx3 ⊢
  generalize w2.heap.size = g at hx3 hlt ⊢
  have HG := Lib.hid hlt
  have HC3 := Lib.hid hx3
  clear hlt hx3 hw3
  cases ok
  · have hp : DM.prs l = ((0, 0, 0, 0, 0, 0, 0), 11) := by
      have := HOK.out
      unfold DM.prs
      cases hf : DM.frm (DM.sp 32 l) with
      | none => rfl
      | some x => rw [hf] at this; exact absurd this.1 (by simp)
    have HP := Lib.hid hp
    clear hp HOK HC3
    obtain ⟨⟨c0, c1, c2, c3, c4, c5, c6⟩, f0, f1, f2, f3, f4, f5, f6⟩ := row7_atF HX3.out
    go_wp2
    exact rpc_fin HX3.out HB3.out _ _ _ _ _ _ _ _ _ HP.out (by rfl) (by rfl)
  obtain ⟨V, hV⟩ : ∃ V, (if v = 0 ∧ (k = 3 ∨ k = 4) then (1 : Int) else v) = V := ⟨_, rfl⟩
  have hver : DM.ver (k, sv, t, v, a, b, c) = (k, sv, t, V, a, b, c) := by
    show (k, sv, t, (if v = 0 ∧ (k = 3 ∨ k = 4) then (1 : Int) else v), a, b, c) = _
    rw [hV]
  obtain ⟨E, hE⟩ : ∃ E, JM.errC k sv t V a b c = E := ⟨_, rfl⟩
  have hEE : JM.errCh (DM.ver (k, sv, t, v, a, b, c)) = E := by rw [hver]; exact hE
  have hprs : DM.prs l = if E = 0 then ((k, sv, t, v, a, b, c), 0) else (DM.zc, E) := by
    have := HOK.out
    unfold DM.prs
    cases hf : DM.frm (DM.sp 32 l) with
    | none => rw [hf] at this; exact absurd this (by simp [OkC])
    | some x => rw [hf] at this; rw [← this.2]; show (if JM.errCh (DM.ver (k, sv, t, v, a, b, c)) = 0 then _ else _) = _; rw [hEE]
  have HVR := Lib.hid (rVersioned k sv t v a b c w3)
  rw [hver] at HVR
  replace HVR : Hid (Calls Tryz.prog 50 #[cv k sv t v a b c] w3 fun e w' => e = .returned (cv k sv t V a b c) ∧ Below w3.heap.size w3 w') := HVR
  have HVC := Lib.hid (fun w' => rValChange k sv t V a b c w')
  rw [hE] at HVC
  have HPR := Lib.hid hprs
  clear hV hver hE hEE hprs HOK
  obtain ⟨⟨c0, c1, c2, c3, c4, c5, c6⟩, _⟩ := row7_atF HC3.out
  go_wp2_with fail
  refine HVR.out.mono ?_
  rintro e w4 ⟨rfl, hb4⟩
  go_wp2_with fail
  refine (HVC.out _).mono ?_
  rintro e w5 ⟨rfl, hb5⟩
  have hb := bnext hb4 hb5
  have HX5 := Lib.hid (below_block HX3.out hb)
  have HC5 := Lib.hid (below_block HC3.out hb)
  have HB5 := Lib.hid (bnext HB3.out hb)
  clear hb4 hb5 hb HX3 HC3 HB3 HVR HVC c0 c1 c2 c3 c4 c5 c6
  obtain ⟨⟨c0, c1, c2, c3, c4, c5, c6⟩, f0, f1, f2, f3, f4, f5, f6⟩ := row7_atF HX5.out
  obtain ⟨⟨d0, d1, d2, d3, d4, d5, d6⟩, _⟩ := row7_atF HC5.out
  by_cases he : E = 0
  · subst he
    go_wp2
    exact rpc_fin HX5.out HB5.out _ _ _ _ _ _ _ _ _ (by rw [HPR.out]; first | exact if_pos rfl | exact if_pos trivial) (by rfl) (by rfl)
  · have h1 : (E != 0) = true := by simpa using he
    have HE := Lib.hid he
    clear he
    go_wp2
    exact rpc_fin HX5.out HB5.out _ _ _ _ _ _ _ _ _ (by rw [HPR.out, if_neg HE.out]; rfl) (by rfl) (by rfl)

end Go.Proofs.YteiicflodobpnaaGreatDoor
