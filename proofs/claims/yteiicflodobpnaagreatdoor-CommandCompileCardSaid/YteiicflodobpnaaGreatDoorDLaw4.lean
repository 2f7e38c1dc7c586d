/-
  The law CommandCompile: true. Conditions: the library's variables hold what they are laid with; the summary reads.
-/
import Derived.Test.YteiicflodobpnaaGreatDoorDRCo
import Derived.Test.YteiicflodobpnaaGreatDoorDSame
import Derived.Test.YteiicflodobpnaaGreatDoorDComp
import Derived.Test.YteiicflodobpnaaGreatDoorMVg
namespace Go.Proofs.YteiicflodobpnaaGreatDoor
open Go.RowKit Go.Joins Go.Shelf
open JM (Chg)
open MM (Mem Ent Sm Tri)

theorem wv_ok {l : List Ent} (h : ∀ e ∈ l, 0 ≤ e.2.2.1) (u : Int) : 0 ≤ DM.wv l u := by
  induction l with
  | nil => exact Int.le_refl _
  | cons e r ih =>
    show 0 ≤ (if e.1 = u then e.2.2.1 else DM.wv r u)
    split
    · exact h e (List.mem_cons_self ..)
    · exact ih fun x hx => h x (List.mem_cons_of_mem _ hx)
theorem srt_len8 {α : Type} {key : α → Int} {l : List α} : ∀ {a : Int}, MM.Srt key l → (∀ x ∈ l, a ≤ key x ∧ key x ≤ 12) → a ≤ 13 → (l.length : Int) ≤ 13 - a := by
  induction l with
  | nil => intro a _ _ h; simpa using (by omega : (0 : Int) ≤ 13 - a)
  | cons x l ih =>
    intro a h hx ha
    have h1 := hx x (by simp)
    have h2 := ih (a := key x + 1) (h.tl key) (fun y hy => ⟨h.hd key y hy, (hx y (by simp [hy])).2⟩) (by omega)
    rw [List.length_cons]
    omega

set_option maxRecDepth 100000 in
set_option maxHeartbeats 4000000 in
theorem lCompile0 (text : ByteArray) (xv : Value) (s : Sm) (w : World) (hV : Vars w) (hs : RdS w xv s)
    (hA : ∀ w', Below w.heap.size w w' → Calls Tryz.prog 6 #[] w' fun e w'' => e = .returned (.bool true) ∧ Below w'.heap.size w' w'') :
    Calls Tryz.prog 3 #[.string text, xv] w fun e w' => e = .returned (.bool true) ∧ Below w.heap.size w w' := by
  have HA := Lib.hid hA
  clear hA
  obtain ⟨x, y, z, rfl, hj, hr, hw⟩ := hs
  have hb0 := below_fresh w (.cells (s9 x y z s.k s.c s.f s.v s.a s.n) 27)
  have hx := heap_alloc_new w (.cells (s9 x y z s.k s.c s.f s.v s.a s.n) 27)
  obtain ⟨w1, hw1⟩ : ∃ w1, w.alloc (.cells (s9 x y z s.k s.c s.f s.v s.a s.n) 27) = w1 := ⟨_, rfl⟩
  rw [hw1] at hb0 hx
  have HVS := Lib.hid (rValSum (Go.Proofs.YteiicflodobpnaaGreatDoor.sv x y z s.k s.c s.f s.v s.a s.n) s w1 ⟨x, y, z, rfl, hj.below hb0, hr.below hb0, hw.below hb0⟩)
  have HCC := Lib.hid (fun (he : MM.errS s = 0) (ht : text.size ≤ 600) w' (hb : Below w.heap.size w w') => by
    have ok := MM.errS_iff.1 he
    have hwl : s.W.length ≤ 1000000 := by
      have h3 := srt_len8 (a := 1) ok.w (fun x hx => (ok.ws x hx).1) (by decide)
      omega
    exact cCompile text x y z s w' (by omega) (hV.below hb) (hj.below hb) (hr.below hb) (hw.below hb) ok.t.1 (wv_ok fun e h => (ok.ws e h).2.2.2.1) hwl)
  have HRC := Lib.hid (fun (he : MM.errS s = 0) (ht : text.size ≤ 600) w' (hb : Below w.heap.size w w') => by
    have ok := MM.errS_iff.1 he
    have hwl : s.W.length ≤ 1000000 := by
      have h3 := srt_len8 (a := 1) ok.w (fun x hx => (ok.ws x hx).1) (by decide)
      omega
    exact rCompile text x y z s w' (by omega) (hj.below hb) (hr.below hb) (hw.below hb) ok.t.1 (wv_ok fun e h => (ok.ws e h).2.2.2.1) hwl)
  obtain ⟨xa, xc, rfl, _, _⟩ := hj.shape
  obtain ⟨ya, yc, rfl, _, _⟩ := hr.shape
  obtain ⟨za, zc, rfl, _, _⟩ := hw.shape
  have HW := Lib.hid hw1
  have HX := Lib.hid hx
  have HB0 := Lib.hid hb0
  obtain ⟨C, hC⟩ : ∃ C, C = DM.cmpl text.data.toList s := ⟨_, rfl⟩
  have hCp : ∀ w', Cpost text s w' = fun e w'' => ∃ v, e = .returned (.tuple #[v, .int .i64 C.2.1, .int .i64 C.2.2]) ∧ RdC w'' v C.1 ∧ Below w'.heap.size w' w'' := fun w' => by rw [hC]; rfl
  have HCP := Lib.hid hCp
  clear hb0 hw1 hj hr hw hV hC hCp
  obtain ⟨lJ, hlJ⟩ : ∃ n, n = s.J.length := ⟨_, rfl⟩
  obtain ⟨lR, hlR⟩ : ∃ n, n = s.R.length := ⟨_, rfl⟩
  obtain ⟨lW, hlW⟩ : ∃ n, n = s.W.length := ⟨_, rfl⟩
  rw [← hlJ, ← hlR, ← hlW] at hx HVS HCC HRC HW HX ⊢
  clear hlJ hlR hlW
  obtain ⟨⟨s0, s1, s2, s3, s4, s5, s6, s7, s8⟩, _⟩ := row9_at hx
  clear hx
  by_cases ha : text.size ≤ 600
  case neg =>
    have ha2 : (600 : Int) < (text.size : Int) := by omega
    clear HVS
    go_enter Tryz.func3, Tryz.ntmps3
    go_upto_region 1 with fail
    rw [HW.out]
    go_wp2_with fail
    refine (HA.out _ HB0.out).mono ?_
    rintro e w' ⟨rfl, hb⟩
    go_wp2
    go_ret
    exact ⟨rfl, bnext HB0.out hb⟩
  have ha2 : ¬ (600 : Int) < (text.size : Int) := by omega
  by_cases hb : lJ ≤ 40
  case neg =>
    have hb2 : (40 : Int) < (lJ : Int) := by omega
    clear HVS
    go_enter Tryz.func3, Tryz.ntmps3
    go_upto_region 1 with fail
    rw [HW.out]
    go_wp2_with fail
    refine (HA.out _ HB0.out).mono ?_
    rintro e w' ⟨rfl, hb⟩
    go_wp2
    go_ret
    exact ⟨rfl, bnext HB0.out hb⟩
  have hb2 : ¬ (40 : Int) < (lJ : Int) := by omega
  by_cases hc : lR ≤ 40
  case neg =>
    have hc2 : (40 : Int) < (lR : Int) := by omega
    clear HVS
    go_enter Tryz.func3, Tryz.ntmps3
    go_upto_region 1 with fail
    rw [HW.out]
    go_wp2_with fail
    refine (HA.out _ HB0.out).mono ?_
    rintro e w' ⟨rfl, hb⟩
    go_wp2
    go_ret
    exact ⟨rfl, bnext HB0.out hb⟩
  have hc2 : ¬ (40 : Int) < (lR : Int) := by omega
  by_cases hd : lW ≤ 40
  case neg =>
    have hd2 : (40 : Int) < (lW : Int) := by omega
    clear HVS
    go_enter Tryz.func3, Tryz.ntmps3
    go_upto_region 1 with fail
    rw [HW.out]
    go_wp2_with fail
    refine (HA.out _ HB0.out).mono ?_
    rintro e w' ⟨rfl, hb⟩
    go_wp2
    go_ret
    exact ⟨rfl, bnext HB0.out hb⟩
  have hd2 : ¬ (40 : Int) < (lW : Int) := by omega
  by_cases he : MM.errS s = 0
  case neg =>
    obtain ⟨E, hE⟩ : ∃ E, E = MM.errS s := ⟨_, rfl⟩
    rw [← hE] at HVS he
    have h1 : (E != 0) = true := by simpa using he
    clear he hE
    go_enter Tryz.func3, Tryz.ntmps3
    go_upto_region 1 with fail
    rw [HW.out]
    go_wp2_with fail
    refine HVS.out.mono ?_
    rintro e w2 ⟨rfl, hb1⟩
    replace hb1 := bnext HB0.out hb1
    go_wp2_with fail
    refine (HA.out _ hb1).mono ?_
    rintro e w' ⟨rfl, hb⟩
    go_wp2
    go_ret
    exact ⟨rfl, bnext hb1 hb⟩
  rw [he] at HVS
  have HC1 := Lib.hid (fun w' (hb : Below w.heap.size w w') => by have := HCC.out he ha w' hb; rw [HCP.out] at this; exact this)
  have HC2 := Lib.hid (fun w' (hb : Below w.heap.size w w') => by have := HRC.out he ha w' hb; rw [HCP.out] at this; exact this)
  obtain ⟨L, n, er⟩ := C
  have HS := Lib.hid (fun (u v : Value) w' (h1 : RdC w' u L) (h2 : RdC w' v L) => by
    have := lSame u v L L w' h1 h2
    rw [decide_eq_true rfl] at this
    exact this)
  clear HCC HRC HCP he
  go_enter Tryz.func3, Tryz.ntmps3
  go_upto_region 1 with fail
  rw [HW.out]
  go_wp2_with fail
  refine HVS.out.mono ?_
  rintro e w2 ⟨rfl, hb1⟩
  have HX2 := Lib.hid (below_block HX.out hb1)
  have HB2 := Lib.hid (bnext HB0.out hb1)
  clear hb1 HX HB0 HVS HW s0 s1 s2 s3 s4 s5 s6 s7 s8 ha2 hb2 hc2 hd2
  obtain ⟨⟨s0, s1, s2, s3, s4, s5, s6, s7, s8⟩, _⟩ := row9_at HX2.out
  go_wp2_with fail
  refine (HC1.out _ HB2.out).mono ?_
  rintro e w3 ⟨v3, rfl, hr3, hb3⟩
  have HX3 := Lib.hid (below_block HX2.out hb3)
  have HB3 := Lib.hid (bnext HB2.out hb3)
  have HR3 := Lib.hid hr3
  clear hr3 hb3 s0 s1 s2 s3 s4 s5 s6 s7 s8 HX2 HB2 HC1
  obtain ⟨⟨s0, s1, s2, s3, s4, s5, s6, s7, s8⟩, _⟩ := row9_at HX3.out
  go_wp2_with fail
  refine (HC2.out _ HB3.out).mono ?_
  rintro e w4 ⟨v4, rfl, hr4, hb4⟩
  have HR34 := Lib.hid (HR3.out.below hb4)
  have HR4 := Lib.hid hr4
  have HB4 := Lib.hid (bnext HB3.out hb4)
  clear hr4 hb4 s0 s1 s2 s3 s4 s5 s6 s7 s8 HX3 HB3 HC2 HR3
  go_wp2_with fail
  refine (HS.out _ _ _ HR34.out HR4.out).mono ?_
  rintro e w5 ⟨rfl, hb5⟩
  have HB5 := Lib.hid (bnext HB4.out hb5)
  clear hb5
  go_wp2_with fail
  refine (HA.out _ HB5.out).mono ?_
  rintro e w6 ⟨rfl, hb6⟩
  go_wp2
  go_ret
  exact ⟨rfl, bnext HB5.out hb6⟩

end Go.Proofs.YteiicflodobpnaaGreatDoor
