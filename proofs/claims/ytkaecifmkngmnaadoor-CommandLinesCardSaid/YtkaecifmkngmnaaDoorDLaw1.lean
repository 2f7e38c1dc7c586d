/-
  The law CommandLines: it returns true. Conditions: the library's variables hold what they are laid with; the summary reads.
-/
import Derived.Test.YtkaecifmkngmnaaDoorDComp
import Derived.Test.YtkaecifmkngmnaaDoorDSame
import Derived.Test.YtkaecifmkngmnaaDoorDLin
import Derived.Test.YtkaecifmkngmnaaDoorMVg
namespace Go.Proofs.YtkaecifmkngmnaaDoor
open Go.RowKit Go.Joins Go.Shelf
open JM (Chg)
open MM (Mem Ent Sm Tri)

theorem wv_ok {l : List Ent} (h : ∀ e ∈ l, 0 ≤ e.2.2.1) (u : Int) : 0 ≤ DM.wv l u := by
  induction l with
  | nil => exact Int.le_refl _
  | cons e r ih =>
    show 0 ≤ (if e.1 = u then e.2.2.1 else DM.wv r u)
    split
    · exact h e (List.mem_cons_self ..)
    · exact ih fun x hx => h x (List.mem_cons_of_mem _ hx)
theorem srt_len8 {α : Type} {key : α → Int} {l : List α} : ∀ {a : Int}, MM.Srt key l → (∀ x ∈ l, a ≤ key x ∧ key x ≤ 12) → a ≤ 13 → (l.length : Int) ≤ 13 - a := by
  induction l with
  | nil => intro a _ _ h; simpa using (by omega : (0 : Int) ≤ 13 - a)
  | cons x l ih =>
    intro a h hx ha
    have h1 := hx x (by simp)
    have h2 := ih (a := key x + 1) (h.tl key) (fun y hy => ⟨h.hd key y hy, (hx y (by simp [hy])).2⟩) (by omega)
    rw [List.length_cons]
    omega
theorem text_a (a b : ByteArray) : (a ++ ⟨#[10]⟩ ++ b).data.toList = a.data.toList ++ 10 :: b.data.toList := by simp
theorem text_b (a b : ByteArray) : ((⟨#[10]⟩ : ByteArray) ++ a ++ ⟨#[10, 35, 32, 120, 10, 10]⟩ ++ b).data.toList = 10 :: (a.data.toList ++ 10 :: (DM.note ++ 10 :: 10 :: b.data.toList)) := by simp [DM.note]

set_option maxRecDepth 100000 in
set_option maxHeartbeats 4000000 in
theorem lLines0 (a b : ByteArray) (xv : Value) (s : Sm) (w : World) (hV : Vars w) (hs : RdS w xv s)
    (hA : ∀ w', Below w.heap.size w w' → Calls Tryd.prog 6 #[] w' fun e w'' => e = .returned (.bool true) ∧ Below w'.heap.size w' w'') :
    Calls Tryd.prog 5 #[.string a, .string b, xv] w fun e w' => e = .returned (.bool true) ∧ Below w.heap.size w w' := by
  have HA := Lib.hid hA
  clear hA
  obtain ⟨x, y, z, rfl, hj, hr, hw⟩ := hs
  have hb0 := below_fresh w (.cells (s9 x y z s.k s.c s.f s.v s.a s.n) 36)
  have hx := heap_alloc_new w (.cells (s9 x y z s.k s.c s.f s.v s.a s.n) 36)
  obtain ⟨w1, hw1⟩ : ∃ w1, w.alloc (.cells (s9 x y z s.k s.c s.f s.v s.a s.n) 36) = w1 := ⟨_, rfl⟩
  rw [hw1] at hb0 hx
  have HVS := Lib.hid (rValSum (Go.Proofs.YtkaecifmkngmnaaDoor.sv x y z s.k s.c s.f s.v s.a s.n) s w1 ⟨x, y, z, rfl, hj.below hb0, hr.below hb0, hw.below hb0⟩)
  have HW := Lib.hid hw1
  have HX := Lib.hid hx
  have HB0 := Lib.hid hb0
  obtain ⟨⟨s0, s1, s2, s3, s4, s5, s6, s7, s8⟩, _⟩ := row9_at hx
  clear hb0 hw1 hx
  by_cases ha : a.size ≤ 300
  case neg =>
    have ha2 : (300 : Int) < (a.size : Int) := by omega
    clear HVS
    go_enter Tryd.func5, Tryd.ntmps5
    go_upto_region 1 with fail
    rw [HW.out]
    go_wp2_with fail
    refine (HA.out _ HB0.out).mono ?_
    rintro e w' ⟨rfl, hb⟩
    go_wp2
    go_ret
    exact ⟨rfl, bnext HB0.out hb⟩
  have ha2 : ¬ (300 : Int) < (a.size : Int) := by omega
  by_cases hb : b.size ≤ 300
  case neg =>
    have hb2 : (300 : Int) < (b.size : Int) := by omega
    clear HVS
    go_enter Tryd.func5, Tryd.ntmps5
    go_upto_region 1 with fail
    rw [HW.out]
    go_wp2_with fail
    refine (HA.out _ HB0.out).mono ?_
    rintro e w' ⟨rfl, hb⟩
    go_wp2
    go_ret
    exact ⟨rfl, bnext HB0.out hb⟩
  have hb2 : ¬ (300 : Int) < (b.size : Int) := by omega
  by_cases he : MM.errS s = 0
  case neg =>
    obtain ⟨E, hE⟩ : ∃ E, E = MM.errS s := ⟨_, rfl⟩
    rw [← hE] at HVS he
    have h1 : (E == 0) = false := by simpa using he
    have h2 : (E != 0) = true := by simpa using he
    clear he hE
    go_enter Tryd.func5, Tryd.ntmps5
    go_upto_region 1 with fail
    rw [HW.out]
    go_wp2_with fail
    refine HVS.out.mono ?_
    rintro e w2 ⟨rfl, hb1⟩
    replace hb1 := bnext HB0.out hb1
    go_wp2_with fail
    refine (HA.out _ hb1).mono ?_
    rintro e w' ⟨rfl, hb⟩
    go_wp2
    go_ret
    exact ⟨rfl, bnext hb1 hb⟩
  rw [he] at HVS
  have ok := MM.errS_iff.1 he
  have hwl : s.W.length ≤ 1000000 := by
    have h3 := srt_len8 (a := 1) ok.w (fun x hx => (ok.ws x hx).1) (by decide)
    omega
  have HC := Lib.hid (fun (T : ByteArray) (ht : T.size ≤ 1000000) w' (hb : Below w.heap.size w w') => cCompile T x y z s w' ht (hV.below hb) (hj.below hb) (hr.below hb) (hw.below hb) ok.t.1 (wv_ok fun e h => (ok.ws e h).2.2.2.1) hwl)
  clear he ok hj hr hw hV hwl
  go_enter Tryd.func5, Tryd.ntmps5
  go_upto_region 1 with fail
  rw [HW.out]
  go_wp2_with fail
  refine HVS.out.mono ?_
  rintro e w2 ⟨rfl, hb1⟩
  have HX2 := Lib.hid (below_block HX.out hb1)
  have HB2 := Lib.hid (bnext HB0.out hb1)
  clear hb1 HX HB0 HVS HW s0 s1 s2 s3 s4 s5 s6 s7 s8
  go_wp2
  go_loopw [7] (fun i wr => ∃ k : Nat, k ≤ a.size ∧ i = .int .i64 k ∧ wr = w2 ∧ Hid ((10 : UInt8) ∉ a.data.toList.take k)) (fun i _ => a.size - (intOf i).toNat)
  case atStart => exact ⟨0, Nat.zero_le _, rfl, rfl, Lib.hid (by simp)⟩
  case round =>
    obtain ⟨k, hk, rfl, rfl, hn⟩ := hrel
    by_cases hlt : k < a.size
    · have hq : (k : Int) < (a.size : Int) := by omega
      have hkl : k < a.data.toList.length := by simpa using hlt
      have hget : a.data.toList[k] = a[k] := by simp [ByteArray.getElem_eq_getElem_data]
      have htk := List.take_succ_eq_append_getElem hkl
      rw [hget] at htk
      obtain ⟨u, hu⟩ : ∃ u : Nat, a[k].toNat = u := ⟨_, rfl⟩
      have hu8 : a[k] = 10 ↔ u = 10 := by rw [← hu]; exact ⟨fun h => by rw [h]; rfl, fun h => UInt8.toNat_inj.1 h⟩
      have HTK := Lib.hid htk
      have HU8 := Lib.hid hu8
      clear htk hu8 hget
      by_cases h10 : u = 10
      · have e1 : ((u : Int) == 10) = true := by simp [h10]
        clear h10 HTK HU8 HC
        go_wp2_with fail
        refine (HA.out _ HB2.out).mono ?_
        rintro e w' ⟨rfl, hb⟩
        go_wp2
        go_ret
        exact ⟨rfl, bnext HB2.out hb⟩
      · have e1 : ((u : Int) == 10) = false := by simp; omega
        have HN := Lib.hid h10
        clear h10
        go_wp2
        go_roundw
        case rel => exact ⟨k + 1, by omega, by go_num, by first | rfl | trivial, Lib.hid (by rw [HTK.out, List.mem_append]; rintro (h | h); exact hn.out h; exact HN.out (HU8.out.1 (List.mem_singleton.1 h).symm))⟩
        case measure => simp [intOf]; omega
    · have hq : ¬ (k : Int) < (a.size : Int) := by omega
      have HN := Lib.hid (show (10 : UInt8) ∉ a.data.toList by
        have := hn.out
        rw [List.take_of_length_le (by have : a.data.toList.length = a.size := by simp
                                       omega)] at this
        exact this)
      clear hn
      obtain ⟨L, n, er, hA⟩ : ∃ L n er, DM.cmpl (a.data.toList ++ 10 :: b.data.toList) s = (L, n, er) := ⟨_, _, _, rfl⟩
      have hbd := DM.comp_pos s (DM.sp 10 (a.data.toList ++ 10 :: b.data.toList)) [] 0 (by omega)
      have hl2 := DM.sp_len (c := 10) _ (a.data.toList ++ 10 :: b.data.toList) (Nat.le_refl _)
      have hlen : (a.data.toList ++ 10 :: b.data.toList).length ≤ 601 := by
        have e1 : a.data.toList.length = a.size := by simp
        have e2 : b.data.toList.length = b.size := by simp
        rw [List.length_append, List.length_cons]; omega
      have hA' : DM.comp s (DM.sp 10 (a.data.toList ++ 10 :: b.data.toList)) [] 0 = (L, n, er) := hA
      rw [hA'] at hbd
      have hn0 : 0 ≤ n ∧ n ≤ 1000000 := by dsimp only at hbd; omega
      have HC1 := Lib.hid (fun w' (hb : Below w.heap.size w w') => by
        have := HC.out (a ++ ⟨#[10]⟩ ++ b) (by rw [ByteArray.size_append, ByteArray.size_append]; have z1 : (⟨#[10]⟩ : ByteArray).size = 1 := rfl; omega) w' hb
        unfold Cpost at this
        rw [text_a, hA] at this
        exact this)
      have HC2 := Lib.hid (fun w' (hb : Below w.heap.size w w') => by
        have := HC.out ((⟨#[10]⟩ : ByteArray) ++ a ++ ⟨#[10, 35, 32, 120, 10, 10]⟩ ++ b) (by rw [ByteArray.size_append, ByteArray.size_append, ByteArray.size_append]; have z1 : (⟨#[10]⟩ : ByteArray).size = 1 := rfl; have z2 : (⟨#[10, 35, 32, 120, 10, 10]⟩ : ByteArray).size = 6 := rfl; omega) w' hb
        unfold Cpost at this
        rw [text_b, DM.lines s _ _ HN.out, hA] at this
        exact this)
      have HS := Lib.hid (fun (u v : Value) w' (h1 : RdC w' u L) (h2 : RdC w' v L) => by
        have := lSame u v L L w' h1 h2
        rw [decide_eq_true rfl] at this
        exact this)
      obtain ⟨W, hW⟩ : ∃ W, W = DM.want n := ⟨_, rfl⟩
      rw [← hW] at HC2
      have HWN := Lib.hid hW
      clear hA hbd hl2 hlen hA' hW HN HC
      obtain ⟨⟨s0, s1, s2, s3, s4, s5, s6, s7, s8⟩, _⟩ := row9_at HX2.out
      go_wp2_with fail
      refine (HC1.out _ HB2.out).mono ?_
      rintro e w3 ⟨v3, rfl, hr3, hb3⟩
      have HX3 := Lib.hid (below_block HX2.out hb3)
      have HB3 := Lib.hid (bnext HB2.out hb3)
      have HR3 := Lib.hid hr3
      clear hr3 hb3 s0 s1 s2 s3 s4 s5 s6 s7 s8 HX2 HB2
      obtain ⟨⟨s0, s1, s2, s3, s4, s5, s6, s7, s8⟩, _⟩ := row9_at HX3.out
      go_wp2_with fail
      refine (HC2.out _ HB3.out).mono ?_
      rintro e w4 ⟨v4, rfl, hr4, hb4⟩
      have HR3' := Lib.hid (HR3.out.below hb4)
      have HB4 := Lib.hid (bnext HB3.out hb4)
      have HR4 := Lib.hid hr4
      clear hr4 hb4 s0 s1 s2 s3 s4 s5 s6 s7 s8 HX3 HB3 HR3
      have hee : (er == er) = true := by simp
      have hw' := HWN.out
      unfold DM.want at hw'
      by_cases h1 : n = 1
      · subst h1
        rw [if_neg (by decide), if_pos rfl] at hw'
        subst hw'
        clear HWN
        go_wp2_with fail
        refine (HS.out _ _ _ HR3'.out HR4.out).mono ?_
        rintro e w5 ⟨rfl, hb5⟩
        have HB5 := Lib.hid (bnext HB4.out hb5)
        clear hb5 HS HR3' HR4 HB4
        go_wp2_with fail
        refine (HA.out _ HB5.out).mono ?_
        rintro e w6 ⟨rfl, hb6⟩
        go_wp2
        go_ret
        exact ⟨rfl, bnext HB5.out hb6⟩
      by_cases h2 : 1 < n
      · rw [if_pos h2] at hw'
        subst hw'
        have h3 : (n == 1) = false := by simpa using h1
        clear HWN h1
        go_wp2_with fail
        refine (HS.out _ _ _ HR3'.out HR4.out).mono ?_
        rintro e w5 ⟨rfl, hb5⟩
        have HB5 := Lib.hid (bnext HB4.out hb5)
        clear hb5 HS HR3' HR4 HB4
        go_wp2_with fail
        refine (HA.out _ HB5.out).mono ?_
        rintro e w6 ⟨rfl, hb6⟩
        go_wp2
        go_ret
        exact ⟨rfl, bnext HB5.out hb6⟩
      · obtain rfl : n = 0 := by omega
        rw [if_neg (by decide), if_neg (by decide)] at hw'
        subst hw'
        clear HWN h1 h2
        go_wp2_with fail
        refine (HS.out _ _ _ HR3'.out HR4.out).mono ?_
        rintro e w5 ⟨rfl, hb5⟩
        have HB5 := Lib.hid (bnext HB4.out hb5)
        clear hb5 HS HR3' HR4 HB4
        go_wp2_with fail
        refine (HA.out _ HB5.out).mono ?_
        rintro e w6 ⟨rfl, hb6⟩
        go_wp2
        go_ret
        exact ⟨rfl, bnext HB5.out hb6⟩

end Go.Proofs.YtkaecifmkngmnaaDoor
