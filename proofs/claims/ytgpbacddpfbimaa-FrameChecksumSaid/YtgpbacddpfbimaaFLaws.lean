/-
  The walks of the laws FrameChecksum, FrameDecode, FrameAppend, FrameTruncated: each returns true. No conditions beyond that the arguments read as data.
-/
import Derived.Test.YtgpbacddpfbimaaFAwake
namespace Go.Proofs.Ytgpbacddpfbimaa
open Go.RowKit
open WM (Bytes)

set_option maxRecDepth 100000 in
set_option maxHeartbeats 1000000 in
theorem lChecksum (v : Value) (xs : List Int) (w : World) (h : Rd w v xs) :
    Calls Try.prog 3 #[v] w fun e w' => e = .returned (.bool true) ∧ Below w.heap.size w w' := by
  have h1 := wChecksum v xs w h
  have h2 := rChecksum v xs w h
  obtain ⟨a, c, rfl, hcm⟩ := h.shape
  clear h
  by_cases hbig : 1000 < xs.length
  · clear h1 h2
    go_enter Try.func3, Try.ntmps3
    go_wp2_with fail
    refine (awake2 _).mono ?_
    rintro e w1 ⟨rfl, hb⟩
    go_wp2
    go_ret
    exact ⟨rfl, hb⟩
  · go_enter Try.func3, Try.ntmps3
    go_wp2_with fail
    refine h1.mono ?_
    rintro e w1 ⟨rfl, rfl⟩
    go_wp2_with fail
    refine h2.mono ?_
    rintro e w1 ⟨rfl, rfl⟩
    clear h1 h2
    go_wp2_with fail
    refine (awake2 _).mono ?_
    rintro e w1 ⟨rfl, hb⟩
    go_wp2
    go_ret
    exact ⟨rfl, hb⟩

set_option maxRecDepth 100000 in
set_option maxHeartbeats 1000000 in
theorem lDecode (v : Value) (xs : List Int) (w : World) (h : Rd w v xs) :
    Calls Try.prog 7 #[v] w fun e w' => e = .returned (.bool true) ∧ Below w.heap.size w w' := by
  obtain ⟨a, c, rfl, hcm⟩ := h.shape
  have H := Lib.hid h
  clear h
  by_cases hbig : 1000 < xs.length
  · go_enter Try.func7, Try.ntmps7
    go_wp2_with fail
    refine (awake2 _).mono ?_
    rintro e w1 ⟨rfl, hb⟩
    go_wp2
    go_ret
    exact ⟨rfl, hb⟩
  · have h1 := wDecode _ xs w H.out (by omega)
    go_enter Try.func7, Try.ntmps7
    go_wp2_with fail
    refine h1.mono ?_
    rintro e w1 ⟨v1, rfl, ho1, hb1⟩
    clear h1
    have h2 := rDecode _ xs w1 (H.out.below hb1) (by omega)
    go_wp2_with fail
    refine h2.mono ?_
    rintro e w2 ⟨v2, rfl, ho2, hb2⟩
    clear h2
    have hb3 := hb1.trans (hb2.mono hb1.size)
    have s1 := (ho1.rd.below hb2).str
    have s2 := ho2.rd.str
    clear ho1 ho2 hb1 hb2
    generalize FM.dec xs = d at s1 s2 ⊢
    go_wp2_with fail
    refine (awake2 _).mono ?_
    rintro e w3 ⟨rfl, hb4⟩
    go_wp2
    go_ret
    exact ⟨rfl, hb3.trans (hb4.mono hb3.size)⟩

set_option maxRecDepth 100000 in
set_option maxHeartbeats 1000000 in
theorem lTruncated (v : Value) (xs : List Int) (n : Nat) (w : World) (h : Rd w v xs) (hn : n < 65536) :
    Calls Try.prog 9 #[v, .int .u16 n] w fun e w' => e = .returned (.bool true) ∧ Below w.heap.size w w' := by
  by_cases hbig : 1000 < xs.length
  · obtain ⟨a, c, rfl, hcm⟩ := h.shape
    clear h
    go_enter Try.func9, Try.ntmps9
    go_wp2_with fail
    refine (awake2 _).mono ?_
    rintro e w1 ⟨rfl, hb⟩
    go_wp2
    go_ret
    exact ⟨rfl, hb⟩
  · have h1 := wAppend (.slice none 0 0) v [] xs w (Rd.nil w) h (by omega) (by simp)
    rw [List.nil_append] at h1
    obtain ⟨a, c, rfl, hcm⟩ := h.shape
    clear h
    go_enter Try.func9, Try.ntmps9
    go_wp2_with fail
    refine h1.mono ?_
    rintro e w1 ⟨v1, rfl, ho1, hb1⟩
    clear h1
    have hr := ho1.rd
    have hl := FM.frame_length xs
    clear ho1
    obtain ⟨a1, c1, rfl, hcm1⟩ := hr.shape
    have hk : n % (xs.length + 8) < xs.length + 8 := Nat.mod_lt _ (by omega)
    have hmod : Int.tmod (n : Int) ((xs.length : Int) + 8) = ((n % (xs.length + 8) : Nat) : Int) := by
      rw [show ((xs.length : Int) + 8) = ((xs.length + 8 : Nat) : Int) by omega]; rfl
    generalize n % (xs.length + 8) = k at hk hmod
    obtain ⟨v2, hsl, hr2⟩ := hr.cut0 k (by omega)
    have hd := wDecode _ _ w1 hr2 (by rw [List.length_take]; omega)
    rw [FM.dec_short xs (by omega) k hk] at hd
    rw [hl] at hsl hr
    clear hr hr2
    rw [hl]
    have hq : ¬ ((xs.length : Int) + 8 = 0) := by omega
    go_wp2_with fail
    refine hd.mono ?_
    rintro e w2 ⟨v3, rfl, ho3, hb3⟩
    have hb4 := hb1.trans (hb3.mono hb1.size)
    obtain ⟨a3, c3, rfl, hcm3⟩ := ho3.rd.shape
    clear hd ho3 hb1 hb3
    go_wp2
    go_ret
    exact ⟨rfl, hb4⟩

set_option maxRecDepth 100000 in
set_option maxHeartbeats 1000000 in
theorem lAppendBig (v u t : Value) (xs ps ts : List Int) (w : World) (h : Rd w v xs) (hu : Rd w u ps) (ht : Rd w t ts) (hbig : 300 < xs.length ∨ 1000 < ps.length ∨ 300 < ts.length) :
    Calls Try.prog 5 #[v, u, t] w fun e w' => e = .returned (.bool true) ∧ Below w.heap.size w w' := by
  obtain ⟨a, c, rfl, hcm⟩ := h.shape
  obtain ⟨au, cu, rfl, hcu⟩ := hu.shape
  obtain ⟨at', ct, rfl, hct⟩ := ht.shape
  clear h hu ht
  by_cases h1 : 300 < xs.length
  · clear hbig
    go_enter Try.func5, Try.ntmps5
    go_wp2_with fail
    refine (awake2 _).mono ?_
    rintro e w1 ⟨rfl, hb⟩
    go_wp2
    go_ret
    exact ⟨rfl, hb⟩
  · by_cases h2 : 1000 < ps.length
    · clear hbig
      go_enter Try.func5, Try.ntmps5
      go_wp2_with fail
      refine (awake2 _).mono ?_
      rintro e w1 ⟨rfl, hb⟩
      go_wp2
      go_ret
      exact ⟨rfl, hb⟩
    · have h3 : 300 < ts.length := by omega
      clear hbig
      go_enter Try.func5, Try.ntmps5
      go_wp2_with fail
      refine (awake2 _).mono ?_
      rintro e w1 ⟨rfl, hb⟩
      go_wp2
      go_ret
      exact ⟨rfl, hb⟩

set_option maxRecDepth 100000 in
set_option maxHeartbeats 2000000 in
theorem lAppend (v u t : Value) (xs ps ts : List Int) (w : World) (h : Rd w v xs) (hu : Rd w u ps) (ht : Rd w t ts) :
    Calls Try.prog 5 #[v, u, t] w fun e w' => e = .returned (.bool true) ∧ Below w.heap.size w w' := by
  by_cases hbig : 300 < xs.length ∨ 1000 < ps.length ∨ 300 < ts.length
  · exact lAppendBig v u t xs ps ts w h hu ht hbig
  · have g1 : xs.length ≤ 300 := by omega
    have g2 : ps.length ≤ 1000 := by omega
    have g3 : ts.length ≤ 300 := by omega
    clear hbig
    have h1 := wAppend v u xs ps w h hu (by omega) (by omega)
    have H := Lib.hid h
    have HU := Lib.hid hu
    have HT := Lib.hid ht
    have hpb := Lib.hid hu.bytes
    obtain ⟨a, c, rfl, hcm⟩ := h.shape
    obtain ⟨au, cu, rfl, hcu⟩ := hu.shape
    obtain ⟨at', ct, rfl, hct⟩ := ht.shape
    have hl := FM.frame_length ps
    clear h hu ht
    go_enter Try.func5, Try.ntmps5
    go_wp2_with fail
    refine h1.mono ?_
    rintro e w1 ⟨v1, rfl, ho1, hb1⟩
    clear h1
    have h2 := rAppend _ _ xs ps w1 (H.out.below hb1) (HU.out.below hb1) (by omega) (by omega)
    go_wp2_with fail
    refine h2.mono ?_
    rintro e w2 ⟨v2, rfl, ho2, hb2⟩
    clear h2
    have hb3 := hb1.trans (hb2.mono hb1.size)
    have r1 := ho1.rd.below hb2
    have s1 := r1.str
    have s2 := ho2.rd.str
    have hxl : (xs ++ FM.frame ps).length = xs.length + (ps.length + 8) := by rw [List.length_append, hl]
    obtain ⟨a1, c1, rfl, hc1⟩ := r1.shape
    obtain ⟨v3, hsl, hr3⟩ := r1.cutL xs.length (by omega)
    rw [List.drop_left] at hr3
    rw [hxl] at hsl s1
    clear ho1 ho2 hb1 hb2 r1
    have ho0 := own_empty w2
    have hb0 := below_empty w2
    have R3 := hr3.below hb0
    have hs0 := hb0.size
    have S1 := Lib.hid s1
    rw [hxl]
    go_wp2_with (at_builtin; refine wp_appS rfl _ _ rfl rfl ho0 rfl R3 (by simp) (by omega) hs0 ?_)
    intro v4 w4 ho4 hb4
    have hb5 := hb0.trans hb4
    have T4 := (HT.out.below hb3).below hb5
    have hs4 := hb5.size
    clear ho0 R3 hs0 hb0 hb4 s1 s2 S1 hsl hr3
    go_wp2_with (at_builtin; refine wp_appS rfl _ _ rfl rfl ho4 rfl T4 (by omega) (by omega) hs4 ?_)
    intro v5 w5 ho5 hb6
    have hb7 := hb3.trans ((hb5.trans hb6).mono hb3.size)
    have hd := wDecode v5 _ w5 ho5.rd (by rw [List.length_append]; omega)
    have hdec := FM.dec_frame ps hpb.out (by omega) ts
    rw [hdec] at hd
    clear hdec ho4 ho5 T4 hs4 hb5 hb6 hb3
    go_wp2_with fail
    refine hd.mono ?_
    rintro e w6 ⟨v6, rfl, ho6, hb8⟩
    have hb9 := hb7.trans (hb8.mono hb7.size)
    have s3 := ho6.rd.str
    have s4 := (HU.out.below hb9).str
    clear hd hb7 hb8 ho6
    go_wp2_with fail
    refine (awake2 _).mono ?_
    rintro e w7 ⟨rfl, hb10⟩
    go_wp2
    go_ret
    exact ⟨rfl, hb9.trans (hb10.mono hb9.size)⟩

end Go.Proofs.Ytgpbacddpfbimaa
