/-
  The calls of frame.Append, elasticstoreref03.AppendFrame, frame.Decode, elasticstoreref03.DecodeFrame: each returns what P2.2 and P2.3 say (FM.frame, FM.dec). Conditions: the slices read as bytes, within the bounds that are named.
-/
import Derived.Test.YtgpbacddpfbimaaCopy
namespace Go.Proofs.Ytgpbacddpfbimaa
open Go.RowKit
open WM (Bytes)

theorem pair0 (w : World) (x y : Value) (t : TypeId) : (w.alloc (.cells #[x, y] t)).cell? ⟨w.heap.size, 0, none⟩ = some x := by rw [World.cell?_alloc_new]; rfl
theorem pair1 (w : World) (x y : Value) (t : TypeId) : (w.alloc (.cells #[x, y] t)).cell? ⟨w.heap.size, 1, none⟩ = some y := by rw [World.cell?_alloc_new]; rfl

set_option maxRecDepth 100000 in
set_option maxHeartbeats 1000000 in
theorem wAppendLong (v u : Value) (ps : List Int) (w : World) (hu : Rd w u ps) (h : 65536 < ps.length) :
    Calls Try.prog 16 #[v, u] w fun e w' => e = .returned (.tuple #[.slice none 0 0, .int .i64 3]) ∧ w = w' := by
  obtain ⟨a, c, rfl, hc⟩ := hu.shape
  clear hu
  go_enter Try.func16, Try.ntmps16
  go_wp2
  go_ret2
  exact ⟨rfl, rfl⟩

set_option maxRecDepth 100000 in
set_option maxHeartbeats 1000000 in
theorem wAppend (v u : Value) (xs ps : List Int) (w : World) (hv : Rd w v xs) (hu : Rd w u ps) (h : ps.length ≤ 65536) (hl : xs.length ≤ 17592186044416) :
    Calls Try.prog 16 #[v, u] w fun e w' => ∃ v', e = .returned (.tuple #[v', .int .i64 0]) ∧ Own w.heap.size w' v' (xs ++ FM.frame ps) ∧ Below w.heap.size w w' := by
  have hnum := wAppendNumber w.heap.size (.slice none 0 0) [] ps.length w ⟨World.ownsRow_nil _ _ _ _, fun _ h => by cases h⟩ (Nat.le_refl _) (by simp) (by omega)
  obtain ⟨a, c, rfl, hc⟩ := hu.shape
  obtain ⟨av, cv, rfl, hcv⟩ := hv.shape
  have HU := Lib.hid hu
  have HV := Lib.hid hv
  have hpb := hu.bytes
  have hl4 := FM.four_length ps.length
  obtain ⟨B, hB⟩ : ∃ B, B = FM.four ps.length ++ ps := ⟨_, rfl⟩
  have hBl : B.length = ps.length + 4 := by rw [hB, List.length_append, hl4]; omega
  have hfr : FM.frame ps = B ++ FM.four (FM.crc B) := by rw [hB]; rfl
  have hBb : Bytes B := by rw [hB]; exact FM.Bytes.append' (FM.four_bytes _) hpb
  rw [hfr]
  clear hu hv hfr
  go_enter Try.func16, Try.ntmps16
  go_wp2_with fail
  refine hnum.mono ?_
  rintro e w1 ⟨v1, rfl, ho1, hb1⟩
  rw [List.nil_append] at ho1
  clear hnum
  have HU1 := HU.out.below hb1
  have hs1 := hb1.size
  go_wp2_with (at_builtin; refine wp_appS rfl _ _ rfl rfl ho1 rfl HU1 (by omega) (by omega) hs1 ?_)
  intro v2 w2 ho2 hb2
  have hb3 := hb1.trans hb2
  have hs3 := hb3.size
  clear ho1 HU1 hb1 hb2 hs1
  rw [← hB] at ho2
  clear hB hl4
  have hcrc := wChecksum _ _ _ ho2.rd
  go_wp2_with fail
  refine hcrc.mono ?_
  rintro e w3 ⟨rfl, rfl⟩
  clear hcrc
  have happ := wAppendNumber w.heap.size v2 B (FM.crc B) w2 ho2 hs3 (by omega) (FM.crc_lt hBb)
  go_wp2_with fail
  refine happ.mono ?_
  rintro e w3 ⟨v3, rfl, ho3, hb4⟩
  have hb5 := hb3.trans hb4
  clear happ hb3 hb4 ho2
  obtain ⟨a3, c3, rfl, hc3⟩ := ho3.rd.shape
  have hn : Below w3.heap.size w3 (w3.alloc (.cells #[.slice av xs.length cv, .slice a3 (B ++ FM.four (FM.crc B)).length c3] 22)) := (Below.refl _ w3).alloc (Nat.le_refl _) _
  have hcat := wConcat w3.heap.size _ _ xs (B ++ FM.four (FM.crc B)) _ (pair0 w3 _ _ _) (pair1 w3 _ _ _) ((HV.out.below hb5).below hn) (ho3.rd.below hn) (by rw [List.length_append, FM.four_length]; omega)
  have hb6 := hb5.trans (hn.mono hb5.size)
  clear ho3 hn hb5
  generalize (B ++ FM.four (FM.crc B)).length = L at hcat hc3 hb6
  go_wp2_with fail
  refine hcat.mono ?_
  rintro e w4 ⟨v4, rfl, ho4, hb7⟩
  have hb8 := hb6.trans (hb7.mono hb6.size)
  have ho5 := ho4.mono hb6.size
  clear hcat ho4 hb6 hb7
  go_wp2
  go_ret2
  exact ⟨_, rfl, ho5, hb8⟩

set_option maxRecDepth 100000 in
set_option maxHeartbeats 1000000 in
theorem rAppendLong (v u : Value) (ps : List Int) (w : World) (hu : Rd w u ps) (h : 65536 < ps.length) :
    Calls Try.prog 17 #[v, u] w fun e w' => e = .returned (.tuple #[.slice none 0 0, .int .i64 3]) ∧ w = w' := by
  obtain ⟨a, c, rfl, hc⟩ := hu.shape
  clear hu
  go_enter Try.func17, Try.ntmps17
  go_wp2
  go_ret2
  exact ⟨rfl, rfl⟩

set_option maxRecDepth 100000 in
set_option maxHeartbeats 1000000 in
theorem rAppend (v u : Value) (xs ps : List Int) (w : World) (hv : Rd w v xs) (hu : Rd w u ps) (h : ps.length ≤ 65536) (hl : xs.length ≤ 17592186044416) :
    Calls Try.prog 17 #[v, u] w fun e w' => ∃ v', e = .returned (.tuple #[v', .int .i64 0]) ∧ Own w.heap.size w' v' (xs ++ FM.frame ps) ∧ Below w.heap.size w w' := by
  have hnum := rAppendFour (.slice none 0 0) [] ps.length w (Rd.nil w) (by simp) (by omega)
  obtain ⟨a, c, rfl, hc⟩ := hu.shape
  obtain ⟨av, cv, rfl, hcv⟩ := hv.shape
  have HU := Lib.hid hu
  have HV := Lib.hid hv
  have hpb := hu.bytes
  have hl4 := FM.four_length ps.length
  obtain ⟨B, hB⟩ : ∃ B, B = FM.four ps.length ++ ps := ⟨_, rfl⟩
  have hBl : B.length = ps.length + 4 := by rw [hB, List.length_append, hl4]; omega
  have hfr : FM.frame ps = B ++ FM.four (FM.crc B) := by rw [hB]; rfl
  have hBb : Bytes B := by rw [hB]; exact FM.Bytes.append' (FM.four_bytes _) hpb
  obtain ⟨F, hF⟩ : ∃ F, F = B ++ FM.four (FM.crc B) := ⟨_, rfl⟩
  have hFl := Lib.hid (show F.length ≤ 70000 by rw [hF, List.length_append, FM.four_length]; omega)
  rw [hfr, ← hF]
  clear hu hv hfr
  go_enter Try.func17, Try.ntmps17
  go_wp2_with fail
  refine hnum.mono ?_
  rintro e w1 ⟨v1, rfl, ho1, hb1⟩
  rw [List.nil_append] at ho1
  clear hnum
  have HU1 := HU.out.below hb1
  have hs1 := hb1.size
  go_wp2_with (at_builtin; refine wp_appS rfl _ _ rfl rfl ho1 rfl HU1 (by omega) (by omega) hs1 ?_)
  intro v2 w2 ho2 hb2
  have hb3 := hb1.trans hb2
  have hs3 := hb3.size
  clear ho1 HU1 hb1 hb2 hs1
  rw [← hB] at ho2
  clear hB hl4
  have hcrc := rChecksum _ _ _ ho2.rd
  go_wp2_with fail
  refine hcrc.mono ?_
  rintro e w3 ⟨rfl, rfl⟩
  clear hcrc
  have happ := rAppendFour v2 B (FM.crc B) w2 ho2.rd (by omega) (FM.crc_lt hBb)
  go_wp2_with fail
  refine happ.mono ?_
  rintro e w3 ⟨v3, rfl, ho3, hb4⟩
  have hb5 := hb3.trans (hb4.mono hs3)
  clear happ hb3 hb4 ho2
  rw [← hF] at ho3
  clear hF
  have ho0 := own_empty w3
  have hb0 := below_empty w3
  have HV3 := (HV.out.below hb5).below hb0
  have H3 := Lib.hid ho3.rd
  have hs0 := hb0.size
  clear ho3
  go_wp2_with (at_builtin; refine wp_appS rfl _ _ rfl rfl ho0 rfl HV3 (by simp) (by omega) hs0 ?_)
  intro v4 w4 ho4 hb6
  have hb7 := hb0.trans hb6
  have H4 := H3.out.below hb7
  have hs4 := hb7.size
  clear ho0 HV3 hs0 hb0 hb6 H3
  go_wp2_with (at_builtin; refine wp_appS rfl _ _ rfl rfl ho4 rfl H4 (by omega) (by have := hFl.out; omega) hs4 ?_)
  intro v5 w5 ho5 hb8
  have hb9 := hb5.trans ((hb7.trans hb8).mono hb5.size)
  have ho6 := ho5.mono hb5.size
  clear ho4 H4 hb7 hb8 hb5 ho5
  go_wp2
  go_ret2
  exact ⟨_, rfl, ho6, hb9⟩

/-- 'b[k:]', 'b[:k]' and 'b[4:k]' of a slice that reads as bytes. -/
theorem cut3 {w : World} {a : Option Addr} {c : Nat} {xs : List Int} (h : Rd w (.slice a xs.length c) xs) (k : Nat) (h4 : 4 ≤ k) (hk : k ≤ xs.length) :
    ∃ v1 v2 v3, (∀ w0 : World, (Instr.slice 22 (.slice a xs.length c) (some (.int .i64 (k : Int))) none none).run Try.prog w0 = .ok v1 w0) ∧
      (∀ w0 : World, (Instr.slice 22 (.slice a xs.length c) none (some (.int .i64 (k : Int))) none).run Try.prog w0 = .ok v2 w0) ∧
      (∀ w0 : World, (Instr.slice 22 (.slice a xs.length c) (some (.int .i64 4)) (some (.int .i64 (k : Int))) none).run Try.prog w0 = .ok v3 w0) ∧
      Rd w v1 (xs.drop k) ∧ Rd w v2 (xs.take k) ∧ Rd w v3 ((xs.drop 4).take (k - 4)) := by
  obtain ⟨v1, h1, r1⟩ := h.cutL k hk
  obtain ⟨v2, h2, r2⟩ := h.cut0 k hk
  obtain ⟨v3, _, h3, r3⟩ := h.cut 4 k h4 hk
  exact ⟨v1, v2, v3, h1, h2, h3, r1, r2, r3⟩

/-- What the two walks of Decode need of a frame that is all there. -/
theorem rd_drewN {w : World} {v : Value} {xs : List Int} (h : Rd w v xs) (n : Nat) : Rd (w.drewN n) v xs := h
theorem below_drewN (B : Nat) (w : World) (m : Nat) : Below B w (w.drewN m) := ⟨rfl, rfl, rfl, Nat.le_refl _, fun _ _ => rfl⟩
theorem drewN_twice (w : World) (n m : Nat) : (w.drewN n).drewN m = w.drewN (n + m) := by simp [World.drewN, Nat.add_assoc]
theorem wNumberQ {w : World} {v : Value} {xs : List Int} (h : Rd w v xs) (h4 : 4 ≤ xs.length) (m n : Nat) :
    Calls Try.prog 26 #[v] (w.drewN (m + n)) fun e w' => e = .returned (.int .u32 (FM.num xs)) ∧ ∃ k, w' = w.drewN (m + k) := by
  refine (wNumber v xs _ (rd_drewN h (m + n)) h4).mono ?_
  rintro e w1 ⟨rfl, k, rfl⟩
  exact ⟨rfl, n + k, by rw [drewN_twice, Nat.add_assoc]⟩
theorem wChecksumQ {w : World} {v : Value} {xs : List Int} (h : Rd w v xs) (m n : Nat) :
    Calls Try.prog 14 #[v] (w.drewN (m + n)) fun e w' => e = .returned (.int .u32 (FM.crc xs)) ∧ ∃ k, w' = w.drewN (m + k) := by
  refine (wChecksum v xs _ (rd_drewN h (m + n))).mono ?_
  rintro e w1 ⟨rfl, rfl⟩
  exact ⟨rfl, n, rfl⟩
theorem rFourQ {w : World} {v : Value} {xs : List Int} (h : Rd w v xs) (h4 : 4 ≤ xs.length) (m n : Nat) :
    Calls Try.prog 28 #[v] (w.drewN (m + n)) fun e w' => e = .returned (.int .u32 (FM.num xs)) ∧ ∃ k, w' = w.drewN (m + k) := by
  refine (rFour v xs _ (rd_drewN h (m + n)) h4).mono ?_
  rintro e w1 ⟨rfl, k, rfl⟩
  exact ⟨rfl, n + k, by rw [drewN_twice, Nat.add_assoc]⟩
theorem rChecksumQ {w : World} {v : Value} {xs : List Int} (h : Rd w v xs) (m n : Nat) :
    Calls Try.prog 15 #[v] (w.drewN (m + n)) fun e w' => e = .returned (.int .u32 (FM.crc xs)) ∧ ∃ k, w' = w.drewN (m + k) := by
  refine (rChecksum v xs _ (rd_drewN h (m + n))).mono ?_
  rintro e w1 ⟨rfl, rfl⟩
  exact ⟨rfl, n, rfl⟩

set_option maxRecDepth 100000 in
set_option maxHeartbeats 1000000 in
theorem wDecode (v : Value) (xs : List Int) (w : World) (h : Rd w v xs) (hl : xs.length ≤ 35184372088832) :
    Calls Try.prog 18 #[v] w fun e w' => ∃ v', e = .returned (.tuple #[v', .int .i64 (FM.dec xs).2.1, .int .i64 (FM.dec xs).2.2]) ∧ Own w.heap.size w' v' (FM.dec xs).1 ∧ Below w.heap.size w w' := by
  have hbytes := h.bytes
  have hcases := FM.dec_cases xs hbytes
  have h4 := wNumber v xs w h
  obtain ⟨a, c, rfl, hc⟩ := h.shape
  rcases hcases with ⟨hs, hd⟩ | ⟨h4l, n, hn, hn32, hrest⟩
  · rw [hd]
    clear h4 h hd
    go_enter Try.func18, Try.ntmps18
    go_wp2
    go_ret3
    exact ⟨_, rfl, ⟨World.ownsRow_nil _ _ _ _, fun _ h => by cases h⟩, Below.refl _ _⟩
  · have hnum := h4 h4l
    rw [hn] at hnum
    clear h4
    rcases hrest with ⟨hbig, hd⟩ | hrest
    · rw [hd]
      clear h hd
      go_enter Try.func18, Try.ntmps18
      go_wp2_with fail
      refine hnum.mono ?_
      rintro e w1 ⟨rfl, m, rfl⟩
      clear hnum
      go_wp2
      go_ret3
      exact ⟨_, rfl, ⟨World.ownsRow_nil _ _ _ _, fun _ h => by cases h⟩, below_drewN _ w m⟩
    · rcases hrest with ⟨hbig, hsh, hd⟩ | hrest
      · rw [hd]
        clear h hd
        go_enter Try.func18, Try.ntmps18
        go_wp2_with fail
        refine hnum.mono ?_
        rintro e w1 ⟨rfl, m, rfl⟩
        clear hnum
        go_wp2
        go_ret3
        exact ⟨_, rfl, ⟨World.ownsRow_nil _ _ _ _, fun _ h => by cases h⟩, below_drewN _ w m⟩
      · have hge : n + 8 ≤ xs.length := by rcases hrest with h | h <;> exact h.2.1
        have hsm : n ≤ 65536 := by rcases hrest with h | h <;> exact h.1
        obtain ⟨v1, v2, v3, s1, s2, s3, r1, r2, r3⟩ := cut3 h (n + 4) (by omega) (by omega)
        rw [show ((n + 4 : Nat) : Int) = 4 + (n : Int) by omega] at s1 s2 s3
        have R1 := Lib.hid r1
        have R2 := Lib.hid r2
        have hl1 := Lib.hid (show 4 ≤ (xs.drop (n + 4)).length by rw [List.length_drop]; omega)
        rcases hrest with ⟨_, _, hne, hd⟩ | ⟨_, _, heq, hd⟩
        · rw [hd]
          clear h hd r1 r2 r3
          have hq : ((FM.num (xs.drop (n + 4))) != ((FM.crc (xs.take (n + 4)) : Nat) : Int)) = true := by simpa using hne
          go_enter Try.func18, Try.ntmps18
          go_wp2_with fail
          refine hnum.mono ?_
          rintro e w1 ⟨rfl, m, rfl⟩
          clear hnum
          go_wp2
          go_quiet (first
            | (go_at_call 26; exact wNumberQ R1.out hl1.out _ _)
            | (go_at_call 14; exact wChecksumQ R2.out _ _))
          go_wp2
          go_ret3
          exact ⟨_, rfl, ⟨World.ownsRow_nil _ _ _ _, fun _ h => by cases h⟩, (below_drewN _ w m).trans (below_drewN _ _ nq)⟩
        · rw [hd]
          rw [show n + 4 - 4 = n by omega] at r3
          have R3 := Lib.hid r3
          have hl3 := Lib.hid (show ((xs.drop 4).take n).length ≤ 35184372088832 by rw [List.length_take]; omega)
          have hsum := Lib.hid (show (n : Int) + 8 = 4 + (n : Int) + 4 by omega)
          clear h hd r1 r2 r3
          have hq : ((FM.num (xs.drop (n + 4))) != ((FM.crc (xs.take (n + 4)) : Nat) : Int)) = false := by simpa using heq
          go_enter Try.func18, Try.ntmps18
          go_wp2_with fail
          refine hnum.mono ?_
          rintro e w1 ⟨rfl, m, rfl⟩
          clear hnum
          go_wp2
          go_quiet (first
            | (go_at_call 26; exact wNumberQ R1.out hl1.out _ _)
            | (go_at_call 14; exact wChecksumQ R2.out _ _))
          clear hq R1 R2 hl1 s1 s2
          go_wp2_with fail
          refine (wClone v3 _ _ (rd_drewN R3.out _) hl3.out).mono ?_
          rintro e w1 ⟨v4, rfl, ho4, hb4⟩
          go_wp2
          go_ret3
          exact ⟨v4, by rw [hsum.out]; rfl, ho4, (below_drewN _ w _).trans hb4⟩

set_option maxRecDepth 100000 in
set_option maxHeartbeats 1000000 in
theorem rDecode (v : Value) (xs : List Int) (w : World) (h : Rd w v xs) (hl : xs.length ≤ 35184372088832) :
    Calls Try.prog 19 #[v] w fun e w' => ∃ v', e = .returned (.tuple #[v', .int .i64 (FM.dec xs).2.1, .int .i64 (FM.dec xs).2.2]) ∧ Own w.heap.size w' v' (FM.dec xs).1 ∧ Below w.heap.size w w' := by
  have hbytes := h.bytes
  have hcases := FM.dec_cases xs hbytes
  have h4 := rFour v xs w h
  obtain ⟨a, c, rfl, hc⟩ := h.shape
  rcases hcases with ⟨hs, hd⟩ | ⟨h4l, n, hn, hn32, hrest⟩
  · rw [hd]
    clear h4 h hd
    go_enter Try.func19, Try.ntmps19
    go_wp2
    go_ret3
    exact ⟨_, rfl, ⟨World.ownsRow_nil _ _ _ _, fun _ h => by cases h⟩, Below.refl _ _⟩
  · have hnum := h4 h4l
    rw [hn] at hnum
    clear h4
    rcases hrest with ⟨hbig, hd⟩ | hrest
    · rw [hd]
      clear h hd
      go_enter Try.func19, Try.ntmps19
      go_wp2_with fail
      refine hnum.mono ?_
      rintro e w1 ⟨rfl, m, rfl⟩
      clear hnum
      go_wp2
      go_ret3
      exact ⟨_, rfl, ⟨World.ownsRow_nil _ _ _ _, fun _ h => by cases h⟩, below_drewN _ w m⟩
    · rcases hrest with ⟨hbig, hsh, hd⟩ | hrest
      · rw [hd]
        clear h hd
        go_enter Try.func19, Try.ntmps19
        go_wp2_with fail
        refine hnum.mono ?_
        rintro e w1 ⟨rfl, m, rfl⟩
        clear hnum
        go_wp2
        go_ret3
        exact ⟨_, rfl, ⟨World.ownsRow_nil _ _ _ _, fun _ h => by cases h⟩, below_drewN _ w m⟩
      · have hge : n + 8 ≤ xs.length := by rcases hrest with h | h <;> exact h.2.1
        have hsm : n ≤ 65536 := by rcases hrest with h | h <;> exact h.1
        obtain ⟨v1, v2, v3, s1, s2, s3, r1, r2, r3⟩ := cut3 h (n + 4) (by omega) (by omega)
        rw [show ((n + 4 : Nat) : Int) = 4 + (n : Int) by omega] at s1 s2 s3
        have R1 := Lib.hid r1
        have R2 := Lib.hid r2
        have hl1 := Lib.hid (show 4 ≤ (xs.drop (n + 4)).length by rw [List.length_drop]; omega)
        rcases hrest with ⟨_, _, hne, hd⟩ | ⟨_, _, heq, hd⟩
        · rw [hd]
          clear h hd r1 r2 r3
          have hq : ((FM.num (xs.drop (n + 4))) != ((FM.crc (xs.take (n + 4)) : Nat) : Int)) = true := by simpa using hne
          go_enter Try.func19, Try.ntmps19
          go_wp2_with fail
          refine hnum.mono ?_
          rintro e w1 ⟨rfl, m, rfl⟩
          clear hnum
          go_wp2
          go_quiet (first
            | (go_at_call 28; exact rFourQ R1.out hl1.out _ _)
            | (go_at_call 15; exact rChecksumQ R2.out _ _))
          go_wp2
          go_ret3
          exact ⟨_, rfl, ⟨World.ownsRow_nil _ _ _ _, fun _ h => by cases h⟩, (below_drewN _ w m).trans (below_drewN _ _ nq)⟩
        · rw [hd]
          rw [show n + 4 - 4 = n by omega] at r3
          have R3 := Lib.hid r3
          have hl3 := Lib.hid (show ((xs.drop 4).take n).length ≤ 35184372088832 by rw [List.length_take]; omega)
          have hsum := Lib.hid (show (n : Int) + 8 = 4 + (n : Int) + 4 by omega)
          clear h hd r1 r2 r3
          have hq : ((FM.num (xs.drop (n + 4))) != ((FM.crc (xs.take (n + 4)) : Nat) : Int)) = false := by simpa using heq
          go_enter Try.func19, Try.ntmps19
          go_wp2_with fail
          refine hnum.mono ?_
          rintro e w1 ⟨rfl, m, rfl⟩
          clear hnum
          go_wp2
          go_quiet (first
            | (go_at_call 28; exact rFourQ R1.out hl1.out _ _)
            | (go_at_call 15; exact rChecksumQ R2.out _ _))
          clear hq R1 R2 hl1 s1 s2
          have ho0 := own_empty (w.drewN (m + nq))
          have hb0 := below_empty (w.drewN (m + nq))
          have H3 := (rd_drewN R3.out (m + nq)).below hb0
          have hs0 := hb0.size
          go_wp2_with (at_builtin; refine wp_appS rfl _ _ rfl rfl ho0 rfl H3 (by simp) hl3.out hs0 ?_)
          intro v4 w4 ho4 hb4
          go_wp2
          go_ret3
          exact ⟨v4, by rw [hsum.out]; rfl, ho4, (below_drewN _ w _).trans (hb0.trans hb4)⟩

end Go.Proofs.Ytgpbacddpfbimaa
