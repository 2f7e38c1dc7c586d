/-
  The walks of the laws FrameChecksumBit and FrameDamage: each returns true. No conditions beyond that the arguments read as data.
-/
import Derived.Test.YtgpbacddpfbimaaFAwake
import Derived.Test.YtgpbacddpfbimaaSet
namespace Go.Proofs.Ytgpbacddpfbimaa
open Go.RowKit
open WM (Bytes)

theorem one_bit (m : Nat) : ∃ p : Nat, (2 : Int) ^ (m % 8) % 256 = (p : Int) ∧ p < 256 ∧ p ≠ 0 := by
  have h : m % 8 < 8 := Nat.mod_lt _ (by decide)
  have : m % 8 = 0 ∨ m % 8 = 1 ∨ m % 8 = 2 ∨ m % 8 = 3 ∨ m % 8 = 4 ∨ m % 8 = 5 ∨ m % 8 = 6 ∨ m % 8 = 7 := by omega
  rcases this with h | h | h | h | h | h | h | h <;> rw [h]
  · exact ⟨1, by decide, by decide, by decide⟩
  · exact ⟨2, by decide, by decide, by decide⟩
  · exact ⟨4, by decide, by decide, by decide⟩
  · exact ⟨8, by decide, by decide, by decide⟩
  · exact ⟨16, by decide, by decide, by decide⟩
  · exact ⟨32, by decide, by decide, by decide⟩
  · exact ⟨64, by decide, by decide, by decide⟩
  · exact ⟨128, by decide, by decide, by decide⟩
/-- The changed byte. -/
theorem flipped {xs : List Int} {k p : Nat} (h : Bytes xs) (hk : k < xs.length) (h1 : p < 256) (h0 : p ≠ 0) : ∃ y, bits .xor .u8 xs[k] (p : Int) = y ∧ WM.isByte y ∧ y ≠ xs.getD k 0 := by
  have e : xs.getD k 0 = xs[k] := by simp [List.getD, List.getElem?_eq_getElem hk]
  obtain ⟨h2, h3⟩ := flip8 xs[k] p (h _ (List.getElem_mem hk)) h1 h0
  exact ⟨_, rfl, h2, by rw [e]; exact h3⟩

theorem flipped2 {xs : List Int} {k p : Nat} (h : Bytes xs) (hk : k < xs.length) (h1 : p < 256) (h0 : p ≠ 0) : ∃ z y, xs.getD k 0 = z ∧ bits .xor .u8 z (p : Int) = y ∧ WM.isByte y ∧ y ≠ xs.getD k 0 := by
  obtain ⟨y, h2, h3, h4⟩ := flipped h hk h1 h0
  have e : xs.getD k 0 = xs[k] := by simp [List.getD, List.getElem?_eq_getElem hk]
  exact ⟨_, y, e, h2, h3, h4⟩

set_option maxRecDepth 100000 in
set_option maxHeartbeats 1000000 in
theorem lChecksumBit (v : Value) (xs : List Int) (n m : Nat) (w : World) (h : Rd w v xs) (hn : n < 65536) (hm : m < 256) :
    Calls Try.prog 4 #[v, .int .u16 n, .int .u8 m] w fun e w' => e = .returned (.bool true) ∧ Below w.heap.size w w' := by
  by_cases hz : xs.length = 0
  · obtain ⟨a, c, rfl, hcm⟩ := h.shape
    clear h
    rw [hz]
    go_enter Try.func4, Try.ntmps4
    go_wp2_with fail
    refine (awake2 _).mono ?_
    rintro e w1 ⟨rfl, hb⟩
    go_wp2
    go_ret
    exact ⟨rfl, hb⟩
  · by_cases hbig : 1000 < xs.length
    · obtain ⟨a, c, rfl, hcm⟩ := h.shape
      clear h
      go_enter Try.func4, Try.ntmps4
      go_wp2_with fail
      refine (awake2 _).mono ?_
      rintro e w1 ⟨rfl, hb⟩
      go_wp2
      go_ret
      exact ⟨rfl, hb⟩
    · have hk : n % xs.length < xs.length := Nat.mod_lt _ (by omega)
      have hmod : Int.tmod (n : Int) (xs.length : Int) = ((n % xs.length : Nat) : Int) := rfl
      generalize n % xs.length = k at hk hmod
      have hbytes := h.bytes
      have ho0 := own_empty w
      have hb0 := below_empty w
      have R0 := h.below hb0
      have hs0 := hb0.size
      have H := Lib.hid h
      obtain ⟨a, c, rfl, hcm⟩ := h.shape
      clear h
      have hz2 : ((xs.length : Int) == 0) = false := beq_eq_false_iff_ne.2 (by omega)
      have hz3 : ¬ ((xs.length : Int) = 0) := by omega
      go_enter Try.func4, Try.ntmps4
      go_wp2_with (at_builtin; refine wp_appS rfl _ _ rfl rfl ho0 rfl R0 (by simp) (by omega) hs0 ?_)
      intro v1 w1 ho1 hb1
      have hb2 := hb0.trans hb1
      obtain ⟨g, c1, rfl, hg, hgl, hc1⟩ := ho1.form (by omega)
      clear ho0 hb0 R0 hs0 hb1
      obtain ⟨p, hp, hp1, hp0⟩ := one_bit m
      obtain ⟨y, hye, hyb, hyn⟩ := flipped hbytes hk hp1 hp0
      obtain ⟨hcell, hfz, ho2, hb3⟩ := ho1.put hk hyb
      have hne := FM.crc_set hbytes hk hyb hyn
      have hl2 : (xs.set k y).length = xs.length := List.length_set
      have hb4 := hb2.trans hb3
      have h1 := wChecksum _ _ _ ho2.rd
      have h2 := wChecksum _ _ _ (H.out.below hb4)
      have hq : (((FM.crc (xs.set k y) : Nat) : Int) != ((FM.crc xs : Nat) : Int)) = true := by simp; omega
      clear ho1 ho2 hyn hyb hne hb2 hb3
      go_wp2_with fail
      refine h1.mono ?_
      rintro e w2 ⟨rfl, rfl⟩
      clear h1
      go_wp2_with fail
      refine h2.mono ?_
      rintro e w2 ⟨rfl, rfl⟩
      clear h2
      go_wp2_with fail
      refine (awake2 _).mono ?_
      rintro e w3 ⟨rfl, hb5⟩
      go_wp2
      go_ret
      exact ⟨rfl, hb4.trans (hb5.mono hb4.size)⟩

set_option maxRecDepth 100000 in
set_option maxHeartbeats 1000000 in
theorem lDamage (v : Value) (xs : List Int) (n m : Nat) (w : World) (h : Rd w v xs) (hn : n < 65536) (hm : m < 256) :
    Calls Try.prog 8 #[v, .int .u16 n, .int .u8 m] w fun e w' => e = .returned (.bool true) ∧ Below w.heap.size w w' := by
  by_cases hbig : 1000 < xs.length
  · obtain ⟨a, c, rfl, hcm⟩ := h.shape
    clear h
    go_enter Try.func8, Try.ntmps8
    go_wp2_with fail
    refine (awake2 _).mono ?_
    rintro e w1 ⟨rfl, hb⟩
    go_wp2
    go_ret
    exact ⟨rfl, hb⟩
  · have h1 := wAppend (.slice none 0 0) v [] xs w (Rd.nil w) h (by omega) (by simp)
    rw [List.nil_append] at h1
    have hbytes := h.bytes
    have hfb := FM.frame_bytes hbytes
    have hl := FM.frame_length xs
    obtain ⟨a, c, rfl, hcm⟩ := h.shape
    clear h
    have hk : n % (xs.length + 4) < xs.length + 4 := Nat.mod_lt _ (by omega)
    have hmod : Int.tmod (n : Int) ((xs.length : Int) + 8 - 4) = ((n % (xs.length + 4) : Nat) : Int) := by
      rw [show ((xs.length : Int) + 8 - 4) = ((xs.length + 4 : Nat) : Int) by omega]; rfl
    generalize n % (xs.length + 4) = j at hk hmod
    obtain ⟨p, hp, hp1, hp0⟩ := one_bit m
    obtain ⟨z, y, hz, hye, hyb, hyn⟩ := flipped2 (k := 4 + j) hfb (by omega) hp1 hp0
    have hdm := FM.dec_damage xs hbytes (by omega) (4 + j) (by omega) (by omega) y hyb hyn
    go_enter Try.func8, Try.ntmps8
    go_wp2_with fail
    refine h1.mono ?_
    rintro e w1 ⟨v1, rfl, ho1, hb1⟩
    clear h1
    have ho0 := own_empty w1
    have hb0 := below_empty w1
    have R0 := ho1.rd.below hb0
    have hs0 := hb0.size
    obtain ⟨g1, c1, rfl, hg1, hgl1, hc1⟩ := ho1.form (by omega)
    clear ho1
    rw [hl] at R0 ⊢
    have hq : ¬ ((xs.length : Int) + 8 - 4 = 0) := by omega
    have hq2 : ¬ ((xs.length : Int) + 8 < 4) := by omega
    go_wp2_with (at_builtin; refine wp_appS rfl _ _ rfl rfl ho0 rfl R0 (by simp) (by omega) hs0 ?_)
    intro v2 w2 ho2 hb2
    have hb3 := hb1.trans ((hb0.trans hb2).mono hb1.size)
    have hs1 := hb1.size
    obtain ⟨g2, c2, rfl, hg2, hgl2, hc2⟩ := ho2.form (by omega)
    obtain ⟨hcell, hfz, ho3, hb4⟩ := ho2.put (k := 4 + j) (by omega) hyb
    have hb5 := hb3.trans (hb4.mono hs1)
    have hd := wDecode _ _ _ ho3.rd (by rw [List.length_set]; omega)
    rw [hdm] at hd
    rw [hz] at hcell
    rw [hl] at hd ⊢
    clear ho2 ho3 hb4 hb3 hb2 hb0 hb1 ho0 R0 hz hyn hyb hdm hfb
    go_wp2_with fail
    refine hd.mono ?_
    rintro e w3 ⟨v3, rfl, ho4, hb6⟩
    have hb7 := hb5.trans (hb6.mono hb5.size)
    obtain ⟨a3, c3, rfl, hc3⟩ := ho4.rd.shape
    clear hd ho4 hb5 hb6
    go_wp2
    go_ret
    exact ⟨rfl, hb7⟩

end Go.Proofs.Ytgpbacddpfbimaa
