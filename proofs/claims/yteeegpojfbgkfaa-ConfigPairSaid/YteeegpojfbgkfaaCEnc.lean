/-
  Encodings of configurations: the plain mathematics, the calls of config.Append, config.Decode and the reference's AppendConfig and DecodeConfig. Conditions: what comes in reads; what is encoded is valid.
-/
import Derived.Test.YteeegpojfbgkfaaJEn6
import Derived.Test.YteeegpojfbgkfaaKH
import Derived.Test.YteeegpojfbgkfaaCJDc6
import Derived.Test.YteeegpojfbgkfaaCJRDecP
import Derived.Test.YteeegpojfbgkfaaKD
namespace Go.Proofs.Yteeegpojfbgkfaa
open Go.RowKit
open JM (Chg)
open CM (Fp)
open WM (enc dec Bytes)

namespace CM
def encF (f : Fp) : List Int := JM.encP f.1 f.2.1 f.2.2
def flat (fs : List Fp) : List Int := fs.flatMap encF
def encL (fs : List Fp) : List Int := enc fs.length ++ flat fs
theorem flat_cons (f : Fp) (r : List Fp) : flat (f :: r) = encF f ++ flat r := List.flatMap_cons
theorem flat_snoc (fs : List Fp) (f : Fp) : flat (fs ++ [f]) = flat fs ++ encF f := by unfold flat; rw [List.flatMap_append]; simp
theorem encF_len {f : Fp} (h : errF f = 0) : (encF f).length ≤ 450 := by
  have hsm := JM.errP_small h
  have h1 := JM.encN_len _ (JM.head_small h)
  have h2 := JM.encCs_len f.2.2 hsm.2.2.2.2
  have h3 := hsm.2.2.1
  unfold encF JM.encP
  rw [List.length_append]
  simp only [List.length_cons, List.length_nil] at h1
  omega
theorem flat_len {fs : List Fp} (h : ∀ f ∈ fs, errF f = 0) : (flat fs).length ≤ fs.length * 450 := by
  induction fs with
  | nil => simp [flat]
  | cons f fs ih =>
    rw [flat_cons, List.length_append, List.length_cons]
    have := encF_len (h f (by simp))
    have := ih (fun g hg => h g (by simp [hg]))
    omega
theorem encL_bytes (fs : List Fp) : Bytes (encL fs) := by
  intro c hc
  unfold encL flat at hc
  rcases List.mem_append.1 hc with h | h
  · exact WM.enc_bytes _ c h
  · obtain ⟨y, _, hy⟩ := List.mem_flatMap.1 h
    exact JM.encP_bytes _ _ _ c hy

/-- What is read proposal by proposal: error, used, proposals. -/
def rest (xs : List Int) : Nat → List Fp → Nat → Int × Nat × List Fp
  | 0, U, u => (0, u, U)
  | n + 1, U, u => if (JM.decP (xs.drop u)).1 ≠ 0 then ((JM.decP (xs.drop u)).1, 0, []) else rest xs n (U ++ [((JM.decP (xs.drop u)).2.2.1, (JM.decP (xs.drop u)).2.2.2.1, (JM.decP (xs.drop u)).2.2.2.2)]) (u + (JM.decP (xs.drop u)).2.1)
def finL (r : Int × Nat × List Fp) : Int × Nat × List Fp := if r.1 ≠ 0 then (r.1, 0, []) else if errL (0, 0) r.2.2 ≠ 0 then (errL (0, 0) r.2.2, 0, []) else r
def decL (xs : List Int) : Int × Nat × List Fp :=
  if (dec 0 0 xs).2.2 ≠ 0 then ((dec 0 0 xs).2.2, 0, []) else if 9 < (dec 0 0 xs).1 then (3, 0, []) else finL (rest xs (dec 0 0 xs).1.toNat [] (dec 0 0 xs).2.1.toNat)
theorem rest_succ (xs : List Int) (n : Nat) (U : List Fp) (u : Nat) : rest xs (n + 1) U u = if (JM.decP (xs.drop u)).1 ≠ 0 then ((JM.decP (xs.drop u)).1, 0, []) else rest xs n (U ++ [((JM.decP (xs.drop u)).2.2.1, (JM.decP (xs.drop u)).2.2.2.1, (JM.decP (xs.drop u)).2.2.2.2)]) (u + (JM.decP (xs.drop u)).2.1) := by
  rw [rest]
theorem rest_enc {fs : List Fp} : ∀ (pre tail : List Int) (U : List Fp), (∀ f ∈ fs, errF f = 0) → rest (pre ++ (flat fs ++ tail)) fs.length U pre.length = (0, (pre ++ flat fs).length, U ++ fs) := by
  induction fs with
  | nil => intro pre tail U _; simp [rest, flat]
  | cons f r ih =>
    intro pre tail U h
    have hd : (pre ++ (flat (f :: r) ++ tail)).drop pre.length = encF f ++ (flat r ++ tail) := by rw [List.drop_left, flat_cons, List.append_assoc]
    have h1 := JM.decP_enc (h f (by simp)) (flat r ++ tail)
    have h1' : JM.decP ((pre ++ (flat (f :: r) ++ tail)).drop pre.length) = (0, (encF f).length, f.1, f.2.1, f.2.2) := by rw [hd]; exact h1
    rw [List.length_cons, rest_succ, h1', if_neg (by simp)]
    have h2 := ih (pre ++ encF f) tail (U ++ [f]) (fun g hg => h g (by simp [hg]))
    rw [show pre ++ (flat (f :: r) ++ tail) = (pre ++ encF f) ++ (flat r ++ tail) by rw [flat_cons]; simp [List.append_assoc]]
    rw [List.length_append] at h2
    show rest _ r.length (U ++ [f]) (pre.length + (encF f).length) = _
    rw [h2, flat_cons]
    simp [List.append_assoc]
theorem decL_enc {fs : List Fp} (h : Ok fs) (tail : List Int) : decL (encL fs ++ tail) = (0, (encL fs).length, fs) := by
  have h9 := h.nine
  have hd : dec 0 0 (encL fs ++ tail) = ((fs.length : Int), ((enc fs.length).length : Int), 0) := by
    unfold encL
    rw [List.append_assoc]
    exact WM.dec_enc0 fs.length _ (by omega)
  unfold decL
  rw [hd]
  rw [if_neg (by simp), if_neg (by simp; omega)]
  have hr := rest_enc (enc fs.length) tail [] h.all
  rw [show enc fs.length ++ (flat fs ++ tail) = encL fs ++ tail by unfold encL; rw [List.append_assoc]] at hr
  simp only [Int.toNat_natCast]
  rw [hr]
  unfold finL
  rw [if_neg (by simp)]
  simp only [List.nil_append]
  rw [if_neg (by simp; exact h)]
  rfl
theorem dec_num {xs : List Int} (hb : Bytes xs) : (∃ e : Int, e ≠ 0 ∧ dec 0 0 xs = (0, 0, e)) ∨ ∃ m : Nat, m < 18446744073709551616 ∧ dec 0 0 xs = ((m : Int), ((enc m).length : Int), 0) ∧ (enc m).length ≤ xs.length := by
  rcases WM.dec_two xs hb with ⟨e, he, h⟩ | ⟨m, hm, h, hl, _⟩
  · exact .inl ⟨e, by omega, h⟩
  · exact .inr ⟨m, hm, h, hl⟩
end CM

set_option maxRecDepth 100000 in
set_option maxHeartbeats 2000000 in
theorem rAppendC (v : Value) (bs : List Int) (u : Value) (fs : List Fp) (w : World) (h : Rd w v bs) (hu : RdF w u fs) (hok : CM.Ok fs) (hlen : bs.length ≤ 1000000) :
    Calls Try.prog 42 #[v, u] w fun e w' => ∃ v', e = .returned v' ∧ Rd w' v' (bs ++ CM.encL fs) ∧ Below w.heap.size w w' := by
  obtain ⟨ad, cp, rfl, hcp, _⟩ := hu.shape
  have h9 := hok.nine
  have hb0 := below_fresh w (.cells #[.int .i64 (fs.length : Int)] 3)
  have hri : RdI (w.alloc (.cells #[.int .i64 (fs.length : Int)] 3)) (.slice (some ⟨w.heap.size, 0, none⟩) 1 1) [(fs.length : Int)] := (ownG_fresh hlI 3 w [(fs.length : Int)] (by simp [maxLen])).rd
  have hA := rNumbers v bs _ [(fs.length : Int)] _ (h.below hb0) hri (by simp) (fun x hx => by rw [List.mem_singleton] at hx; subst hx; unfold JM.small; omega) (by omega)
  rw [show JM.encN [(fs.length : Int)] = enc fs.length by simp [JM.encN]] at hA
  have HA := Lib.hid hA
  have HB0 := Lib.hid hb0
  have HU := Lib.hid hu
  have HOK := Lib.hid hok.all
  have hel := WM.enc_len10 fs.length (by omega)
  have hfl := fun k => CM.flat_len (fs := fs.take k) (fun f hf => hok.all f (List.mem_of_mem_take hf))
  have HFL := Lib.hid (show ∀ k, (bs ++ enc fs.length ++ CM.flat (fs.take k)).length ≤ 1100000 from fun k => by
    have h1 := hfl k
    rw [List.length_take] at h1
    rw [List.length_append, List.length_append]
    omega)
  clear h hu hok hel hfl hA hb0 hri
  go_enter Try.func42, Try.ntmps42
  go_wp2_with fail
  refine HA.out.mono ?_
  rintro e w1 ⟨v1, rfl, ho1, hb1⟩
  have HO1 := Lib.hid ho1
  have HB1 := Lib.hid (bnext HB0.out hb1)
  clear ho1 hb1 HA HB0
  go_wp2
  go_loopw [0, 5] (fun u i wr => ∃ k : Nat, k ≤ fs.length ∧ i = .int .i64 k ∧ Hid (Rd wr u (bs ++ enc fs.length ++ CM.flat (fs.take k))) ∧ Hid (Below w.heap.size w wr)) (fun _ i _ => fs.length - (intOf i).toNat)
  case atStart => exact ⟨0, Nat.zero_le _, rfl, (by show Rd _ _ _; rw [List.take_zero]; simpa [CM.flat] using HO1.out), HB1.out⟩
  case round =>
    obtain ⟨k, hk, rfl, ho, hbl⟩ := hrel
    by_cases hlt : k < fs.length
    · have hq : (k : Int) < (fs.length : Int) := by omega
      have hk2 := List.getElem?_eq_getElem hlt
      generalize fs[k] = f at hk2
      have hsn : bs ++ enc fs.length ++ CM.flat (fs.take (k + 1)) = (bs ++ enc fs.length ++ CM.flat (fs.take k)) ++ CM.encF f := by rw [take_snocF hk2, CM.flat_snoc]; simp only [List.append_assoc]
      have hef := HOK.out f (List.mem_of_getElem? hk2)
      have hl1 := HFL.out k
      obtain ⟨x, m, cs⟩ := f
      obtain ⟨b, o, da, dl, dc, hi, hbw, c0, c1, c2, hrd⟩ := (HU.out.below hbl.out).at_ k x m cs hk2
      have HAP := Lib.hid (rAppendP _ _ x m (.slice da dl dc) cs wr ho.out hrd hef (by omega))
      have HSN := Lib.hid hsn
      have HBX := Lib.hid hbl.out
      clear hsn hef hk2 hrd ho hbl hl1
      go_wp2_with fail
      refine HAP.out.mono ?_
      rintro e w2 ⟨v2, rfl, ho2, hb2⟩
      have HB2 := Lib.hid (bnext HBX.out hb2)
      have HO2 := Lib.hid (show Rd w2 v2 (bs ++ enc fs.length ++ CM.flat (fs.take (k + 1))) by rw [HSN.out]; exact ho2)
      clear c0 c1 c2 hi hbw HAP HBX hb2 ho2 HSN
      go_wp2
      go_roundw
      case rel => exact ⟨k + 1, by omega, by go_num, HO2, HB2⟩
      case measure => simp [intOf]; omega
    · have hq : ¬ ((k : Int) < (fs.length : Int)) := by omega
      obtain rfl : k = fs.length := by omega
      rw [List.take_length, List.append_assoc] at ho
      go_wp2
      go_ret
      exact ⟨_, rfl, ho.out, hbl.out⟩

end Go.Proofs.Yteeegpojfbgkfaa
