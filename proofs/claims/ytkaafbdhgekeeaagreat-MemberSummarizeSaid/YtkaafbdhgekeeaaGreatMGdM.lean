/-
  The mathematics of a genesis's encoding: what is encoded is decoded; numbers read from a part of the bytes. No conditions beyond those that each lemma names.
-/
import Derived.Test.YtkaafbdhgekeeaaGreatMDec
import Derived.Test.YtkaafbdhgekeeaaGreatMGenE
import Derived.Test.YtkaafbdhgekeeaaGreatMUni
namespace Go.Proofs.YtkaafbdhgekeeaaGreat
open JM (Chg St)
open MM (Mem Ent Sm Tri)

def flat (ms : List Mem) : List Int := ms.flatMap fun m => [m.1, m.2]
theorem flat_snoc (ms : List Mem) (m : Mem) : flat (ms ++ [m]) = flat ms ++ [m.1, m.2] := by unfold flat; rw [List.flatMap_append]; rfl
theorem flat_inj : ∀ {a b : List Mem}, flat a = flat b → a = b
  | [], [], _ => rfl
  | [], _ :: _, h => by simp [flat] at h
  | _ :: _, [], h => by simp [flat] at h
  | (x, y) :: a, (x', y') :: b, h => by
    simp only [flat, List.flatMap_cons, List.cons_append, List.nil_append, List.cons.injEq] at h
    obtain ⟨rfl, rfl, h⟩ := h
    rw [flat_inj h]
theorem gms_many (xs : List Int) (s : St) (j : Nat) : JM.many xs s (2 * j) = (flat (gms xs s j).1, (gms xs s j).2) := by
  induction j with
  | zero => rfl
  | succ j ih =>
    show JM.many xs s (2 * j + 1 + 1) = _
    simp only [JM.many, ih, gms]
    rw [flat_snoc]
    simp
theorem many_tri (xs : List Int) (s : St) : JM.many xs s 3 = ([(JM.step xs s).1, (JM.step xs (JM.step xs s).2).1, (JM.step xs (JM.step xs (JM.step xs s).2).2).1], (JM.step xs (JM.step xs (JM.step xs s).2).2).2) := by simp [JM.many]
/-- What the numbers of a genesis are read as. -/
theorem decG_many {xs : List Int} {n : Int} {q : St} {C : Nat} (hn : JM.step xs (0, 0) = (n, q)) (h12 : n ≤ 12) (hC : n = (C : Int)) {ms : List Mem} {a b c : Int} {u : Nat} {er : Int} (hm : JM.many xs q (2 * C + 3) = (flat ms ++ [a, b, c], (u, er))) :
    decG xs = gfin a b c u er ms := by
  rw [JM.many_add, gms_many, many_tri] at hm
  simp only [Prod.mk.injEq] at hm
  obtain ⟨h1, h2⟩ := hm
  have hl : (flat (gms xs q C).1).length = (flat ms).length := by
    have := congrArg List.length h1
    simpa using this
  have h3 := List.append_inj h1 hl
  obtain ⟨h4, h5⟩ := h3
  injection h5 with h5 h6
  injection h6 with h6 h7
  injection h7 with h7 _
  unfold decG
  simp only [hn]
  rw [if_neg (by omega), if_neg (by omega)]
  rw [hC, Int.toNat_natCast, h5, h6, h7, h2, flat_inj h4]
theorem decG_enc {ms : List Mem} {k c f : Int} (hv : MM.errG k c f ms = 0) (hs : ∀ x ∈ gnum ms k c f, JM.small x) (hl : ms.length ≤ 12) (tail : List Int) :
    decG (JM.encN (gnum ms k c f) ++ tail) = (0, (JM.encN (gnum ms k c f)).length, k, c, f, ms) := by
  have hg : gnum ms k c f = (ms.length : Int) :: (flat ms ++ [k, c, f]) := rfl
  rw [hg] at hs ⊢
  have hfl : (flat ms ++ [k, c, f]).length = 2 * ms.length + 3 := by rw [List.length_append]; show (ms.flatMap fun m => [m.1, m.2]).length + 3 = _; rw [flat_len]
  have e0 : JM.encN ((ms.length : Int) :: (flat ms ++ [k, c, f])) ++ tail = WM.enc ms.length ++ (JM.encN (flat ms ++ [k, c, f]) ++ tail) := by rw [JM.encN_cons, List.append_assoc, Int.toNat_natCast]
  have h1 := JM.step_enc [] (JM.encN (flat ms ++ [k, c, f]) ++ tail) (ms.length : Int) (hs _ (by simp))
  rw [List.nil_append, List.nil_append, Int.toNat_natCast] at h1
  have h2 := JM.many_enc (flat ms ++ [k, c, f]) (WM.enc ms.length) tail (fun x hx => hs x (List.mem_cons_of_mem _ hx))
  rw [hfl] at h2
  rw [e0, decG_many h1 (by omega) rfl h2]
  unfold gfin
  rw [if_neg (by rw [hv]; simp [MM.or2])]
  rw [JM.encN_cons, List.length_append, List.length_append, Int.toNat_natCast]
theorem gnum_small {ms : List Mem} {k c f : Int} (h : MM.errG k c f ms = 0) (hl : ms.length ≤ 1000) : ∀ x ∈ gnum ms k c f, JM.small x := by
  obtain ⟨h1, h2, _⟩ := MM.errG_zero h
  obtain ⟨s1, s2, s3⟩ := JM.errR_small h1
  have h3 := (MM.val_srt h2).2
  intro x hx
  have hg : gnum ms k c f = (ms.length : Int) :: (flat ms ++ [k, c, f]) := rfl
  rw [hg] at hx
  rcases List.mem_cons.1 hx with rfl | hx
  · unfold JM.small; omega
  · rcases List.mem_append.1 hx with hx | hx
    · obtain ⟨m, hm, hmx⟩ := List.mem_flatMap.1 hx
      have := h3 m hm
      simp only [List.mem_cons, List.mem_nil_iff, or_false] at hmx
      unfold JM.small
      rcases hmx with rfl | rfl <;> omega
    · simp only [List.mem_cons, List.mem_nil_iff, or_false] at hx
      rcases hx with rfl | rfl | rfl
      · exact s1
      · exact s2
      · exact s3
theorem val_len {p : Int} {ms : List Mem} (h : MM.Val p ms) (hp : p ≤ 12) : (ms.length : Int) ≤ 12 - p := by
  induction ms generalizing p with
  | nil => simpa using (by omega : (0 : Int) ≤ 12 - p)
  | cons m v ih =>
    obtain ⟨h1, h2, h3, h4, h5, h6⟩ := h
    have := ih h6 (by omega)
    rw [List.length_cons]
    omega
theorem gen_len {ms : List Mem} {k c f : Int} (h : MM.errG k c f ms = 0) : ms.length ≤ 12 := by
  have := val_len (MM.errG_zero h).2.1 (by decide)
  omega

end Go.Proofs.YtkaafbdhgekeeaaGreat
