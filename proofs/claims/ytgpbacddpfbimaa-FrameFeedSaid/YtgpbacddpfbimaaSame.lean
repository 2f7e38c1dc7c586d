/-
  The call of the laws' own same at two lists that read as the same payloads: it returns true. Conditions: both read so.
-/
import Derived.Deep.QuietTactic
import Derived.Test.YtgpbacddpfbimaaList
namespace Go.Proofs.Ytgpbacddpfbimaa
open Go.RowKit
open WM (Bytes)

theorem run_sizeSl (w : World) : Sem.run Try.prog (Go.sizeOf 22) w = .ok 1 w := run_size infoSl w

/-- 'list[k]': where the index leads, and what is there. -/
theorem RdL.at {w : World} {a : Option Addr} {n c : Nat} {pss : List (List Int)} (h : RdL w (.slice a n c) pss) (k : Nat) (hk : k < pss.length) :
    ∃ p u, (∀ w0, (Instr.indexAt 39 (.slice a n c) (.int .i64 (k : Int))).run Try.prog w0 = .ok (.pointer (some p)) w0) ∧ w.cell? p = some u ∧ Rd w u (pss.getD k []) := by
  obtain ⟨a', c', us, hv, h1, h2, h3, h4, h5⟩ := h
  cases hv
  have hl := h5.length
  have hku : k < us.length := by omega
  obtain ⟨p, hp, hpc⟩ := index_of (f := fun i => us.getD i undef) Try.underlying39 run_sizeSl (fun ha => (h3 ha).1) (fun x hx i hi => h4 x hx i _ (by
    have : i < us.length := by omega
    simp [List.getD, List.getElem?_eq_getElem this])) (c := c) k hk
  obtain ⟨q, hq, hr⟩ := h5.get k us[k] (List.getElem?_eq_getElem hku)
  refine ⟨p, us[k], hp, ?_, ?_⟩
  · rw [hpc]; simp [List.getD, List.getElem?_eq_getElem hku]
  · have : pss.getD k [] = q := by simp [List.getD, hq]
    rw [this]; exact hr

set_option maxRecDepth 100000 in
set_option maxHeartbeats 1000000 in
theorem same_true (v u : Value) (pss : List (List Int)) (w : World) (hv : RdL w v pss) (hu : RdL w u pss) :
    Calls Try.prog 22 #[v, u] w fun e w' => e = .returned (.bool true) ∧ Below w.heap.size w w' := by
  obtain ⟨a, c, rfl, hc, hlc⟩ := hv.shape
  obtain ⟨b, d, rfl, hd, _⟩ := hu.shape
  have HV := Lib.hid (fun k hk => hv.at k hk)
  have HU := Lib.hid (fun k hk => hu.at k hk)
  clear hv hu
  go_enter Try.func22, Try.ntmps22
  go_wp2
  go_loopw [5] (fun i wr => ∃ k : Nat, k ≤ pss.length ∧ i = .int .i64 k ∧ Below w.heap.size w wr) (fun i _ => pss.length - (intOf i).toNat)
  case atStart => exact ⟨0, by omega, rfl, Below.refl _ _⟩
  case round =>
    obtain ⟨k, hk, rfl, hb⟩ := hrel
    by_cases hkl : k = pss.length
    · have hq : ¬ ((k : Int) < (pss.length : Int)) := by omega
      go_wp2
      go_ret
      exact ⟨rfl, hb⟩
    · have hlt : k < pss.length := by omega
      have hq : (k : Int) < (pss.length : Int) := by omega
      obtain ⟨p1, u1, i1, c1, r1⟩ := HV.out k hlt
      obtain ⟨p2, u2, i2, c2, r2⟩ := HU.out k hlt
      have d1 := below_cell hb c1
      have d2 := below_cell hb c2
      have s1 := fun n => ((r1.below hb).below ((Below.refl _ wr).trans (b := wr) (c := wr.drewN n) ⟨rfl, rfl, rfl, Nat.le_refl _, fun _ _ => rfl⟩)).str
      have s2 := fun n => ((r2.below hb).below ((Below.refl _ wr).trans (b := wr) (c := wr.drewN n) ⟨rfl, rfl, rfl, Nat.le_refl _, fun _ _ => rfl⟩)).str
      generalize strOfNums (pss.getD k []) = st at s1 s2
      clear c1 c2 r1 r2
      go_wp2
      go_quiet (fail)
      go_wp2
      go_roundw
      case rel => exact ⟨k + 1, by omega, by go_num, hb.trans ⟨rfl, rfl, rfl, Nat.le_refl _, fun _ _ => rfl⟩⟩
      case measure => simp [intOf]; omega

end Go.Proofs.Ytgpbacddpfbimaa
