/-
  The calls of the laws' own valid and awake in elasticstorelaw03. Conditions: the vectors that valid is asked of read as vectors.
-/
import Derived.Test.YtpgkpjdefdpiiaaVRefs
import Derived.Test.YtpgkpjdefdpiiaaVWith
namespace Go.Proofs.Ytpgkpjdefdpiiaa
open Go.RowKit
open VM (Ent)

/-- What valid asks of a vector. -/
def good (xs : List Ent) : Bool := decide (xs.length ≤ 40) && decide (VM.err 0 xs = 0)
theorem good_iff {xs : List Ent} : good xs = true ↔ xs.length ≤ 40 ∧ VM.Val 0 xs := by
  unfold good
  rw [Bool.and_eq_true, decide_eq_true_iff, decide_eq_true_iff, VM.err_val (Int.le_refl 0)]

/-- The values us read as the vectors xss. -/
inductive Vecs (w : World) : List Value → List (List Ent) → Prop
  | nil : Vecs w [] []
  | cons {u : Value} {us : List Value} {xs : List Ent} {xss : List (List Ent)} : RdV w u xs → Vecs w us xss → Vecs w (u :: us) (xs :: xss)
theorem Vecs.length {w : World} {us : List Value} {xss : List (List Ent)} (h : Vecs w us xss) : us.length = xss.length := by
  induction h with
  | nil => rfl
  | cons _ _ ih => simp [ih]
theorem Vecs.get {w : World} {us : List Value} {xss : List (List Ent)} (h : Vecs w us xss) : ∀ (i : Nat) (xs : List Ent), xss[i]? = some xs → ∃ u, us[i]? = some u ∧ RdV w u xs := by
  induction h with
  | nil => intro i u hu; cases hu
  | cons h1 _ ih =>
    intro i u hu
    cases i with
    | zero => cases hu; exact ⟨_, rfl, h1⟩
    | succ i => exact ih i u hu

theorem run_sizeVec (w : World) : Sem.run Try.prog (Go.sizeOf 23) w = .ok 1 w := by
  obtain ⟨i0, hi, hz0, hz1, hz2⟩ := info_parts (show (Try.prog.info? 23).map (fun i => (i.zero, i.size, i.bytes)) = some (some (.slice none 0 0), 1, 24) by kernel_rfl)
  simp [Go.sizeOf, typeInfo, hi, hz1]
theorem index_vec (g n k : Nat) (hk : k < n) (w : World) : (Instr.indexAt 29 (.slice (some ⟨g, 0, none⟩) n n) (.int .i64 (k : Int))).run Try.prog w = .ok (.pointer (some ⟨g, k, none⟩)) w := by
  have h1 : (0 : Int) ≤ (k : Int) := by omega
  have h3 : ¬ n ≤ k := by omega
  have hs := run_sizeVec
  simp [Instr.indexAt, asIntOf, run_underlying Try.underlying29, h1, Result.andThen, addr_plain]
  intro h4
  exact absurd h4 h3

set_option maxRecDepth 100000 in
set_option maxHeartbeats 1000000 in
theorem rValid (g n : Nat) (us : List Value) (xss : List (List Ent)) (w : World) (hn : us.length = n) (hc : ∀ i u, us[i]? = some u → w.cell? ⟨g, i, none⟩ = some u) (hr : Vecs w us xss) (hn2 : n ≤ 1000) :
    Calls Try.prog 13 #[.slice (some ⟨g, 0, none⟩) n n] w fun e w' => e = .returned (.bool (xss.all good)) ∧ Below w.heap.size w w' := by
  have hl := hr.length
  have HC := Lib.hid hc
  have HR := Lib.hid hr
  have HI := Lib.hid (index_vec g n)
  obtain ⟨R, hR⟩ : ∃ R, R = xss.all good := ⟨_, rfl⟩
  rw [← hR]
  have HE := Lib.hid hR
  have hnx : xss.length = n := by omega
  have HN := Lib.hid hnx
  clear hc hr hR hn hl hnx
  go_enter Try.func13, Try.ntmps13
  go_wp2
  go_loopw [3] (fun i wr => ∃ k : Nat, k ≤ n ∧ i = .int .i64 k ∧ Below w.heap.size w wr ∧ Hid (R = (xss.drop k).all good)) (fun i _ => n - (intOf i).toNat)
  case atStart => exact ⟨0, Nat.zero_le _, rfl, Below.refl _ _, HE.out⟩
  case round =>
    obtain ⟨k, hk, rfl, hbl, he⟩ := hrel
    by_cases hlt : k < n
    · have hkx : k < xss.length := by rw [HN.out]; exact hlt
      have hq : (k : Int) < (n : Int) := by omega
      have hd : xss.drop k = xss[k] :: xss.drop (k + 1) := List.drop_eq_getElem_cons hkx
      obtain ⟨u, hu, hru⟩ := HR.out.get k xss[k] (List.getElem?_eq_getElem hkx)
      have hcell := below_cell hbl (HC.out k u hu)
      have hrb := hru.below hbl
      have hi := HI.out k hlt
      have he2 := he.out
      rw [hd, List.all_cons] at he2
      clear HE he hru hu hd
      generalize xss[k] = xs at hrb he2
      obtain ⟨a, c, rfl, hcm, _⟩ := hrb.shape
      by_cases h40 : 40 < xs.length
      · have e2 := Lib.hid (show R = false by rw [he2]; unfold good; rw [decide_eq_false (by omega)]; rfl)
        have h40i : (40 : Int) < (xs.length : Int) := by omega
        clear he2 hrb
        go_wp2
        go_ret
        rw [e2.out]
        exact ⟨rfl, hbl⟩
      · have h40i : ¬ ((40 : Int) < (xs.length : Int)) := by omega
        have hval := rValidate _ xs wr hrb
        have hg : good xs = decide (VM.err 0 xs = 0) := by unfold good; rw [decide_eq_true (by omega)]; rfl
        rw [hg] at he2
        clear hg
        generalize VM.err 0 xs = en at hval he2
        by_cases hz : en = 0
        · have e2 := Lib.hid (show R = (xss.drop (k + 1)).all good by rw [he2, decide_eq_true hz]; rfl)
          subst hz
          clear he2 hrb
          go_wp2_with fail
          refine hval.mono ?_
          rintro e w1 ⟨rfl, hb1⟩
          clear hval
          go_wp2
          go_roundw
          case rel => exact ⟨k + 1, by omega, by go_num, hbl.trans (hb1.mono hbl.size), e2⟩
          case measure => simp [intOf]; omega
        · have e2 := Lib.hid (show R = false by rw [he2, decide_eq_false hz]; rfl)
          have hz' : (en != 0) = true := by simpa using hz
          clear he2 hrb hz
          go_wp2_with fail
          refine hval.mono ?_
          rintro e w1 ⟨rfl, hb1⟩
          clear hval
          go_wp2
          go_ret
          rw [e2.out]
          exact ⟨rfl, hbl.trans (hb1.mono hbl.size)⟩
    · have hq : ¬ ((k : Int) < (n : Int)) := by omega
      have e2 := Lib.hid (show R = true by rw [he.out, List.drop_of_length_le (by rw [HN.out]; omega)]; rfl)
      clear he HE
      go_wp2
      go_ret
      rw [e2.out]
      exact ⟨rfl, hbl⟩

def va0 : List Ent := [(1, 2), (3, 1)]
def vb0 : List Ent := [(1, 1), (2, 5)]
theorem jn0 : VM.jn va0 vb0 = [(1, 2), (2, 5), (3, 1)] := by simp [va0, vb0, VM.jn, VM.mrg, VM.sel, VM.one]; decide
theorem mt0 : VM.mt va0 vb0 = [(1, 1)] := by simp [va0, vb0, VM.mt, VM.mrg, VM.sel, VM.one]; decide
theorem val_a0 : VM.Val 0 va0 := (VM.err_val (Int.le_refl 0)).1 (by decide)
theorem val_b0 : VM.Val 0 vb0 := (VM.err_val (Int.le_refl 0)).1 (by decide)

set_option maxRecDepth 100000 in
set_option maxHeartbeats 2000000 in
theorem awake3 (w : World) : Calls Try.prog 10 #[] w fun e w' => e = .returned (.bool true) ∧ Below w.heap.size w w' := by
  obtain ⟨w1, hw1⟩ : ∃ w1, w1 = w.alloc (.cells #[.int .i64 1, .int .i64 2, .int .i64 3, .int .i64 1] 40) := ⟨_, rfl⟩
  obtain ⟨w2, hw2⟩ : ∃ w2, w2 = w1.alloc (.cells #[.int .i64 1, .int .i64 1, .int .i64 2, .int .i64 5] 40) := ⟨_, rfl⟩
  have ha1 : RdV w1 (.slice (some ⟨w.heap.size, 0, none⟩) 2 2) va0 := by rw [hw1]; exact (ownV_fresh w va0 (by simp [va0, maxLen])).rd
  have hb2 : RdV w2 (.slice (some ⟨w1.heap.size, 0, none⟩) 2 2) vb0 := by rw [hw2]; exact (ownV_fresh w1 vb0 (by simp [vb0, maxLen])).rd
  have hb1 : Below w.heap.size w w1 := by rw [hw1]; exact below_fresh w _
  have hn2 : Below w1.heap.size w1 w2 := by rw [hw2]; exact below_fresh w1 _
  have ha2 := ha1.below hn2
  have hs1 : w1.heap.size = w.heap.size + 1 := by rw [hw1]; simp
  have hbel := hb1.trans (hn2.mono hb1.size)
  have hj := wJoin _ _ va0 vb0 w2 ha2 hb2 (by simp [va0, vb0])
  rw [jn0] at hj
  have hw2' : w2 = (w.alloc (.cells #[.int .i64 1, .int .i64 2, .int .i64 3, .int .i64 1] 40)).alloc (.cells #[.int .i64 1, .int .i64 1, .int .i64 2, .int .i64 5] 40) := by rw [hw2, hw1]
  rw [hs1] at hb2 hj
  have HA := Lib.hid ha2
  have HB := Lib.hid hb2
  have HW := Lib.hid hw2'
  have HBel := Lib.hid hbel
  clear ha1 ha2 hb2 hb1 hn2 hw1 hw2 hw2' hs1 hbel
  go_enter Try.func10, Try.ntmps10
  go_wp2_with fail
  rw [← HW.out]
  refine hj.mono ?_
  rintro e w3 ⟨vj, rfl, hoj, hb3⟩
  have hbel := HBel.out.trans (hb3.mono HBel.out.size)
  have hm := wMeet _ _ va0 vb0 w3 (HA.out.below hb3) (HB.out.below hb3) (by simp [va0, vb0])
  rw [mt0] at hm
  have HA3 := Lib.hid (HA.out.below hb3)
  have HB3 := Lib.hid (HB.out.below hb3)
  have HJ := Lib.hid hoj.rd
  have HL := Lib.hid hbel
  clear hj hoj hb3 hbel HA HB HW HBel
  go_wp2_with fail
  refine hm.mono ?_
  rintro e w4 ⟨vm, rfl, hom, hb4⟩
  have hbel := HL.out.trans (hb4.mono HL.out.size)
  have hsj := wSize vj _ w4 (HJ.out.below hb4) (VM.err_val (Int.le_refl 0) |>.1 (by decide)) (by simp)
  rw [show VM.size [(1, 2), (2, 5), (3, 1)] = 8 from rfl] at hsj
  have HA4 := Lib.hid (HA3.out.below hb4)
  have HB4 := Lib.hid (HB3.out.below hb4)
  have HM4 := Lib.hid hom.rd
  have HL4 := Lib.hid hbel
  clear hm hom hb4 hbel HA3 HB3 HJ HL
  go_wp2_with fail
  refine hsj.mono ?_
  rintro e w5 ⟨rfl, hb5⟩
  have hbel := HL4.out.trans (hb5.mono HL4.out.size)
  have hsm := wSize vm _ w5 (HM4.out.below hb5) (VM.err_val (Int.le_refl 0) |>.1 (by decide)) (by simp)
  rw [show VM.size [(1, 1)] = 1 from rfl] at hsm
  have HA5 := Lib.hid (HA4.out.below hb5)
  have HB5 := Lib.hid (HB4.out.below hb5)
  have HM5 := Lib.hid (HM4.out.below hb5)
  have HL5 := Lib.hid hbel
  clear hsj hb5 hbel HA4 HB4 HM4 HL4
  go_wp2_with fail
  refine hsm.mono ?_
  rintro e w6 ⟨rfl, hb6⟩
  have hbel := HL5.out.trans (hb6.mono HL5.out.size)
  have hcm := wCompare _ _ va0 vb0 w6 (HA5.out.below hb6) (HB5.out.below hb6) val_a0 val_b0
  rw [show cmp va0 vb0 = 3 from rfl] at hcm
  have HA6 := Lib.hid (HA5.out.below hb6)
  have HM6 := Lib.hid (HM5.out.below hb6)
  have HL6 := Lib.hid hbel
  clear hsm hb6 hbel HA5 HB5 HM5 HL5
  go_wp2_with fail
  refine hcm.mono ?_
  rintro e w7 ⟨rfl, hb7⟩
  have hn := below_fresh w7 (.cells #[.int .i64 0, .int .i64 0] 40)
  have hb8 := hb7.trans (hn.mono hb7.size)
  have hbel := HL6.out.trans (hb8.mono HL6.out.size)
  have hvd := wValidate _ _ _ (ownV_fresh w7 [(0, 0)] (by simp [maxLen])).rd
  rw [show VM.err 0 [(0, 0)] = 9 from rfl] at hvd
  have hvd' : Calls Try.prog 11 #[.slice (some ⟨w7.heap.size, 0, none⟩) 1 1] (w7.alloc (.cells #[.int .i64 0, .int .i64 0] 40)) _ := hvd
  have HA8 := Lib.hid (HA6.out.below hb8)
  have HM8 := Lib.hid (HM6.out.below hb8)
  have HL8 := Lib.hid hbel
  clear hcm hb7 hb8 hn hbel hvd HA6 HM6 HL6
  go_wp2_with fail
  refine hvd'.mono ?_
  rintro e w9 ⟨rfl, hb9⟩
  have hbel := HL8.out.trans (hb9.mono HL8.out.size)
  have hgt := wGet _ va0 3 w9 (HA8.out.below hb9) val_a0 (by simp [va0])
  rw [show VM.cnt va0 3 = 1 from rfl] at hgt
  have HA9 := Lib.hid (HA8.out.below hb9)
  have HM9 := Lib.hid (HM8.out.below hb9)
  have HL9 := Lib.hid hbel
  clear hvd' hb9 hbel HA8 HM8 HL8
  go_wp2_with fail
  refine hgt.mono ?_
  rintro e w10 ⟨rfl, hb10⟩
  have hbel := HL9.out.trans (hb10.mono HL9.out.size)
  have hle := wLessEqual vm _ _ va0 w10 (HM9.out.below hb10) (HA9.out.below hb10) (VM.err_val (Int.le_refl 0) |>.1 (by decide)) val_a0
  rw [show VM.le [(1, 1)] va0 = true from rfl] at hle
  have HL10 := Lib.hid hbel
  clear hgt hb10 hbel HA9 HM9 HL9
  go_wp2_with fail
  refine hle.mono ?_
  rintro e w11 ⟨rfl, hb11⟩
  have hbel := HL10.out.trans (hb11.mono HL10.out.size)
  clear hle hb11 HL10
  go_wp2
  go_ret
  exact ⟨rfl, hbel⟩

end Go.Proofs.Ytpgkpjdefdpiiaa
