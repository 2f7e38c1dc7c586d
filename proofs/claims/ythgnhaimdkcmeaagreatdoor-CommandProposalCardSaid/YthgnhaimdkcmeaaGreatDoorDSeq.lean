/-
  strings.SplitSeq at a separator of one byte, ranged over: every piece in its order, or a prefix of them where a round has said 'no more'. Conditions: the body keeps the iterator's three boxes.
-/
import Derived.RangeFuncNested
import Derived.RangeFuncLeaves
import Derived.RangeFuncBound
import Derived.RangeFuncCalls
import Derived.Shelf.Abstract
import Derived.Shelf.RegionOpen
import Derived.Shelf.Strings.Search3
import Derived.OwnWalkIn
import Derived.TacticsInMore
import Derived.LoopNIn
import Derived.LoopIn
import Derived.Lib.SmallJoins
import Derived.Test.YthgnhaimdkcmeaaGreatDoorDRel
import Derived.Test.YthgnhaimdkcmeaaGreatDoorDLoop
namespace Go.Proofs.YthgnhaimdkcmeaaGreatDoor
open Go.RowKit Go.Joins Go.Shelf
open JM (Chg)
attribute [local go_sem] Oper.semAt_some

theorem ib_none {c : UInt8} {l : List UInt8} (h : c ∉ l) : Lib.indexByte l c = -1 := by
  induction l with
  | nil => rfl
  | cons b l ih =>
    have hb : ¬ b = c := fun e => h (by simp [e])
    unfold Lib.indexByte
    rw [if_neg (by simpa using hb), ih (fun e => h (by simp [e])), if_pos (by decide)]
theorem ib_hit {c : UInt8} {x : List UInt8} (h : c ∉ x) (r : List UInt8) : Lib.indexByte (x ++ c :: r) c = x.length := by
  induction x with
  | nil => simp [Lib.indexByte]
  | cons b l ih =>
    have hb : ¬ b = c := fun e => h (by simp [e])
    rw [List.cons_append]
    unfold Lib.indexByte
    rw [if_neg (by simpa using hb), ih (fun e => h (by simp [e])), if_neg (by simp only [beq_iff_eq]; omega)]
    simp
/-- Lines: strings of at most a million bytes. -/
abbrev Ln := { x : ByteArray // x.size ≤ 1000000 }
def dat (x : Ln) : List UInt8 := x.1.data.toList
/-- The iterator's three boxes stay. -/
def Kb (a b c : Nat) (W W' : World) : Prop := W.heap.size ≤ W'.heap.size ∧ W'.heap[a]? = W.heap[a]? ∧ W'.heap[b]? = W.heap[b]? ∧ W'.heap[c]? = W.heap[c]?
theorem Kb.trans {a b c : Nat} {X Y Z : World} (h : Kb a b c X Y) (k : Kb a b c Y Z) : Kb a b c X Z := ⟨Nat.le_trans h.1 k.1, k.2.1.trans h.2.1, k.2.2.1.trans h.2.2.1, k.2.2.2.trans h.2.2.2⟩
theorem Kb.below {a b c : Nat} {W W' : World} (h : Below W.heap.size W W') (ha : a < W.heap.size) (hb : b < W.heap.size) (hc : c < W.heap.size) : Kb a b c W W' := ⟨h.size, h.block a ha, h.block b hb, h.block c hc⟩
/-- How much is left: what the second box holds. -/
noncomputable def rest8 (b : Nat) (w : World) : Nat := match w.heap[b]? with
  | some (Obj.cells cs _ _) => (match cs[0]? with | some (Value.string r) => r.size | _ => 0)
  | _ => 0
theorem rest8_eq {b : Nat} {w : World} {r : ByteArray} {t : TypeId} (h : w.heap[b]? = some (.cells #[.string r] t (0, 0))) : rest8 b w = r.size := by unfold rest8; rw [h]; rfl
theorem cut_parts {r : ByteArray} {x t : List UInt8} (h : r.data.toList = x ++ 10 :: t) : (r.extract 0 x.length).data.toList = x ∧ (r.extract (x.length + 1) r.size).data.toList = t ∧ x.length + 1 ≤ r.size ∧ (r.extract (x.length + 1) r.size).size < r.size := by
  have hs : r.size = x.length + 1 + t.length := by rw [Lib.size_eq, h]; simp; omega
  refine ⟨?_, ?_, by omega, ?_⟩
  · rw [Lib.extract_from_zero, h]; simp
  · rw [Lib.extract_to_end, h]
    rw [List.drop_append, List.drop_of_length_le (by omega)]
    simp
  · rw [ByteArray.size_extract]; omega

set_option maxRecDepth 100000 in
set_option maxHeartbeats 4000000 in
theorem seq_stops (n : Nat) (hn : 1 ≤ n) (text : ByteArray) (ht : text.size ≤ 1000000) (a b c : Nat) (w : World) (hab : a ≠ b) (hcb : c ≠ b)
    (hA : w.heap[a]? = some (.cells #[.string ⟨#[10]⟩] 9 (0, 0))) (hB : w.heap[b]? = some (.cells #[.string text] 9 (0, 0))) (hC : w.heap[c]? = some (.cells #[.int .i64 0] 3 (0, 0))) :
    SeqB n Tryz.prog 47 #[.pointer (some ⟨a, 0, none⟩), .pointer (some ⟨b, 0, none⟩), .pointer (some ⟨c, 0, none⟩)] (fun x : Ln => Value.string x.1) b (Kb a b c)
      (fun ys => ys.map dat = DM.sp 10 text.data.toList) (fun pre => ∃ r, DM.sp 10 text.data.toList = pre.map dat ++ r) (text.size + 1) w := fun l J Jx W hW hJ hJx hLb _ hY h0 => by
  have hA' := below_block hA hW
  have hB' := below_block hB hW
  have hC' := below_block hC hW
  refine callsIn_of_wp Tryz.func47 rfl trivial ?_ rfl
  simp only [Tryz.ntmps47, List.size_toArray, List.length_cons, List.length_nil, Nat.reduceAdd, Nat.reduceSub, Array.replicate_succ, Array.replicate_zero, List.push_toArray, List.append_toArray, List.nil_append, List.cons_append]
  have a0 := cell_of_one hA'
  have b0 := cell_of_one hB'
  have c0 := cell_of_one hC'
  have HA := Lib.hid hA'
  have HB := Lib.hid hB'
  have HC := Lib.hid hC'
  have HY := Lib.hid hY
  have H0 := Lib.hid h0
  have HT := Lib.hid ht
  have HLB := Lib.hid hLb
  clear hLb hJ hJx hA hB hC hA' hB' hC' hY h0 ht hW
  gi_wp2
  gi_loopw [7] (fun _ wr => ∃ (pre : List Ln) (r : ByteArray), Hid (DM.sp 10 text.data.toList = pre.map dat ++ DM.sp 10 r.data.toList) ∧ Hid (wr.heap[a]? = some (.cells #[.string ⟨#[10]⟩] 9 (0, 0))) ∧ Hid (wr.heap[b]? = some (.cells #[.string r] 9 (0, 0))) ∧ Hid (wr.heap[c]? = some (.cells #[.int .i64 0] 3 (0, 0))) ∧ Hid (r.size ≤ text.size) ∧ Hid (J pre wr))
    (fun _ wr => rest8 b wr)
  case atStart => exact ⟨[], text, Lib.hid rfl, HA, HB, HC, Lib.hid (Nat.le_refl _), H0⟩
  case round =>
    obtain ⟨pre, r, hsp, ha, hb, hc, hr, hj⟩ := hrel
    clear HA HB HC H0 a0 b0 c0
    have a0 := cell_of_one ha.out
    have b0 := cell_of_one hb.out
    have c0 := cell_of_one hc.out
    have f0 := free_of_one hb.out
    have hpl : pre.length < text.size + 1 := by
      have h1 := DM.sp_len (c := 10) text.data.toList.length text.data.toList (Nat.le_refl _)
      rw [hsp.out, List.length_append, List.length_map, ← Lib.size_eq] at h1
      have h2 := List.length_pos_iff.2 (DM.sp_ne (c := 10) r.data.toList)
      omega
    have hix := Any.strings_Index_one { Tryz.lIndex with } r 10 wr
    have HL := Lib.hid hpl
    rcases DM.first 10 r.data.toList with hno | ⟨x, t, hxt, hno⟩
    · rw [ib_none hno] at hix
      have HIX := Lib.hid hix
      have HS := Lib.hid (show DM.sp 10 text.data.toList = pre.map dat ++ [r.data.toList] by rw [hsp.out, DM.sp_none hno])
      obtain ⟨fn, tmps, assign, body, hy, hR⟩ := HY.out pre ⟨r, by have := hr.out; have := HT.out; omega⟩ wr hj.out hpl
      clear hno hix hsp hpl
      gi_wp2_with (refine ⟨trivial, ?_⟩; gi_at_call 49; refine (callsIn_wide.2 HIX.out).mono ?_; rintro e w' ⟨rfl, rfl⟩)
      refine hR.mono ?_
      rintro e W3 (⟨rfl, hJ3, hk3⟩ | ⟨rfl, hJx3⟩)
      · gi_wp2
        go_end0
        exact ⟨⟨_, rfl⟩, .inl ⟨pre ++ [⟨r, by have := hr.out; have := HT.out; omega⟩], by rw [HS.out, List.map_append]; rfl, hJ3⟩⟩
      · gi_wp2
        go_end0
        exact ⟨⟨_, rfl⟩, .inr ⟨pre ++ [⟨r, by have := hr.out; have := HT.out; omega⟩], ⟨[], by rw [HS.out, List.map_append, List.append_nil]; rfl⟩, hJx3⟩⟩
    · rw [hxt, ib_hit hno] at hix
      have HIX := Lib.hid hix
      obtain ⟨p1, p2, p3, p4⟩ := cut_parts hxt
      have hxl : (x.length : Int) + 1 ≤ (r.size : Int) := by omega
      have hrm : (r.size : Int) ≤ 1000000 := by have := hr.out; have := HT.out; omega
      obtain ⟨P, hP⟩ : ∃ P, P = r.extract 0 x.length := ⟨_, rfl⟩
      obtain ⟨Q, hQ⟩ : ∃ Q, Q = r.extract (x.length + 1) r.size := ⟨_, rfl⟩
      have hPs : P.size ≤ 1000000 := by rw [hP, ByteArray.size_extract]; omega
      have HS := Lib.hid (show DM.sp 10 text.data.toList = (pre ++ [(⟨P, hPs⟩ : Ln)]).map dat ++ DM.sp 10 Q.data.toList by
        rw [hsp.out, hxt, DM.sp_hit hno, List.map_append, hQ, p2, List.append_assoc]
        show _ = _ ++ ([P.data.toList] ++ _)
        rw [hP, p1]; rfl)
      have HQS := Lib.hid (show Q.size < r.size by rw [hQ]; exact p4)
      obtain ⟨fn, tmps, assign, body, hy, hR⟩ := HY.out pre ⟨P, hPs⟩ wr hj.out hpl
      dsimp only at hy
      rw [hP] at hy
      have HPE := Lib.hid hP
      have HQE := Lib.hid hQ
      have hxn : x.length + 1 ≤ r.size := p3
      clear hno hix hsp hpl hxt p1 p2 p3 p4 hP hQ
      generalize x.length = X at *
      gi_wp2_with (refine ⟨trivial, ?_⟩; gi_at_call 49; refine (callsIn_wide.2 HIX.out).mono ?_; rintro e w' ⟨rfl, rfl⟩)
      refine hR.mono ?_
      rintro e W3 (⟨rfl, hJ3, hk3⟩ | ⟨rfl, hJx3⟩)
      · have HA3 := Lib.hid (hk3.2.1.trans ha.out)
        have HB3 := Lib.hid (hk3.2.2.1.trans hb.out)
        have HC3 := Lib.hid (hk3.2.2.2.trans hc.out)
        have HJ3 := Lib.hid hJ3
        clear a0 b0 c0 f0 hJ3 hk3
        have a0 := cell_of_one HA3.out
        have b0 := cell_of_one HB3.out
        have f0 := free_of_one HB3.out
        gi_wp2
        have hst : (W3.setCell ⟨b, 0, none⟩ (.string Q)).heap[b]? = some (.cells #[.string Q] 9 (0, 0)) := heap_setCell_same W3 b 0 _ _ _ HB3.out
        have hoa : (W3.setCell ⟨b, 0, none⟩ (.string Q)).heap[a]? = W3.heap[a]? := heap_setCell_other _ _ _ _ hab
        have hoc : (W3.setCell ⟨b, 0, none⟩ (.string Q)).heap[c]? = W3.heap[c]? := heap_setCell_other _ _ _ _ hcb
        rw [← HQE.out]
        go_roundw
        case rel => exact ⟨pre ++ [⟨P, hPs⟩], Q, HS, Lib.hid (hoa.trans HA3.out), Lib.hid hst, Lib.hid (hoc.trans HC3.out), Lib.hid (by have := HQS.out; have := hr.out; omega), Lib.hid (HLB.out _ _ _ HJ3.out)⟩
        case measure => rw [rest8_eq hst, rest8_eq hb.out]; exact HQS.out
      · gi_wp2
        refine bodyPost_ret (results_none rfl _ _ _) rfl ?_
        exact ⟨⟨_, rfl⟩, .inr ⟨pre ++ [⟨P, hPs⟩], ⟨_, HS.out⟩, hJx3⟩⟩

end Go.Proofs.YthgnhaimdkcmeaaGreatDoor
