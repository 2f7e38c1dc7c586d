/-
  Plain mathematics of updates (P11.1 to P11.4): errors, the orders, the encoding and what reads it; how effects and updates lie in memory. No program but its types. No conditions beyond those that each lemma names.
  The encoding of an update (P11.4), and the calls of the reference's AppendInt and AppendUpdate. Conditions: the bytes and effects read; the update is valid, its numbers are of 64 bits.
  The calls of the reference's Commutes, Client, ValidateUpdate, CompareUpdate, Before: what the plain mathematics says. Conditions: the effects read.
  Reading an effect (P11.4): the plain mathematics; the call of the reference's effect. Conditions: the slice reads as bytes.
  Reading an update (P11.4): the plain mathematics; the call of the reference's DecodeUpdate. Conditions: the slice reads as bytes.
  '!=' of two effects; the call of the reference's EqualUpdate. Conditions: the effects read.
  Reading what was encoded (P11.4, P11.5), whole or cut; the orders are strict and total (P11.3). No program. Conditions: the update is valid, its numbers are of 64 bits.
-/
import Derived.Test.YtdfablboenfblaaDoorQKE
import Derived.Test.YtdfablboenfblaaDoorQKS
import Derived.ChangeKeysEq
namespace Go.Proofs.YtdfablboenfblaaDoor
open Go.RowKit

namespace UM
open WM (enc dec Bytes)
/-- An effect: kind, object, field, number, text. -/
abbrev Ef := Int × ByteArray × ByteArray × Int × ByteArray
def errE : Ef → Int
  | (k, o, f, n, s) =>
    if k < 1 ∨ 5 < k then 10
    else if o.size = 0 ∨ f.size = 0 then 2
    else if 16 < o.size ∨ 16 < f.size ∨ 32 < s.size then 3
    else if k = 3 ∧ (n < -1000000 ∨ 1000000 < n) then 9
    else if (k = 4 ∨ k = 5) ∧ n ≠ 0 then 9
    else if (k = 2 ∨ k = 3 ∨ k = 5) ∧ s.size ≠ 0 then 2 else 0
/-- No effect overwrites. -/
def com (es : List Ef) : Bool := es.all fun e => decide (e.1 ≠ 1)
def isCl (c : Int) : Bool := decide (101 ≤ c ∧ c ≤ 106)
/-- The first error of the effects. -/
def errL : List Ef → Int
  | [] => 0
  | e :: r => if errE e ≠ 0 then errE e else errL r
def errU (c q t : Int) (es : List Ef) : Int :=
  if isCl c = false ∨ q < 1 ∨ 8 < q ∨ t < 0 ∨ 1000 < t then 9
  else if es = [] then 2
  else if 4 < es.length then 3
  else if errL es ≠ 0 then errL es
  else if (com es = false ∧ 1 < es.length) ∨ (com es = true ∧ t ≠ 0) then 2 else 0
def cmpU (c q d r : Int) : Int := if c < d ∨ (c = d ∧ q < r) then -1 else if c = d ∧ q = r then 0 else 1
def bef (c q t d r u : Int) : Bool := decide (t < u ∨ (t = u ∧ cmpU c q d r < 0))
end UM

/-- The value of an effect, of an update. -/
abbrev ev (k : Int) (o f : ByteArray) (n : Int) (s : ByteArray) : Value := .agg #[.int .i64 k, .string o, .string f, .int .i64 n, .string s]
abbrev uv (c q t : Int) (es : Value) : Value := .agg #[.int .i64 c, .int .i64 q, .int .i64 t, es]
def encEf : UM.Ef → List Value
  | (k, o, f, n, s) => [.int .i64 k, .string o, .string f, .int .i64 n, .string s]
theorem hlEf : 0 < 5 ∧ ∀ x, (encEf x).length = 5 := ⟨by decide, fun x => by obtain ⟨a, b, c, d, e⟩ := x; rfl⟩
theorem efE : IsElem Tryd.prog 41 62 5 64 encEf where
  ht := Tryd.underlying41
  info := by
    obtain ⟨i0, hi, hz0, hz1, hz2⟩ := info_parts (show (Tryd.prog.info? 62).map (fun i => (i.zero, i.size, i.bytes)) = some (some (ev 0 ByteArray.empty ByteArray.empty 0 ByteArray.empty), 5, 64) by kernel_rfl)
    exact ⟨i0, _, hi, hz0, hz1, hz2, rfl⟩
  len := hlEf.2
  one := by intro x u hu; obtain ⟨a, b, c, d, e⟩ := x; simp [encEf] at hu; rcases hu with rfl | rfl | rfl | rfl | rfl <;> rfl
  pos := by decide
  fits := by decide
abbrev RdEf := RdG encEf 5
abbrev OwnEf := OwnG encEf 62 5
/-- 'v[k]' of effects: where its five cells lie. -/
theorem atEf {w : World} {a : Option Addr} {n c : Nat} {xs : List UM.Ef} (h : RdEf w (.slice a n c) xs) (i : Nat) (k : Int) (o f : ByteArray) (m : Int) (s : ByteArray) (hk : xs[i]? = some (k, o, f, m, s)) :
    ∃ b q, (∀ w0, (Instr.indexAt 41 (.slice a n c) (.int .i64 (i : Int))).run Tryd.prog w0 = .ok (.pointer (some ⟨b, q, none⟩)) w0) ∧ b < w.heap.size ∧
      w.cell? ⟨b, q, none⟩ = some (.int .i64 k) ∧ w.cell? ⟨b, q + 1, none⟩ = some (.string o) ∧ w.cell? ⟨b, q + 2, none⟩ = some (.string f) ∧ w.cell? ⟨b, q + 3, none⟩ = some (.int .i64 m) ∧ w.cell? ⟨b, q + 4, none⟩ = some (.string s) := by
  obtain ⟨b, q, h1, h2, h3⟩ := h.at_ efE i _ hk
  exact ⟨b, q, h1, h2, h3 0 _ rfl, h3 1 _ rfl, h3 2 _ rfl, h3 3 _ rfl, h3 4 _ rfl⟩
/-- A block that holds an effect, an update. -/
theorem ebox {w : World} {g : Nat} {t : TypeId} {a0 a1 a2 a3 a4 : Value} (h : w.heap[g]? = some (.cells #[a0, a1, a2, a3, a4] t (0, 0))) :
    w.cell? ⟨g, 0, none⟩ = some a0 ∧ w.cell? ⟨g, 1, none⟩ = some a1 ∧ w.cell? ⟨g, 2, none⟩ = some a2 ∧ w.cell? ⟨g, 3, none⟩ = some a3 ∧ w.cell? ⟨g, 4, none⟩ = some a4 := by
  refine ⟨?_, ?_, ?_, ?_, ?_⟩ <;> simp [World.cell?, h]
theorem ubox {w : World} {g : Nat} {t : TypeId} {a0 a1 a2 a3 : Value} (h : w.heap[g]? = some (.cells #[a0, a1, a2, a3] t (0, 0))) :
    w.cell? ⟨g, 0, none⟩ = some a0 ∧ w.cell? ⟨g, 1, none⟩ = some a1 ∧ w.cell? ⟨g, 2, none⟩ = some a2 ∧ w.cell? ⟨g, 3, none⟩ = some a3 := by
  refine ⟨?_, ?_, ?_, ?_⟩ <;> simp [World.cell?, h]
theorem isEmpty_size (s : ByteArray) : s.toList.isEmpty = decide (s.size = 0) := by
  rw [ByteArray.toList_eq]
  by_cases h : s.size = 0
  · rw [decide_eq_true h, ByteArray.size_eq_zero_iff.1 h]; rfl
  · rw [decide_eq_false h]
    cases hl : s.data.toList with
    | nil =>
      exfalso
      apply h
      show s.data.size = 0
      rw [← Array.length_toList, hl]; rfl
    | cons _ _ => rfl

set_option maxRecDepth 100000 in
set_option maxHeartbeats 4000000 in
theorem rValEff (k : Int) (o f : ByteArray) (n : Int) (s : ByteArray) (w : World) :
    Calls Tryd.prog 78 #[ev k o f n s] w fun e w' => e = .returned (.int .i64 (UM.errE (k, o, f, n, s))) ∧ Below w.heap.size w w' := by
  obtain ⟨R, hR⟩ : ∃ R, R = UM.errE (k, o, f, n, s) := ⟨_, rfl⟩
  rw [← hR]
  unfold UM.errE at hR
  have HR := Lib.hid hR
  clear hR
  have hx := heap_alloc_new w (.cells #[.int .i64 k, .string o, .string f, .int .i64 n, .string s] 62)
  have hb := below_fresh w (.cells #[.int .i64 k, .string o, .string f, .int .i64 n, .string s] 62)
  obtain ⟨w1, hw1⟩ : ∃ z, w.alloc (.cells #[.int .i64 k, .string o, .string f, .int .i64 n, .string s] 62) = z := ⟨_, rfl⟩
  rw [hw1] at hx hb
  have HW := Lib.hid hw1
  have HB := Lib.hid hb
  obtain ⟨c0, c1, c2, c3, c4⟩ := ebox hx
  clear hw1 hb hx
  have eo := isEmpty_size o
  have ef := isEmpty_size f
  have es := isEmpty_size s
  go_enter Tryd.func78, Tryd.ntmps78
  go_upto_region 1 with fail
  rw [HW.out]
  clear HW
  go_wp2
  all_goals
    go_ret
    refine ⟨ret_int ?_, HB.out⟩
    have hr := HR.out
    rw [hr]
    clear eo ef es c0 c1 c2 c3 c4 HR HB
    (try simp only [← ByteArray.size_eq_zero_iff] at *)
    (try simp only [ByteArray.size_empty] at *)
    (try simp only [bne_iff_ne, bne_eq_false_iff_eq, ne_eq, Bool.not_eq_true', Bool.not_eq_false', decide_eq_true_eq, decide_eq_false_iff_not] at *)
    (repeat' split) <;> first | rfl | omega

end Go.Proofs.YtdfablboenfblaaDoor

namespace Go.Proofs.YtdfablboenfblaaDoor
open Go.RowKit
open UM (Ef)
open WM (enc zig)

namespace UM
def encS (s : ByteArray) : List Int := enc s.size ++ nums s
def encE : Ef → List Int
  | (k, o, f, n, s) => JM.encN [k] ++ (encS o ++ encS f) ++ (enc (zig n) ++ encS s)
def encEs (es : List Ef) : List Int := es.flatMap encE
def encU (c q t : Int) (es : List Ef) : List Int := JM.encN [c, q, t, (es.length : Int)] ++ encEs es
/-- The effect's number is one of 64 bits. -/
def in64 (e : Ef) : Prop := -9223372036854775808 ≤ e.2.2.2.1 ∧ e.2.2.2.1 ≤ 9223372036854775807
theorem errE_ok {k : Int} {o f : ByteArray} {n : Int} {s : ByteArray} (h : errE (k, o, f, n, s) = 0) : 1 ≤ k ∧ k ≤ 5 ∧ o.size ≤ 16 ∧ f.size ≤ 16 ∧ s.size ≤ 32 := by
  unfold errE at h
  dsimp only at h
  split at h
  · omega
  split at h
  · omega
  split at h
  · omega
  · omega
theorem errL_ok : ∀ {es : List Ef}, errL es = 0 → ∀ e ∈ es, errE e = 0
  | [], _ => by simp
  | e :: r, h => by
    unfold errL at h
    split at h
    · exact absurd h (by assumption)
    · rename_i h1
      have h2 : errE e = 0 := by omega
      intro x hx
      rcases List.mem_cons.1 hx with rfl | hx
      · exact h2
      · exact errL_ok h x hx
theorem errU_ok {c q t : Int} {es : List Ef} (h : errU c q t es = 0) : isCl c = true ∧ 1 ≤ q ∧ q ≤ 8 ∧ 0 ≤ t ∧ t ≤ 1000 ∧ 1 ≤ es.length ∧ es.length ≤ 4 ∧ ∀ e ∈ es, errE e = 0 := by
  unfold errU at h
  split at h
  · omega
  rename_i h1
  split at h
  · omega
  rename_i h2
  split at h
  · omega
  rename_i h3
  split at h
  · rename_i h4
    exact absurd h h4
  rename_i h4
  have hl : 1 ≤ es.length := by cases es with | nil => exact absurd rfl h2 | cons _ _ => simp
  refine ⟨by cases hc : isCl c with | true => rfl | false => exact absurd (Or.inl hc) h1, ?_, ?_, ?_, ?_, hl, by omega, errL_ok (by omega)⟩ <;> omega
theorem isCl_ok {c : Int} (h : isCl c = true) : 101 ≤ c ∧ c ≤ 106 := of_decide_eq_true h
theorem encS_len (s : ByteArray) (h : s.size ≤ 1000000) : (encS s).length ≤ 10 + s.size := by
  unfold encS
  rw [List.length_append, nums_length]
  have := WM.enc_len10 s.size (by omega)
  omega
theorem encE_len {k : Int} {o f : ByteArray} {n : Int} {s : ByteArray} (h : errE (k, o, f, n, s) = 0) (hr : in64 (k, o, f, n, s)) : (encE (k, o, f, n, s)).length ≤ 200 := by
  obtain ⟨h1, h2, h3, h4, h5⟩ := errE_ok h
  have a1 := JM.encN_len [k] (by intro x hx; rw [List.mem_singleton] at hx; subst hx; unfold JM.small; omega)
  have a2 := encS_len o (by omega)
  have a3 := encS_len f (by omega)
  have a4 := encS_len s (by omega)
  have a5 := WM.enc_len10 (zig n) (WM.zig_lt n hr.1 hr.2)
  simp only [List.length_cons, List.length_nil] at a1
  unfold encE
  simp only [List.length_append]
  omega
theorem encEs_snoc {l : List Ef} {k : Nat} {x : Ef} (h : l[k]? = some x) : encEs (l.take (k + 1)) = encEs (l.take k) ++ encE x := by
  have hlt : k < l.length := (List.getElem?_eq_some_iff.1 h).1
  have hx : l[k] = x := (List.getElem?_eq_some_iff.1 h).2
  rw [← List.take_append_getElem hlt, hx]
  unfold encEs
  rw [List.flatMap_append]
  simp
theorem encEs_len (l : List Ef) (h : ∀ e ∈ l, errE e = 0) (hr : ∀ e ∈ l, in64 e) : (encEs l).length ≤ 200 * l.length := by
  induction l with
  | nil => simp [encEs]
  | cons x r ih =>
    obtain ⟨k, o, f, n, s⟩ := x
    have h1 := encE_len (h _ (List.mem_cons_self ..)) (hr _ (List.mem_cons_self ..))
    have h2 := ih (fun e he => h e (List.mem_cons_of_mem _ he)) (fun e he => hr e (List.mem_cons_of_mem _ he))
    have h3 : encEs ((k, o, f, n, s) :: r) = encE (k, o, f, n, s) ++ encEs r := by simp [encEs]
    rw [h3, List.length_append, List.length_cons]
    omega
end UM

set_option maxRecDepth 100000 in
set_option maxHeartbeats 1000000 in
theorem rAppendInt (v : Value) (xs : List Int) (z : Int) (w : World) (h : Rd w v xs) (hlen : xs.length ≤ 1099511627776) (hz : -9223372036854775808 ≤ z) (hz2 : z ≤ 9223372036854775807) :
    Calls Tryd.prog 95 #[v, .int .i64 z] w fun e w' => ∃ v', e = .returned v' ∧ Own w.heap.size w' v' (xs ++ enc (zig z)) ∧ Below w.heap.size w w' := by
  have HC := Lib.hid (rAppendUint v xs (zig z) w h hlen (WM.zig_lt z hz hz2))
  have HZ := Lib.hid (rZigzag z w hz hz2)
  clear h hlen
  go_enter Tryd.func95, Tryd.ntmps95
  go_wp2_with fail
  refine HZ.out.mono ?_
  rintro e w1 ⟨rfl, rfl⟩
  go_wp2_with fail
  refine HC.out.mono ?_
  rintro e w1 ⟨v1, rfl, hown, hb⟩
  go_wp2
  go_ret
  exact ⟨v1, rfl, hown, hb⟩

set_option maxRecDepth 100000 in
set_option maxHeartbeats 4000000 in
theorem rAppendU (v : Value) (bs : List Int) (c q t : Int) (u : Value) (es : List Ef) (w : World) (h : Rd w v bs) (hu : RdEf w u es) (he : UM.errU c q t es = 0) (hr : ∀ e ∈ es, UM.in64 e) (hlen : bs.length ≤ 1073741824) :
    Calls Tryd.prog 68 #[v, uv c q t u] w fun e w' => ∃ v', e = .returned v' ∧ Rd w' v' (bs ++ UM.encU c q t es) ∧ Below w.heap.size w w' := by
  obtain ⟨ad, cp, rfl, hc, hl⟩ := hu.shape
  obtain ⟨e1, e2, e3, e4, e5, e6, e7, e8⟩ := UM.errU_ok he
  have e1' := UM.isCl_ok e1
  have hsm : ∀ x ∈ [c, q, t, (es.length : Int)], JM.small x := by
    intro x hx
    simp only [List.mem_cons, List.not_mem_nil, or_false] at hx
    unfold JM.small
    rcases hx with rfl | rfl | rfl | rfl <;> omega
  have hb0 := below_fresh w (.cells #[.int .i64 c, .int .i64 q, .int .i64 t, .slice ad es.length cp] 43)
  have hx0 := heap_alloc_new w (.cells #[.int .i64 c, .int .i64 q, .int .i64 t, .slice ad es.length cp] 43)
  have HC0 := Lib.hid (hu.below hb0)
  have HB0 := Lib.hid hb0
  have hsz := World.size_alloc w (.cells #[.int .i64 c, .int .i64 q, .int .i64 t, .slice ad es.length cp] 43)
  have hv0 := h.below hb0
  generalize hw0 : w.alloc (.cells #[.int .i64 c, .int .i64 q, .int .i64 t, .slice ad es.length cp] 43) = w0 at hx0 HC0 HB0 hsz hv0
  have HW0 := Lib.hid hw0
  have HX0 := Lib.hid hx0
  have hf := below_fresh w0 (.cells #[.int .i64 c, .int .i64 q, .int .i64 t, .int .i64 (es.length : Int)] 3)
  have hg : RdI (w0.alloc (.cells #[.int .i64 c, .int .i64 q, .int .i64 t, .int .i64 (es.length : Int)] 3)) (.slice (some ⟨w.heap.size + 1, 0, none⟩) 4 4) [c, q, t, (es.length : Int)] := by
    rw [← hsz]; exact (ownG_fresh hlI 3 w0 [c, q, t, (es.length : Int)] (by simp [maxLen])).rd
  have HN := Lib.hid (rNumbers v bs _ _ _ (hv0.below hf) hg (by simp) hsm (by omega))
  have hh := JM.encN_len _ hsm
  have hall : ∀ k, k ≤ es.length → (bs ++ JM.encN [c, q, t, (es.length : Int)] ++ UM.encEs (es.take k)).length ≤ 2147483648 := by
    intro k hk
    have h1 := UM.encEs_len (es.take k) (fun y hy => e8 y (List.mem_of_mem_take hy)) (fun y hy => hr y (List.mem_of_mem_take hy))
    rw [List.length_take] at h1
    rw [List.length_append, List.length_append]
    simp only [List.length_cons, List.length_nil] at hh
    omega
  have HALL := Lib.hid hall
  have HE8 := Lib.hid e8
  have HR := Lib.hid hr
  have HF := Lib.hid hf
  obtain ⟨p0, p1, p2, p3⟩ := ubox hx0
  clear h hu he hsm hb0 hw0 hx0 hlen hh hall hsz hv0 hf hg hr e1 e2 e3 e4 e5 e6 e1' e8
  go_enter Tryd.func68, Tryd.ntmps68
  go_wp2_with fail
  rw [HW0.out]
  refine HN.out.mono ?_
  rintro e w1 ⟨v1, rfl, ho1, hb1⟩
  have HO1 := Lib.hid ho1
  have HB1 := Lib.hid (bnext HF.out hb1)
  clear p0 p1 p2 p3 HN ho1 hb1 HF
  go_wp2
  go_loopw [0, 5] (fun u i wr => ∃ k : Nat, k ≤ es.length ∧ i = .int .i64 k ∧ Hid (Rd wr u (bs ++ JM.encN [c, q, t, (es.length : Int)] ++ UM.encEs (es.take k))) ∧ Hid (Below w0.heap.size w0 wr)) (fun _ i _ => es.length - (intOf i).toNat)
  case atStart => exact ⟨0, Nat.zero_le _, rfl, (by show Rd _ _ _; rw [List.take_zero, show UM.encEs [] = [] from rfl, List.append_nil]; exact HO1.out), HB1.out⟩
  case round =>
    obtain ⟨k, hk, rfl, ho, hbl⟩ := hrel
    obtain ⟨p0, p1, p2, p3⟩ := ubox (below_block HX0.out hbl.out)
    by_cases hlt : k < es.length
    · have hq : (k : Int) < (es.length : Int) := by omega
      have hat := List.getElem?_eq_getElem hlt
      have hok := HE8.out es[k] (List.getElem_mem hlt)
      have h64 := HR.out es[k] (List.getElem_mem hlt)
      generalize es[k] = y at hat hok h64
      obtain ⟨k', o', f', n', s'⟩ := y
      obtain ⟨b, o, hi, hbb, d0, d1, d2, d3, d4⟩ := atEf (HC0.out.below hbl.out) k _ _ _ _ _ hat
      have hsn := UM.encEs_snoc hat
      have hal := HALL.out k hk
      have HSN := Lib.hid hsn
      obtain ⟨g1, g2, g3, g4, g5⟩ := UM.errE_ok hok
      have hbn := below_fresh wr (.cells #[.int .i64 k', .string o', .string f', .int .i64 n', .string s'] 62)
      have hcb := heap_alloc_new wr (.cells #[.int .i64 k', .string o', .string f', .int .i64 n', .string s'] 62)
      have hsz := World.size_alloc wr (.cells #[.int .i64 k', .string o', .string f', .int .i64 n', .string s'] 62)
      generalize hwc : wr.alloc (.cells #[.int .i64 k', .string o', .string f', .int .i64 n', .string s'] 62) = wc at hbn hcb hsz
      have HWC := Lib.hid hwc
      have hf := below_fresh wc (.cells #[.int .i64 k'] 3)
      have hg : RdI (wc.alloc (.cells #[.int .i64 k'] 3)) (.slice (some ⟨wr.heap.size + 1, 0, none⟩) 1 1) [k'] := by
        rw [← hsz]; exact (ownG_fresh hlI 3 wc [k'] (by simp [maxLen])).rd
      have hk1 : ∀ x ∈ [k'], JM.small x := by intro x hx; rw [List.mem_singleton] at hx; subst hx; unfold JM.small; omega
      have HN := Lib.hid (rNumbers _ _ _ _ _ ((ho.out.below hbn).below hf) hg (by simp) hk1 (by omega))
      have hl1 := JM.encN_len [k'] hk1
      simp only [List.length_cons, List.length_nil] at hl1
      have hl2 := UM.encS_len o' (by omega)
      have hl3 := UM.encS_len f' (by omega)
      have hl4 := WM.enc_len10 (zig n') (WM.zig_lt n' h64.1 h64.2)
      obtain ⟨bs', hbs'⟩ : ∃ z, z = bs ++ JM.encN [c, q, t, (es.length : Int)] ++ UM.encEs (es.take k) := ⟨_, rfl⟩
      rw [← hbs'] at hal HN
      have HBC := Lib.hid (bnext (bnext hbl.out hbn) hf)
      have HXC := Lib.hid (below_block hcb hf)
      have HE4 := Lib.hid (show ∀ w' v', Rd w' v' (bs' ++ JM.encN [k'] ++ (UM.encS o' ++ UM.encS f') ++ (enc (zig n') ++ UM.encS s')) → Rd w' v' (bs ++ JM.encN [c, q, t, (es.length : Int)] ++ UM.encEs (es.take (k + 1))) by
        intro w' v' hh; rw [HSN.out]; show Rd w' v' (_ ++ (_ ++ (JM.encN [k'] ++ (UM.encS o' ++ UM.encS f') ++ (enc (zig n') ++ UM.encS s')))); rw [hbs'] at hh; simpa only [List.append_assoc] using hh)
      have HS1 := Lib.hid (fun w' v' (hh : Rd w' v' (bs' ++ JM.encN [k'])) => rAppendString v' _ o' w' hh (by rw [List.length_append]; omega) (by omega))
      have HS2 := Lib.hid (fun w' v' (hh : Rd w' v' (bs' ++ JM.encN [k'] ++ enc o'.size ++ nums o')) => rAppendString v' _ f' w' hh (by rw [List.append_assoc, List.length_append, List.length_append]; change _ + (UM.encS o').length ≤ _; omega) (by omega))
      have HS3 := Lib.hid (fun w' v' (hh : Rd w' v' (bs' ++ JM.encN [k'] ++ (UM.encS o' ++ UM.encS f'))) => rAppendInt v' _ n' w' hh (by simp only [List.length_append]; omega) h64.1 h64.2)
      have HS4 := Lib.hid (fun w' v' (hh : Rd w' v' (bs' ++ JM.encN [k'] ++ (UM.encS o' ++ UM.encS f') ++ enc (zig n'))) => rAppendString v' _ s' w' hh (by simp only [List.length_append]; omega) (by omega))
      obtain ⟨x0, x1, x2, x3, x4⟩ := ebox hcb
      clear hat hok h64 hsn hal hbn hsz hwc hbl hf hg hcb hk1 g1 g2 g3 g4 g5 hl1 hl2 hl3 hl4 hbs' ho HSN
      go_wp2_with fail
      rw [HWC.out]
      refine HN.out.mono ?_
      rintro e w4 ⟨v4, rfl, ho4, hb4⟩
      have HO4 := Lib.hid ho4
      have HX4 := Lib.hid (below_block HXC.out hb4)
      have HB4 := Lib.hid (bnext HBC.out hb4)
      clear x0 x1 x2 x3 x4 p0 p1 p2 p3 d0 d1 d2 d3 d4 hi hbb HWC ho4 hb4 HN HBC HXC
      go_wp2_with fail
      refine wp_region_held_drew (S := fun w' => Below w4.heap.size w4 w') (by kernel_rfl) ((Below.refl _ _).drew) (fun ha => ?_)
      replace ha : Below w4.heap.size w4 w4.drew := (Below.refl _ _).drew
      generalize w4.drew = wa at ha ⊢
      refine takeH (i := 0) (v := ?_) rfl (by kernel_rfl) (by kernel_rfl) (by kernel_rfl) (fun _ _ _ h => h) (Or.inl ⟨by rfl, ?_⟩) (by assumption) ?_
      rotate_left
      · (intro w hSw; (try dsimp only at hSw); go_simp; first | done | with_reducible rfl)
      (try simp only [Act.put, List.setIfInBounds_toArray, List.set_cons_zero, List.set_cons_succ])
      refine takeH (i := 1) (v := ?_) rfl (by kernel_rfl) (by kernel_rfl) (by kernel_rfl) (fun _ _ _ h => h) (Or.inl ⟨by rfl, ?_⟩) (by assumption) ?_
      rotate_left
      · (intro w hSw; (try dsimp only at hSw); go_simp; first | done | with_reducible rfl)
      (try simp only [Act.put, List.setIfInBounds_toArray, List.set_cons_zero, List.set_cons_succ])
      refine takeH (i := 2) (v := ?_) rfl (by kernel_rfl) (by kernel_rfl) (by kernel_rfl) (fun _ _ _ h => h) (Or.inl ⟨by rfl, ?_⟩) (by assumption) ?_
      rotate_left
      · (intro w hSw; (try dsimp only at hSw); obtain ⟨d0, d1, d2, d3, d4⟩ := ebox (below_block HX4.out hSw); go_simp; first | done | with_reducible rfl)
      (try simp only [Act.put, List.setIfInBounds_toArray, List.set_cons_zero, List.set_cons_succ])
      refine takeH (i := 4) (v := ?_) rfl (by kernel_rfl) (by kernel_rfl) (by kernel_rfl) (fun _ _ _ h => h) (Or.inl ⟨by rfl, ?_⟩) (by assumption) ?_
      rotate_left
      · (intro w hSw; (try dsimp only at hSw); go_simp; first | done | with_reducible rfl)
      (try simp only [Act.put, List.setIfInBounds_toArray, List.set_cons_zero, List.set_cons_succ])
      refine takeH (i := 5) (v := ?_) rfl (by kernel_rfl) (by kernel_rfl) (by kernel_rfl) (fun _ _ _ h => h) (Or.inl ⟨by rfl, ?_⟩) (by assumption) ?_
      rotate_left
      · (intro w hSw; (try dsimp only at hSw); obtain ⟨d0, d1, d2, d3, d4⟩ := ebox (below_block HX4.out hSw); go_simp; first | done | with_reducible rfl)
      (try simp only [Act.put, List.setIfInBounds_toArray, List.set_cons_zero, List.set_cons_succ])
      refine wpAnyH_ready (rs := [3]) (by kernel_rfl) (by simp) ?_
      refine stepH rfl (fun K hK => ?_) AllReadyH.nil
      go_simp
      refine (HS1.out wa _ (HO4.out.below ha)).mono ?_
      rintro e wb ⟨vb, rfl, hob, hq⟩
      have hb := bnext ha hq
      go_wp2_with fail
      refine hK.out _ _ (hb) (fun _ => ?_)
      clear hK K
      (try simp only [Act.put, List.setIfInBounds_toArray, List.set_cons_zero, List.set_cons_succ])
      refine wpAnyH_ready (rs := [6]) (by kernel_rfl) (by simp) ?_
      refine stepH rfl (fun K hK => ?_) AllReadyH.nil
      go_simp
      refine (HS2.out wb vb hob.rd).mono ?_
      rintro e wc2 ⟨vc, rfl, hoc, hq⟩
      have hc := bnext hb hq
      go_wp2_with fail
      refine hK.out _ _ (hc) (fun _ => ?_)
      clear hK K
      (try simp only [Act.put, List.setIfInBounds_toArray, List.set_cons_zero, List.set_cons_succ])
      refine takeH (i := 7) (v := ?_) rfl (by kernel_rfl) (by kernel_rfl) (by kernel_rfl) (fun _ _ _ h => h) (Or.inl ⟨by rfl, ?_⟩) (by assumption) ?_
      rotate_left
      · (intro w hSw; (try dsimp only at hSw); go_simp; first | done | with_reducible rfl)
      (try simp only [Act.put, List.setIfInBounds_toArray, List.set_cons_zero])
      refine wpAnyH_done (by kernel_rfl) ?_ _
      have HO5 := Lib.hid (show Rd wc2 vc (bs' ++ JM.encN [k'] ++ (UM.encS o' ++ UM.encS f')) by have hh := hoc.rd; unfold UM.encS; simpa only [List.append_assoc] using hh)
      have HX5 := Lib.hid (below_block HX4.out hc)
      have HB5 := Lib.hid (bnext HB4.out hc)
      clear ha hb hc hob hoc HX4 HB4 HO4 HS1 HS2
      go_wp2_with fail
      refine wp_region_held_drew (S := fun w' => Below wc2.heap.size wc2 w') (by kernel_rfl) ((Below.refl _ _).drew) (fun ha => ?_)
      replace ha : Below wc2.heap.size wc2 wc2.drew := (Below.refl _ _).drew
      generalize wc2.drew = wa at ha ⊢
      refine takeH (i := 0) (v := ?_) rfl (by kernel_rfl) (by kernel_rfl) (by kernel_rfl) (fun _ _ _ h => h) (Or.inl ⟨by rfl, ?_⟩) (by assumption) ?_
      rotate_left
      · (intro w hSw; (try dsimp only at hSw); go_simp; first | done | with_reducible rfl)
      (try simp only [Act.put, List.setIfInBounds_toArray, List.set_cons_zero, List.set_cons_succ])
      refine takeH (i := 1) (v := ?_) rfl (by kernel_rfl) (by kernel_rfl) (by kernel_rfl) (fun _ _ _ h => h) (Or.inl ⟨by rfl, ?_⟩) (by assumption) ?_
      rotate_left
      · (intro w hSw; (try dsimp only at hSw); go_simp; first | done | with_reducible rfl)
      (try simp only [Act.put, List.setIfInBounds_toArray, List.set_cons_zero, List.set_cons_succ])
      refine takeH (i := 2) (v := ?_) rfl (by kernel_rfl) (by kernel_rfl) (by kernel_rfl) (fun _ _ _ h => h) (Or.inl ⟨by rfl, ?_⟩) (by assumption) ?_
      rotate_left
      · (intro w hSw; (try dsimp only at hSw); obtain ⟨d0, d1, d2, d3, d4⟩ := ebox (below_block HX5.out hSw); go_simp; first | done | with_reducible rfl)
      (try simp only [Act.put, List.setIfInBounds_toArray, List.set_cons_zero, List.set_cons_succ])
      refine takeH (i := 4) (v := ?_) rfl (by kernel_rfl) (by kernel_rfl) (by kernel_rfl) (fun _ _ _ h => h) (Or.inl ⟨by rfl, ?_⟩) (by assumption) ?_
      rotate_left
      · (intro w hSw; (try dsimp only at hSw); go_simp; first | done | with_reducible rfl)
      (try simp only [Act.put, List.setIfInBounds_toArray, List.set_cons_zero, List.set_cons_succ])
      refine takeH (i := 5) (v := ?_) rfl (by kernel_rfl) (by kernel_rfl) (by kernel_rfl) (fun _ _ _ h => h) (Or.inl ⟨by rfl, ?_⟩) (by assumption) ?_
      rotate_left
      · (intro w hSw; (try dsimp only at hSw); obtain ⟨d0, d1, d2, d3, d4⟩ := ebox (below_block HX5.out hSw); go_simp; first | done | with_reducible rfl)
      (try simp only [Act.put, List.setIfInBounds_toArray, List.set_cons_zero, List.set_cons_succ])
      refine wpAnyH_ready (rs := [3]) (by kernel_rfl) (by simp) ?_
      refine stepH rfl (fun K hK => ?_) AllReadyH.nil
      go_simp
      refine (HS3.out wa _ (HO5.out.below ha)).mono ?_
      rintro e wb ⟨vb, rfl, hob, hq⟩
      have hb := bnext ha hq
      go_wp2_with fail
      refine hK.out _ _ (hb) (fun _ => ?_)
      clear hK K
      (try simp only [Act.put, List.setIfInBounds_toArray, List.set_cons_zero, List.set_cons_succ])
      refine wpAnyH_ready (rs := [6]) (by kernel_rfl) (by simp) ?_
      refine stepH rfl (fun K hK => ?_) AllReadyH.nil
      go_simp
      refine (HS4.out wb vb hob.rd).mono ?_
      rintro e wd ⟨vd, rfl, hod, hq⟩
      have hc := bnext hb hq
      go_wp2_with fail
      refine hK.out _ _ (hc) (fun _ => ?_)
      clear hK K
      (try simp only [Act.put, List.setIfInBounds_toArray, List.set_cons_zero, List.set_cons_succ])
      refine takeH (i := 7) (v := ?_) rfl (by kernel_rfl) (by kernel_rfl) (by kernel_rfl) (fun _ _ _ h => h) (Or.inl ⟨by rfl, ?_⟩) (by assumption) ?_
      rotate_left
      · (intro w hSw; (try dsimp only at hSw); go_simp; first | done | with_reducible rfl)
      (try simp only [Act.put, List.setIfInBounds_toArray, List.set_cons_zero])
      refine wpAnyH_done (by kernel_rfl) ?_ _
      have HO6 := Lib.hid (HE4.out wd vd (by have hh := hod.rd; unfold UM.encS at hh ⊢; simpa only [List.append_assoc] using hh))
      have HB6 := Lib.hid (bnext HB5.out hc)
      clear ha hb hc hob hod HX5 HB5 HO5 HS3 HS4 HE4
      go_wp2
      go_roundw
      case rel => exact ⟨k + 1, by omega, by go_num, HO6, HB6⟩
      case measure => simp [intOf]; omega
    · have hq : ¬ ((k : Int) < (es.length : Int)) := by omega
      obtain rfl : k = es.length := by omega
      rw [List.take_length, List.append_assoc] at ho
      go_wp2
      go_ret
      exact ⟨_, rfl, ho.out, bnext HB0.out hbl.out⟩

end Go.Proofs.YtdfablboenfblaaDoor

namespace Go.Proofs.YtdfablboenfblaaDoor
open Go.RowKit
open UM (Ef)

theorem com_take {es : List Ef} {k : Nat} {e : Ef} (h : es[k]? = some e) : UM.com (es.take (k + 1)) = (UM.com (es.take k) && decide (e.1 ≠ 1)) := by
  unfold UM.com
  rw [List.take_add_one, h, List.all_append]
  simp
theorem com_false {es : List Ef} {k : Nat} {e : Ef} (h : es[k]? = some e) (h1 : e.1 = 1) : UM.com es = false := by
  unfold UM.com
  rw [List.all_eq_false]
  exact ⟨e, List.mem_of_getElem? h, by simp [h1]⟩

set_option maxRecDepth 100000 in
set_option maxHeartbeats 2000000 in
theorem rCom (c q t : Int) (v : Value) (es : List Ef) (w : World) (h : RdEf w v es) :
    Calls Tryd.prog 79 #[uv c q t v] w fun e w' => e = .returned (.bool (UM.com es)) ∧ Below w.heap.size w w' := by
  obtain ⟨ad, cp, rfl, hcp, _⟩ := h.shape
  obtain ⟨R, hR⟩ : ∃ R, R = UM.com es := ⟨_, rfl⟩
  rw [← hR]
  have HR := Lib.hid hR
  have HX := Lib.hid h
  clear hR h
  have hx := heap_alloc_new w (.cells #[.int .i64 c, .int .i64 q, .int .i64 t, .slice ad es.length cp] 43)
  have hb := below_fresh w (.cells #[.int .i64 c, .int .i64 q, .int .i64 t, .slice ad es.length cp] 43)
  obtain ⟨w1, hw1⟩ : ∃ z, w.alloc (.cells #[.int .i64 c, .int .i64 q, .int .i64 t, .slice ad es.length cp] 43) = z := ⟨_, rfl⟩
  rw [hw1] at hx hb
  have HW := Lib.hid hw1
  have HB := Lib.hid hb
  have HU := Lib.hid (ubox hx)
  have hlen : es.length ≤ 9223372036854775807 := by omega
  clear hw1 hb hx
  go_enter Tryd.func79, Tryd.ntmps79
  go_upto_region 1 with fail
  rw [HW.out]
  clear HW
  obtain ⟨_, _, _, c3⟩ := HU.out
  go_wp2
  go_loopw [3] (fun i wr => ∃ k : Nat, k ≤ es.length ∧ i = .int .i64 k ∧ Hid (UM.com (es.take k) = true) ∧ wr = w1) (fun i _ => es.length - (intOf i).toNat)
  case atStart => exact ⟨0, Nat.zero_le _, rfl, Lib.hid rfl, rfl⟩
  case round =>
    obtain ⟨k, hk, rfl, hc, rfl⟩ := hrel
    by_cases hlt : k < es.length
    · have hq : (k : Int) < (es.length : Int) := by omega
      have hat := List.getElem?_eq_getElem hlt
      generalize es[k] = e at hat
      obtain ⟨k', o', f', n', s'⟩ := e
      obtain ⟨b, p, hi, hbb, d0, _⟩ := atEf (HX.out.below HB.out) k _ _ _ _ _ hat
      by_cases h1 : k' = 1
      · have hk1 : (k' == 1) = true := by simp [h1]
        have HR1 := Lib.hid (HR.out.trans (com_false hat h1))
        clear hat h1
        go_wp2
        go_ret
        exact ⟨by rw [HR1.out]; rfl, HB.out⟩
      · have hk1 : (k' == 1) = false := by simp [h1]
        have HC := Lib.hid (show UM.com (es.take (k + 1)) = true by rw [com_take hat, hc.out]; simp [h1])
        clear hat h1
        go_wp2
        go_roundw
        case rel => exact ⟨k + 1, by omega, by go_num, HC, by first | rfl | trivial⟩
        case measure => simp [intOf]; omega
    · have hq : ¬ ((k : Int) < (es.length : Int)) := by omega
      have HR1 := Lib.hid (show R = true by rw [HR.out]; have := hc.out; rwa [List.take_of_length_le (by omega)] at this)
      go_wp2
      go_ret
      exact ⟨by rw [HR1.out]; rfl, HB.out⟩

set_option maxRecDepth 100000 in
set_option maxHeartbeats 1000000 in
theorem rClient (c : Int) (w : World) : Calls Tryd.prog 77 #[.int .i64 c] w fun e w' => e = .returned (.bool (UM.isCl c)) ∧ w' = w := by
  obtain ⟨R, hR⟩ : ∃ R, R = UM.isCl c := ⟨_, rfl⟩
  rw [← hR]
  unfold UM.isCl at hR
  have HR := Lib.hid hR
  clear hR
  go_enter Tryd.func77, Tryd.ntmps77
  go_wp2
  all_goals
    go_ret
    refine ⟨ret_bool ?_, rfl⟩
    rw [HR.out]
    rw [Bool.eq_iff_iff]
    simp
    try omega

set_option maxRecDepth 100000 in
set_option maxHeartbeats 4000000 in
theorem rCmpU (c q t : Int) (u : Value) (d r y : Int) (v : Value) (w : World) (hu : ∃ a l k, u = .slice a l k) (hv : ∃ a l k, v = .slice a l k) :
    Calls Tryd.prog 45 #[uv c q t u, uv d r y v] w fun e w' => e = .returned (.int .i64 (UM.cmpU c q d r)) ∧ Below w.heap.size w w' := by
  obtain ⟨a1, l1, k1, rfl⟩ := hu
  obtain ⟨a2, l2, k2, rfl⟩ := hv
  obtain ⟨R, hR⟩ : ∃ R, R = UM.cmpU c q d r := ⟨_, rfl⟩
  rw [← hR]
  unfold UM.cmpU at hR
  have HR := Lib.hid hR
  clear hR
  have hx := heap_alloc_new w (.cells #[.int .i64 c, .int .i64 q, .int .i64 t, .slice a1 l1 k1] 43)
  have hb := below_fresh w (.cells #[.int .i64 c, .int .i64 q, .int .i64 t, .slice a1 l1 k1] 43)
  have hy := heap_alloc_new (w.alloc (.cells #[.int .i64 c, .int .i64 q, .int .i64 t, .slice a1 l1 k1] 43)) (.cells #[.int .i64 d, .int .i64 r, .int .i64 y, .slice a2 l2 k2] 43)
  have hb2 := below_fresh (w.alloc (.cells #[.int .i64 c, .int .i64 q, .int .i64 t, .slice a1 l1 k1] 43)) (.cells #[.int .i64 d, .int .i64 r, .int .i64 y, .slice a2 l2 k2] 43)
  rw [World.size_alloc] at hy
  obtain ⟨w1, hw1⟩ : ∃ z, (w.alloc (.cells #[.int .i64 c, .int .i64 q, .int .i64 t, .slice a1 l1 k1] 43)).alloc (.cells #[.int .i64 d, .int .i64 r, .int .i64 y, .slice a2 l2 k2] 43) = z := ⟨_, rfl⟩
  rw [hw1] at hy hb2
  have HW := Lib.hid hw1
  have HB := Lib.hid (bnext hb hb2)
  obtain ⟨c0, c1, c2, c3⟩ := ubox (below_block hx hb2)
  obtain ⟨d0, d1, d2, d3⟩ := ubox hy
  clear hw1 hb hb2 hx hy
  go_enter Tryd.func45, Tryd.ntmps45
  go_upto_region 1 with fail
  rw [HW.out]
  clear HW
  go_wp2
  all_goals
    go_ret
    refine ⟨ret_int ?_, HB.out⟩
    have hr := HR.out
    rw [hr]
    clear c0 c1 c2 c3 d0 d1 d2 d3 HR HB
    (try simp only [beq_iff_eq, beq_eq_false_iff_ne, ne_eq] at *)
    (repeat' split) <;> first | rfl | omega

set_option maxRecDepth 100000 in
set_option maxHeartbeats 4000000 in
theorem rValU (c q t : Int) (v : Value) (es : List Ef) (w : World) (h : RdEf w v es) :
    Calls Tryd.prog 44 #[uv c q t v] w fun e w' => e = .returned (.int .i64 (UM.errU c q t es)) ∧ Below w.heap.size w w' := by
  obtain ⟨ad, cp, rfl, hcp, _⟩ := h.shape
  obtain ⟨R, hR⟩ : ∃ R, R = UM.errU c q t es := ⟨_, rfl⟩
  rw [← hR]
  unfold UM.errU at hR
  have HX := Lib.hid h
  have HCL := Lib.hid (fun wx => rClient c wx)
  have HCO := Lib.hid (fun wx (hb : Below w.heap.size w wx) => rCom c q t _ es wx (h.below hb))
  obtain ⟨C, hC⟩ : ∃ C, C = UM.isCl c := ⟨_, rfl⟩
  rw [← hC] at hR HCL
  obtain ⟨M, hM⟩ : ∃ M, M = UM.com es := ⟨_, rfl⟩
  rw [← hM] at hR HCO
  have hx := heap_alloc_new w (.cells #[.int .i64 c, .int .i64 q, .int .i64 t, .slice ad es.length cp] 43)
  have hb := below_fresh w (.cells #[.int .i64 c, .int .i64 q, .int .i64 t, .slice ad es.length cp] 43)
  obtain ⟨w1, hw1⟩ : ∃ z, w.alloc (.cells #[.int .i64 c, .int .i64 q, .int .i64 t, .slice ad es.length cp] 43) = z := ⟨_, rfl⟩
  rw [hw1] at hx hb
  have HW := Lib.hid hw1
  have HB := Lib.hid hb
  have HU := Lib.hid hx
  have hlen : es.length ≤ 9223372036854775807 := by omega
  clear hw1 hb hx hC hM h
  go_enter Tryd.func44, Tryd.ntmps44
  go_upto_region 1 with fail
  rw [HW.out]
  clear HW
  obtain ⟨c0, c1, c2, c3⟩ := ubox HU.out
  by_cases hr : C = false ∨ q < 1 ∨ 8 < q ∨ t < 0 ∨ 1000 < t
  · have HR1 := Lib.hid (hR.trans (if_pos hr))
    clear hR HCO HX HU
    cases C with
    | false =>
      clear hr
      go_wp2_with fail
      refine (HCL.out w1).mono ?_
      rintro e w2 ⟨rfl, rfl⟩
      go_wp2
      go_ret
      exact ⟨by rw [HR1.out]; rfl, HB.out⟩
    | true =>
      have hr2 : q < 1 ∨ 8 < q ∨ t < 0 ∨ 1000 < t := by
        rcases hr with h | h
        · cases h
        · exact h
      clear hr
      go_wp2_with fail
      refine (HCL.out w1).mono ?_
      rintro e w2 ⟨rfl, rfl⟩
      clear HCL
      by_cases g1 : q < 1
      · go_wp2
        go_ret
        exact ⟨by rw [HR1.out]; rfl, HB.out⟩
      by_cases g2 : 8 < q
      · go_wp2
        go_ret
        exact ⟨by rw [HR1.out]; rfl, HB.out⟩
      by_cases g3 : t < 0
      · go_wp2
        go_ret
        exact ⟨by rw [HR1.out]; rfl, HB.out⟩
      have g4 : 1000 < t := by omega
      go_wp2
      go_ret
      exact ⟨by rw [HR1.out]; rfl, HB.out⟩
  rw [if_neg hr] at hR
  have hCt : C = true := by cases C with | true => rfl | false => exact absurd (Or.inl rfl) hr
  subst hCt
  have g1 : ¬ q < 1 := fun h => hr (by simp [h])
  have g2 : ¬ 8 < q := fun h => hr (by simp [h])
  have g3 : ¬ t < 0 := fun h => hr (by simp [h])
  have g4 : ¬ 1000 < t := fun h => hr (by simp [h])
  clear hr
  have HR := Lib.hid hR
  clear hR
  go_wp2_with fail
  refine (HCL.out w1).mono ?_
  rintro e w2 ⟨rfl, rfl⟩
  clear HCL
  have HB0 := HB
  by_cases h0 : es = []
  · have HR1 := Lib.hid (HR.out.trans (if_pos h0))
    have hz : ((es.length : Int) == 0) = true := by rw [h0]; rfl
    clear HR HX HU HCO h0
    go_wp2
    go_ret
    exact ⟨by rw [HR1.out]; rfl, HB.out⟩
  have hR := HR.out
  rw [if_neg h0] at hR
  have hz : ((es.length : Int) == 0) = false := beq_f (by have := List.length_pos_iff.2 h0; omega)
  clear HR
  by_cases h4 : 4 < es.length
  · have HR1 := Lib.hid (hR.trans (if_pos h4))
    have h4' : (4 : Int) < (es.length : Int) := by omega
    clear hR HX HU HCO h0 h4
    go_wp2
    go_ret
    exact ⟨by rw [HR1.out]; rfl, HB.out⟩
  rw [if_neg h4] at hR
  have h4' : ¬ (4 : Int) < (es.length : Int) := by omega
  have HR := Lib.hid hR
  clear hR h0
  go_wp2
  clear hz h4' c0 c1 c2 c3 g1 g2 g3 g4
  go_loopw [3] (fun i wr => ∃ k : Nat, k ≤ es.length ∧ i = .int .i64 k ∧ Hid (UM.errL es = UM.errL (es.drop k)) ∧ Hid (Below w2.heap.size w2 wr)) (fun i _ => es.length - (intOf i).toNat)
  case atStart => exact ⟨0, Nat.zero_le _, rfl, Lib.hid rfl, Lib.hid (Below.refl _ _)⟩
  case round =>
    obtain ⟨k, hk, rfl, hc, hbw⟩ := hrel
    obtain ⟨c0, c1, c2, c3⟩ := ubox (below_block HU.out hbw.out)
    have HBW := Lib.hid (bnext HB.out hbw.out)
    by_cases hlt : k < es.length
    · have hq : (k : Int) < (es.length : Int) := by omega
      have hat := List.getElem?_eq_getElem hlt
      have hdx := drop_get hlt
      generalize es[k] = e at hat hdx
      have HDX := Lib.hid (show UM.errL es = if UM.errE e ≠ 0 then UM.errE e else UM.errL (es.drop (k + 1)) by rw [hc.out, hdx]; rfl)
      obtain ⟨k', o', f', n', s'⟩ := e
      obtain ⟨b, p, hi, hbb, d0, d1, d2, d3, d4⟩ := atEf (HX.out.below HBW.out) k _ _ _ _ _ hat
      have HV := Lib.hid (rValEff k' o' f' n' s' wr)
      generalize UM.errE (k', o', f', n', s') = ec at HV HDX
      clear hat hdx hc
      by_cases hec0 : ec = 0
      · subst hec0
        have HD2 := Lib.hid (HDX.out.trans (if_neg (fun h => h rfl)))
        clear HDX
        go_wp2_with fail
        refine HV.out.mono ?_
        rintro e w3 ⟨rfl, hb1⟩
        have HB1 := Lib.hid (bnext hbw.out hb1)
        clear hb1 HV d0 d1 d2 d3 d4 hi hbb hbw c0 c1 c2 c3
        go_wp2
        go_roundw
        case rel => exact ⟨k + 1, by omega, by go_num, HD2, HB1⟩
        case measure => simp [intOf]; omega
      · have HD2 := Lib.hid (HDX.out.trans (if_pos hec0))
        have HR1 := Lib.hid (show R = ec by rw [HR.out, if_pos (by rw [HD2.out]; exact hec0), HD2.out])
        have hne : (ec != 0) = true := bne_t hec0
        clear HDX HD2 hec0 HR HCO
        go_wp2_with fail
        refine HV.out.mono ?_
        rintro e w3 ⟨rfl, hb1⟩
        have HB1 := Lib.hid (bnext HBW.out hb1)
        clear hb1 HV d0 d1 d2 d3 d4 hi hbb hbw c0 c1 c2 c3 HBW
        go_wp2
        go_ret
        exact ⟨by rw [HR1.out]; rfl, HB1.out⟩
    have hq : ¬ ((k : Int) < (es.length : Int)) := by omega
    have hR := HR.out
    rw [if_neg (by rw [hc.out, List.drop_of_length_le (by omega)]; simp [UM.errL])] at hR
    have HC1 := Lib.hid (HCO.out wr HBW.out)
    have HC2 := Lib.hid (fun wx (hb : Below wr.heap.size wr wx) => HCO.out wx (bnext HBW.out hb))
    have HUW := Lib.hid (fun wx (hb : Below wr.heap.size wr wx) => ubox (below_block (below_block HU.out hbw.out) hb))
    clear HR HCO HU HX hc hbw
    obtain ⟨c0, c1, c2, c3⟩ := HUW.out wr (Below.refl _ _)
    cases M with
    | false =>
      by_cases h1 : 1 < es.length
      · have HR1 := Lib.hid (hR.trans (if_pos (Or.inl ⟨rfl, h1⟩)))
        have h1' : (1 : Int) < (es.length : Int) := by omega
        clear hR HC2 HUW h1
        go_wp2_with fail
        refine HC1.out.mono ?_
        rintro e w3 ⟨rfl, hb1⟩
        have HB1 := Lib.hid (bnext HBW.out hb1)
        have d3 := below_cell hb1 c3
        clear hb1 c0 c1 c2 c3
        go_wp2
        go_ret
        exact ⟨by rw [HR1.out]; rfl, HB1.out⟩
      · have HR1 := Lib.hid (hR.trans (if_neg (by rintro (⟨_, h⟩ | ⟨h, _⟩); exact h1 h; cases h)))
        have h1' : ¬ (1 : Int) < (es.length : Int) := by omega
        clear hR h1
        go_wp2_with fail
        refine HC1.out.mono ?_
        rintro e w3 ⟨rfl, hb1⟩
        have HB1 := Lib.hid (bnext HBW.out hb1)
        have HC3 := Lib.hid (HC2.out w3 hb1)
        obtain ⟨d0, d1, d2, d3⟩ := HUW.out w3 hb1
        clear hb1 c0 c1 c2 c3 HC1 HC2 HUW
        go_wp2_with fail
        refine HC3.out.mono ?_
        rintro e w4 ⟨rfl, hb2⟩
        have HB2 := Lib.hid (bnext HB1.out hb2)
        clear hb2 d0 d1 d2 d3 HC3
        go_wp2
        go_ret
        exact ⟨by rw [HR1.out]; rfl, HB2.out⟩
    | true =>
      by_cases h1 : t = 0
      · have HR1 := Lib.hid (hR.trans (if_neg (by rintro (⟨h, _⟩ | ⟨_, h⟩); cases h; exact h h1)))
        have h1' : (t != 0) = false := by simp [h1]
        clear hR h1
        go_wp2_with fail
        refine HC1.out.mono ?_
        rintro e w3 ⟨rfl, hb1⟩
        have HB1 := Lib.hid (bnext HBW.out hb1)
        have HC3 := Lib.hid (HC2.out w3 hb1)
        have HUW2 := Lib.hid (fun wx (hb : Below w3.heap.size w3 wx) => HUW.out wx (bnext hb1 hb))
        obtain ⟨d0, d1, d2, d3⟩ := HUW.out w3 hb1
        clear hb1 c0 c1 c2 c3 HC1 HC2 HUW
        go_wp2_with fail
        refine HC3.out.mono ?_
        rintro e w4 ⟨rfl, hb2⟩
        have HB2 := Lib.hid (bnext HB1.out hb2)
        obtain ⟨e0, e1, e2, e3⟩ := HUW2.out w4 hb2
        clear hb2 d0 d1 d2 d3 HC3 HUW2
        go_wp2
        go_ret
        exact ⟨by rw [HR1.out]; rfl, HB2.out⟩
      · have HR1 := Lib.hid (hR.trans (if_pos (Or.inr ⟨rfl, h1⟩)))
        have h1' : (t != 0) = true := bne_t h1
        clear hR h1
        go_wp2_with fail
        refine HC1.out.mono ?_
        rintro e w3 ⟨rfl, hb1⟩
        have HB1 := Lib.hid (bnext HBW.out hb1)
        have HC3 := Lib.hid (HC2.out w3 hb1)
        have HUW2 := Lib.hid (fun wx (hb : Below w3.heap.size w3 wx) => HUW.out wx (bnext hb1 hb))
        obtain ⟨d0, d1, d2, d3⟩ := HUW.out w3 hb1
        clear hb1 c0 c1 c2 c3 HC1 HC2 HUW
        go_wp2_with fail
        refine HC3.out.mono ?_
        rintro e w4 ⟨rfl, hb2⟩
        have HB2 := Lib.hid (bnext HB1.out hb2)
        obtain ⟨e0, e1, e2, e3⟩ := HUW2.out w4 hb2
        clear hb2 d0 d1 d2 d3 HC3 HUW2
        go_wp2
        go_ret
        exact ⟨by rw [HR1.out]; rfl, HB2.out⟩

end Go.Proofs.YtdfablboenfblaaDoor

namespace Go.Proofs.YtdfablboenfblaaDoor
open Go.RowKit
open UM (Ef)
open WM (enc dec zig zag Bytes)

namespace UM
def z0 : Ef := (0, ⟨#[]⟩, ⟨#[]⟩, 0, ⟨#[]⟩)
def decE5 (k : Int) (o f : ByteArray) (n : Int) (xs : List Int) (u : Nat) : Ef × Nat × Int :=
  if (decS (xs.drop u)).2.2 ≠ 0 then (z0, 0, (decS (xs.drop u)).2.2) else ((k, o, f, n, strOfNums (decS (xs.drop u)).1), u + (decS (xs.drop u)).2.1.toNat, 0)
def decE4 (k : Int) (o f : ByteArray) (xs : List Int) (u : Nat) : Ef × Nat × Int :=
  if (dec 0 0 (xs.drop u)).2.2 ≠ 0 then (z0, 0, (dec 0 0 (xs.drop u)).2.2) else decE5 k o f (zag (dec 0 0 (xs.drop u)).1) xs (u + (dec 0 0 (xs.drop u)).2.1.toNat)
def decE3 (k : Int) (o : ByteArray) (xs : List Int) (u : Nat) : Ef × Nat × Int :=
  if (decS (xs.drop u)).2.2 ≠ 0 then (z0, 0, (decS (xs.drop u)).2.2) else decE4 k o (strOfNums (decS (xs.drop u)).1) xs (u + (decS (xs.drop u)).2.1.toNat)
def decE2 (k : Int) (xs : List Int) (u : Nat) : Ef × Nat × Int :=
  if (decS (xs.drop u)).2.2 ≠ 0 then (z0, 0, (decS (xs.drop u)).2.2) else decE3 k (strOfNums (decS (xs.drop u)).1) xs (u + (decS (xs.drop u)).2.1.toNat)
/-- An effect read: the effect, the bytes read, the error. -/
def decE (xs : List Int) : Ef × Nat × Int :=
  if (JM.num xs).2.2 ≠ 0 then (z0, 0, (JM.num xs).2.2) else decE2 (JM.num xs).1 xs (JM.num xs).2.1.toNat
end UM
theorem decS_two {xs : List Int} (hb : Bytes xs) : (∃ e : Int, (e = 1 ∨ e = 2 ∨ e = 9) ∧ decS xs = ([], 0, e)) ∨ ∃ (l : List Int) (n : Nat), decS xs = (l, (n : Int), 0) ∧ n ≤ xs.length := by
  rcases WM.dec_two xs hb with ⟨e, he, hd⟩ | ⟨m, hm, hd, hml, _⟩
  · exact .inl ⟨e, he, decS_err hd (by omega)⟩
  · by_cases hl : (xs.length : Int) - (enc m).length < m
    · exact .inl ⟨1, .inl rfl, decS_short hd hl⟩
    · exact .inr ⟨_, _, decS_ok hd hl, by omega⟩

/-- The value of an effect. -/
abbrev efv (e : Ef) : Value := ev e.1 e.2.1 e.2.2.1 e.2.2.2.1 e.2.2.2.2
/-- Block B is an effect. -/
def OE (w : World) (B : Nat) (a b c d e : Value) : Prop := w.heap[B]? = some (.cells #[a, b, c, d, e] 62 (0, 0))
theorem OE.cells {w : World} {B : Nat} {a b c d e : Value} (h : OE w B a b c d e) : w.cell? ⟨B, 0, none⟩ = some a ∧ w.cell? ⟨B, 1, none⟩ = some b ∧ w.cell? ⟨B, 2, none⟩ = some c ∧ w.cell? ⟨B, 3, none⟩ = some d ∧ w.cell? ⟨B, 4, none⟩ = some e ∧
    w.frozen? ⟨B, 0, none⟩ = false ∧ w.frozen? ⟨B, 1, none⟩ = false ∧ w.frozen? ⟨B, 2, none⟩ = false ∧ w.frozen? ⟨B, 3, none⟩ = false ∧ w.frozen? ⟨B, 4, none⟩ = false := by
  unfold OE at h
  refine ⟨?_, ?_, ?_, ?_, ?_, ?_, ?_, ?_, ?_, ?_⟩ <;> simp [World.cell?, World.frozen?, h]
theorem OE.fresh (w : World) (a b c d e : Value) : OE (w.alloc (.cells #[a, b, c, d, e] 62)) w.heap.size a b c d e := heap_alloc_new w _
theorem OE.put5 {w : World} {B : Nat} {a b c d e : Value} (h : OE w B a b c d e) (a' b' c' d' e' : Value) :
    OE (((((w.setCell ⟨B, 0, none⟩ a').setCell ⟨B, 1, none⟩ b').setCell ⟨B, 2, none⟩ c').setCell ⟨B, 3, none⟩ d').setCell ⟨B, 4, none⟩ e') B a' b' c' d' e' := by
  have h1 : (w.setCell ⟨B, 0, none⟩ a').heap[B]? = some (.cells #[a', b, c, d, e] 62 (0, 0)) := heap_setCell_same w B 0 _ _ _ h
  have h2 : ((w.setCell ⟨B, 0, none⟩ a').setCell ⟨B, 1, none⟩ b').heap[B]? = some (.cells #[a', b', c, d, e] 62 (0, 0)) := heap_setCell_same _ B 1 _ _ _ h1
  have h3 : (((w.setCell ⟨B, 0, none⟩ a').setCell ⟨B, 1, none⟩ b').setCell ⟨B, 2, none⟩ c').heap[B]? = some (.cells #[a', b', c', d, e] 62 (0, 0)) := heap_setCell_same _ B 2 _ _ _ h2
  have h4 : ((((w.setCell ⟨B, 0, none⟩ a').setCell ⟨B, 1, none⟩ b').setCell ⟨B, 2, none⟩ c').setCell ⟨B, 3, none⟩ d').heap[B]? = some (.cells #[a', b', c', d', e] 62 (0, 0)) := heap_setCell_same _ B 3 _ _ _ h3
  exact heap_setCell_same _ B 4 _ _ _ h4
theorem only5 {w : World} {B : Nat} (a b c d e : Value) : Only B w (((((w.setCell ⟨B, 0, none⟩ a).setCell ⟨B, 1, none⟩ b).setCell ⟨B, 2, none⟩ c).setCell ⟨B, 3, none⟩ d).setCell ⟨B, 4, none⟩ e) :=
  ((((Only.set 0 a).trans (Only.set 1 b)).trans (Only.set 2 c)).trans (Only.set 3 d)).trans (Only.set 4 e)
theorem reff_ret {R : Ending → World → Prop} {a : Act} {w : World} {g : Nat} {x0 x1 x2 x3 x4 : Value} {u er : Int} (hp : a.tmps.getD 2 undef = .pointer (some ⟨g, 0, none⟩)) (h3 : a.tmps.getD 3 undef = .int .i64 u) (h4 : a.tmps.getD 4 undef = .int .i64 er) (hg : OE w g x0 x1 x2 x3 x4)
    (hd : a.defers = []) (hR : R (.returned (.tuple #[.agg #[x0, x1, x2, x3, x4], .int .i64 u, .int .i64 er])) w) : bodyPost Tryd.prog Tryd.f120 R .ret a w := by
  have := results_cell_tmp_tmp (P := Tryd.prog) (fn := Tryd.f120) rfl a.tmps w g 62 _ _ _ hp hg Tryd.underlying62 rfl (by kernel_rfl)
  rw [h3, h4] at this
  exact bodyPost_ret this hd hR
/-- 'b[u + n:]' of bytes. -/
theorem Rd.cutS {w : World} {a : Option Addr} {m c : Nat} {xs : List Int} (h : Rd w (.slice a m c) xs) (u n : Nat) (h2 : u + n ≤ xs.length) :
    ∃ v', (∀ w0 : World, (Instr.slice 55 (.slice a m c) (some (.int .i64 ((u : Int) + (n : Int)))) none none).run Tryd.prog w0 = .ok v' w0) ∧ Rd w v' (xs.drop (u + n)) := by
  obtain ⟨a', c', hv, _⟩ := h.shape
  cases hv
  obtain ⟨v', h3, h4⟩ := h.cutL (u + n) h2
  exact ⟨v', fun w0 => by rw [show (u : Int) + (n : Int) = ((u + n : Nat) : Int) from by omega]; exact h3 w0, h4⟩
theorem Rd.cutZ {w : World} {a : Option Addr} {m c : Nat} {xs : List Int} (h : Rd w (.slice a m c) xs) (u : Nat) (h2 : u ≤ xs.length) :
    ∃ v', (∀ w0 : World, (Instr.slice 55 (.slice a m c) (some (.int .i64 (u : Int))) none none).run Tryd.prog w0 = .ok v' w0) ∧ Rd w v' (xs.drop u) := by
  obtain ⟨a', c', hv, _⟩ := h.shape
  cases hv
  exact h.cutL u h2
theorem Rd.len64 {w : World} {v : Value} {xs : List Int} (h : Rd w v xs) : xs.length ≤ 9223372036854775807 := by
  obtain ⟨_, _, _, _, hn1, hn2, hcm, _⟩ := h
  unfold maxLen at hcm
  omega

set_option maxRecDepth 100000 in
set_option maxHeartbeats 4000000 in
theorem rEffect (v : Value) (xs : List Int) (w : World) (h : Rd w v xs) :
    Calls Tryd.prog 120 #[v] w fun e w' => e = .returned (.tuple #[efv (UM.decE xs).1, .int .i64 ((UM.decE xs).2.1 : Int), .int .i64 (UM.decE xs).2.2]) ∧ Below w.heap.size w w' := by
  obtain ⟨R, hR⟩ : ∃ R, R = UM.decE xs := ⟨_, rfl⟩
  rw [← hR]
  have hby := h.bytes
  have hb := below_fresh w (.cells #[.int .i64 0, .string ⟨#[]⟩, .string ⟨#[]⟩, .int .i64 0, .string ⟨#[]⟩] 62)
  have ho := OE.fresh w (.int .i64 0) (.string ⟨#[]⟩) (.string ⟨#[]⟩) (.int .i64 0) (.string ⟨#[]⟩)
  obtain ⟨w0, hw0⟩ : ∃ z, w.alloc (.cells #[.int .i64 0, .string ⟨#[]⟩, .string ⟨#[]⟩, .int .i64 0, .string ⟨#[]⟩] 62) = z := ⟨_, rfl⟩
  rw [hw0] at hb ho
  have hv := h.below hb
  have hxl := h.len64
  have HC1 := Lib.hid (rNumber v xs w0 hv)
  obtain ⟨av, nv, cv', rfl⟩ : ∃ a n c, v = .slice a n c := by obtain ⟨a, c, hv, _⟩ := h.shape; exact ⟨_, _, _, hv⟩
  have HW := Lib.hid hw0
  have HB := Lib.hid hb
  have HO := Lib.hid ho
  have HV := Lib.hid hv
  have HXL := Lib.hid hxl
  obtain ⟨o0, o1, o2, o3, o4, z0, z1, z2, z3, z4⟩ := ho.cells
  clear h hb hw0 ho hv hxl
  unfold UM.decE at hR
  go_enter Tryd.func120, Tryd.ntmps120
  go_wp2_with fail
  rw [HW.out]
  refine HC1.out.mono ?_
  rintro e w1 ⟨rfl, rfl⟩
  clear HC1 HW
  rcases JM.num_two xs hby with ⟨e1, he1, hd⟩ | ⟨m, hm, hd, hml⟩
  · rw [hd] at hR ⊢
    replace hR : R = (UM.z0, 0, e1) := by rw [hR, if_pos (show ¬ e1 = 0 by omega)]
    have HFIN := Lib.hid hR
    have hne : (e1 != 0) = true := bne_t (by omega)
    clear hR hd he1 hby
    go_wp2
    refine reff_ret rfl rfl rfl (HO.out.put5 _ _ _ _ _) rfl ⟨?_, ?_⟩
    · rw [HFIN.out]; rfl
    · exact seen HB.out (Nat.le_refl _) (only5 _ _ _ _ _)
  rw [hd] at hR ⊢
  replace hR : R = UM.decE2 (m : Int) xs (enc m).length := by rw [hR, if_neg (by simp)]; rfl
  clear hd hm
  obtain ⟨k, hk⟩ : ∃ k : Int, k = m := ⟨_, rfl⟩
  obtain ⟨u1, hu1⟩ : ∃ u, u = (enc m).length := ⟨_, rfl⟩
  rw [← hk, ← hu1] at hR
  rw [← hu1] at hml
  simp only [← hk, ← hu1]
  clear hk hu1
  obtain ⟨v1, hs1, hr1⟩ := HV.out.cutZ u1 hml
  have HC2 := Lib.hid (rString v1 _ w0 hr1)
  unfold UM.decE2 at hR
  have hb1 := hr1.bytes
  clear hr1
  go_wp2_with fail
  refine HC2.out.mono ?_
  rintro e w1 ⟨rfl, rfl⟩
  clear HC2 hs1
  rcases decS_two hb1 with ⟨e1, he1, hd⟩ | ⟨l2, n2, hd, hl2⟩
  · rw [hd] at hR ⊢
    replace hR : R = (UM.z0, 0, e1) := by rw [hR, if_pos (show ¬ e1 = 0 by omega)]
    have HFIN := Lib.hid hR
    have hne : (e1 != 0) = true := bne_t (by omega)
    clear hR hd he1 hby
    go_wp2
    refine reff_ret rfl rfl rfl (HO.out.put5 _ _ _ _ _) rfl ⟨?_, ?_⟩
    · rw [HFIN.out]; rfl
    · exact seen HB.out (Nat.le_refl _) (only5 _ _ _ _ _)
  rw [hd] at hR ⊢
  replace hR : R = UM.decE3 k (strOfNums l2) xs (u1 + n2) := by rw [hR, if_neg (by simp)]; rfl
  rw [List.length_drop] at hl2
  have hs2 : u1 + n2 ≤ xs.length := by omega
  generalize strOfNums l2 = so at hR ⊢
  clear hd hl2 hml hb1
  obtain ⟨v1, hs1, hr1⟩ := HV.out.cutS u1 n2 hs2
  have HC2 := Lib.hid (rString v1 _ w0 hr1)
  unfold UM.decE3 at hR
  have hb1 := hr1.bytes
  have hw1 : (u1 : Int) + (n2 : Int) ≤ 9223372036854775807 := by have := HXL.out; omega
  clear hr1
  go_wp2_with fail
  refine HC2.out.mono ?_
  rintro e w1 ⟨rfl, rfl⟩
  clear HC2 hs1
  rcases decS_two hb1 with ⟨e1, he1, hd⟩ | ⟨l3, n3, hd, hl3⟩
  · rw [hd] at hR ⊢
    replace hR : R = (UM.z0, 0, e1) := by rw [hR, if_pos (show ¬ e1 = 0 by omega)]
    have HFIN := Lib.hid hR
    have hne : (e1 != 0) = true := bne_t (by omega)
    clear hR hd he1 hby
    go_wp2
    refine reff_ret rfl rfl rfl (HO.out.put5 _ _ _ _ _) rfl ⟨?_, ?_⟩
    · rw [HFIN.out]; rfl
    · exact seen HB.out (Nat.le_refl _) (only5 _ _ _ _ _)
  rw [hd] at hR ⊢
  replace hR : R = UM.decE4 k so (strOfNums l3) xs (u1 + n2 + n3) := by rw [hR, if_neg (by simp)]; rfl
  rw [List.length_drop] at hl3
  have hs3 : u1 + n2 + n3 ≤ xs.length := by omega
  generalize strOfNums l3 = sf at hR ⊢
  obtain ⟨u2, hu2⟩ : ∃ u, u = u1 + n2 := ⟨_, rfl⟩
  have hc2 : (u1 : Int) + (n2 : Int) = (u2 : Int) := by omega
  rw [← hu2] at hR hs3
  simp only [hc2]
  clear hd hl3 hs2 hb1 hu2 hc2 hw1
  obtain ⟨v1, hs1, hr1⟩ := HV.out.cutS u2 n3 hs3
  have HC2 := Lib.hid (rInt v1 _ w0 hr1)
  unfold UM.decE4 at hR
  have hb1 := hr1.bytes
  have hw1 : (u2 : Int) + (n3 : Int) ≤ 9223372036854775807 := by have := HXL.out; omega
  clear hr1
  go_wp2_with fail
  refine HC2.out.mono ?_
  rintro e w1 ⟨rfl, rfl⟩
  clear HC2 hs1
  rcases WM.dec_two _ hb1 with ⟨e1, he1, hd⟩ | ⟨m4, hm4, hd, hl4, _⟩
  · rw [hd] at hR ⊢
    replace hR : R = (UM.z0, 0, e1) := by rw [hR, if_pos (show ¬ e1 = 0 by omega)]
    have HFIN := Lib.hid hR
    have hne : (e1 != 0) = true := bne_t (by omega)
    clear hR hd he1 hby
    go_wp2
    refine reff_ret rfl rfl rfl (HO.out.put5 _ _ _ _ _) rfl ⟨?_, ?_⟩
    · rw [HFIN.out]; rfl
    · exact seen HB.out (Nat.le_refl _) (only5 _ _ _ _ _)
  rw [hd] at hR ⊢
  replace hR : R = UM.decE5 k so sf (zag (m4 : Int)) xs (u2 + n3 + (enc m4).length) := by rw [hR, if_neg (by simp)]; rfl
  rw [List.length_drop] at hl4
  have hs4 : u2 + n3 + (enc m4).length ≤ xs.length := by omega
  generalize zag (m4 : Int) = vn at hR ⊢
  obtain ⟨u3, hu3⟩ : ∃ u, u = u2 + n3 := ⟨_, rfl⟩
  have hc2 : (u2 : Int) + (n3 : Int) = (u3 : Int) := by omega
  rw [← hu3] at hR hs4
  simp only [hc2]
  clear hd hl4 hs3 hb1 hu3 hc2 hw1 hm4
  generalize (enc m4).length = n4 at hR hs4 ⊢
  obtain ⟨v1, hs1, hr1⟩ := HV.out.cutS u3 n4 hs4
  have HC2 := Lib.hid (rString v1 _ w0 hr1)
  unfold UM.decE5 at hR
  have hb1 := hr1.bytes
  have hw1 : (u3 : Int) + (n4 : Int) ≤ 9223372036854775807 := by have := HXL.out; omega
  clear hr1
  go_wp2_with fail
  refine HC2.out.mono ?_
  rintro e w1 ⟨rfl, rfl⟩
  clear HC2 hs1
  rcases decS_two hb1 with ⟨e1, he1, hd⟩ | ⟨l5, n5, hd, hl5⟩
  · rw [hd] at hR ⊢
    replace hR : R = (UM.z0, 0, e1) := by rw [hR, if_pos (show ¬ e1 = 0 by omega)]
    have HFIN := Lib.hid hR
    have hne : (e1 != 0) = true := bne_t (by omega)
    clear hR hd he1 hby
    go_wp2
    refine reff_ret rfl rfl rfl (HO.out.put5 _ _ _ _ _) rfl ⟨?_, ?_⟩
    · rw [HFIN.out]; rfl
    · exact seen HB.out (Nat.le_refl _) (only5 _ _ _ _ _)
  rw [hd] at hR ⊢
  replace hR : R = ((k, so, sf, vn, strOfNums l5), u3 + n4 + n5, 0) := by rw [hR, if_neg (by simp)]; rfl
  rw [List.length_drop] at hl5
  generalize strOfNums l5 = ss at hR ⊢
  have hw2 : (u3 : Int) + (n4 : Int) + (n5 : Int) ≤ 9223372036854775807 := by have := HXL.out; omega
  have HFIN := Lib.hid hR
  clear hd hl5 hs4 hb1 hR hby
  go_wp2
  refine reff_ret rfl rfl rfl (HO.out.put5 _ _ _ _ _) rfl ⟨?_, ?_⟩
  · rw [HFIN.out]; rfl
  · exact seen HB.out (Nat.le_refl _) (only5 _ _ _ _ _)

end Go.Proofs.YtdfablboenfblaaDoor

namespace Go.Proofs.YtdfablboenfblaaDoor
open Go.RowKit
open UM (Ef)
open WM (enc dec zig zag Bytes)

theorem atI_cell {w : World} {a : Option Addr} {n c : Nat} {xs : List Int} {b o : Nat} (h : RdI w (.slice a n c) xs) (k : Nat) (x : Int) (hk : xs[k]? = some x)
    (hi : ∀ w0, (Instr.indexAt 36 (.slice a n c) (.int .i64 (k : Int))).run Tryd.prog w0 = .ok (.pointer (some ⟨b, o, none⟩)) w0) : w.cell? ⟨b, o, none⟩ = some (.int .i64 x) := by
  obtain ⟨b', o', hi', _, hc⟩ := atI h k x hk
  have h1 := hi w
  rw [hi' w] at h1
  injection h1 with h1 _
  injection h1 with h1
  injection h1 with h1
  injection h1 with h1 h2 _
  subst h1 h2
  exact hc

namespace UM
theorem bdrop {xs : List Int} (hb : Bytes xs) (u : Nat) : Bytes (xs.drop u) := fun x hx => hb x (List.mem_of_mem_drop hx)
theorem decE5_used {k : Int} {o f : ByteArray} {n : Int} {xs : List Int} {u : Nat} (hb : Bytes xs) (hu : u ≤ xs.length) : (decE5 k o f n xs u).2.1 ≤ xs.length := by
  unfold decE5
  rcases decS_two (bdrop hb u) with ⟨e1, he1, hd⟩ | ⟨l, n, hd, hl⟩
  · rw [hd, if_pos (show ¬ e1 = 0 by omega)]; exact Nat.zero_le _
  · rw [hd, if_neg (by simp)]
    rw [List.length_drop] at hl
    show u + (n : Int).toNat ≤ _
    omega
theorem decE4_used {k : Int} {o f : ByteArray} {xs : List Int} {u : Nat} (hb : Bytes xs) (hu : u ≤ xs.length) : (decE4 k o f xs u).2.1 ≤ xs.length := by
  unfold decE4
  rcases WM.dec_two _ (bdrop hb u) with ⟨e1, he1, hd⟩ | ⟨m4, hm4, hd, hl, _⟩
  · rw [hd, if_pos (show ¬ e1 = 0 by omega)]; exact Nat.zero_le _
  · rw [hd, if_neg (by simp)]
    rw [List.length_drop] at hl
    exact decE5_used hb (by show u + ((enc m4).length : Int).toNat ≤ _; omega)
theorem decE3_used {k : Int} {o : ByteArray} {xs : List Int} {u : Nat} (hb : Bytes xs) (hu : u ≤ xs.length) : (decE3 k o xs u).2.1 ≤ xs.length := by
  unfold decE3
  rcases decS_two (bdrop hb u) with ⟨e1, he1, hd⟩ | ⟨l, n, hd, hl⟩
  · rw [hd, if_pos (show ¬ e1 = 0 by omega)]; exact Nat.zero_le _
  · rw [hd, if_neg (by simp)]
    rw [List.length_drop] at hl
    exact decE4_used hb (by show u + (n : Int).toNat ≤ _; omega)
theorem decE2_used {k : Int} {xs : List Int} {u : Nat} (hb : Bytes xs) (hu : u ≤ xs.length) : (decE2 k xs u).2.1 ≤ xs.length := by
  unfold decE2
  rcases decS_two (bdrop hb u) with ⟨e1, he1, hd⟩ | ⟨l, n, hd, hl⟩
  · rw [hd, if_pos (show ¬ e1 = 0 by omega)]; exact Nat.zero_le _
  · rw [hd, if_neg (by simp)]
    rw [List.length_drop] at hl
    exact decE3_used hb (by show u + (n : Int).toNat ≤ _; omega)
theorem decE_used {xs : List Int} (hb : Bytes xs) : (decE xs).2.1 ≤ xs.length := by
  unfold decE
  rcases JM.num_two xs hb with ⟨e1, he1, hd⟩ | ⟨m, hm, hd, hml⟩
  · rw [hd, if_pos (show ¬ e1 = 0 by omega)]; exact Nat.zero_le _
  · rw [hd, if_neg (by simp)]
    exact decE2_used hb hml
/-- k effects read one after the other: the effects, the bytes read, the first error. -/
def chE (xs : List Int) (u : Nat) : Nat → List Ef × Nat × Int
  | 0 => ([], u, 0)
  | k + 1 => if (chE xs u k).2.2 ≠ 0 then chE xs u k
    else if (decE (xs.drop (chE xs u k).2.1)).2.2 ≠ 0 then ((chE xs u k).1, (chE xs u k).2.1, (decE (xs.drop (chE xs u k).2.1)).2.2)
    else ((chE xs u k).1 ++ [(decE (xs.drop (chE xs u k).2.1)).1], (chE xs u k).2.1 + (decE (xs.drop (chE xs u k).2.1)).2.1, 0)
theorem chE_err_le {xs : List Int} {u k n : Nat} (h : k ≤ n) (he : (chE xs u k).2.2 ≠ 0) : chE xs u n = chE xs u k := by
  induction n with
  | zero => obtain rfl : k = 0 := by omega
            rfl
  | succ n ih =>
    by_cases hk : k = n + 1
    · rw [hk]
    · have h1 := ih (by omega)
      rw [chE, if_pos (by rw [h1]; exact he), h1]
theorem chE_used {xs : List Int} {u : Nat} (hb : Bytes xs) (hu : u ≤ xs.length) (k : Nat) : (chE xs u k).2.1 ≤ xs.length := by
  induction k with
  | zero => exact hu
  | succ k ih =>
    rw [chE]
    split
    · exact ih
    split
    · exact ih
    · have := decE_used (bdrop hb (chE xs u k).2.1)
      rw [List.length_drop] at this
      dsimp only
      omega
theorem chE_len {xs : List Int} {u k : Nat} (h : (chE xs u k).2.2 = 0) : (chE xs u k).1.length = k := by
  induction k with
  | zero => rfl
  | succ k ih =>
    rw [chE] at h ⊢
    split at h
    · rename_i h1; exact absurd h h1
    rename_i h1
    rw [if_neg h1]
    split at h
    · rename_i h2; exact absurd h h2
    rename_i h2
    rw [if_neg h2]
    have := ih (Classical.byContradiction h1)
    simp [this]
abbrev Du := Int × Nat × (Int × Int × Int) × List Ef
def badU (e : Int) : Du := (e, 0, (0, 0, 0), [])
def finU (c q t : Int) (p : List Ef × Nat × Int) : Du :=
  if p.2.2 ≠ 0 then badU p.2.2 else if errU c q t p.1 ≠ 0 then badU (errU c q t p.1) else (0, p.2.1, (c, q, t), p.1)
/-- Reading an update: the error, the bytes read, the update. -/
def decU (xs : List Int) : Du :=
  if (JM.many xs (0, 0) 4).2.2 ≠ 0 then badU (JM.many xs (0, 0) 4).2.2
  else if 4 < (JM.many xs (0, 0) 4).1.getD 3 0 then badU 3
  else finU ((JM.many xs (0, 0) 4).1.getD 0 0) ((JM.many xs (0, 0) 4).1.getD 1 0) ((JM.many xs (0, 0) 4).1.getD 2 0) (chE xs (JM.many xs (0, 0) 4).2.1 ((JM.many xs (0, 0) 4).1.getD 3 0).toNat)
end UM
theorem list4 {l : List Int} (h : l.length = 4) : ∃ a b c d, l = [a, b, c, d] := by
  match l, h with
  | [a, b, c, d], _ => exact ⟨a, b, c, d, rfl⟩

/-- Block B is an update. -/
def OU (w : World) (B : Nat) (c q t : Int) (s : Value) : Prop := w.heap[B]? = some (.cells #[.int .i64 c, .int .i64 q, .int .i64 t, s] 43 (0, 0))
theorem OU.cells {w : World} {B : Nat} {c q t : Int} {s : Value} (h : OU w B c q t s) : w.cell? ⟨B, 0, none⟩ = some (.int .i64 c) ∧ w.cell? ⟨B, 1, none⟩ = some (.int .i64 q) ∧ w.cell? ⟨B, 2, none⟩ = some (.int .i64 t) ∧ w.cell? ⟨B, 3, none⟩ = some s ∧
    w.frozen? ⟨B, 0, none⟩ = false ∧ w.frozen? ⟨B, 1, none⟩ = false ∧ w.frozen? ⟨B, 2, none⟩ = false ∧ w.frozen? ⟨B, 3, none⟩ = false := by
  unfold OU at h
  refine ⟨?_, ?_, ?_, ?_, ?_, ?_, ?_, ?_⟩ <;> simp [World.cell?, World.frozen?, h]
theorem OU.lt {w : World} {B : Nat} {c q t : Int} {s : Value} (h : OU w B c q t s) : B < w.heap.size := (Array.getElem?_eq_some_iff.1 h).1
theorem OU.below {w w' : World} {B : Nat} {c q t : Int} {s : Value} (h : OU w B c q t s) (hb : Below w.heap.size w w') : OU w' B c q t s := below_block h hb
theorem OU.keep {w w' : World} {e : TypeId} {B : Nat} {c q t : Int} {s : Value} (h : OU w B c q t s) (he : 43 ≠ e) (hk : KeepsX e w w') : OU w' B c q t s := hk.at h he
theorem OU.only {w w' : World} {g B : Nat} {c q t : Int} {s : Value} (h : OU w B c q t s) (ho : Only g w w') (hne : B ≠ g) : OU w' B c q t s := ho.at h hne
theorem OU.fresh (w : World) (c q t : Int) (s : Value) : OU (w.alloc (.cells #[.int .i64 c, .int .i64 q, .int .i64 t, s] 43)) w.heap.size c q t s := heap_alloc_new w _
theorem OU.put {w : World} {B : Nat} {c q t : Int} {s : Value} (h : OU w B c q t s) (u : Value) : OU (w.setCell ⟨B, 3, none⟩ u) B c q t u := heap_setCell_same w B 3 _ _ u h
theorem OU.put4 {w : World} {B : Nat} {c q t : Int} {s : Value} (h : OU w B c q t s) (c' q' t' : Int) (u : Value) :
    OU ((((w.setCell ⟨B, 0, none⟩ (.int .i64 c')).setCell ⟨B, 1, none⟩ (.int .i64 q')).setCell ⟨B, 2, none⟩ (.int .i64 t')).setCell ⟨B, 3, none⟩ u) B c' q' t' u := by
  have h1 : (w.setCell ⟨B, 0, none⟩ (.int .i64 c')).heap[B]? = some (.cells #[.int .i64 c', .int .i64 q, .int .i64 t, s] 43 (0, 0)) := heap_setCell_same w B 0 _ _ _ h
  have h2 : ((w.setCell ⟨B, 0, none⟩ (.int .i64 c')).setCell ⟨B, 1, none⟩ (.int .i64 q')).heap[B]? = some (.cells #[.int .i64 c', .int .i64 q', .int .i64 t, s] 43 (0, 0)) := heap_setCell_same _ B 1 _ _ _ h1
  have h3 : (((w.setCell ⟨B, 0, none⟩ (.int .i64 c')).setCell ⟨B, 1, none⟩ (.int .i64 q')).setCell ⟨B, 2, none⟩ (.int .i64 t')).heap[B]? = some (.cells #[.int .i64 c', .int .i64 q', .int .i64 t', s] 43 (0, 0)) := heap_setCell_same _ B 2 _ _ _ h2
  exact heap_setCell_same _ B 3 _ _ _ h3
theorem only4 {w : World} {B : Nat} (a b c d : Value) : Only B w ((((w.setCell ⟨B, 0, none⟩ a).setCell ⟨B, 1, none⟩ b).setCell ⟨B, 2, none⟩ c).setCell ⟨B, 3, none⟩ d) :=
  (((Only.set 0 a).trans (Only.set 1 b)).trans (Only.set 2 c)).trans (Only.set 3 d)
theorem rdecU_ret {R : Ending → World → Prop} {a : Act} {w : World} {g : Nat} {c q t : Int} {s : Value} {u er : Int} (hp : a.tmps.getD 2 undef = .pointer (some ⟨g, 0, none⟩)) (h3 : a.tmps.getD 3 undef = .int .i64 u) (h4 : a.tmps.getD 4 undef = .int .i64 er) (hg : OU w g c q t s)
    (hd : a.defers = []) (hR : R (.returned (.tuple #[uv c q t s, .int .i64 u, .int .i64 er])) w) : bodyPost Tryd.prog Tryd.f97 R .ret a w := by
  have := results_cell_tmp_tmp (P := Tryd.prog) (fn := Tryd.f97) rfl a.tmps w g 43 _ _ _ hp hg Tryd.underlying43 rfl (by kernel_rfl)
  rw [h3, h4] at this
  exact bodyPost_ret this hd hR

set_option maxRecDepth 100000 in
set_option maxHeartbeats 4000000 in
theorem rDecodeUO (v : Value) (xs : List Int) (w : World) (h : Rd w v xs) :
    Calls Tryd.prog 97 #[v] w fun e w' => ∃ sv, e = .returned (.tuple #[uv (UM.decU xs).2.2.1.1 (UM.decU xs).2.2.1.2.1 (UM.decU xs).2.2.1.2.2 sv, .int .i64 ((UM.decU xs).2.1 : Int), .int .i64 (UM.decU xs).1]) ∧ OwnEf w.heap.size w' sv (UM.decU xs).2.2.2 ∧ Below w.heap.size w w' := by
  have hby := h.bytes
  have hxl := h.len64
  obtain ⟨R, hR⟩ : ∃ R, R = UM.decU xs := ⟨_, rfl⟩
  rw [← hR]
  unfold UM.decU at hR
  have b0 := below_fresh w (.cells #[.int .i64 0, .int .i64 0, .int .i64 0, .slice none 0 0] 43)
  have hP0 := OU.fresh w 0 0 0 (.slice none 0 0)
  obtain ⟨w0, hw0⟩ : ∃ w0, w.alloc (.cells #[.int .i64 0, .int .i64 0, .int .i64 0, .slice none 0 0] 43) = w0 := ⟨_, rfl⟩
  rw [hw0] at b0 hP0
  have hrd := rRead v xs 4 w0 (h.below b0) (by decide)
  have hml := JM.many_length xs (0, 0) 4
  obtain ⟨hms, hmu⟩ := JM.many_small xs (0, 0) hby (Nat.zero_le _) 4
  generalize JM.many xs (0, 0) 4 = M at hR hrd hml hms hmu
  obtain ⟨l4, u0, e0⟩ := M
  dsimp only at hR hrd hml hms hmu
  obtain ⟨c, q, t, x4, rfl⟩ := list4 hml
  obtain ⟨C, rfl⟩ : ∃ C : Nat, x4 = (C : Int) := by have := hms x4 (by simp); unfold JM.small at this; exact ⟨x4.toNat, by omega⟩
  have HRD : Hid (Calls Tryd.prog 119 #[v, .int .i64 4] w0 _) := hrd
  have HW0 := Lib.hid hw0
  have HB0 := Lib.hid b0
  have HP0 := Lib.hid hP0
  have HV := Lib.hid h
  have HR0 := Lib.hid hR
  have HBY := Lib.hid hby
  have HXL := Lib.hid hxl
  have HMU := Lib.hid hmu
  obtain ⟨av, nv, cv', rfl⟩ : ∃ a n c, v = .slice a n c := by obtain ⟨a, c, hv, _⟩ := h.shape; exact ⟨_, _, _, hv⟩
  clear h hby hxl hR b0 hP0 hw0 hrd hml hms hmu
  go_enter Tryd.func97, Tryd.ntmps97
  go_wp2_with fail
  rw [HW0.out]
  refine HRD.out.mono ?_
  rintro e w2 (⟨hne, rfl, hb2⟩ | ⟨rfl, hv, rfl, hoh, hb2⟩)
  · have HB2 := Lib.hid (bnext HB0.out hb2)
    have HP2 := Lib.hid (HP0.out.below hb2)
    have HFIN := Lib.hid (show R = UM.badU e0 by rw [HR0.out, if_pos hne])
    have hne' : (e0 != 0) = true := bne_t hne
    obtain ⟨o0, o1, o2, o3, g0, g1, g2, g3⟩ := HP2.out.cells
    clear hb2 hne HR0 HRD HW0 HB0 HP0
    go_wp2
    refine rdecU_ret rfl rfl rfl (HP2.out.put4 0 0 0 (.slice none 0 0)) rfl ⟨.slice none 0 0, ?_, ?_, ?_⟩
    · rw [HFIN.out]; rfl
    · rw [HFIN.out]; exact OwnG.nil hlEf _ _ _
    · exact seen HB2.out (Nat.le_refl _) (only4 _ _ _ _)
  have HB2 := Lib.hid (bnext HB0.out hb2)
  have HP2 := Lib.hid (HP0.out.below hb2)
  have HOH2 := Lib.hid (hoh.mono HB0.out.size)
  obtain ⟨hda, hdc, rfl⟩ : ∃ a c, hv = .slice a 4 c := by obtain ⟨a, c, h, _⟩ := hoh.rd.shape; exact ⟨a, c, h⟩
  obtain ⟨bx3, ox3, hi3, _, hc3⟩ := atI HOH2.out.rd 3 _ rfl
  have hi3 : ∀ w0, (Instr.indexAt 36 (.slice hda 4 hdc) (.int .i64 3)).run Tryd.prog w0 = .ok (.pointer (some ⟨bx3, ox3, none⟩)) w0 := hi3
  by_cases hC4 : 4 < (C : Int)
  · have HFIN := Lib.hid (show R = UM.badU 3 by rw [HR0.out, if_neg (by simp), if_pos (by exact hC4)])
    obtain ⟨o0, o1, o2, o3, g0, g1, g2, g3⟩ := HP2.out.cells
    clear hb2 HR0 HRD HW0 HB0 HP0 hoh HOH2
    go_wp2
    refine rdecU_ret rfl rfl rfl (HP2.out.put4 0 0 0 (.slice none 0 0)) rfl ⟨.slice none 0 0, ?_, ?_, ?_⟩
    · rw [HFIN.out]; rfl
    · rw [HFIN.out]; exact OwnG.nil hlEf _ _ _
    · exact seen HB2.out (Nat.le_refl _) (only4 _ _ _ _)
  have HFIN := Lib.hid (show R = UM.finU c q t (UM.chE xs u0 C) by rw [HR0.out, if_neg (by simp), if_neg (by exact hC4)]; rfl)
  have hC4' : decide (4 < (C : Int)) = false := decide_eq_false hC4
  have HC4 := Lib.hid (show C ≤ 4 by omega)
  obtain ⟨bx0, ox0, hi0, _, hc0⟩ := atI HOH2.out.rd 0 _ rfl
  have hi0 : ∀ w0, (Instr.indexAt 36 (.slice hda 4 hdc) (.int .i64 0)).run Tryd.prog w0 = .ok (.pointer (some ⟨bx0, ox0, none⟩)) w0 := hi0
  obtain ⟨bx1, ox1, hi1, _, hc1⟩ := atI HOH2.out.rd 1 _ rfl
  have hi1 : ∀ w0, (Instr.indexAt 36 (.slice hda 4 hdc) (.int .i64 1)).run Tryd.prog w0 = .ok (.pointer (some ⟨bx1, ox1, none⟩)) w0 := hi1
  obtain ⟨bx2, ox2, hi2, _, hc2⟩ := atI HOH2.out.rd 2 _ rfl
  have hi2 : ∀ w0, (Instr.indexAt 36 (.slice hda 4 hdc) (.int .i64 2)).run Tryd.prog w0 = .ok (.pointer (some ⟨bx2, ox2, none⟩)) w0 := hi2
  clear hb2 HR0 HRD HW0 HB0 HP0 hoh hC4
  go_wp2
  refine wp_region_held_drew (S := fun w' => Below w2.heap.size w2 w') (by kernel_rfl) ((Below.refl _ _).drew) (fun ha => ?_)
  replace ha : Below w2.heap.size w2 w2.drew := (Below.refl _ _).drew
  generalize w2.drew = wa at ha ⊢
  refine takeH (i := 0) (v := ?_) rfl (by kernel_rfl) (by kernel_rfl) (by kernel_rfl) (fun _ _ _ h => h) (Or.inl ⟨by rfl, ?_⟩) (by assumption) ?_
  rotate_left
  · (intro w hSw; (try dsimp only at hSw); go_simp; first | done | with_reducible rfl)
  (try simp only [Act.put, List.setIfInBounds_toArray, List.set_cons_zero, List.set_cons_succ])
  refine takeH (i := 1) (v := ?_) rfl (by kernel_rfl) (by kernel_rfl) (by kernel_rfl) (fun _ _ _ h => h) (Or.inl ⟨by rfl, ?_⟩) (by assumption) ?_
  rotate_left
  · (intro w hSw; (try dsimp only at hSw); have hcx := hi0; go_simp; first | done | with_reducible rfl)
  (try simp only [Act.put, List.setIfInBounds_toArray, List.set_cons_zero, List.set_cons_succ])
  refine takeH (i := 2) (v := ?_) rfl (by kernel_rfl) (by kernel_rfl) (by kernel_rfl) (fun _ _ _ h => h) (Or.inl ⟨by rfl, ?_⟩) (by assumption) ?_
  rotate_left
  · (intro w hSw; (try dsimp only at hSw); have hcx := below_cell hSw hc0; go_simp; first | done | with_reducible rfl)
  (try simp only [Act.put, List.setIfInBounds_toArray, List.set_cons_zero, List.set_cons_succ])
  refine takeH (i := 3) (v := ?_) rfl (by kernel_rfl) (by kernel_rfl) (by kernel_rfl) (fun _ _ _ h => h) (Or.inl ⟨by rfl, ?_⟩) (by assumption) ?_
  rotate_left
  · (intro w hSw; (try dsimp only at hSw); go_simp; first | done | with_reducible rfl)
  (try simp only [Act.put, List.setIfInBounds_toArray, List.set_cons_zero, List.set_cons_succ])
  refine takeH (i := 4) (v := ?_) rfl (by kernel_rfl) (by kernel_rfl) (by kernel_rfl) (fun _ _ _ h => h) (Or.inl ⟨by rfl, ?_⟩) (by assumption) ?_
  rotate_left
  · (intro w hSw; (try dsimp only at hSw); have hcx := hi1; go_simp; first | done | with_reducible rfl)
  (try simp only [Act.put, List.setIfInBounds_toArray, List.set_cons_zero, List.set_cons_succ])
  refine takeH (i := 5) (v := ?_) rfl (by kernel_rfl) (by kernel_rfl) (by kernel_rfl) (fun _ _ _ h => h) (Or.inl ⟨by rfl, ?_⟩) (by assumption) ?_
  rotate_left
  · (intro w hSw; (try dsimp only at hSw); have hcx := below_cell hSw hc1; go_simp; first | done | with_reducible rfl)
  (try simp only [Act.put, List.setIfInBounds_toArray, List.set_cons_zero, List.set_cons_succ])
  refine takeH (i := 6) (v := ?_) rfl (by kernel_rfl) (by kernel_rfl) (by kernel_rfl) (fun _ _ _ h => h) (Or.inl ⟨by rfl, ?_⟩) (by assumption) ?_
  rotate_left
  · (intro w hSw; (try dsimp only at hSw); go_simp; first | done | with_reducible rfl)
  (try simp only [Act.put, List.setIfInBounds_toArray, List.set_cons_zero, List.set_cons_succ])
  refine takeH (i := 7) (v := ?_) rfl (by kernel_rfl) (by kernel_rfl) (by kernel_rfl) (fun _ _ _ h => h) (Or.inl ⟨by rfl, ?_⟩) (by assumption) ?_
  rotate_left
  · (intro w hSw; (try dsimp only at hSw); have hcx := hi2; go_simp; first | done | with_reducible rfl)
  (try simp only [Act.put, List.setIfInBounds_toArray, List.set_cons_zero, List.set_cons_succ])
  refine takeH (i := 8) (v := ?_) rfl (by kernel_rfl) (by kernel_rfl) (by kernel_rfl) (fun _ _ _ h => h) (Or.inl ⟨by rfl, ?_⟩) (by assumption) ?_
  rotate_left
  · (intro w hSw; (try dsimp only at hSw); have hcx := below_cell hSw hc2; go_simp; first | done | with_reducible rfl)
  (try simp only [Act.put, List.setIfInBounds_toArray, List.set_cons_zero, List.set_cons_succ])
  refine takeH (i := 9) (v := ?_) rfl (by kernel_rfl) (by kernel_rfl) (by kernel_rfl) (fun _ _ _ h => h) (Or.inl ⟨by rfl, ?_⟩) (by assumption) ?_
  rotate_left
  · (intro w hSw; (try dsimp only at hSw); go_simp; first | done | with_reducible rfl)
  (try simp only [Act.put, List.setIfInBounds_toArray, List.set_cons_zero, List.set_cons_succ])
  refine wpAnyH_ready (rs := [10]) (by kernel_rfl) (by simp) ?_
  refine stepH rfl (fun K hK => ?_) AllReadyH.nil
  go_simp
  have hfz := below_fresh wa (.cells #[.int .i64 0, .int .i64 0, .int .i64 0, .slice none 0 0] 43)
  have hOP := OU.fresh wa 0 0 0 (.slice none 0 0)
  have hb := bnext ha hfz
  have hlt : w2.heap.size ≤ wa.heap.size := ha.size
  refine hK.out _ _ (hb) (fun _ => ?_)
  clear hK K
  (try simp only [Act.put, List.setIfInBounds_toArray, List.set_cons_zero, List.set_cons_succ])
  obtain ⟨pb, hpb⟩ : ∃ pb, pb = wa.heap.size := ⟨_, rfl⟩
  rw [← hpb] at hOP hlt ⊢
  clear hpb
  generalize wa.alloc (.cells #[.int .i64 0, .int .i64 0, .int .i64 0, .slice none 0 0] 43) = wb at hOP hb ⊢
  obtain ⟨o0, o1, o2, o3, g0, g1, g2, g3⟩ := hOP.cells
  refine wpAnyH_ready (rs := [11]) (by kernel_rfl) (by simp) ?_
  refine stepH rfl (fun K hK => ?_) AllReadyH.nil
  go_simp
  have hc := hb.trans ((only4 (w := wb) (B := pb) (.int .i64 c) (.int .i64 q) (.int .i64 t) (.slice none 0 0)).below hlt hb.size)
  have hX := hOP.put4 c q t (.slice none 0 0)
  refine hK.out _ _ (hc) (fun _ => ?_)
  clear hK K
  (try simp only [Act.put, List.setIfInBounds_toArray, List.set_cons_zero, List.set_cons_succ])
  refine wpAnyH_done (by kernel_rfl) ?_ _
  have HPB := Lib.hid (show w.heap.size < pb from Nat.lt_of_lt_of_le HP2.out.lt hlt)
  have HX3 := Lib.hid hX
  have HP3 := Lib.hid (HP2.out.below hc)
  have HO3 := Lib.hid (HOH2.out.below hc)
  have HB3 := Lib.hid (bnext HB2.out hc)
  clear hX hc hb hOP hlt o0 o1 o2 o3 g0 g1 g2 g3 hi0 hi1 hi2 hc0 hc1 hc2 hc3 HP2 HOH2 HB2
  generalize (((wb.setCell ⟨pb, 0, none⟩ (.int .i64 c)).setCell ⟨pb, 1, none⟩ (.int .i64 q)).setCell ⟨pb, 2, none⟩ (.int .i64 t)).setCell ⟨pb, 3, none⟩ (.slice none 0 0) = w3 at HX3 HP3 HO3 HB3 ⊢
  go_wp2
  go_loopw [6, 9] (fun at_ i wr => ∃ (k u : Nat) (sv : Value), k ≤ C ∧ i = .int .i64 k ∧ at_ = .int .i64 (u : Int) ∧ Hid ((UM.chE xs u0 k).2 = (u, 0)) ∧ Hid (OU wr pb c q t sv) ∧ Hid (OU wr w.heap.size 0 0 0 (.slice none 0 0)) ∧ Hid (OwnEf w.heap.size wr sv (UM.chE xs u0 k).1) ∧ Hid (OwnI w.heap.size wr (.slice hda 4 hdc) [c, q, t, (C : Int)]) ∧ Hid (Below w.heap.size w wr)) (fun _ i _ => C - (intOf i).toNat)
  case atStart => exact ⟨0, u0, _, Nat.zero_le _, rfl, rfl, rfl, HX3.out, HP3.out, OwnG.nil hlEf _ _ _, HO3.out, HB3.out⟩
  case round =>
    obtain ⟨k, u, sv, hk, rfl, rfl, hst, hx, hp, ho, hh, hbl⟩ := hrel
    clear HX3 HP3 HO3 HB3
    have hc3 := atI_cell hh.out.rd 3 _ rfl hi3
    have hC4 := HC4.out
    by_cases hlt : k < C
    · have hq2 : (k : Int) < (C : Int) := by omega
      have hul : u ≤ xs.length := by
        have := UM.chE_used HBY.out HMU.out k
        rw [hst.out] at this; exact this
      obtain ⟨v2, hcut, hrd2⟩ := (HV.out.below hbl.out).cutZ u hul
      have hM := rEffect v2 _ wr hrd2
      have hDu := UM.decE_used hrd2.bytes
      have hlen := UM.chE_len (k := k) (xs := xs) (u := u0) (by rw [hst.out])
      have hcs : UM.chE xs u0 (k + 1) = if (UM.decE (xs.drop u)).2.2 ≠ 0 then ((UM.chE xs u0 k).1, u, (UM.decE (xs.drop u)).2.2) else ((UM.chE xs u0 k).1 ++ [(UM.decE (xs.drop u)).1], u + (UM.decE (xs.drop u)).2.1, 0) := by
        rw [UM.chE, hst.out, if_neg (by simp)]
      rw [List.length_drop] at hDu
      generalize UM.decE (xs.drop u) = D at hM hDu hcs
      obtain ⟨⟨k', o', f', n', s'⟩, n7, e7⟩ := D
      dsimp only [efv] at hM hDu hcs
      have HM := Lib.hid hM
      have HCS := Lib.hid hcs
      clear hM hcs hrd2 hst
      go_wp2_with fail
      refine HM.out.mono ?_
      rintro e w2 ⟨rfl, hb2⟩
      have HB5 := Lib.hid (bnext hbl.out hb2)
      have HP5 := Lib.hid (hp.out.below hb2)
      have HX5 := Lib.hid (hx.out.below hb2)
      have HO5 := Lib.hid (ho.out.below hb2)
      have HH5 := Lib.hid (hh.out.below hb2)
      clear hx hp ho hbl hh hc3 hb2 HM hcut
      have fE := below_fresh w2 (.cells #[.int .i64 k', .string o', .string f', .int .i64 n', .string s'] 62)
      have oE := OE.fresh w2 (.int .i64 k') (.string o') (.string f') (.int .i64 n') (.string s')
      obtain ⟨w4, hw4⟩ : ∃ z, w2.alloc (.cells #[.int .i64 k', .string o', .string f', .int .i64 n', .string s'] 62) = z := ⟨_, rfl⟩
      rw [hw4] at fE oE
      have HW4 := Lib.hid hw4
      have HB6 := Lib.hid (bnext HB5.out fE)
      have HP6 := Lib.hid (HP5.out.below fE)
      have HX6 := Lib.hid (HX5.out.below fE)
      have HO6 := Lib.hid (HO5.out.below fE)
      have HH6 := Lib.hid (HH5.out.below fE)
      obtain ⟨b0, b1, b2, b3, b4, _⟩ := oE.cells
      obtain ⟨o0, o1, o2, o3, g0, g1, g2, g3⟩ := HP6.out.cells
      obtain ⟨x0, x1, x2, x3, y0, y1, y2, y3⟩ := HX6.out.cells
      clear fE oE hw4 HB5 HP5 HX5 HO5 HH5
      by_cases he7 : e7 = 0
      case neg =>
        have HR2 := Lib.hid (show R = UM.badU e7 by
          have h0 := HCS.out
          rw [if_pos he7] at h0
          have h2 := UM.chE_err_le (by omega : k + 1 ≤ C) (by rw [h0]; exact he7)
          rw [HFIN.out]
          unfold UM.finU
          rw [h2, h0, if_pos he7])
        have hne' : (e7 != 0) = true := bne_t he7
        clear HCS HFIN he7 x0 x1 x2 x3 y0 y1 y2 y3
        go_upto_region 11 with fail
        rw [HW4.out]
        go_wp2
        refine rdecU_ret rfl rfl rfl (HP6.out.put4 0 0 0 (.slice none 0 0)) rfl ⟨.slice none 0 0, ?_, ?_, ?_⟩
        · rw [HR2.out]; rfl
        · rw [HR2.out]; exact OwnG.nil hlEf _ _ _
        · exact seen HB6.out (Nat.le_refl _) (only4 _ _ _ _)
      subst he7
      obtain ⟨asv, csv, rfl, hcsv, _⟩ := HO6.out.rd.shape
      rw [hlen] at HX6 HO6 x3
      have HYB := Lib.hid (show (UM.chE xs u0 k).1.length ≤ 1073741824 by omega)
      have HS := Lib.hid (show UM.chE xs u0 (k + 1) = ((UM.chE xs u0 k).1 ++ [(k', o', f', n', s')], u + n7, 0) by rw [HCS.out, if_neg (by simp)])
      have hw1 : (u : Int) + (n7 : Int) ≤ 9223372036854775807 := by have := HXL.out; omega
      have HSUM := Lib.hid (show (u : Int) + (n7 : Int) = ((u + n7 : Nat) : Int) by omega)
      have hsz := HB6.out.size
      have HLEN := Lib.hid hlen
      clear HCS hul hDu hlen o0 o1 o2 o3 g0 g1 g2 g3
      go_upto_region 11 with fail
      rw [HW4.out]
      go_wp2_with (at_builtin; refine wp_appG1 efE (k', o', f', n', s') rfl _ _ rfl rfl HO6.out rfl HYB.out hsz ?_; intro v6 w6 ho6 hb6 hk6 _; obtain ⟨av6, cv6, rfl, _, _⟩ := ho6.rd.shape; have hx6 : OU w6 pb c q t (.slice asv k csv) := OU.keep (e := 62) HX6.out (by decide) hk6; obtain ⟨x0, x1, x2, x3, y0, y1, y2, y3⟩ := hx6.cells)
      have el : ((UM.chE xs u0 k).1 ++ [(k', o', f', n', s')]).length = (UM.chE xs u0 k).1.length + 1 := by simp
      rw [el] at ho6
      have hon : Only pb w6 (w6.setCell ⟨pb, 3, none⟩ (.slice av6 ((UM.chE xs u0 k).1.length + 1) cv6)) := Only.set 3 _
      have hpb := HPB.out
      have HX7 := Lib.hid (hx6.put (.slice av6 ((UM.chE xs u0 k).1.length + 1) cv6))
      have HP7 := Lib.hid ((OU.keep (e := 62) HP6.out (by decide) hk6).only hon (by omega))
      have HO7 := Lib.hid (ownG_only ho6 hx6 (by decide) hon)
      have HH7 := Lib.hid (ownG_only (ownG_keep HH6.out hk6 (by decide)) hx6 (by decide) hon)
      have HB7 := Lib.hid (seen (HB6.out.trans hb6) (by omega) hon)
      rw [HSUM.out]
      go_roundw
      case rel => exact ⟨k + 1, u + n7, _, by omega, by go_num, rfl, by show (UM.chE xs u0 (k + 1)).2 = _; rw [HS.out], HX7, HP7, by show OwnEf _ _ _ (UM.chE xs u0 (k + 1)).1; rw [HS.out]; exact HO7.out, HH7, HB7⟩
      case measure => simp [intOf]; omega
    · have hq2 : ¬ (k : Int) < (C : Int) := by omega
      obtain rfl : k = C := by omega
      have hfin := HFIN.out
      clear HFIN
      have hp0 : UM.chE xs u0 k = ((UM.chE xs u0 k).1, (u, 0)) := by rw [← hst.out]
      rw [hp0] at hfin
      clear hp0 hst
      generalize (UM.chE xs u0 k).1 = ys at ho hfin
      obtain ⟨asv, csv, rfl, hcsv, _⟩ := ho.out.rd.shape
      obtain ⟨p0, p1, p2, p3, _⟩ := hx.out.cells
      obtain ⟨o0, o1, o2, o3, g0, g1, g2, g3⟩ := hp.out.cells
      have hv := rValU c q t (.slice asv ys.length csv) ys wr ho.out.rd
      by_cases hee : UM.errU c q t ys = 0
      · rw [hee] at hv
        have HV2 := Lib.hid hv
        have HFIN := Lib.hid (show R = (0, u, (c, q, t), ys) by rw [hfin]; unfold UM.finU; rw [if_neg (by simp), if_neg (by rw [hee]; simp)])
        clear hv hfin hee
        go_wp2_with fail
        refine HV2.out.mono ?_
        rintro e w5 ⟨rfl, hb5⟩
        have HX5 := Lib.hid (hx.out.below hb5)
        have HP5 := Lib.hid (hp.out.below hb5)
        have HO5 := Lib.hid (ho.out.below hb5)
        have HB5 := Lib.hid (bnext hbl.out hb5)
        clear hx hp ho hbl hh hc3 p0 p1 p2 p3 o0 o1 o2 o3 g0 g1 g2 g3 hb5 HV2
        obtain ⟨p0, p1, p2, p3, _⟩ := HX5.out.cells
        obtain ⟨o0, o1, o2, o3, g0, g1, g2, g3⟩ := HP5.out.cells
        go_wp2
        refine rdecU_ret rfl rfl rfl (HP5.out.put4 c q t _) rfl ⟨.slice asv ys.length csv, ?_, ?_, ?_⟩
        · rw [HFIN.out]
        · rw [HFIN.out]
          exact (ownG_only HO5.out HP5.out (by decide) (only4 _ _ _ _))
        · exact seen HB5.out (Nat.le_refl _) (only4 _ _ _ _)
      · have HV2 := Lib.hid hv
        have HFIN := Lib.hid (show R = UM.badU (UM.errU c q t ys) by rw [hfin]; unfold UM.finU; rw [if_neg (by simp), if_pos hee])
        have hne : (UM.errU c q t ys != 0) = true := bne_t hee
        generalize UM.errU c q t ys = ee at HV2 HFIN hne
        clear hv hfin hee
        go_wp2_with fail
        refine HV2.out.mono ?_
        rintro e w5 ⟨rfl, hb5⟩
        have HP5 := Lib.hid (hp.out.below hb5)
        have HB5 := Lib.hid (bnext hbl.out hb5)
        clear hx hp ho hbl hh hc3 p0 p1 p2 p3 o0 o1 o2 o3 g0 g1 g2 g3 hb5 HV2
        obtain ⟨o0, o1, o2, o3, g0, g1, g2, g3⟩ := HP5.out.cells
        go_wp2
        refine rdecU_ret rfl rfl rfl (HP5.out.put4 0 0 0 (.slice none 0 0)) rfl ⟨.slice none 0 0, ?_, ?_, ?_⟩
        · rw [HFIN.out]; rfl
        · rw [HFIN.out]; exact OwnG.nil hlEf _ _ _
        · exact seen HB5.out (Nat.le_refl _) (only4 _ _ _ _)

end Go.Proofs.YtdfablboenfblaaDoor

namespace Go.Proofs.YtdfablboenfblaaDoor
open Go.RowKit
open UM (Ef)

theorem toList_inj {a b : ByteArray} : a.toList = b.toList ↔ a = b := by
  rw [ByteArray.toList_eq, ByteArray.toList_eq]
  constructor
  · intro h
    obtain ⟨⟨x⟩⟩ := a
    obtain ⟨⟨y⟩⟩ := b
    simp at h
    rw [h]
  · rintro rfl; rfl
theorem eq_ev (k : Int) (o f : ByteArray) (n : Int) (s : ByteArray) (k' : Int) (o' f' : ByteArray) (n' : Int) (s' : ByteArray) (w : World) :
    (Op.equalIn 10000 62 (ev k o f n s) (ev k' o' f' n' s')).run Tryd.prog w = .ok (decide ((k, o, f, n, s) = (k', o', f', n', s'))) w := by
  have u3 := Tryd.underlying3
  have a3 := Tryd.isAgg3
  have z3 := Tryd.sizeOf3
  have u4 := Tryd.underlying2
  have a4 := Tryd.isAgg2
  have z4 := Tryd.sizeOf2
  have u5 := Tryd.underlying9
  have a5 := Tryd.isAgg9
  have z5 := Tryd.sizeOf9
  have hS : Tryd.prog.underlying 62 = some (.struct (Tryd.prog.fieldsOf 62)) := by kernel_rfl
  have hp : Tryd.prog.stoodInHeld 62 = false := by kernel_rfl
  rw [show (10000 : Nat) = 9999 + 1 from rfl, run_equalIn_agg w 9999 62 _ _ hS hp]
  simp only [Program.fieldsOf, Tryd.underlying62]
  go_simp
  by_cases h1 : k = k' <;> by_cases h2 : o = o' <;> by_cases h3 : f = f' <;> by_cases h4 : n = n' <;> by_cases h5 : s = s' <;> simp [h1, h2, h3, h4, h5, toList_inj]
theorem neq_ev (k : Int) (o f : ByteArray) (n : Int) (s : ByteArray) (k' : Int) (o' f' : ByteArray) (n' : Int) (s' : ByteArray) (w : World) :
    (binOp .neq 62 (ev k o f n s) (ev k' o' f' n' s')).run Tryd.prog w = .ok (.bool (!decide ((k, o, f, n, s) = (k', o', f', n', s')))) w := by
  rw [run_neq_struct]
  rw [eq_ev]; rfl

namespace UM
def eqU (c q t : Int) (es : List Ef) (d r y : Int) (fs : List Ef) : Bool := decide (c = d ∧ q = r ∧ t = y ∧ es = fs)
end UM
theorem list_drop_eq {α : Type} {xs ys : List α} {k : Nat} {x y : α} (hx : xs.drop k = x :: xs.drop (k + 1)) (hy : ys.drop k = y :: ys.drop (k + 1)) : (xs.drop k = ys.drop k) = (x = y ∧ xs.drop (k + 1) = ys.drop (k + 1)) := by
  rw [hx, hy]; exact propext List.cons_eq_cons

set_option maxRecDepth 100000 in
set_option maxHeartbeats 4000000 in
theorem rEqU (c q t : Int) (u : Value) (es : List Ef) (d r y : Int) (v : Value) (fs : List Ef) (w : World) (hu : RdEf w u es) (hv : RdEf w v fs) :
    Calls Tryd.prog 54 #[uv c q t u, uv d r y v] w fun e w' => e = .returned (.bool (UM.eqU c q t es d r y fs)) ∧ Below w.heap.size w w' := by
  obtain ⟨a1, k1, rfl, hk1, _⟩ := hu.shape
  obtain ⟨a2, k2, rfl, hk2, _⟩ := hv.shape
  obtain ⟨R, hR⟩ : ∃ R, R = UM.eqU c q t es d r y fs := ⟨_, rfl⟩
  rw [← hR]
  unfold UM.eqU at hR
  have HE := Lib.hid hu
  have HF := Lib.hid hv
  have hl1 : es.length ≤ 9223372036854775807 := by omega
  have hl2 : fs.length ≤ 9223372036854775807 := by omega
  have hx := heap_alloc_new w (.cells #[.int .i64 c, .int .i64 q, .int .i64 t, .slice a1 es.length k1] 43)
  have hb := below_fresh w (.cells #[.int .i64 c, .int .i64 q, .int .i64 t, .slice a1 es.length k1] 43)
  have hy := heap_alloc_new (w.alloc (.cells #[.int .i64 c, .int .i64 q, .int .i64 t, .slice a1 es.length k1] 43)) (.cells #[.int .i64 d, .int .i64 r, .int .i64 y, .slice a2 fs.length k2] 43)
  have hb2 := below_fresh (w.alloc (.cells #[.int .i64 c, .int .i64 q, .int .i64 t, .slice a1 es.length k1] 43)) (.cells #[.int .i64 d, .int .i64 r, .int .i64 y, .slice a2 fs.length k2] 43)
  rw [World.size_alloc] at hy
  obtain ⟨w1, hw1⟩ : ∃ z, (w.alloc (.cells #[.int .i64 c, .int .i64 q, .int .i64 t, .slice a1 es.length k1] 43)).alloc (.cells #[.int .i64 d, .int .i64 r, .int .i64 y, .slice a2 fs.length k2] 43) = z := ⟨_, rfl⟩
  rw [hw1] at hy hb2
  have HW := Lib.hid hw1
  have HB := Lib.hid (bnext hb hb2)
  have HX := Lib.hid (below_block hx hb2)
  have HY := Lib.hid hy
  obtain ⟨c0, c1, c2, c3⟩ := ubox (below_block hx hb2)
  obtain ⟨d0, d1, d2, d3⟩ := ubox hy
  clear hw1 hb hb2 hx hy hu hv
  go_enter Tryd.func54, Tryd.ntmps54
  go_upto_region 1 with fail
  rw [HW.out]
  clear HW
  by_cases h1 : c = d
  case neg =>
    have g1 : (c != d) = true := bne_t h1
    have HR := Lib.hid (show R = false by rw [hR]; exact decide_eq_false (by intro h; exact h1 h.1))
    clear hR h1 HE HF
    go_wp2
    go_ret
    exact ⟨by rw [HR.out]; rfl, HB.out⟩
  by_cases h2 : q = r
  case neg =>
    have g1 : (c != d) = false := by simp [h1]
    have g2 : (q != r) = true := bne_t h2
    have HR := Lib.hid (show R = false by rw [hR]; exact decide_eq_false (by intro h; exact h2 h.2.1))
    clear hR h1 h2 HE HF
    go_wp2
    go_ret
    exact ⟨by rw [HR.out]; rfl, HB.out⟩
  by_cases h3 : t = y
  case neg =>
    have g1 : (c != d) = false := by simp [h1]
    have g2 : (q != r) = false := by simp [h2]
    have g3 : (t != y) = true := bne_t h3
    have HR := Lib.hid (show R = false by rw [hR]; exact decide_eq_false (by intro h; exact h3 h.2.2.1))
    clear hR h1 h2 h3 HE HF
    go_wp2
    go_ret
    exact ⟨by rw [HR.out]; rfl, HB.out⟩
  have g1 : (c != d) = false := by simp [h1]
  have g2 : (q != r) = false := by simp [h2]
  have g3 : (t != y) = false := by simp [h3]
  replace hR : R = decide (es = fs) := by rw [hR]; simp [h1, h2, h3]
  clear h1 h2 h3
  by_cases h4 : es.length = fs.length
  case neg =>
    have g4 : ((es.length : Int) != (fs.length : Int)) = true := bne_t (by omega)
    have HR := Lib.hid (show R = false by rw [hR]; exact decide_eq_false (by rintro rfl; exact h4 rfl))
    clear hR h4 HE HF
    go_wp2
    go_ret
    exact ⟨by rw [HR.out]; rfl, HB.out⟩
  have g4 : ((es.length : Int) != (fs.length : Int)) = false := by simp; omega
  have HR := Lib.hid hR
  have HL := Lib.hid h4
  clear hR h4
  go_wp2
  clear g1 g2 g3 g4 c0 c1 c2 c3 d0 d1 d2 d3
  go_loopw [5] (fun i wr => ∃ k : Nat, k ≤ es.length ∧ i = .int .i64 k ∧ Hid (R = decide (es.drop k = fs.drop k)) ∧ Hid (Below w1.heap.size w1 wr)) (fun i _ => es.length - (intOf i).toNat)
  case atStart => exact ⟨0, Nat.zero_le _, rfl, HR, Lib.hid (Below.refl _ _)⟩
  case round =>
    obtain ⟨k, hk, rfl, hc, hbw⟩ := hrel
    obtain ⟨c0, c1, c2, c3⟩ := ubox (below_block HX.out hbw.out)
    by_cases hlt : k < es.length
    · have hq : (k : Int) < (es.length : Int) := by omega
      have hlt2 : k < fs.length := by have := HL.out; omega
      have hq2 : (k : Int) < (fs.length : Int) := by omega
      have hat := List.getElem?_eq_getElem hlt
      have hat2 := List.getElem?_eq_getElem hlt2
      have hdx := drop_get hlt
      have hdy := drop_get hlt2
      generalize es[k] = e at hat hdx
      generalize fs[k] = f at hat2 hdy
      have HDX := Lib.hid (show R = decide (e = f ∧ es.drop (k + 1) = fs.drop (k + 1)) by rw [hc.out]; exact decide_eq_decide.2 (by rw [list_drop_eq hdx hdy]))
      obtain ⟨k', o', f', n', s'⟩ := e
      obtain ⟨k2', o2, f2, n2, s2⟩ := f
      have HBW := Lib.hid (bnext HB.out hbw.out)
      obtain ⟨b, p, hi, hbb, e0, e1, e2, e3, e4⟩ := atEf HE.out k _ _ _ _ _ hat
      obtain ⟨bb, pp, hi2, hbb2, f0, f1, f2', f3, f4⟩ := atEf HF.out k _ _ _ _ _ hat2
      have hneq := fun w => neq_ev k' o' f' n' s' k2' o2 f2 n2 s2 w
      obtain ⟨Z, hZ⟩ : ∃ Z : Bool, Z = decide ((k', o', f', n', s') = (k2', o2, f2, n2, s2)) := ⟨_, rfl⟩
      rw [← hZ] at hneq
      have hgm : Tryd.prog.eqGuardType Tryd.prog.depth 62 = false := by kernel_rfl
      have l0 : ∀ p' : Later wr, p'.val.cell? ⟨b, p, none⟩ = some (.int .i64 k') := fun p' => below_cell (bnext HBW.out p'.h) e0
      have l1 : ∀ p' : Later wr, p'.val.cell? ⟨b, p + 1, none⟩ = some (.string o') := fun p' => below_cell (bnext HBW.out p'.h) e1
      have l2 : ∀ p' : Later wr, p'.val.cell? ⟨b, p + 2, none⟩ = some (.string f') := fun p' => below_cell (bnext HBW.out p'.h) e2
      have l3 : ∀ p' : Later wr, p'.val.cell? ⟨b, p + 3, none⟩ = some (.int .i64 n') := fun p' => below_cell (bnext HBW.out p'.h) e3
      have l4 : ∀ p' : Later wr, p'.val.cell? ⟨b, p + 4, none⟩ = some (.string s') := fun p' => below_cell (bnext HBW.out p'.h) e4
      have r0 : ∀ p' : Later wr, p'.val.cell? ⟨bb, pp, none⟩ = some (.int .i64 k2') := fun p' => below_cell (bnext HBW.out p'.h) f0
      have r1 : ∀ p' : Later wr, p'.val.cell? ⟨bb, pp + 1, none⟩ = some (.string o2) := fun p' => below_cell (bnext HBW.out p'.h) f1
      have r2 : ∀ p' : Later wr, p'.val.cell? ⟨bb, pp + 2, none⟩ = some (.string f2) := fun p' => below_cell (bnext HBW.out p'.h) f2'
      have r3 : ∀ p' : Later wr, p'.val.cell? ⟨bb, pp + 3, none⟩ = some (.int .i64 n2) := fun p' => below_cell (bnext HBW.out p'.h) f3
      have r4 : ∀ p' : Later wr, p'.val.cell? ⟨bb, pp + 4, none⟩ = some (.string s2) := fun p' => below_cell (bnext HBW.out p'.h) f4
      have m3 : ∀ p' : Later wr, p'.val.cell? ⟨w.heap.size, 3, none⟩ = some (.slice a1 es.length k1) := fun p' => (ubox (below_block HX.out (bnext hbw.out p'.h))).2.2.2
      have m7 : ∀ p' : Later wr, p'.val.cell? ⟨w.heap.size + 1, 3, none⟩ = some (.slice a2 fs.length k2) := fun p' => (ubox (below_block HY.out (bnext hbw.out p'.h))).2.2.2
      clear hat hat2 hdx hdy hc e0 e1 e2 e3 e4 f0 f1 f2' f3 f4 hbb hbb2
      go_wp2
      refine wp_region_later (by kernel_rfl) (by kernel_rfl) ?_
      repeat (go_big_quiet_step (fail))
      refine wpQuiet_nil ?_
      rintro _ ⟨p', rfl⟩
      have hbx := Lib.hid (bnext hbw.out p'.h)
      have HZ := Lib.hid hZ
      clear l0 l1 l2 l3 l4 r0 r1 r2 r3 r4 m3 m7 HBW hZ hneq c0 c1 c2 c3
      generalize p'.val = wr2 at hbx ⊢
      clear hbw
      by_cases he : (k', o', f', n', s') = (k2', o2, f2, n2, s2)
      · have HR1 := Lib.hid (show R = decide (es.drop (k + 1) = fs.drop (k + 1)) by rw [HDX.out]; exact decide_eq_decide.2 ⟨fun h => h.2, fun h => ⟨he, h⟩⟩)
        clear HDX HZ
        simp only [Prod.mk.injEq] at he
        obtain ⟨rfl, rfl, rfl, rfl, rfl⟩ := he
        go_wp2
        go_roundw
        case rel => exact ⟨k + 1, by omega, by go_num, HR1, hbx⟩
        case measure => simp [intOf]; omega
      · have HR1 := Lib.hid (show R = false by rw [HDX.out]; exact decide_eq_false (by intro h; exact he h.1))
        clear HDX HZ
        simp only [Prod.mk.injEq] at he
        have HHe := Lib.hid he
        clear he
        go_wp2
        all_goals first | (exfalso; rename_i hh; simp at hh; exact HHe.out hh) | skip
        go_ret
        exact ⟨by rw [HR1.out]; rfl, bnext HB.out hbx.out⟩
    have hq : ¬ ((k : Int) < (es.length : Int)) := by omega
    have HR1 := Lib.hid (show R = true by rw [hc.out, List.drop_of_length_le (by omega), List.drop_of_length_le (by have := HL.out; omega)]; rfl)
    go_wp2
    go_ret
    exact ⟨by rw [HR1.out]; rfl, bnext HB.out hbw.out⟩

end Go.Proofs.YtdfablboenfblaaDoor

namespace Go.Proofs.YtdfablboenfblaaDoor
open Go.RowKit
open WM (enc dec zig zag Bytes)

namespace UM
theorem decS_rt (s : ByteArray) (xs : List Int) (hs : s.size < 18446744073709551616) : decS (encS s ++ xs) = (nums s, ((encS s).length : Int), 0) := by
  have hd := WM.dec_enc0 s.size (nums s ++ xs) hs
  rw [← List.append_assoc] at hd
  have hnl := nums_length s
  show decS (enc s.size ++ nums s ++ xs) = _
  rw [decS_ok hd (by simp only [List.length_append]; omega)]
  unfold encS
  rw [List.append_assoc, List.drop_left, List.take_append_of_le_length (by omega), List.take_of_length_le (by omega), List.length_append, hnl]
theorem decE5_enc (k : Int) (o f : ByteArray) (n : Int) (s : ByteArray) (pre tail : List Int) (hs : s.size < 18446744073709551616) :
    decE5 k o f n (pre ++ (encS s ++ tail)) pre.length = ((k, o, f, n, s), (pre ++ encS s).length, 0) := by
  unfold decE5
  rw [List.drop_left, decS_rt s tail hs, if_neg (by simp), strOfNums_nums, List.length_append]
  rfl
theorem decE4_enc (k : Int) (o f : ByteArray) (n : Int) (s : ByteArray) (pre tail : List Int) (hs : s.size < 18446744073709551616) (h1 : -9223372036854775808 ≤ n) (h2 : n ≤ 9223372036854775807) :
    decE4 k o f (pre ++ (enc (zig n) ++ (encS s ++ tail))) pre.length = ((k, o, f, n, s), (pre ++ (enc (zig n) ++ encS s)).length, 0) := by
  unfold decE4
  rw [List.drop_left, WM.dec_enc0 _ _ (WM.zig_lt n h1 h2), if_neg (by simp), WM.zag_zig]
  have := decE5_enc k o f n s (pre ++ enc (zig n)) tail hs
  rw [List.append_assoc, List.length_append, List.append_assoc] at this
  exact this
theorem decE3_enc (k : Int) (o f : ByteArray) (n : Int) (s : ByteArray) (pre tail : List Int) (hf : f.size < 18446744073709551616) (hs : s.size < 18446744073709551616) (h1 : -9223372036854775808 ≤ n) (h2 : n ≤ 9223372036854775807) :
    decE3 k o (pre ++ (encS f ++ (enc (zig n) ++ (encS s ++ tail)))) pre.length = ((k, o, f, n, s), (pre ++ (encS f ++ (enc (zig n) ++ encS s))).length, 0) := by
  unfold decE3
  rw [List.drop_left, decS_rt f _ hf, if_neg (by simp), strOfNums_nums]
  have := decE4_enc k o f n s (pre ++ encS f) tail hs h1 h2
  rw [List.append_assoc, List.length_append, List.append_assoc] at this
  exact this
theorem decE2_enc (k : Int) (o f : ByteArray) (n : Int) (s : ByteArray) (pre tail : List Int) (ho : o.size < 18446744073709551616) (hf : f.size < 18446744073709551616) (hs : s.size < 18446744073709551616) (h1 : -9223372036854775808 ≤ n) (h2 : n ≤ 9223372036854775807) :
    decE2 k (pre ++ (encS o ++ (encS f ++ (enc (zig n) ++ (encS s ++ tail))))) pre.length = ((k, o, f, n, s), (pre ++ (encS o ++ (encS f ++ (enc (zig n) ++ encS s)))).length, 0) := by
  unfold decE2
  rw [List.drop_left, decS_rt o _ ho, if_neg (by simp), strOfNums_nums]
  have := decE3_enc k o f n s (pre ++ encS o) tail hf hs h1 h2
  rw [List.append_assoc, List.length_append, List.append_assoc] at this
  exact this
theorem encE_flat (k : Int) (o f : ByteArray) (n : Int) (s : ByteArray) : encE (k, o, f, n, s) = enc k.toNat ++ (encS o ++ (encS f ++ (enc (zig n) ++ encS s))) := by
  show JM.encN [k] ++ (encS o ++ encS f) ++ (enc (zig n) ++ encS s) = _
  rw [JM.encN_cons]
  simp only [JM.encN, List.flatMap_nil, List.append_nil, List.append_assoc]
theorem decE_enc {x : Ef} (h : errE x = 0) (hr : in64 x) (tail : List Int) : decE (encE x ++ tail) = (x, (encE x).length, 0) := by
  obtain ⟨k, o, f, n, s⟩ := x
  obtain ⟨g1, g2, g3, g4, g5⟩ := errE_ok h
  obtain ⟨m, rfl⟩ : ∃ m : Nat, k = (m : Int) := ⟨k.toNat, by omega⟩
  rw [encE_flat, Int.toNat_natCast]
  unfold decE
  rw [List.append_assoc, JM.num_enc m _ (by omega), if_neg (by simp)]
  have := decE2_enc (m : Int) o f n s (enc m) tail (by omega) (by omega) (by omega) hr.1 hr.2
  simp only [List.append_assoc] at this ⊢
  exact this
theorem encEs_cons (x : Ef) (r : List Ef) : encEs (x :: r) = encE x ++ encEs r := List.flatMap_cons
theorem encEs_append (l m : List Ef) : encEs (l ++ m) = encEs l ++ encEs m := List.flatMap_append
theorem chE_enc {es : List Ef} (h : ∀ e ∈ es, errE e = 0) (hr : ∀ e ∈ es, in64 e) (pre tail : List Int) : ∀ k, k ≤ es.length → chE (pre ++ (encEs es ++ tail)) pre.length k = (es.take k, (pre ++ encEs (es.take k)).length, 0) := by
  intro k
  induction k with
  | zero => intro _; simp [chE, encEs]
  | succ k ih =>
    intro hk
    have hx := List.getElem?_eq_getElem (show k < es.length by omega)
    have hm := List.getElem_mem (show k < es.length by omega)
    generalize es[k] = x at hx hm
    have hsp : es = es.take k ++ (x :: es.drop (k + 1)) := by
      have h1 := List.take_append_drop k es
      rw [List.drop_eq_getElem_cons (show k < es.length by omega)] at h1
      rw [List.getElem?_eq_getElem (by omega)] at hx
      injection hx with hx
      rw [hx] at h1
      exact h1.symm
    have hd : (pre ++ (encEs es ++ tail)).drop (pre ++ encEs (es.take k)).length = encE x ++ (encEs (es.drop (k + 1)) ++ tail) := by
      have h2 : pre ++ (encEs es ++ tail) = (pre ++ encEs (es.take k)) ++ (encE x ++ (encEs (es.drop (k + 1)) ++ tail)) := by
        conv => lhs; rw [hsp]
        rw [encEs_append, encEs_cons]
        simp only [List.append_assoc]
      rw [h2, List.drop_left]
    rw [chE, ih (by omega), if_neg (by simp)]
    dsimp only
    rw [hd, decE_enc (h x hm) (hr x hm), if_neg (by simp), encEs_snoc hx]
    have ht : es.take (k + 1) = es.take k ++ [x] := by
      rw [← List.take_append_getElem (show k < es.length by omega)]
      rw [List.getElem?_eq_getElem (by omega)] at hx
      injection hx with hx
      rw [hx]
    rw [ht]
    simp only [List.length_append, Nat.add_assoc]
theorem hsmall {c q t : Int} {es : List Ef} (h : errU c q t es = 0) : ∀ x ∈ [c, q, t, (es.length : Int)], JM.small x := by
  obtain ⟨e1, e2, e3, e4, e5, e6, e7, e8⟩ := errU_ok h
  have e1' := isCl_ok e1
  intro x hx
  simp only [List.mem_cons, List.not_mem_nil, or_false] at hx
  unfold JM.small
  rcases hx with rfl | rfl | rfl | rfl <;> omega
/-- What was encoded is read again, whatever follows. -/
theorem decU_enc {c q t : Int} {es : List Ef} (h : errU c q t es = 0) (hr : ∀ e ∈ es, in64 e) (tail : List Int) : decU (encU c q t es ++ tail) = (0, (encU c q t es).length, (c, q, t), es) := by
  obtain ⟨e1, e2, e3, e4, e5, e6, e7, e8⟩ := errU_ok h
  have hm := JM.many_enc [c, q, t, (es.length : Int)] [] (encEs es ++ tail) (hsmall h)
  rw [List.nil_append, List.nil_append] at hm
  simp only [List.length_cons, List.length_nil, Nat.zero_add, Nat.reduceAdd] at hm
  have hc := chE_enc e8 hr (JM.encN [c, q, t, (es.length : Int)]) tail es.length (Nat.le_refl _)
  rw [List.take_length] at hc
  unfold decU encU
  rw [List.append_assoc, hm]
  rw [if_neg (by simp), if_neg (by show ¬ 4 < (es.length : Int); omega)]
  show finU c q t (chE _ _ (es.length : Int).toNat) = _
  rw [Int.toNat_natCast, hc]
  unfold finU
  rw [if_neg (by simp), if_neg (by simp [h])]
theorem encU_len {c q t : Int} {es : List Ef} (h : errU c q t es = 0) (hr : ∀ e ∈ es, in64 e) : (encU c q t es).length ≤ 840 := by
  obtain ⟨e1, e2, e3, e4, e5, e6, e7, e8⟩ := errU_ok h
  have h1 := JM.encN_len _ (hsmall h)
  have h2 := encEs_len es e8 hr
  simp only [List.length_cons, List.length_nil] at h1
  unfold encU
  rw [List.length_append]
  omega
theorem decU_used {xs : List Int} (hb : Bytes xs) : (decU xs).2.1 ≤ xs.length := by
  unfold decU
  split
  · exact Nat.zero_le _
  split
  · exact Nat.zero_le _
  unfold finU
  split
  · exact Nat.zero_le _
  split
  · exact Nat.zero_le _
  exact chE_used hb (JM.many_small xs (0, 0) hb (Nat.zero_le _) 4).2 _

/-! The orders. -/
theorem cmpU_zero {c q d r : Int} : cmpU c q d r = 0 ↔ c = d ∧ q = r := by unfold cmpU; (repeat' split) <;> omega
end UM

end Go.Proofs.YtdfablboenfblaaDoor
