/-
  Reading an update (P11.4): the plain mathematics; the call of the reference's DecodeUpdate. Conditions: the slice reads as bytes.
-/
import Derived.Test.YtcalnapdpnnljaaDoorURef1
import Derived.Test.YtcalnapdpnnljaaDoorURef4
namespace Go.Proofs.YtcalnapdpnnljaaDoor
open Go.RowKit
open UM (Ef)
open WM (enc dec zig zag Bytes)

theorem atI_cell {w : World} {a : Option Addr} {n c : Nat} {xs : List Int} {b o : Nat} (h : RdI w (.slice a n c) xs) (k : Nat) (x : Int) (hk : xs[k]? = some x)
    (hi : ∀ w0, (Instr.indexAt 42 (.slice a n c) (.int .i64 (k : Int))).run Tryd.prog w0 = .ok (.pointer (some ⟨b, o, none⟩)) w0) : w.cell? ⟨b, o, none⟩ = some (.int .i64 x) := by
  obtain ⟨b', o', hi', _, hc⟩ := atI h k x hk
  have h1 := hi w
  rw [hi' w] at h1
  injection h1 with h1 _
  injection h1 with h1
  injection h1 with h1
  injection h1 with h1 h2 _
  subst h1 h2
  exact hc

namespace UM
theorem bdrop {xs : List Int} (hb : Bytes xs) (u : Nat) : Bytes (xs.drop u) := fun x hx => hb x (List.mem_of_mem_drop hx)
theorem decE5_used {k : Int} {o f : ByteArray} {n : Int} {xs : List Int} {u : Nat} (hb : Bytes xs) (hu : u ≤ xs.length) : (decE5 k o f n xs u).2.1 ≤ xs.length := by
  unfold decE5
  rcases decS_two (bdrop hb u) with ⟨e1, he1, hd⟩ | ⟨l, n, hd, hl⟩
  · rw [hd, if_pos (show ¬ e1 = 0 by omega)]; exact Nat.zero_le _
  · rw [hd, if_neg (by simp)]
    rw [List.length_drop] at hl
    show u + (n : Int).toNat ≤ _
    omega
theorem decE4_used {k : Int} {o f : ByteArray} {xs : List Int} {u : Nat} (hb : Bytes xs) (hu : u ≤ xs.length) : (decE4 k o f xs u).2.1 ≤ xs.length := by
  unfold decE4
  rcases WM.dec_two _ (bdrop hb u) with ⟨e1, he1, hd⟩ | ⟨m4, hm4, hd, hl, _⟩
  · rw [hd, if_pos (show ¬ e1 = 0 by omega)]; exact Nat.zero_le _
  · rw [hd, if_neg (by simp)]
    rw [List.length_drop] at hl
    exact decE5_used hb (by show u + ((enc m4).length : Int).toNat ≤ _; omega)
theorem decE3_used {k : Int} {o : ByteArray} {xs : List Int} {u : Nat} (hb : Bytes xs) (hu : u ≤ xs.length) : (decE3 k o xs u).2.1 ≤ xs.length := by
  unfold decE3
  rcases decS_two (bdrop hb u) with ⟨e1, he1, hd⟩ | ⟨l, n, hd, hl⟩
  · rw [hd, if_pos (show ¬ e1 = 0 by omega)]; exact Nat.zero_le _
  · rw [hd, if_neg (by simp)]
    rw [List.length_drop] at hl
    exact decE4_used hb (by show u + (n : Int).toNat ≤ _; omega)
theorem decE2_used {k : Int} {xs : List Int} {u : Nat} (hb : Bytes xs) (hu : u ≤ xs.length) : (decE2 k xs u).2.1 ≤ xs.length := by
  unfold decE2
  rcases decS_two (bdrop hb u) with ⟨e1, he1, hd⟩ | ⟨l, n, hd, hl⟩
  · rw [hd, if_pos (show ¬ e1 = 0 by omega)]; exact Nat.zero_le _
  · rw [hd, if_neg (by simp)]
    rw [List.length_drop] at hl
    exact decE3_used hb (by show u + (n : Int).toNat ≤ _; omega)
theorem decE_used {xs : List Int} (hb : Bytes xs) : (decE xs).2.1 ≤ xs.length := by
  unfold decE
  rcases JM.num_two xs hb with ⟨e1, he1, hd⟩ | ⟨m, hm, hd, hml⟩
  · rw [hd, if_pos (show ¬ e1 = 0 by omega)]; exact Nat.zero_le _
  · rw [hd, if_neg (by simp)]
    exact decE2_used hb hml
/-- k effects read one after the other: the effects, the bytes read, the first error. -/
def chE (xs : List Int) (u : Nat) : Nat → List Ef × Nat × Int
  | 0 => ([], u, 0)
  | k + 1 => if (chE xs u k).2.2 ≠ 0 then chE xs u k
    else if (decE (xs.drop (chE xs u k).2.1)).2.2 ≠ 0 then ((chE xs u k).1, (chE xs u k).2.1, (decE (xs.drop (chE xs u k).2.1)).2.2)
    else ((chE xs u k).1 ++ [(decE (xs.drop (chE xs u k).2.1)).1], (chE xs u k).2.1 + (decE (xs.drop (chE xs u k).2.1)).2.1, 0)
theorem chE_err_le {xs : List Int} {u k n : Nat} (h : k ≤ n) (he : (chE xs u k).2.2 ≠ 0) : chE xs u n = chE xs u k := by
  induction n with
  | zero => obtain rfl : k = 0 := by omega
            rfl
  | succ n ih =>
    by_cases hk : k = n + 1
    · rw [hk]
    · have h1 := ih (by omega)
      rw [chE, if_pos (by rw [h1]; exact he), h1]
theorem chE_used {xs : List Int} {u : Nat} (hb : Bytes xs) (hu : u ≤ xs.length) (k : Nat) : (chE xs u k).2.1 ≤ xs.length := by
  induction k with
  | zero => exact hu
  | succ k ih =>
    rw [chE]
    split
    · exact ih
    split
    · exact ih
    · have := decE_used (bdrop hb (chE xs u k).2.1)
      rw [List.length_drop] at this
      dsimp only
      omega
theorem chE_len {xs : List Int} {u k : Nat} (h : (chE xs u k).2.2 = 0) : (chE xs u k).1.length = k := by
  induction k with
  | zero => rfl
  | succ k ih =>
    rw [chE] at h ⊢
    split at h
    · rename_i h1; exact absurd h h1
    rename_i h1
    rw [if_neg h1]
    split at h
    · rename_i h2; exact absurd h h2
    rename_i h2
    rw [if_neg h2]
    have := ih (Classical.byContradiction h1)
    simp [this]
abbrev Du := Int × Nat × (Int × Int × Int) × List Ef
def badU (e : Int) : Du := (e, 0, (0, 0, 0), [])
def finU (c q t : Int) (p : List Ef × Nat × Int) : Du :=
  if p.2.2 ≠ 0 then badU p.2.2 else if errU c q t p.1 ≠ 0 then badU (errU c q t p.1) else (0, p.2.1, (c, q, t), p.1)
/-- Reading an update: the error, the bytes read, the update. -/
def decU (xs : List Int) : Du :=
  if (JM.many xs (0, 0) 4).2.2 ≠ 0 then badU (JM.many xs (0, 0) 4).2.2
  else if 4 < (JM.many xs (0, 0) 4).1.getD 3 0 then badU 3
  else finU ((JM.many xs (0, 0) 4).1.getD 0 0) ((JM.many xs (0, 0) 4).1.getD 1 0) ((JM.many xs (0, 0) 4).1.getD 2 0) (chE xs (JM.many xs (0, 0) 4).2.1 ((JM.many xs (0, 0) 4).1.getD 3 0).toNat)
end UM
theorem list4 {l : List Int} (h : l.length = 4) : ∃ a b c d, l = [a, b, c, d] := by
  match l, h with
  | [a, b, c, d], _ => exact ⟨a, b, c, d, rfl⟩

/-- Block B is an update. -/
def OU (w : World) (B : Nat) (c q t : Int) (s : Value) : Prop := w.heap[B]? = some (.cells #[.int .i64 c, .int .i64 q, .int .i64 t, s] 30 (0, 0))
theorem OU.cells {w : World} {B : Nat} {c q t : Int} {s : Value} (h : OU w B c q t s) : w.cell? ⟨B, 0, none⟩ = some (.int .i64 c) ∧ w.cell? ⟨B, 1, none⟩ = some (.int .i64 q) ∧ w.cell? ⟨B, 2, none⟩ = some (.int .i64 t) ∧ w.cell? ⟨B, 3, none⟩ = some s ∧
    w.frozen? ⟨B, 0, none⟩ = false ∧ w.frozen? ⟨B, 1, none⟩ = false ∧ w.frozen? ⟨B, 2, none⟩ = false ∧ w.frozen? ⟨B, 3, none⟩ = false := by
  unfold OU at h
  refine ⟨?_, ?_, ?_, ?_, ?_, ?_, ?_, ?_⟩ <;> simp [World.cell?, World.frozen?, h]
theorem OU.lt {w : World} {B : Nat} {c q t : Int} {s : Value} (h : OU w B c q t s) : B < w.heap.size := (Array.getElem?_eq_some_iff.1 h).1
theorem OU.below {w w' : World} {B : Nat} {c q t : Int} {s : Value} (h : OU w B c q t s) (hb : Below w.heap.size w w') : OU w' B c q t s := below_block h hb
theorem OU.keep {w w' : World} {e : TypeId} {B : Nat} {c q t : Int} {s : Value} (h : OU w B c q t s) (he : 30 ≠ e) (hk : KeepsX e w w') : OU w' B c q t s := hk.at h he
theorem OU.only {w w' : World} {g B : Nat} {c q t : Int} {s : Value} (h : OU w B c q t s) (ho : Only g w w') (hne : B ≠ g) : OU w' B c q t s := ho.at h hne
theorem OU.fresh (w : World) (c q t : Int) (s : Value) : OU (w.alloc (.cells #[.int .i64 c, .int .i64 q, .int .i64 t, s] 30)) w.heap.size c q t s := heap_alloc_new w _
theorem OU.put {w : World} {B : Nat} {c q t : Int} {s : Value} (h : OU w B c q t s) (u : Value) : OU (w.setCell ⟨B, 3, none⟩ u) B c q t u := heap_setCell_same w B 3 _ _ u h
theorem OU.put4 {w : World} {B : Nat} {c q t : Int} {s : Value} (h : OU w B c q t s) (c' q' t' : Int) (u : Value) :
    OU ((((w.setCell ⟨B, 0, none⟩ (.int .i64 c')).setCell ⟨B, 1, none⟩ (.int .i64 q')).setCell ⟨B, 2, none⟩ (.int .i64 t')).setCell ⟨B, 3, none⟩ u) B c' q' t' u := by
  have h1 : (w.setCell ⟨B, 0, none⟩ (.int .i64 c')).heap[B]? = some (.cells #[.int .i64 c', .int .i64 q, .int .i64 t, s] 30 (0, 0)) := heap_setCell_same w B 0 _ _ _ h
  have h2 : ((w.setCell ⟨B, 0, none⟩ (.int .i64 c')).setCell ⟨B, 1, none⟩ (.int .i64 q')).heap[B]? = some (.cells #[.int .i64 c', .int .i64 q', .int .i64 t, s] 30 (0, 0)) := heap_setCell_same _ B 1 _ _ _ h1
  have h3 : (((w.setCell ⟨B, 0, none⟩ (.int .i64 c')).setCell ⟨B, 1, none⟩ (.int .i64 q')).setCell ⟨B, 2, none⟩ (.int .i64 t')).heap[B]? = some (.cells #[.int .i64 c', .int .i64 q', .int .i64 t', s] 30 (0, 0)) := heap_setCell_same _ B 2 _ _ _ h2
  exact heap_setCell_same _ B 3 _ _ _ h3
theorem only4 {w : World} {B : Nat} (a b c d : Value) : Only B w ((((w.setCell ⟨B, 0, none⟩ a).setCell ⟨B, 1, none⟩ b).setCell ⟨B, 2, none⟩ c).setCell ⟨B, 3, none⟩ d) :=
  (((Only.set 0 a).trans (Only.set 1 b)).trans (Only.set 2 c)).trans (Only.set 3 d)
theorem rdecU_ret {R : Ending → World → Prop} {a : Act} {w : World} {g : Nat} {c q t : Int} {s : Value} {u er : Int} (hp : a.tmps.getD 2 undef = .pointer (some ⟨g, 0, none⟩)) (h3 : a.tmps.getD 3 undef = .int .i64 u) (h4 : a.tmps.getD 4 undef = .int .i64 er) (hg : OU w g c q t s)
    (hd : a.defers = []) (hR : R (.returned (.tuple #[uv c q t s, .int .i64 u, .int .i64 er])) w) : bodyPost Tryd.prog Tryd.f27 R .ret a w := by
  have := results_cell_tmp_tmp (P := Tryd.prog) (fn := Tryd.f27) rfl a.tmps w g 30 _ _ _ hp hg Tryd.underlying30 rfl (by kernel_rfl)
  rw [h3, h4] at this
  exact bodyPost_ret this hd hR

set_option maxRecDepth 100000 in
set_option maxHeartbeats 4000000 in
theorem rDecodeUO (v : Value) (xs : List Int) (w : World) (h : Rd w v xs) :
    Calls Tryd.prog 27 #[v] w fun e w' => ∃ sv, e = .returned (.tuple #[uv (UM.decU xs).2.2.1.1 (UM.decU xs).2.2.1.2.1 (UM.decU xs).2.2.1.2.2 sv, .int .i64 ((UM.decU xs).2.1 : Int), .int .i64 (UM.decU xs).1]) ∧ OwnEf w.heap.size w' sv (UM.decU xs).2.2.2 ∧ Below w.heap.size w w' := by
  have hby := h.bytes
  have hxl := h.len64
  obtain ⟨R, hR⟩ : ∃ R, R = UM.decU xs := ⟨_, rfl⟩
  rw [← hR]
  unfold UM.decU at hR
  have b0 := below_fresh w (.cells #[.int .i64 0, .int .i64 0, .int .i64 0, .slice none 0 0] 30)
  have hP0 := OU.fresh w 0 0 0 (.slice none 0 0)
  obtain ⟨w0, hw0⟩ : ∃ w0, w.alloc (.cells #[.int .i64 0, .int .i64 0, .int .i64 0, .slice none 0 0] 30) = w0 := ⟨_, rfl⟩
  rw [hw0] at b0 hP0
  have hrd := rRead v xs 4 w0 (h.below b0) (by decide)
  have hml := JM.many_length xs (0, 0) 4
  obtain ⟨hms, hmu⟩ := JM.many_small xs (0, 0) hby (Nat.zero_le _) 4
  generalize JM.many xs (0, 0) 4 = M at hR hrd hml hms hmu
  obtain ⟨l4, u0, e0⟩ := M
  dsimp only at hR hrd hml hms hmu
  obtain ⟨c, q, t, x4, rfl⟩ := list4 hml
  obtain ⟨C, rfl⟩ : ∃ C : Nat, x4 = (C : Int) := by have := hms x4 (by simp); unfold JM.small at this; exact ⟨x4.toNat, by omega⟩
  have HRD : Hid (Calls Tryd.prog 48 #[v, .int .i64 4] w0 _) := hrd
  have HW0 := Lib.hid hw0
  have HB0 := Lib.hid b0
  have HP0 := Lib.hid hP0
  have HV := Lib.hid h
  have HR0 := Lib.hid hR
  have HBY := Lib.hid hby
  have HXL := Lib.hid hxl
  have HMU := Lib.hid hmu
  obtain ⟨av, nv, cv', rfl⟩ : ∃ a n c, v = .slice a n c := by obtain ⟨a, c, hv, _⟩ := h.shape; exact ⟨_, _, _, hv⟩
  clear h hby hxl hR b0 hP0 hw0 hrd hml hms hmu
  go_enter Tryd.func27, Tryd.ntmps27
  go_wp2_with fail
  rw [HW0.out]
  refine HRD.out.mono ?_
  rintro e w2 (⟨hne, rfl, hb2⟩ | ⟨rfl, hv, rfl, hoh, hb2⟩)
  · have HB2 := Lib.hid (bnext HB0.out hb2)
    have HP2 := Lib.hid (HP0.out.below hb2)
    have HFIN := Lib.hid (show R = UM.badU e0 by rw [HR0.out, if_pos hne])
    have hne' : (e0 != 0) = true := bne_t hne
    obtain ⟨o0, o1, o2, o3, g0, g1, g2, g3⟩ := HP2.out.cells
    clear hb2 hne HR0 HRD HW0 HB0 HP0
    go_wp2
    refine rdecU_ret rfl rfl rfl (HP2.out.put4 0 0 0 (.slice none 0 0)) rfl ⟨.slice none 0 0, ?_, ?_, ?_⟩
    · rw [HFIN.out]; rfl
    · rw [HFIN.out]; exact OwnG.nil hlEf _ _ _
    · exact seen HB2.out (Nat.le_refl _) (only4 _ _ _ _)
  have HB2 := Lib.hid (bnext HB0.out hb2)
  have HP2 := Lib.hid (HP0.out.below hb2)
  have HOH2 := Lib.hid (hoh.mono HB0.out.size)
  obtain ⟨hda, hdc, rfl⟩ : ∃ a c, hv = .slice a 4 c := by obtain ⟨a, c, h, _⟩ := hoh.rd.shape; exact ⟨a, c, h⟩
  obtain ⟨bx3, ox3, hi3, _, hc3⟩ := atI HOH2.out.rd 3 _ rfl
  have hi3 : ∀ w0, (Instr.indexAt 42 (.slice hda 4 hdc) (.int .i64 3)).run Tryd.prog w0 = .ok (.pointer (some ⟨bx3, ox3, none⟩)) w0 := hi3
  by_cases hC4 : 4 < (C : Int)
  · have HFIN := Lib.hid (show R = UM.badU 3 by rw [HR0.out, if_neg (by simp), if_pos (by exact hC4)])
    obtain ⟨o0, o1, o2, o3, g0, g1, g2, g3⟩ := HP2.out.cells
    clear hb2 HR0 HRD HW0 HB0 HP0 hoh HOH2
    go_wp2
    refine rdecU_ret rfl rfl rfl (HP2.out.put4 0 0 0 (.slice none 0 0)) rfl ⟨.slice none 0 0, ?_, ?_, ?_⟩
    · rw [HFIN.out]; rfl
    · rw [HFIN.out]; exact OwnG.nil hlEf _ _ _
    · exact seen HB2.out (Nat.le_refl _) (only4 _ _ _ _)
  have HFIN := Lib.hid (show R = UM.finU c q t (UM.chE xs u0 C) by rw [HR0.out, if_neg (by simp), if_neg (by exact hC4)]; rfl)
  have hC4' : decide (4 < (C : Int)) = false := decide_eq_false hC4
  have HC4 := Lib.hid (show C ≤ 4 by omega)
  obtain ⟨bx0, ox0, hi0, _, hc0⟩ := atI HOH2.out.rd 0 _ rfl
  have hi0 : ∀ w0, (Instr.indexAt 42 (.slice hda 4 hdc) (.int .i64 0)).run Tryd.prog w0 = .ok (.pointer (some ⟨bx0, ox0, none⟩)) w0 := hi0
  obtain ⟨bx1, ox1, hi1, _, hc1⟩ := atI HOH2.out.rd 1 _ rfl
  have hi1 : ∀ w0, (Instr.indexAt 42 (.slice hda 4 hdc) (.int .i64 1)).run Tryd.prog w0 = .ok (.pointer (some ⟨bx1, ox1, none⟩)) w0 := hi1
  obtain ⟨bx2, ox2, hi2, _, hc2⟩ := atI HOH2.out.rd 2 _ rfl
  have hi2 : ∀ w0, (Instr.indexAt 42 (.slice hda 4 hdc) (.int .i64 2)).run Tryd.prog w0 = .ok (.pointer (some ⟨bx2, ox2, none⟩)) w0 := hi2
  clear hb2 HR0 HRD HW0 HB0 HP0 hoh hC4
  go_wp2
  refine wp_region_held_drew (S := fun w' => Below w2.heap.size w2 w') (by kernel_rfl) ((Below.refl _ _).drew) (fun ha => ?_)
  replace ha : Below w2.heap.size w2 w2.drew := (Below.refl _ _).drew
  generalize w2.drew = wa at ha ⊢
  refine takeH (i := 0) (v := ?_) rfl (by kernel_rfl) (by kernel_rfl) (by kernel_rfl) (fun _ _ _ h => h) (Or.inl ⟨by rfl, ?_⟩) (by assumption) ?_
  rotate_left
  · (intro w hSw; (try dsimp only at hSw); go_simp; first | done | with_reducible rfl)
  (try simp only [Act.put, List.setIfInBounds_toArray, List.set_cons_zero, List.set_cons_succ])
  refine takeH (i := 1) (v := ?_) rfl (by kernel_rfl) (by kernel_rfl) (by kernel_rfl) (fun _ _ _ h => h) (Or.inl ⟨by rfl, ?_⟩) (by assumption) ?_
  rotate_left
  · (intro w hSw; (try dsimp only at hSw); have hcx := hi0; go_simp; first | done | with_reducible rfl)
  (try simp only [Act.put, List.setIfInBounds_toArray, List.set_cons_zero, List.set_cons_succ])
  refine takeH (i := 2) (v := ?_) rfl (by kernel_rfl) (by kernel_rfl) (by kernel_rfl) (fun _ _ _ h => h) (Or.inl ⟨by rfl, ?_⟩) (by assumption) ?_
  rotate_left
  · (intro w hSw; (try dsimp only at hSw); have hcx := below_cell hSw hc0; go_simp; first | done | with_reducible rfl)
  (try simp only [Act.put, List.setIfInBounds_toArray, List.set_cons_zero, List.set_cons_succ])
  refine takeH (i := 3) (v := ?_) rfl (by kernel_rfl) (by kernel_rfl) (by kernel_rfl) (fun _ _ _ h => h) (Or.inl ⟨by rfl, ?_⟩) (by assumption) ?_
  rotate_left
  · (intro w hSw; (try dsimp only at hSw); go_simp; first | done | with_reducible rfl)
  (try simp only [Act.put, List.setIfInBounds_toArray, List.set_cons_zero, List.set_cons_succ])
  refine takeH (i := 4) (v := ?_) rfl (by kernel_rfl) (by kernel_rfl) (by kernel_rfl) (fun _ _ _ h => h) (Or.inl ⟨by rfl, ?_⟩) (by assumption) ?_
  rotate_left
  · (intro w hSw; (try dsimp only at hSw); have hcx := hi1; go_simp; first | done | with_reducible rfl)
  (try simp only [Act.put, List.setIfInBounds_toArray, List.set_cons_zero, List.set_cons_succ])
  refine takeH (i := 5) (v := ?_) rfl (by kernel_rfl) (by kernel_rfl) (by kernel_rfl) (fun _ _ _ h => h) (Or.inl ⟨by rfl, ?_⟩) (by assumption) ?_
  rotate_left
  · (intro w hSw; (try dsimp only at hSw); have hcx := below_cell hSw hc1; go_simp; first | done | with_reducible rfl)
  (try simp only [Act.put, List.setIfInBounds_toArray, List.set_cons_zero, List.set_cons_succ])
  refine takeH (i := 6) (v := ?_) rfl (by kernel_rfl) (by kernel_rfl) (by kernel_rfl) (fun _ _ _ h => h) (Or.inl ⟨by rfl, ?_⟩) (by assumption) ?_
  rotate_left
  · (intro w hSw; (try dsimp only at hSw); go_simp; first | done | with_reducible rfl)
  (try simp only [Act.put, List.setIfInBounds_toArray, List.set_cons_zero, List.set_cons_succ])
  refine takeH (i := 7) (v := ?_) rfl (by kernel_rfl) (by kernel_rfl) (by kernel_rfl) (fun _ _ _ h => h) (Or.inl ⟨by rfl, ?_⟩) (by assumption) ?_
  rotate_left
  · (intro w hSw; (try dsimp only at hSw); have hcx := hi2; go_simp; first | done | with_reducible rfl)
  (try simp only [Act.put, List.setIfInBounds_toArray, List.set_cons_zero, List.set_cons_succ])
  refine takeH (i := 8) (v := ?_) rfl (by kernel_rfl) (by kernel_rfl) (by kernel_rfl) (fun _ _ _ h => h) (Or.inl ⟨by rfl, ?_⟩) (by assumption) ?_
  rotate_left
  · (intro w hSw; (try dsimp only at hSw); have hcx := below_cell hSw hc2; go_simp; first | done | with_reducible rfl)
  (try simp only [Act.put, List.setIfInBounds_toArray, List.set_cons_zero, List.set_cons_succ])
  refine takeH (i := 9) (v := ?_) rfl (by kernel_rfl) (by kernel_rfl) (by kernel_rfl) (fun _ _ _ h => h) (Or.inl ⟨by rfl, ?_⟩) (by assumption) ?_
  rotate_left
  · (intro w hSw; (try dsimp only at hSw); go_simp; first | done | with_reducible rfl)
  (try simp only [Act.put, List.setIfInBounds_toArray, List.set_cons_zero, List.set_cons_succ])
  refine wpAnyH_ready (rs := [10]) (by kernel_rfl) (by simp) ?_
  refine stepH rfl (fun K hK => ?_) AllReadyH.nil
  go_simp
  have hfz := below_fresh wa (.cells #[.int .i64 0, .int .i64 0, .int .i64 0, .slice none 0 0] 30)
  have hOP := OU.fresh wa 0 0 0 (.slice none 0 0)
  have hb := bnext ha hfz
  have hlt : w2.heap.size ≤ wa.heap.size := ha.size
  refine hK.out _ _ (hb) (fun _ => ?_)
  clear hK K
  (try simp only [Act.put, List.setIfInBounds_toArray, List.set_cons_zero, List.set_cons_succ])
  obtain ⟨pb, hpb⟩ : ∃ pb, pb = wa.heap.size := ⟨_, rfl⟩
  rw [← hpb] at hOP hlt ⊢
  clear hpb
  generalize wa.alloc (.cells #[.int .i64 0, .int .i64 0, .int .i64 0, .slice none 0 0] 30) = wb at hOP hb ⊢
  obtain ⟨o0, o1, o2, o3, g0, g1, g2, g3⟩ := hOP.cells
  refine wpAnyH_ready (rs := [11]) (by kernel_rfl) (by simp) ?_
  refine stepH rfl (fun K hK => ?_) AllReadyH.nil
  go_simp
  have hc := hb.trans ((only4 (w := wb) (B := pb) (.int .i64 c) (.int .i64 q) (.int .i64 t) (.slice none 0 0)).below hlt hb.size)
  have hX := hOP.put4 c q t (.slice none 0 0)
  refine hK.out _ _ (hc) (fun _ => ?_)
  clear hK K
  (try simp only [Act.put, List.setIfInBounds_toArray, List.set_cons_zero, List.set_cons_succ])
  refine wpAnyH_done (by kernel_rfl) ?_ _
  have HPB := Lib.hid (show w.heap.size < pb from Nat.lt_of_lt_of_le HP2.out.lt hlt)
  have HX3 := Lib.hid hX
  have HP3 := Lib.hid (HP2.out.below hc)
  have HO3 := Lib.hid (HOH2.out.below hc)
  have HB3 := Lib.hid (bnext HB2.out hc)
  clear hX hc hb hOP hlt o0 o1 o2 o3 g0 g1 g2 g3 hi0 hi1 hi2 hc0 hc1 hc2 hc3 HP2 HOH2 HB2
  generalize (((wb.setCell ⟨pb, 0, none⟩ (.int .i64 c)).setCell ⟨pb, 1, none⟩ (.int .i64 q)).setCell ⟨pb, 2, none⟩ (.int .i64 t)).setCell ⟨pb, 3, none⟩ (.slice none 0 0) = w3 at HX3 HP3 HO3 HB3 ⊢
  go_wp2
  go_loopw [6, 9] (fun at_ i wr => ∃ (k u : Nat) (sv : Value), k ≤ C ∧ i = .int .i64 k ∧ at_ = .int .i64 (u : Int) ∧ Hid ((UM.chE xs u0 k).2 = (u, 0)) ∧ Hid (OU wr pb c q t sv) ∧ Hid (OU wr w.heap.size 0 0 0 (.slice none 0 0)) ∧ Hid (OwnEf w.heap.size wr sv (UM.chE xs u0 k).1) ∧ Hid (OwnI w.heap.size wr (.slice hda 4 hdc) [c, q, t, (C : Int)]) ∧ Hid (Below w.heap.size w wr)) (fun _ i _ => C - (intOf i).toNat)
  case atStart => exact ⟨0, u0, _, Nat.zero_le _, rfl, rfl, rfl, HX3.out, HP3.out, OwnG.nil hlEf _ _ _, HO3.out, HB3.out⟩
  case round =>
    obtain ⟨k, u, sv, hk, rfl, rfl, hst, hx, hp, ho, hh, hbl⟩ := hrel
    clear HX3 HP3 HO3 HB3
    have hc3 := atI_cell hh.out.rd 3 _ rfl hi3
    have hC4 := HC4.out
    by_cases hlt : k < C
    · have hq2 : (k : Int) < (C : Int) := by omega
      have hul : u ≤ xs.length := by
        have := UM.chE_used HBY.out HMU.out k
        rw [hst.out] at this; exact this
      obtain ⟨v2, hcut, hrd2⟩ := (HV.out.below hbl.out).cutZ u hul
      have hM := rEffect v2 _ wr hrd2
      have hDu := UM.decE_used hrd2.bytes
      have hlen := UM.chE_len (k := k) (xs := xs) (u := u0) (by rw [hst.out])
      have hcs : UM.chE xs u0 (k + 1) = if (UM.decE (xs.drop u)).2.2 ≠ 0 then ((UM.chE xs u0 k).1, u, (UM.decE (xs.drop u)).2.2) else ((UM.chE xs u0 k).1 ++ [(UM.decE (xs.drop u)).1], u + (UM.decE (xs.drop u)).2.1, 0) := by
        rw [UM.chE, hst.out, if_neg (by simp)]
      rw [List.length_drop] at hDu
      generalize UM.decE (xs.drop u) = D at hM hDu hcs
      obtain ⟨⟨k', o', f', n', s'⟩, n7, e7⟩ := D
      dsimp only [efv] at hM hDu hcs
      have HM := Lib.hid hM
      have HCS := Lib.hid hcs
      clear hM hcs hrd2 hst
      go_wp2_with fail
      refine HM.out.mono ?_
      rintro e w2 ⟨rfl, hb2⟩
      have HB5 := Lib.hid (bnext hbl.out hb2)
      have HP5 := Lib.hid (hp.out.below hb2)
      have HX5 := Lib.hid (hx.out.below hb2)
      have HO5 := Lib.hid (ho.out.below hb2)
      have HH5 := Lib.hid (hh.out.below hb2)
      clear hx hp ho hbl hh hc3 hb2 HM hcut
      have fE := below_fresh w2 (.cells #[.int .i64 k', .string o', .string f', .int .i64 n', .string s'] 23)
      have oE := OE.fresh w2 (.int .i64 k') (.string o') (.string f') (.int .i64 n') (.string s')
      obtain ⟨w4, hw4⟩ : ∃ z, w2.alloc (.cells #[.int .i64 k', .string o', .string f', .int .i64 n', .string s'] 23) = z := ⟨_, rfl⟩
      rw [hw4] at fE oE
      have HW4 := Lib.hid hw4
      have HB6 := Lib.hid (bnext HB5.out fE)
      have HP6 := Lib.hid (HP5.out.below fE)
      have HX6 := Lib.hid (HX5.out.below fE)
      have HO6 := Lib.hid (HO5.out.below fE)
      have HH6 := Lib.hid (HH5.out.below fE)
      obtain ⟨b0, b1, b2, b3, b4, _⟩ := oE.cells
      obtain ⟨o0, o1, o2, o3, g0, g1, g2, g3⟩ := HP6.out.cells
      obtain ⟨x0, x1, x2, x3, y0, y1, y2, y3⟩ := HX6.out.cells
      clear fE oE hw4 HB5 HP5 HX5 HO5 HH5
      by_cases he7 : e7 = 0
      case neg =>
        have HR2 := Lib.hid (show R = UM.badU e7 by
          have h0 := HCS.out
          rw [if_pos he7] at h0
          have h2 := UM.chE_err_le (by omega : k + 1 ≤ C) (by rw [h0]; exact he7)
          rw [HFIN.out]
          unfold UM.finU
          rw [h2, h0, if_pos he7])
        have hne' : (e7 != 0) = true := bne_t he7
        clear HCS HFIN he7 x0 x1 x2 x3 y0 y1 y2 y3
        go_upto_region 11 with fail
        rw [HW4.out]
        go_wp2
        refine rdecU_ret rfl rfl rfl (HP6.out.put4 0 0 0 (.slice none 0 0)) rfl ⟨.slice none 0 0, ?_, ?_, ?_⟩
        · rw [HR2.out]; rfl
        · rw [HR2.out]; exact OwnG.nil hlEf _ _ _
        · exact seen HB6.out (Nat.le_refl _) (only4 _ _ _ _)
      subst he7
      obtain ⟨asv, csv, rfl, hcsv, _⟩ := HO6.out.rd.shape
      rw [hlen] at HX6 HO6 x3
      have HYB := Lib.hid (show (UM.chE xs u0 k).1.length ≤ 1073741824 by omega)
      have HS := Lib.hid (show UM.chE xs u0 (k + 1) = ((UM.chE xs u0 k).1 ++ [(k', o', f', n', s')], u + n7, 0) by rw [HCS.out, if_neg (by simp)])
      have hw1 : (u : Int) + (n7 : Int) ≤ 9223372036854775807 := by have := HXL.out; omega
      have HSUM := Lib.hid (show (u : Int) + (n7 : Int) = ((u + n7 : Nat) : Int) by omega)
      have hsz := HB6.out.size
      have HLEN := Lib.hid hlen
      clear HCS hul hDu hlen o0 o1 o2 o3 g0 g1 g2 g3
      go_upto_region 11 with fail
      rw [HW4.out]
      go_wp2_with (at_builtin; refine wp_appG1 efE (k', o', f', n', s') rfl _ _ rfl rfl HO6.out rfl HYB.out hsz ?_; intro v6 w6 ho6 hb6 hk6 _; obtain ⟨av6, cv6, rfl, _, _⟩ := ho6.rd.shape; have hx6 : OU w6 pb c q t (.slice asv k csv) := OU.keep (e := 23) HX6.out (by decide) hk6; obtain ⟨x0, x1, x2, x3, y0, y1, y2, y3⟩ := hx6.cells)
      have el : ((UM.chE xs u0 k).1 ++ [(k', o', f', n', s')]).length = (UM.chE xs u0 k).1.length + 1 := by simp
      rw [el] at ho6
      have hon : Only pb w6 (w6.setCell ⟨pb, 3, none⟩ (.slice av6 ((UM.chE xs u0 k).1.length + 1) cv6)) := Only.set 3 _
      have hpb := HPB.out
      have HX7 := Lib.hid (hx6.put (.slice av6 ((UM.chE xs u0 k).1.length + 1) cv6))
      have HP7 := Lib.hid ((OU.keep (e := 23) HP6.out (by decide) hk6).only hon (by omega))
      have HO7 := Lib.hid (ownG_only ho6 hx6 (by decide) hon)
      have HH7 := Lib.hid (ownG_only (ownG_keep HH6.out hk6 (by decide)) hx6 (by decide) hon)
      have HB7 := Lib.hid (seen (HB6.out.trans hb6) (by omega) hon)
      rw [HSUM.out]
      go_roundw
      case rel => exact ⟨k + 1, u + n7, _, by omega, by go_num, rfl, by show (UM.chE xs u0 (k + 1)).2 = _; rw [HS.out], HX7, HP7, by show OwnEf _ _ _ (UM.chE xs u0 (k + 1)).1; rw [HS.out]; exact HO7.out, HH7, HB7⟩
      case measure => simp [intOf]; omega
    · have hq2 : ¬ (k : Int) < (C : Int) := by omega
      obtain rfl : k = C := by omega
      have hfin := HFIN.out
      clear HFIN
      have hp0 : UM.chE xs u0 k = ((UM.chE xs u0 k).1, (u, 0)) := by rw [← hst.out]
      rw [hp0] at hfin
      clear hp0 hst
      generalize (UM.chE xs u0 k).1 = ys at ho hfin
      obtain ⟨asv, csv, rfl, hcsv, _⟩ := ho.out.rd.shape
      obtain ⟨p0, p1, p2, p3, _⟩ := hx.out.cells
      obtain ⟨o0, o1, o2, o3, g0, g1, g2, g3⟩ := hp.out.cells
      have hv := rValU c q t (.slice asv ys.length csv) ys wr ho.out.rd
      by_cases hee : UM.errU c q t ys = 0
      · rw [hee] at hv
        have HV2 := Lib.hid hv
        have HFIN := Lib.hid (show R = (0, u, (c, q, t), ys) by rw [hfin]; unfold UM.finU; rw [if_neg (by simp), if_neg (by rw [hee]; simp)])
        clear hv hfin hee
        go_wp2_with fail
        refine HV2.out.mono ?_
        rintro e w5 ⟨rfl, hb5⟩
        have HX5 := Lib.hid (hx.out.below hb5)
        have HP5 := Lib.hid (hp.out.below hb5)
        have HO5 := Lib.hid (ho.out.below hb5)
        have HB5 := Lib.hid (bnext hbl.out hb5)
        clear hx hp ho hbl hh hc3 p0 p1 p2 p3 o0 o1 o2 o3 g0 g1 g2 g3 hb5 HV2
        obtain ⟨p0, p1, p2, p3, _⟩ := HX5.out.cells
        obtain ⟨o0, o1, o2, o3, g0, g1, g2, g3⟩ := HP5.out.cells
        go_wp2
        refine rdecU_ret rfl rfl rfl (HP5.out.put4 c q t _) rfl ⟨.slice asv ys.length csv, ?_, ?_, ?_⟩
        · rw [HFIN.out]
        · rw [HFIN.out]
          exact (ownG_only HO5.out HP5.out (by decide) (only4 _ _ _ _))
        · exact seen HB5.out (Nat.le_refl _) (only4 _ _ _ _)
      · have HV2 := Lib.hid hv
        have HFIN := Lib.hid (show R = UM.badU (UM.errU c q t ys) by rw [hfin]; unfold UM.finU; rw [if_neg (by simp), if_pos hee])
        have hne : (UM.errU c q t ys != 0) = true := bne_t hee
        generalize UM.errU c q t ys = ee at HV2 HFIN hne
        clear hv hfin hee
        go_wp2_with fail
        refine HV2.out.mono ?_
        rintro e w5 ⟨rfl, hb5⟩
        have HP5 := Lib.hid (hp.out.below hb5)
        have HB5 := Lib.hid (bnext hbl.out hb5)
        clear hx hp ho hbl hh hc3 p0 p1 p2 p3 o0 o1 o2 o3 g0 g1 g2 g3 hb5 HV2
        obtain ⟨o0, o1, o2, o3, g0, g1, g2, g3⟩ := HP5.out.cells
        go_wp2
        refine rdecU_ret rfl rfl rfl (HP5.out.put4 0 0 0 (.slice none 0 0)) rfl ⟨.slice none 0 0, ?_, ?_, ?_⟩
        · rw [HFIN.out]; rfl
        · rw [HFIN.out]; exact OwnG.nil hlEf _ _ _
        · exact seen HB5.out (Nat.le_refl _) (only4 _ _ _ _)

theorem rDecodeU (v : Value) (xs : List Int) (w : World) (h : Rd w v xs) :
    Calls Tryd.prog 27 #[v] w fun e w' => ∃ sv, e = .returned (.tuple #[uv (UM.decU xs).2.2.1.1 (UM.decU xs).2.2.1.2.1 (UM.decU xs).2.2.1.2.2 sv, .int .i64 ((UM.decU xs).2.1 : Int), .int .i64 (UM.decU xs).1]) ∧ RdEf w' sv (UM.decU xs).2.2.2 ∧ Below w.heap.size w w' :=
  (rDecodeUO v xs w h).mono (by rintro e w' ⟨sv, h1, h2, h3⟩; exact ⟨sv, h1, h2.rd, h3⟩)

end Go.Proofs.YtcalnapdpnnljaaDoor
