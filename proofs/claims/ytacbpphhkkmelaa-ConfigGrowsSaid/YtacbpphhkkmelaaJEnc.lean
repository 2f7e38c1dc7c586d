/-
  The calls of proposal.Append and of the reference's AppendProposal, and of what appends numbers: the bytes of the encoding. Conditions: the bytes, numbers and changes read; the numbers are from 0 to 2^31 - 1.
-/
import Derived.Deep.RegionHeld3
import Derived.Deep.CutRange
import Derived.Test.YtacbpphhkkmelaaReg
import Derived.Test.YtacbpphhkkmelaaUint
import Derived.Test.YtacbpphhkkmelaaJProp
namespace Go.Proofs.Ytacbpphhkkmelaa
open Go.RowKit
open JM (Chg)

theorem KeepsX.at {e t : TypeId} {w w' : World} (h : KeepsX e w w') {g : Nat} {cur : Array Value} {fr : Nat × Nat} (hg : w.heap[g]? = some (.cells cur t fr)) (ht : t ≠ e) : w'.heap[g]? = some (.cells cur t fr) := by
  have hlt : g < w.heap.size := (Array.getElem?_eq_some_iff.1 hg).1
  rw [h g hlt (fun cur' fr' he => by rw [hg] at he; cases he; exact ht rfl), hg]
theorem below_block {w w' : World} {g : Nat} {o : Obj} (hg : w.heap[g]? = some o) (hb : Below w.heap.size w w') : w'.heap[g]? = some o := by
  have hlt : g < w.heap.size := (Array.getElem?_eq_some_iff.1 hg).1
  rw [hb.block g hlt, hg]

section
variable {w : World} {ops : Array Oper} {rest : List Oper} {o : Oper} {a : Act} {Q : Exit → Act → World → Prop} {base : Nat} {v : Value} {ys : List Int}
/-- 'append(out, b...)' of bytes, and that blocks of other types stay. -/
theorem wp_appSK {u : Value} {zs : List Int} (hgd : o.guard = none) (s x : Operand) (ho : o.op = .call { callee := .builtin .append, args := #[s, x], argTypes := #[54, 54] })
    (hs : a.eval s = v) (hown : Own base w v ys) (hx : a.eval x = u) (hu : Rd w u zs) (hlen : ys.length ≤ 35184372088832) (hlen2 : zs.length ≤ 35184372088832) (hb : base ≤ w.heap.size)
    (h : ∀ v' w', Own base w' v' (ys ++ zs) → Below base w w' → KeepsX 5 w w' → wpList Try.prog ops Q rest (a.put o.dst v') w') :
    wpList Try.prog ops Q (o :: rest) a w := by
  obtain ⟨i0, hi, hz0, hz1, hz2⟩ := info_parts infoU8
  have hzb := hu.bytes
  obtain ⟨ad, n, c, rfl, h1, h2, h3, h4, h5, h6⟩ := hu
  subst h1
  cases ad with
  | none =>
    obtain ⟨h0, rfl⟩ := h4 rfl
    obtain rfl : zs = [] := List.eq_nil_of_length_eq_zero h0
    exact wpList_append_own_none hgd s x 54 ho base 5 i0 1 Try.underlying54 hi _ _ _ hs hown.1 hx (h _ _ (by simpa using hown) (Below.refl _ _) (Below.keepsX (Below.refl _ _) _))
  | some ad =>
    refine wpList_append_own _ hgd s x 54 ho base 5 i0 (.int .u8 0) 1 1 Try.underlying54 hi hz0 hz1 hz2 rfl (by decide) _ _ _ hs hown.1 ad zs.length c (zs.map (Value.int .u8)) hx (by simp) ?_ (ints_oneCell _ _) ?_ ?_ hb ?_
    · intro j u hj
      have hjn : j < zs.length := by
        have := (List.getElem?_eq_some_iff.1 hj).1
        simpa using this
      rw [h5 ad rfl j hjn]
      simp [List.getElem?_eq_getElem hjn] at hj
      simp [List.getD, List.getElem?_eq_getElem hjn, hj]
    · unfold maxLen; omega
    · omega
    · intro v' w1 ho1 hg1 _
      exact h v' w1 ⟨by simpa using ho1, Bytes.append hown.2 hzb⟩ ((Below.refl _ _).grown hg1 hb (fun k hk => (hown.1.lt k hk).1)) (keepsX_grown hown.1 hg1)
end

theorem CBox.of {w : World} {g : Nat} {k s t v a b c : Int} (h : w.heap[g]? = some (.cells #[.int .i64 k, .int .i64 s, .int .i64 t, .int .i64 v, .int .i64 a, .int .i64 b, .int .i64 c] 63 (0, 0))) : CBox w g k s t v a b c := by
  refine ⟨?_, ?_, ?_, ?_, ?_, ?_, ?_⟩ <;> simp [World.cell?, h]

/-- Block g is a slice of numbers, written out. -/
def IBlk (w : World) (g : Nat) (l : List Int) : Prop := w.heap[g]? = some (.cells (cellsOf encI l).toArray 3 (0, 0))
theorem IBlk.rd {w : World} {g : Nat} {l : List Int} (h : IBlk w g l) (hl : l.length ≤ maxLen) : RdI w (.slice (some ⟨g, 0, none⟩) l.length l.length) l := by
  refine OwnG.rd (e := 3) (base := g) ⟨⟨cellsOf_length hlI.2 l, .inr ⟨g, l.length, (cellsOf encI l).toArray, rfl, Nat.le_refl _, h, Nat.le_refl _, hl, by simp [cellsOf_length hlI.2], by rw [List.take_of_length_le]; simp [cellsOf_length hlI.2]⟩⟩, hlI⟩

theorem small_nat {x : Int} (h : JM.small x) : ∃ m : Nat, x = m ∧ m < 2147483648 ∧ x.toNat = m := by
  unfold JM.small at h
  obtain ⟨m, rfl⟩ := Int.eq_ofNat_of_zero_le h.1
  exact ⟨m, rfl, by omega, by omega⟩
theorem encN_snoc {l : List Int} {k : Nat} {x : Int} (h : l[k]? = some x) : JM.encN (l.take (k + 1)) = JM.encN (l.take k) ++ WM.enc x.toNat := by
  have hlt : k < l.length := (List.getElem?_eq_some_iff.1 h).1
  have hx : l[k] = x := (List.getElem?_eq_some_iff.1 h).2
  rw [← List.take_append_getElem hlt, JM.encN_append, hx]
  congr 1
  simp [JM.encN]
theorem encCs_snoc {l : List Chg} {k : Nat} {x : Chg} (h : l[k]? = some x) : JM.encCs (l.take (k + 1)) = JM.encCs (l.take k) ++ JM.encN (JM.ofChg x) := by
  have hlt : k < l.length := (List.getElem?_eq_some_iff.1 h).1
  have hx : l[k] = x := (List.getElem?_eq_some_iff.1 h).2
  rw [← List.take_append_getElem hlt, JM.encCs_append, hx]
  congr 1
  simp [JM.encCs]

set_option maxRecDepth 100000 in
set_option maxHeartbeats 2000000 in
theorem cAppNums (base : Nat) (v : Value) (bs : List Int) (g : Nat) (l : List Int) (w : World) (h : Own base w v bs) (hg : IBlk w g l) (hb : base ≤ w.heap.size) (hl : l.length ≤ 1000) (hs : ∀ x ∈ l, JM.small x) (hlen : bs.length ≤ 2199023255552) :
    Calls Try.prog 86 #[v, .slice (some ⟨g, 0, none⟩) l.length l.length] w fun e w' => ∃ v', e = .returned v' ∧ Own base w' v' (bs ++ JM.encN l) ∧ Below base w w' ∧ KeepsX 5 w w' := by
  have HG := Lib.hid hg
  have HS := Lib.hid hs
  have HO := Lib.hid h
  have HBS := Lib.hid hb
  have HL := Lib.hid hl
  have HLEN := Lib.hid hlen
  have hl9 : l.length ≤ 9223372036854775807 := by omega
  clear hg hs h hb hl hlen
  go_enter Try.func86, Try.ntmps86
  go_wp2
  go_loopw [0, 9] (fun u i wr => ∃ k : Nat, k ≤ l.length ∧ i = .int .i64 k ∧ Hid (Own base wr u (bs ++ JM.encN (l.take k))) ∧ Hid (Below base w wr) ∧ Hid (KeepsX 5 w wr)) (fun _ i _ => l.length - (intOf i).toNat)
  case atStart => exact ⟨0, Nat.zero_le _, rfl, (by show Own _ _ _ _; rw [List.take_zero, show JM.encN [] = [] from rfl, List.append_nil]; exact HO.out), Below.refl _ _, Below.keepsX (Below.refl _ _) _⟩
  case round =>
    obtain ⟨k, hk, rfl, ho, hbl, hkx⟩ := hrel
    by_cases hlt : k < l.length
    · have hq : (k : Int) < (l.length : Int) := by omega
      have hat := List.getElem?_eq_getElem hlt
      have hsm := HS.out l[k] (List.getElem_mem hlt)
      generalize l[k] = x at hat hsm
      have hsn := encN_snoc hat
      have hI : RdI wr (.slice (some ⟨g, 0, none⟩) l.length l.length) l := IBlk.rd (hkx.out.at HG.out (by decide)) (by have := HL.out; unfold maxLen; omega)
      obtain ⟨b, o, hi, hbb, hc⟩ := atI hI k x hat
      obtain ⟨m, rfl, hm, hxm⟩ := small_nat hsm
      rw [hxm] at hsn
      have hub : (m : Int) < 18446744073709551616 := by omega
      have HU := Lib.hid (fun w => wAppendUint (.slice none 0 0) [] m w (Rd.nil w) (by simp) (by omega))
      have hel := WM.enc_len10 m (by omega)
      have hel2 : (bs ++ JM.encN (l.take k)).length ≤ 35184372088832 := by
        have h1 := JM.encN_len (l.take k) (fun y hy => HS.out y (List.mem_of_mem_take hy))
        rw [List.length_take] at h1
        have h2 := HL.out
        have h3 := HLEN.out
        rw [List.length_append]
        omega
      have HSN := Lib.hid (show bs ++ JM.encN (l.take (k + 1)) = bs ++ (JM.encN (l.take k) ++ WM.enc m) by rw [hsn])
      have HEL2 := Lib.hid hel2
      clear hat hsm hsn hI hxm hel2
      go_wp2_with fail
      refine (HU.out _).mono ?_
      rintro e w2 ⟨v2, rfl, ho2, hb2⟩
      have hsz : base ≤ w2.heap.size := Nat.le_trans HBS.out (Nat.le_trans hbl.out.size hb2.size)
      have HO2 := Lib.hid (ho.out.below hb2)
      have HK2 := Lib.hid (KeepsX.trans hkx.out hbl.out.size (Below.keepsX hb2 5))
      have HB2 := Lib.hid (hbl.out.trans (hb2.mono (Nat.le_trans HBS.out hbl.out.size)))
      have hrd := ho2.rd
      rw [List.nil_append] at hrd
      obtain ⟨a2, c2, rfl, hc2⟩ := hrd.shape
      have HRD := Lib.hid hrd
      clear ho hbl hkx hb2 ho2 HU hc hi hbb hrd
      go_wp2_with (at_builtin; refine wp_appSK rfl _ _ rfl rfl HO2.out rfl HRD.out HEL2.out (by omega) hsz ?_)
      intro v3 w3 ho3 hb3 hk3
      have HO3 := Lib.hid (show Own base w3 v3 (bs ++ JM.encN (l.take (k + 1))) by rw [HSN.out]; exact ho3)
      have HB3 := Lib.hid (HB2.out.trans hb3)
      have HK3 := Lib.hid (KeepsX.trans HK2.out (HB2.out.size) hk3)
      clear ho3 hb3 hk3 HO2 HB2 HK2 HRD HSN HEL2
      go_wp2
      go_roundw
      case rel => exact ⟨k + 1, by omega, by go_num, HO3, HB3, HK3⟩
      case measure => simp [intOf]; omega
    · have hq : ¬ ((k : Int) < (l.length : Int)) := by omega
      obtain rfl : k = l.length := by omega
      rw [List.take_length] at ho
      go_wp2
      go_ret
      exact ⟨_, rfl, ho.out, hbl.out, hkx.out⟩

set_option maxRecDepth 100000 in
set_option maxHeartbeats 4000000 in
theorem cAppend (v : Value) (bs : List Int) (a n : Int) (u : Value) (cs : List Chg) (w : World) (h : Rd w v bs) (hu : RdC w u cs) (he : JM.errP a n cs = 0) (hlen : bs.length ≤ 1099511627776) :
    Calls Try.prog 63 #[v, pv a n u] w fun e w' => ∃ v', e = .returned v' ∧ Own w.heap.size w' v' (bs ++ JM.encP a n cs) ∧ Below w.heap.size w w' := by
  obtain ⟨ad, cp, rfl, hc, hl⟩ := hu.shape
  have hsm := JM.head_small he
  obtain ⟨_, _, h6, _, hsc⟩ := JM.errP_small he
  have hb0 := below_fresh w (.cells #[.int .i64 a, .int .i64 n, .slice ad cs.length cp] 45)
  have HP0 := Lib.hid (PBox.fresh w a n (.slice ad cs.length cp))
  have HV0 := Lib.hid (h.below hb0)
  have HC0 := Lib.hid (hu.below hb0)
  have hbs := hb0.size
  have HB0 := Lib.hid hb0
  generalize hw0 : w.alloc (.cells #[.int .i64 a, .int .i64 n, .slice ad cs.length cp] 45) = w0 at HP0 HV0 HC0 HB0 hbs
  have HW0 := Lib.hid hw0
  have HBS := Lib.hid hbs
  have HCL := Lib.hid (fun w1 h1 => clone_any v bs w1 h1 hlen)
  obtain ⟨NH, hNH⟩ : ∃ NH, NH = Obj.cells #[.int .i64 a, .int .i64 n, .int .i64 (cs.length : Int)] 3 := ⟨_, rfl⟩
  have HAN : Hid (∀ v1 w1 g, Own w0.heap.size w1 v1 bs → w1.heap[g]? = some NH → w0.heap.size ≤ w1.heap.size → Calls Try.prog 86 #[v1, .slice (some ⟨g, 0, none⟩) 3 3] w1 fun e w' => ∃ v', e = .returned v' ∧ Own w0.heap.size w' v' (bs ++ JM.encN [a, n, (cs.length : Int)]) ∧ Below w0.heap.size w1 w' ∧ KeepsX 5 w1 w') :=
    fun v1 w1 g ho hg hb => cAppNums w0.heap.size v1 bs g [a, n, (cs.length : Int)] w1 ho (by rw [hNH] at hg; exact hg) hb (by simp) hsm (by omega)
  have hh := JM.encN_len _ hsm
  have hall : ∀ k, k ≤ cs.length → (bs ++ JM.encN [a, n, (cs.length : Int)] ++ JM.encCs (cs.take k)).length ≤ 2199023255000 := by
    intro k hk
    have h1 := JM.encCs_len (cs.take k) (fun y hy => hsc y (List.mem_of_mem_take hy))
    rw [List.length_take] at h1
    rw [List.length_append, List.length_append]
    simp only [List.length_cons, List.length_nil] at hh
    omega
  have HALL := Lib.hid hall
  have HSC := Lib.hid hsc
  have HNH := Lib.hid hNH
  have HLEN := Lib.hid hlen
  clear h hu he hsm hsc hb0 hw0 hbs hNH hlen hh hall
  go_enter Try.func63, Try.ntmps63
  go_upto_region 1 with fail
  rw [HW0.out]
  go_cut [5] from 8 to 18 (fun p5 wx => Hid (Own w0.heap.size wx p5 (bs ++ JM.encN [a, n, (cs.length : Int)])) ∧ Hid (Below w0.heap.size w0 wx))
  case first =>
    obtain ⟨p0, p1, p2⟩ := HP0.out
    refine wp_region_held_drew (S := fun w' => Below w0.heap.size w0 w') (by kernel_rfl) ((Below.refl _ _).drew) (fun ha => ?_)
    replace ha : Below w0.heap.size w0 w0.drew := (Below.refl _ _).drew
    generalize w0.drew = wa at ha ⊢
    refine takeH (i := 0) (v := ?_) rfl (by kernel_rfl) (by kernel_rfl) (by kernel_rfl) (fun _ _ _ h => h) (Or.inl ⟨by rfl, ?_⟩) (by assumption) ?_
    rotate_left
    · (intro w hSw; (try dsimp only at hSw); go_simp; first | done | with_reducible rfl)
    (try simp only [Act.put, List.setIfInBounds_toArray, List.set_cons_zero, List.set_cons_succ])
    refine takeH (i := 2) (v := ?_) rfl (by kernel_rfl) (by kernel_rfl) (by kernel_rfl) (fun _ _ _ h => h) (Or.inl ⟨by rfl, ?_⟩) (by assumption) ?_
    rotate_left
    · (intro w hSw; (try dsimp only at hSw); go_simp; first | done | with_reducible rfl)
    (try simp only [Act.put, List.setIfInBounds_toArray, List.set_cons_zero, List.set_cons_succ])
    refine takeH (i := 3) (v := ?_) rfl (by kernel_rfl) (by kernel_rfl) (by kernel_rfl) (fun _ _ _ h => h) (Or.inl ⟨by rfl, ?_⟩) (by assumption) ?_
    rotate_left
    · (intro w hSw; (try dsimp only at hSw); obtain ⟨p0, p1, p2⟩ := HP0.out.below hSw; go_simp; first | done | with_reducible rfl)
    (try simp only [Act.put, List.setIfInBounds_toArray, List.set_cons_zero, List.set_cons_succ])
    refine takeH (i := 4) (v := ?_) rfl (by kernel_rfl) (by kernel_rfl) (by kernel_rfl) (fun _ _ _ h => h) (Or.inl ⟨by rfl, ?_⟩) (by assumption) ?_
    rotate_left
    · (intro w hSw; (try dsimp only at hSw); go_simp; first | done | with_reducible rfl)
    (try simp only [Act.put, List.setIfInBounds_toArray, List.set_cons_zero, List.set_cons_succ])
    refine takeH (i := 5) (v := ?_) rfl (by kernel_rfl) (by kernel_rfl) (by kernel_rfl) (fun _ _ _ h => h) (Or.inl ⟨by rfl, ?_⟩) (by assumption) ?_
    rotate_left
    · (intro w hSw; (try dsimp only at hSw); obtain ⟨p0, p1, p2⟩ := HP0.out.below hSw; go_simp; first | done | with_reducible rfl)
    (try simp only [Act.put, List.setIfInBounds_toArray, List.set_cons_zero, List.set_cons_succ])
    refine takeH (i := 6) (v := ?_) rfl (by kernel_rfl) (by kernel_rfl) (by kernel_rfl) (fun _ _ _ h => h) (Or.inl ⟨by rfl, ?_⟩) (by assumption) ?_
    rotate_left
    · (intro w hSw; (try dsimp only at hSw); go_simp; first | done | with_reducible rfl)
    (try simp only [Act.put, List.setIfInBounds_toArray, List.set_cons_zero, List.set_cons_succ])
    refine takeH (i := 7) (v := ?_) rfl (by kernel_rfl) (by kernel_rfl) (by kernel_rfl) (fun _ _ _ h => h) (Or.inl ⟨by rfl, ?_⟩) (by assumption) ?_
    rotate_left
    · (intro w hSw; (try dsimp only at hSw); obtain ⟨p0, p1, p2⟩ := HP0.out.below hSw; go_simp; first | done | with_reducible rfl)
    (try simp only [Act.put, List.setIfInBounds_toArray, List.set_cons_zero, List.set_cons_succ])
    refine takeH (i := 8) (v := ?_) rfl (by kernel_rfl) (by kernel_rfl) (by kernel_rfl) (fun _ _ _ h => h) (Or.inl ⟨by rfl, ?_⟩) (by assumption) ?_
    rotate_left
    · (intro w hSw; (try dsimp only at hSw); go_simp; first | done | with_reducible rfl)
    (try simp only [Act.put, List.setIfInBounds_toArray, List.set_cons_zero, List.set_cons_succ])
    refine wpAnyH_ready (rs := [1, 9]) (by kernel_rfl) (by simp) ?_
    refine stepH rfl (fun K hK => ?_) (stepH rfl (fun K hK => ?_) AllReadyH.nil)
    · go_simp
      refine (HCL.out wa (HV0.out.below ha)).mono ?_
      rintro e wb ⟨vc, rfl, hoc, hbc⟩
      have hoc := hoc.mono ha.size
      have hb := bnext ha hbc
      go_wp2_with fail
      refine hK.out _ _ (hb) (fun _ => ?_)
      clear hK K
      (try simp only [Act.put, List.setIfInBounds_toArray, List.set_cons_zero, List.set_cons_succ])
      refine wpAnyH_ready (rs := [9]) (by kernel_rfl) (by simp) ?_
      refine stepH rfl (fun K hK => ?_) AllReadyH.nil
      go_simp
      rw [← HNH.out]
      have hfwc := below_fresh wb NH
      have hib : (wb.alloc NH).heap[wb.heap.size]? = some NH := heap_alloc_new wb _
      have hltwc : wb.heap.size < (wb.alloc NH).heap.size := by rw [World.size_alloc]; exact Nat.lt_succ_self _
      have hc : Below w0.heap.size w0 (wb.alloc NH) := bnext hb hfwc
      have hoc := hoc.below hfwc
      refine hK.out _ _ (hc) (fun _ => ?_)
      clear hK K
      (try simp only [Act.put, List.setIfInBounds_toArray, List.set_cons_zero, List.set_cons_succ])
      generalize wb.alloc NH = wc at *
      refine wpAnyH_ready (rs := [10]) (by kernel_rfl) (by simp) ?_
      refine stepH rfl (fun K hK => ?_) AllReadyH.nil
      go_simp
      refine (HAN.out _ wc _ hoc hib hc.size).mono ?_
      rintro e wz ⟨vd, rfl, hod, hbd, _⟩
      have hz := hc.trans hbd
      go_wp2_with fail
      refine hK.out _ _ (hz) (fun _ => ?_)
      clear hK K
      (try simp only [Act.put, List.setIfInBounds_toArray, List.set_cons_zero, List.set_cons_succ])
      refine takeH (i := 11) (v := ?_) rfl (by kernel_rfl) (by kernel_rfl) (by kernel_rfl) (fun _ _ _ h => h) (Or.inl ⟨by rfl, ?_⟩) (by assumption) ?_
      rotate_left
      · (intro w hSw; (try dsimp only at hSw); go_simp; first | done | with_reducible rfl)
      (try simp only [Act.put, List.setIfInBounds_toArray, List.set_cons_zero, List.set_cons_succ])
      refine wpAnyH_done (by kernel_rfl) ?_ _
      go_wp2
      go_meet
      exact ⟨hod, hz⟩
    · go_simp
      rw [← HNH.out]
      have hfwb := below_fresh wa NH
      have hib : (wa.alloc NH).heap[wa.heap.size]? = some NH := heap_alloc_new wa _
      have hltwb : wa.heap.size < (wa.alloc NH).heap.size := by rw [World.size_alloc]; exact Nat.lt_succ_self _
      have hb : Below w0.heap.size w0 (wa.alloc NH) := bnext ha hfwb
      refine hK.out _ _ (hb) (fun _ => ?_)
      clear hK K
      (try simp only [Act.put, List.setIfInBounds_toArray, List.set_cons_zero, List.set_cons_succ])
      generalize wa.alloc NH = wb at *
      refine wpAnyH_ready (rs := [1]) (by kernel_rfl) (by simp) ?_
      refine stepH rfl (fun K hK => ?_) AllReadyH.nil
      go_simp
      refine (HCL.out wb (HV0.out.below hb)).mono ?_
      rintro e wc ⟨vc, rfl, hoc, hbc⟩
      have hoc := hoc.mono hb.size
      have hc := bnext hb hbc
      have hib := below_block hib hbc
      go_wp2_with fail
      refine hK.out _ _ (hc) (fun _ => ?_)
      clear hK K
      (try simp only [Act.put, List.setIfInBounds_toArray, List.set_cons_zero, List.set_cons_succ])
      refine wpAnyH_ready (rs := [10]) (by kernel_rfl) (by simp) ?_
      refine stepH rfl (fun K hK => ?_) AllReadyH.nil
      go_simp
      refine (HAN.out _ wc _ hoc hib hc.size).mono ?_
      rintro e wz ⟨vd, rfl, hod, hbd, _⟩
      have hz := hc.trans hbd
      go_wp2_with fail
      refine hK.out _ _ (hz) (fun _ => ?_)
      clear hK K
      (try simp only [Act.put, List.setIfInBounds_toArray, List.set_cons_zero, List.set_cons_succ])
      refine takeH (i := 11) (v := ?_) rfl (by kernel_rfl) (by kernel_rfl) (by kernel_rfl) (fun _ _ _ h => h) (Or.inl ⟨by rfl, ?_⟩) (by assumption) ?_
      rotate_left
      · (intro w hSw; (try dsimp only at hSw); go_simp; first | done | with_reducible rfl)
      (try simp only [Act.put, List.setIfInBounds_toArray, List.set_cons_zero, List.set_cons_succ])
      refine wpAnyH_done (by kernel_rfl) ?_ _
      go_wp2
      go_meet
      exact ⟨hod, hz⟩
  case rest =>
    obtain ⟨ho, hb⟩ := hcut
    clear HCL HAN HNH
    obtain ⟨p0, p1, p2⟩ := HP0.out.below hb.out
    go_wp2
    go_loopw [5, 22] (fun u i wr => ∃ k : Nat, k ≤ cs.length ∧ i = .int .i64 k ∧ Hid (Own w0.heap.size wr u (bs ++ JM.encN [a, n, (cs.length : Int)] ++ JM.encCs (cs.take k))) ∧ Hid (Below w0.heap.size w0 wr)) (fun _ i _ => cs.length - (intOf i).toNat)
    case atStart => exact ⟨0, Nat.zero_le _, rfl, (by show Own _ _ _ _; rw [List.take_zero, show JM.encCs [] = [] from rfl, List.append_nil]; exact ho.out), hb.out⟩
    case round =>
      clear p0 p1 p2 hb ho
      obtain ⟨k, hk, rfl, ho, hbl⟩ := hrel
      by_cases hlt : k < cs.length
      · have hq : (k : Int) < (cs.length : Int) := by omega
        have hat := List.getElem?_eq_getElem hlt
        have hsm := HSC.out cs[k] (List.getElem_mem hlt)
        generalize cs[k] = y at hat hsm
        obtain ⟨k', s', t', v', a', b', c'⟩ := y
        obtain ⟨b, o, hi, hbb, d0, d1, d2, d3, d4, d5, d6⟩ := atC (HC0.out.below hbl.out) k _ _ _ _ _ _ _ hat
        have hsn := encCs_snoc hat
        have e1 : JM.encN (JM.ofChg (k', s', t', v', a', b', c')) = JM.encN [k', s', t', v'] ++ JM.encN [a', b', c'] := JM.encN_append [k', s', t', v'] [a', b', c']
        rw [e1] at hsn
        have h4 : ∀ x ∈ [k', s', t', v'], JM.small x := fun x hx => hsm x (List.mem_append_left [a', b', c'] hx)
        have h3 : ∀ x ∈ [a', b', c'], JM.small x := fun x hx => hsm x (List.mem_append_right [k', s', t', v'] hx)
        have hal := HALL.out k hk
        have hen := JM.encN_len _ h4
        have HSN := Lib.hid hsn
        have hbn := below_fresh wr (.cells #[.int .i64 k', .int .i64 s', .int .i64 t', .int .i64 v', .int .i64 a', .int .i64 b', .int .i64 c'] 63)
        have hblk := heap_alloc_new wr (.cells #[.int .i64 k', .int .i64 s', .int .i64 t', .int .i64 v', .int .i64 a', .int .i64 b', .int .i64 c'] 63)
        have hsz := World.size_alloc wr (.cells #[.int .i64 k', .int .i64 s', .int .i64 t', .int .i64 v', .int .i64 a', .int .i64 b', .int .i64 c'] 63)
        generalize hwc : wr.alloc (.cells #[.int .i64 k', .int .i64 s', .int .i64 t', .int .i64 v', .int .i64 a', .int .i64 b', .int .i64 c'] 63) = wc at hbn hblk hsz
        have HWC := Lib.hid hwc
        have HBLK := Lib.hid hblk
        have HSZ := Lib.hid hsz
        have HOC := Lib.hid (ho.out.below hbn)
        have HBC := Lib.hid (bnext hbl.out hbn)
        obtain ⟨x0, x1, x2, x3, x4, x5, x6⟩ := CBox.of hblk
        have H4 : Hid (∀ v1 w1 g, Own w0.heap.size w1 v1 (bs ++ JM.encN [a, n, (cs.length : Int)] ++ JM.encCs (cs.take k)) → w1.heap[g]? = some (.cells #[.int .i64 k', .int .i64 s', .int .i64 t', .int .i64 v'] 3 (0, 0)) → w0.heap.size ≤ w1.heap.size → Calls Try.prog 86 #[v1, .slice (some ⟨g, 0, none⟩) 4 4] w1 fun e w' => ∃ z', e = .returned z' ∧ Own w0.heap.size w' z' (bs ++ JM.encN [a, n, (cs.length : Int)] ++ JM.encCs (cs.take k) ++ JM.encN [k', s', t', v']) ∧ Below w0.heap.size w1 w' ∧ KeepsX 5 w1 w') :=
          fun v1 w1 g ho hg hb => cAppNums w0.heap.size v1 _ g [k', s', t', v'] w1 ho hg hb (by simp) h4 (by omega)
        have H3 : Hid (∀ v1 w1 g, Own w0.heap.size w1 v1 (bs ++ JM.encN [a, n, (cs.length : Int)] ++ JM.encCs (cs.take k) ++ JM.encN [k', s', t', v']) → w1.heap[g]? = some (.cells #[.int .i64 a', .int .i64 b', .int .i64 c'] 3 (0, 0)) → w0.heap.size ≤ w1.heap.size → Calls Try.prog 86 #[v1, .slice (some ⟨g, 0, none⟩) 3 3] w1 fun e w' => ∃ z', e = .returned z' ∧ Own w0.heap.size w' z' (bs ++ JM.encN [a, n, (cs.length : Int)] ++ JM.encCs (cs.take k) ++ JM.encN [k', s', t', v'] ++ JM.encN [a', b', c']) ∧ Below w0.heap.size w1 w' ∧ KeepsX 5 w1 w') :=
          fun v1 w1 g ho hg hb => cAppNums w0.heap.size v1 _ g [a', b', c'] w1 ho hg hb (by simp) h3 (by rw [List.length_append]; simp only [List.length_cons, List.length_nil] at hen; omega)
        clear hat hsm hsn e1 h4 h3 hal hen hbn hblk hsz hwc ho hbl
        go_wp2_with fail
        rw [HWC.out]
        have hf := below_fresh wc (.cells #[.int .i64 k', .int .i64 s', .int .i64 t', .int .i64 v'] 3)
        have hg := heap_alloc_new wc (.cells #[.int .i64 k', .int .i64 s', .int .i64 t', .int .i64 v'] 3)
        rw [HSZ.out] at hg
        have HB1 := Lib.hid (bnext HBC.out hf)
        refine (H4.out _ _ _ (HOC.out.below hf) hg HB1.out.size).mono ?_
        rintro e w2 ⟨v2, rfl, ho2, hb2, hk2⟩
        have hblk2 := hk2.at (below_block HBLK.out hf) (by decide)
        have HO2 := Lib.hid ho2
        have HB2 := Lib.hid (HB1.out.trans hb2)
        clear x0 x1 x2 x3 x4 x5 x6 hf hg ho2 hb2 hk2 H4 HOC HBC HB1 HBLK HSZ
        obtain ⟨x0, x1, x2, x3, x4, x5, x6⟩ := CBox.of hblk2
        clear hblk2
        go_wp2_with fail
        have hf := below_fresh w2 (.cells #[.int .i64 a', .int .i64 b', .int .i64 c'] 3)
        have hg := heap_alloc_new w2 (.cells #[.int .i64 a', .int .i64 b', .int .i64 c'] 3)
        have HB3 := Lib.hid (bnext HB2.out hf)
        refine (H3.out _ _ _ (HO2.out.below hf) hg HB3.out.size).mono ?_
        rintro e w4 ⟨v4, rfl, ho4, hb4, _⟩
        have HO4 := Lib.hid (show Own w0.heap.size w4 v4 (bs ++ JM.encN [a, n, (cs.length : Int)] ++ JM.encCs (cs.take (k + 1))) by
          rw [HSN.out]; simpa only [List.append_assoc] using ho4)
        have HB4 := Lib.hid (HB3.out.trans hb4)
        clear x0 x1 x2 x3 x4 x5 x6 hf hg ho4 hb4 H3 HO2 HB2 HB3
        go_wp2
        go_roundw
        case rel => exact ⟨k + 1, by omega, by go_num, HO4, HB4⟩
        case measure => simp [intOf]; omega
      · have hq : ¬ ((k : Int) < (cs.length : Int)) := by omega
        obtain rfl : k = cs.length := by omega
        rw [List.take_length, List.append_assoc] at ho
        go_wp2
        go_ret
        exact ⟨_, rfl, (Own.mono (w := wr) ho.out HBS.out : Own w.heap.size wr _ (bs ++ JM.encP a n cs)), HB0.out.trans (hbl.out.mono HBS.out)⟩

end Go.Proofs.Ytacbpphhkkmelaa
