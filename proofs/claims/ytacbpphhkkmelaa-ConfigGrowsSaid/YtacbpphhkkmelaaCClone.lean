/-
  The calls of slices.Clone of changes and of a configuration, of config.copied: copies in memory of the call's own. Conditions: what comes in reads.
-/
import Derived.Test.YtacbpphhkkmelaaCBase
import Derived.Lib.LazyBuf
namespace Go.Proofs.Ytacbpphhkkmelaa
open Go.RowKit
open JM (Chg)
open CM (Fp)

theorem ownG_empty {α : Type} {enc : α → List Value} {size : Nat} (hl : 0 < size ∧ ∀ x, (enc x).length = size) (e : TypeId) (w : World) :
    OwnG enc e size w.heap.size (w.alloc (.cells #[] e)) (.slice (some ⟨w.heap.size, 0, none⟩) 0 0) [] := ⟨World.ownsRow_made w #[] 0 (Nat.le_refl _) (Nat.zero_le _) (Nat.zero_mul _).symm, hl⟩

set_option maxRecDepth 100000 in
set_option maxHeartbeats 1000000 in
theorem gCloneC (v : Value) (xs : List Chg) (w : World) (h : RdC w v xs) (hl : xs.length ≤ 1073741824) :
    Calls Try.prog 81 #[v] w fun e w' => ∃ v', e = .returned v' ∧ OwnC w.heap.size w' v' xs ∧ Below w.heap.size w w' := by
  have hr := h.below (below_fresh w (.cells #[] 63))
  have ho := ownG_empty hlC 63 w
  have hb0 := below_fresh w (.cells #[] 63)
  obtain ⟨a, c, rfl, _, hcm, hcn, _⟩ := h
  have heq := fun w n c => run_eql_slice_nil (P := Try.prog) w 43 63 a n c Try.underlying43
  cases a with
  | none =>
    obtain ⟨rfl, rfl⟩ := hcn rfl
    clear hr ho hb0 hcn
    go_enter Try.func81, Try.ntmps81
    go_wp2
    go_ret
    exact ⟨_, rfl, OwnG.nil hlC _ _ _, Below.refl _ _⟩
  | some x =>
    have hs0 := hb0.size
    clear hcn
    go_enter Try.func81, Try.ntmps81
    go_wp2_with (at_builtin; refine wp_appGS chgE rfl _ _ rfl rfl ho rfl hr (by simp) hl hs0 ?_)
    intro v1 w1 ho1 hb1 _
    go_wp2
    go_ret
    exact ⟨_, rfl, by simpa using ho1, hb0.trans hb1⟩

set_option maxRecDepth 100000 in
set_option maxHeartbeats 1000000 in
theorem gCloneQ (v : Value) (xs : List Pro) (w : World) (h : RdQ w v xs) (hl : xs.length ≤ 1073741824) :
    Calls Try.prog 80 #[v] w fun e w' => ∃ v', e = .returned v' ∧ OwnQ w.heap.size w' v' xs ∧ Below w.heap.size w w' := by
  have hr := h.below (below_fresh w (.cells #[] 45))
  have ho := ownG_empty hlQ 45 w
  have hb0 := below_fresh w (.cells #[] 45)
  obtain ⟨a, c, rfl, _, hcm, hcn, _⟩ := h
  have heq := fun w n c => run_eql_slice_nil (P := Try.prog) w 23 45 a n c Try.underlying23
  cases a with
  | none =>
    obtain ⟨rfl, rfl⟩ := hcn rfl
    clear hr ho hb0 hcn
    go_enter Try.func80, Try.ntmps80
    go_wp2
    go_ret
    exact ⟨_, rfl, OwnG.nil hlQ _ _ _, Below.refl _ _⟩
  | some x =>
    have hs0 := hb0.size
    clear hcn
    go_enter Try.func80, Try.ntmps80
    go_wp2_with (at_builtin; refine wp_appGS proE rfl _ _ rfl rfl ho rfl hr (by simp) hl hs0 ?_)
    intro v1 w1 ho1 hb1 _
    go_wp2
    go_ret
    exact ⟨_, rfl, by simpa using ho1, hb0.trans hb1⟩

/-- Proposals whose changes are the call's own. -/
def TelO (base : Nat) (w : World) : List Pro → List Fp → Prop
  | [], [] => True
  | q :: qs, f :: fs => (q.1 = f.1 ∧ q.2.1 = f.2.1 ∧ OwnC base w (sl q) f.2.2) ∧ TelO base w qs fs
  | _, _ => False
theorem TelO.below {base : Nat} {w w' : World} (hb : Below w.heap.size w w') : ∀ {qs : List Pro} {fs : List Fp}, TelO base w qs fs → TelO base w' qs fs
  | [], [], _ => trivial
  | _ :: _, _ :: _, h => ⟨⟨h.1.1, h.1.2.1, h.1.2.2.below hb⟩, TelO.below hb h.2⟩
  | [], _ :: _, h => h.elim
  | _ :: _, [], h => h.elim
theorem TelO.keep {base : Nat} {w w' : World} (hk : KeepsX 45 w w') : ∀ {qs : List Pro} {fs : List Fp}, TelO base w qs fs → TelO base w' qs fs
  | [], [], _ => trivial
  | _ :: _, _ :: _, h => ⟨⟨h.1.1, h.1.2.1, ownG_keep h.1.2.2 hk (by decide)⟩, TelO.keep hk h.2⟩
  | [], _ :: _, h => h.elim
  | _ :: _, [], h => h.elim
theorem TelO.rd {base : Nat} {w : World} : ∀ {qs : List Pro} {fs : List Fp}, TelO base w qs fs → Tel w qs fs
  | [], [], _ => trivial
  | _ :: _, _ :: _, h => ⟨⟨h.1.1, h.1.2.1, h.1.2.2.rd⟩, TelO.rd h.2⟩
  | [], _ :: _, h => h.elim
  | _ :: _, [], h => h.elim
theorem TelO.snoc {base : Nat} {w : World} {q : Pro} {f : Fp} (k : q.1 = f.1 ∧ q.2.1 = f.2.1 ∧ OwnC base w (sl q) f.2.2) : ∀ {qs : List Pro} {fs : List Fp}, TelO base w qs fs → TelO base w (qs ++ [q]) (fs ++ [f])
  | [], [], _ => ⟨k, trivial⟩
  | _ :: _, _ :: _, h => ⟨h.1, TelO.snoc k h.2⟩
  | [], _ :: _, h => h.elim
  | _ :: _, [], h => h.elim
theorem TelO.mono {base b2 : Nat} {w : World} (hle : b2 ≤ base) : ∀ {qs : List Pro} {fs : List Fp}, TelO base w qs fs → TelO b2 w qs fs
  | [], [], _ => trivial
  | _ :: _, _ :: _, h => ⟨⟨h.1.1, h.1.2.1, h.1.2.2.mono hle⟩, TelO.mono hle h.2⟩
  | [], _ :: _, h => h.elim
  | _ :: _, [], h => h.elim
theorem take_snocF {fs : List Fp} {k : Nat} {f : Fp} (h : fs[k]? = some f) : fs.take (k + 1) = fs.take k ++ [f] := by
  have hlt : k < fs.length := (List.getElem?_eq_some_iff.1 h).1
  rw [← List.take_append_getElem hlt, (List.getElem?_eq_some_iff.1 h).2]
theorem set_mid {ns r : List Pro} {q y : Pro} {k : Nat} (h : ns.length = k) : (ns ++ (q :: r)).set k y = (ns ++ [y]) ++ r := by
  subst h
  rw [List.set_append_right _ _ (Nat.le_refl _), Nat.sub_self, List.set_cons_zero, List.append_assoc]; rfl

set_option maxRecDepth 100000 in
set_option maxHeartbeats 2000000 in
theorem gCopied (v : Value) (fs : List Fp) (w : World) (h : RdF w v fs) (hl : fs.length ≤ 1073741824) (hcl : ∀ f ∈ fs, f.2.2.length ≤ 1073741824) :
    Calls Try.prog 57 #[v] w fun e w' => ∃ v', e = .returned v' ∧ RdF w' v' fs ∧ Below w.heap.size w w' := by
  obtain ⟨qs, hq, ht⟩ := h
  have hlen := ht.len
  have HC := Lib.hid (gCloneQ v qs w hq (by rw [hlen]; exact hl))
  have HT := Lib.hid ht
  have HCL := Lib.hid hcl
  obtain ⟨a, c, rfl, _, _⟩ := hq.shape
  rw [hlen] at HC ⊢
  have HLEN := Lib.hid hlen
  clear hq ht hcl hlen
  go_enter Try.func57, Try.ntmps57
  go_wp2_with fail
  refine HC.out.mono ?_
  rintro e w1 ⟨v1, rfl, ho1, hb1⟩
  obtain ⟨a1, c1, rfl, hc1, _⟩ := ho1.rd.shape
  rw [HLEN.out] at ho1 ⊢
  have HO1 := Lib.hid ho1
  have HB1 := Lib.hid hb1
  clear ho1 hb1 HC
  go_wp2
  go_loopw [10] (fun i wr => ∃ (k : Nat) (ns : List Pro), k ≤ fs.length ∧ i = .int .i64 k ∧ Hid (ns.length = k) ∧ Hid (OwnQ w.heap.size wr (.slice a1 fs.length c1) (ns ++ qs.drop k)) ∧ Hid (TelO w.heap.size wr ns (fs.take k)) ∧ Hid (Below w.heap.size w wr)) (fun i _ => fs.length - (intOf i).toNat)
  case atStart => exact ⟨0, [], Nat.zero_le _, rfl, rfl, HO1.out, trivial, HB1.out⟩
  case round =>
    obtain ⟨k, ns, hk, rfl, hns, ho, hn, hb⟩ := hrel
    clear HO1 HB1
    by_cases hlt : k < fs.length
    · have hq : (k : Int) < (fs.length : Int) := by omega
      have hk2 := List.getElem?_eq_getElem hlt
      generalize fs[k] = f at hk2
      obtain ⟨x, m, cs⟩ := f
      obtain ⟨q, hq2, t1, t2, t3⟩ := HT.out.get hk2
      obtain ⟨x', m', da, dl, dc⟩ := q
      simp only at t1 t2
      subst t1 t2
      have t3 : RdC w (.slice da dl dc) cs := t3
      have hqd := Lib.hid (drop_get (List.getElem?_eq_some_iff.1 hq2).1)
      rw [(List.getElem?_eq_some_iff.1 hq2).2] at hqd
      have hkk : (ns ++ qs.drop k)[k]? = some (x', m', da, dl, dc) := by
        rw [hqd.out, List.getElem?_append_right (by rw [hns.out]; exact Nat.le_refl _), hns.out, Nat.sub_self]; rfl
      have hll : (ns ++ qs.drop k).length = fs.length := by rw [List.length_append, List.length_drop, hns.out, HLEN.out]; omega
      have hap := ho.out.at_put proE hkk
      obtain ⟨g, o, aa, cc, hv, hi, hg1, hg2, hcell, _⟩ := hap
      rw [hll] at hv hi
      cases hv
      have c0 : wr.cell? ⟨g, o, none⟩ = some (.int .i64 x') := (hcell 0 _ rfl).1
      have c1' := (hcell 1 _ rfl).1
      have c2 := (hcell 2 _ rfl).1
      have hbx := below_fresh wr (.cells #[.int .i64 x', .int .i64 m', .slice da dl dc] 45)
      have hpx := PBox.fresh wr x' m' (.slice da dl dc)
      obtain ⟨wx, hwx⟩ : ∃ wx, wr.alloc (.cells #[.int .i64 x', .int .i64 m', .slice da dl dc] 45) = wx := ⟨_, rfl⟩
      rw [hwx] at hbx hpx
      have HCC := Lib.hid (gCloneC (.slice da dl dc) cs wx ((t3.below hb.out).below hbx) (HCL.out _ (List.mem_of_getElem? hk2)))
      have HWX := Lib.hid hwx
      have HBX := Lib.hid (bnext hb.out hbx)
      have HOX := Lib.hid (ho.out.below hbx)
      have HNX := Lib.hid (hn.out.below hbx)
      have HI := Lib.hid hi
      have HTK := Lib.hid (take_snocF hk2)
      obtain ⟨p0, p1, p2⟩ := hpx
      have HKK := Lib.hid hkk
      have HLL := Lib.hid hll
      clear hbx hwx ho hn hb hk2 hq2 t3 hkk hll hcell
      go_wp2_with fail
      rw [HWX.out]
      refine HCC.out.mono ?_
      rintro e w2 ⟨v2, rfl, ho2, hb2⟩
      obtain ⟨a2, c2', rfl, _, _⟩ := ho2.rd.shape
      have hap := (HOX.out.below hb2).at_put proE HKK.out
      obtain ⟨g', o', aa, cc, hv, hi2, hg1', hg2', hcell, hput⟩ := hap
      rw [HLL.out] at hv hi2 hput
      cases hv
      have he := (hi w2).symm.trans (hi2 w2)
      have hgg : g = g' ∧ o = o' := by
        injection he with h1 h2
        injection h1 with h1
        injection h1 with h1
        injection h1 with h1 h3
        exact ⟨h1, h3⟩
      obtain ⟨rfl, rfl⟩ := hgg
      have d2 := hcell 2 _ rfl
      obtain ⟨d2, f2⟩ := d2
      obtain ⟨ho3, hb3, hk3⟩ := hput 2 (x', m', a2, cs.length, c2') (.slice a2 cs.length c2') (by decide) rfl
      have HO3 := Lib.hid (show OwnQ w.heap.size (w2.setCell ⟨g, o + 2, none⟩ (.slice a2 cs.length c2')) (.slice a1 fs.length c1) ((ns ++ [(x', m', a2, cs.length, c2')]) ++ qs.drop (k + 1)) by
        rw [hqd.out, set_mid hns.out] at ho3; exact ho3)
      have HN3 := Lib.hid (show TelO w.heap.size (w2.setCell ⟨g, o + 2, none⟩ (.slice a2 cs.length c2')) (ns ++ [(x', m', a2, cs.length, c2')]) (fs.take (k + 1)) by
        rw [HTK.out]
        exact TelO.snoc ⟨rfl, rfl, ownG_keep (ho2.mono HBX.out.size) hk3 (by decide)⟩ ((HNX.out.below hb2).keep hk3))
      have HB3 := Lib.hid ((HBX.out.trans (hb2.mono HBX.out.size)).trans hb3)
      have HNS := Lib.hid (show (ns ++ [(x', m', a2, cs.length, c2')]).length = k + 1 by rw [List.length_append, hns.out]; rfl)
      clear hi2 hcell hput ho3 hb3 hk3 HOX HNX HBX HWX HCC p0 p1 p2 c0 c1' c2 he ho2 hb2 HI HTK HKK HLL hns hqd
      go_wp2
      go_roundw
      case rel => exact ⟨k + 1, _, by omega, by go_num, HNS, HO3, HN3, HB3⟩
      case measure => simp [intOf]; omega
    · have hq : ¬ ((k : Int) < (fs.length : Int)) := by omega
      obtain rfl : k = fs.length := by omega
      have hfin : RdF wr (.slice a1 fs.length c1) fs := by
        have h1 := ho.out
        have h2 := hn.out
        rw [List.drop_of_length_le (by rw [HLEN.out]; exact Nat.le_refl _), List.append_nil] at h1
        rw [List.take_length] at h2
        exact ⟨ns, h1.rd, h2.rd⟩
      have HF := Lib.hid hfin
      clear ho hn hfin
      go_wp2
      go_ret
      exact ⟨_, rfl, HF.out, hb.out⟩

end Go.Proofs.Ytacbpphhkkmelaa
