/-
  The calls of the reference's Beyond and of the laws' Some. Conditions: what comes in reads; for Some: the updates are valid.
  The calls of the reference's updates and DecodeState. Conditions: the bytes read.
  The call of the reference's Merge: what the plain mathematics says. Conditions: what comes in reads; the state is valid.
  The call of the laws' Some: a part of the state. Conditions: what comes in reads; the updates are valid.
-/
import Derived.Test.YtdfablboenfblaaDoorQYA
import Derived.Test.YtdfablboenfblaaDoorQSM1
import Derived.Test.YtdfablboenfblaaDoorQKI
import Derived.Test.YtdfablboenfblaaDoorQUR
import Derived.Test.YtdfablboenfblaaDoorQKE
import Derived.Deep.LoopGhost
import Derived.Deep.RegionHeld3
import Derived.Test.YtdfablboenfblaaDoorQSR2
namespace Go.Proofs.YtdfablboenfblaaDoor.ST
open Go.RowKit Go.Joins
open UM (Ef)
open SM (Fp)
open VM (Ent)

end Go.Proofs.YtdfablboenfblaaDoor.ST
namespace Go.Proofs.YtdfablboenfblaaDoor.SM
theorem beyAll_snoc (l : List Fp) (f : Fp) (g : Int → Int) : SM.beyAll (l ++ [f]) g = SM.beyAll l g ++ if g f.1 < f.2.1 then [f] else [] := by
  unfold SM.beyAll
  rw [List.filter_append]
  by_cases h : g f.1 < f.2.1
  · rw [if_pos h, List.filter_cons_of_pos (by simpa using h)]; rfl
  · rw [if_neg h, List.filter_cons_of_neg (by simpa using h)]; rfl
theorem bey_hit {fs : List Fp} {k : Nat} {f : Fp} {g : Int → Int} {n : Int} (hk : fs[k]? = some f) (hf : g f.1 < f.2.1) (h : (SM.beyAll (fs.take k) g).length = n.toNat) : SM.bey fs g n = (SM.beyAll (fs.take k) g, true) := by
  have hlt : k < fs.length := (List.getElem?_eq_some_iff.1 hk).1
  have hd : fs.drop k = f :: fs.drop (k + 1) := by
    rw [List.drop_eq_getElem_cons hlt]
    have := (List.getElem?_eq_some_iff.1 hk).2
    rw [this]
  have e : SM.beyAll fs g = SM.beyAll (fs.take k) g ++ (f :: SM.beyAll (fs.drop (k + 1)) g) := by
    have h1 : SM.beyAll fs g = SM.beyAll (fs.take k) g ++ SM.beyAll (fs.drop k) g := by
      unfold SM.beyAll
      rw [← List.filter_append, List.take_append_drop]
    rw [h1, hd]
    congr 1
    unfold SM.beyAll
    rw [List.filter_cons_of_pos (by simpa using hf)]
  show (_, _) = _
  rw [e, ← h]
  refine Prod.ext ?_ ?_
  · exact List.take_left'  rfl
  · exact decide_eq_true (by rw [List.length_append, List.length_cons]; omega)
theorem bey_end {fs : List Fp} {g : Int → Int} {n : Int} (h : (SM.beyAll fs g).length ≤ n.toNat) : SM.bey fs g n = (SM.beyAll fs g, false) := by
  show (_, _) = _
  refine Prod.ext ?_ ?_
  · exact List.take_of_length_le h
  · exact decide_eq_false (by omega)
theorem rs_snoc (l : List Fp) (f : Fp) (g : Int → Int) : SM.rs (l ++ [f]) g = SM.rs l g ++ if f.2.1 ≤ g f.1 then [f] else [] := by
  unfold SM.rs
  rw [List.filter_append]
  by_cases h : f.2.1 ≤ g f.1
  · rw [if_pos h, List.filter_cons_of_pos (by simpa using h)]; rfl
  · rw [if_neg h, List.filter_cons_of_neg (by simpa using h)]; rfl
end Go.Proofs.YtdfablboenfblaaDoor.SM
namespace Go.Proofs.YtdfablboenfblaaDoor.ST
open Go.RowKit Go.Joins
open UM (Ef)
open SM (Fp)
open VM (Ent)

set_option maxRecDepth 100000 in
set_option maxHeartbeats 4000000 in
theorem rBeyond (va vb : Value) (fs : List Fp) (vs : List Ent) (n : Int) (w : World) (h : RdF w va fs) (hb : VX.RdV w vb vs) (hl : fs.length ≤ 1000) :
    Calls Tryd.prog 34 #[va, vb, .int .i64 n] w fun e w' => ∃ v', e = .returned (.tuple #[v', .bool (SM.bey fs (VM.cnt vs) n).2]) ∧ RdF w' v' (SM.bey fs (VM.cnt vs) n).1 ∧ Below w.heap.size w w' := by
  obtain ⟨ad, cp, rfl, hc, _⟩ := h.shape
  have H := Lib.hid h
  have HL := Lib.hid hl
  have HG := Lib.hid (fun x w' (hh : Below w.heap.size w w') => VX.rCount vb vs x w' (hb.below hh))
  clear h hl hb
  go_enter Tryd.func34, Tryd.ntmps34
  go_wp2
  go_loopw [8, 9] (fun u i wr => ∃ k : Nat, k ≤ fs.length ∧ i = .int .i64 k ∧ Hid ((SM.beyAll (fs.take k) (VM.cnt vs)).length ≤ n.toNat) ∧ Hid (OwnF w w.heap.size wr u (SM.beyAll (fs.take k) (VM.cnt vs))) ∧ Hid (Below w.heap.size w wr)) (fun _ i _ => fs.length - (intOf i).toNat)
  case atStart => exact ⟨0, Nat.zero_le _, rfl, Nat.zero_le _, OwnF.nil _ _ _, Below.refl _ _⟩
  case round =>
    obtain ⟨k, hk, rfl, hn, ho, hbl⟩ := hrel
    by_cases hlt : k < fs.length
    · have hq : (k : Int) < (fs.length : Int) := by omega
      have hk2 := List.getElem?_eq_getElem hlt
      generalize fs[k] = f at hk2
      have hnext := SM.beyAll_snoc (fs.take k) f (VM.cnt vs)
      rw [← take_snocF hk2] at hnext
      have hhit := SM.bey_hit (g := VM.cnt vs) (n := n) hk2
      obtain ⟨x, m, t, cs⟩ := f
      simp only at hnext hhit
      obtain ⟨b, o, da, dl, dc, hi, hbw, c0, c1, c2, c3, hrd⟩ := H.out.at_ k x m t cs hk2
      have HT1 := Lib.hid (show Tell1 w (x, m, t, da, dl, dc) (x, m, t, cs) from ⟨rfl, rfl, rfl, hrd⟩)
      have c0 := below_cell hbl.out c0
      have c1 := below_cell hbl.out c1
      have c2 := below_cell hbl.out c2
      have c3 := below_cell hbl.out c3
      have k0 : ∀ p : Later wr, p.val.cell? ⟨b, o, none⟩ = some (.int .i64 x) := fun p => below_cell p.h c0
      have k1 : ∀ p : Later wr, p.val.cell? ⟨b, o + 1, none⟩ = some (.int .i64 m) := fun p => below_cell p.h c1
      have hG : ∀ p : Later wr, Calls Tryd.prog 49 #[vb, .int .i64 x] p.val fun e w'' => e = .returned (.int .i64 (VM.cnt vs x)) ∧ ∃ q : Later wr, w'' = q.val := fun p => by
        refine (HG.out x p.val (bnext hbl.out p.h)).mono ?_
        rintro e w'' ⟨rfl, rfl⟩
        exact ⟨rfl, p, rfl⟩
      obtain ⟨U, hU⟩ : ∃ U, U = SM.beyAll (fs.take k) (VM.cnt vs) := ⟨_, rfl⟩
      rw [← hU] at hn ho hnext hhit
      obtain ⟨N, hN⟩ : ∃ N, N = VM.cnt vs x := ⟨_, rfl⟩
      rw [← hN] at hG hnext hhit
      have HGC := Lib.hid hG
      have HNX := Lib.hid hnext
      have HHT := Lib.hid hhit
      obtain ⟨uq, hu1, hu2, hu3⟩ := ho.out.out
      have hlu : uq.length ≤ 1073741824 := by
        have h1 : U.length ≤ (fs.take k).length := by rw [hU]; exact List.length_filter_le _ _
        rw [List.length_take] at h1
        have := HL.out
        omega
      obtain ⟨au, cu, rfl, hcu, hcu2⟩ := hu1.rd.shape
      have HTU := Lib.hid hu2
      have HU1 := Lib.hid hu1
      have HUL := Lib.hid hu3
      have HBL := Lib.hid hbl.out
      have HN1 := Lib.hid hn.out
      clear hnext hhit hG hk2 hrd ho hbl hU hN hn hu1 hu2 hu3
      go_wp2
      by_cases hm : N < m
      · have hm' : ¬ m ≤ N := by omega
        refine wp_region_later (by kernel_rfl) (by kernel_rfl) ?_
        repeat (go_big_quiet_step (first | (go_at_call 49; with_reducible exact HGC.out _)))
        refine wpQuiet_nil ?_
        rintro _ ⟨p', rfl⟩
        have hu2 := HU1.out.below p'.h
        have HB2 := Lib.hid (bnext HBL.out p'.h)
        have c0 := k0 p'
        have c1 := k1 p'
        have c2 := below_cell p'.h c2
        have c3 := below_cell p'.h c3
        generalize p'.val = w2 at hu2 HB2 c0 c1 c2 c3 ⊢
        clear k0 k1 HGC HU1 HBL
        by_cases hz : n ≤ (uq.length : Int)
        · have HF := Lib.hid (HHT.out hm (by have := HN1.out; have := HUL.out; omega))
          have HR := Lib.hid (show RdF w2 (.slice au uq.length cu) U from ⟨uq, hu2.rd, HTU.out.below HB2.out⟩)
          clear HHT HNX hu2
          go_wp2
          go_ret2
          rw [HF.out]
          exact ⟨_, rfl, HR.out, HB2.out⟩
        · have HNX2 := Lib.hid (HNX.out.trans (by rw [if_pos hm]))
          have hsz := HB2.out.size
          have HN2 := Lib.hid (show (U ++ [(x, m, t, cs)]).length ≤ n.toNat by rw [List.length_append, List.length_singleton]; have := HUL.out; omega)
          clear HHT HNX
          go_wp2_with (at_builtin; refine wp_appG1' setE (x, m, t, da, dl, dc) _ rfl rfl _ _ rfl rfl hu2 rfl hlu hsz ?_)
          intro v3 w3 ho3 hb3 _
          have HO3 := Lib.hid (show OwnF w w.heap.size w3 v3 (SM.beyAll (fs.take (k + 1)) (VM.cnt vs)) by rw [HNX2.out]; exact OwnF.snoc ho3 HTU.out HT1.out)
          have HB3 := Lib.hid (HB2.out.trans hb3)
          have HN3 := Lib.hid (show (SM.beyAll (fs.take (k + 1)) (VM.cnt vs)).length ≤ n.toNat by rw [HNX2.out]; exact HN2.out)
          clear ho3 hb3 hu2 HTU HT1 c0 c1 c2 c3 HB2 hsz HNX2 HN2
          go_wp2
          go_roundw
          case rel => exact ⟨k + 1, by omega, by go_num, HN3, HO3, HB3⟩
          case measure => simp [intOf]; omega
      · have hm' : m ≤ N := by omega
        have HNX2 := Lib.hid (HNX.out.trans (by rw [if_neg hm, List.append_nil]))
        clear HNX HHT
        refine wp_region_later (by kernel_rfl) (by kernel_rfl) ?_
        repeat (go_big_quiet_step (first | (go_at_call 49; with_reducible exact HGC.out _)))
        refine wpQuiet_nil ?_
        rintro _ ⟨p', rfl⟩
        have HO3 := Lib.hid (show OwnF w w.heap.size p'.val (.slice au uq.length cu) (SM.beyAll (fs.take (k + 1)) (VM.cnt vs)) by rw [HNX2.out]; exact ⟨uq, HU1.out.below p'.h, HTU.out⟩)
        have HB3 := Lib.hid (bnext HBL.out p'.h)
        have HN3 := Lib.hid (show (SM.beyAll (fs.take (k + 1)) (VM.cnt vs)).length ≤ n.toNat by rw [HNX2.out]; exact HN1.out)
        generalize p'.val = w3 at HO3 HB3 ⊢
        clear k0 k1 HGC HNX2 HU1 HTU HBL
        go_wp2
        go_roundw
        case rel => exact ⟨k + 1, by omega, by go_num, HN3, HO3, HB3⟩
        case measure => simp [intOf]; omega
    · have hq : ¬ ((k : Int) < (fs.length : Int)) := by omega
      obtain rfl : k = fs.length := by omega
      rw [List.take_length] at ho hn
      have HF := Lib.hid (SM.bey_end hn.out)
      have HR := Lib.hid (ho.out.rd hbl.out)
      go_wp2
      go_ret2
      rw [HF.out]
      exact ⟨_, rfl, HR.out, hbl.out⟩

end Go.Proofs.YtdfablboenfblaaDoor.ST

namespace Go.Proofs.YtdfablboenfblaaDoor.ST
open Go.RowKit Go.Joins
open UM (Ef)
open SM (Fp)
open WM (enc dec Bytes)

set_option maxRecDepth 100000 in
set_option maxHeartbeats 1000000 in
theorem rUpdatesE (v : Value) (xs : List Int) (w : World) (h : Rd w v xs) (e0 : Int) (he : e0 ≠ 0) (hd : dec 0 0 xs = (0, 0, e0)) :
    Calls Tryd.prog 70 #[v] w fun e w' => e = .returned (.tuple #[.slice none 0 0, .int .i64 0, .int .i64 e0]) ∧ w = w' := by
  have hU := rNumber v xs w h
  rw [show JM.num xs = (0, 0, e0) by unfold JM.num; rw [hd]; simp only [ne_eq]; rw [if_pos he]] at hU
  have HU := Lib.hid hU
  have hne : (e0 != 0) = true := bne_t he
  clear hU hd he h
  go_enter Tryd.func70, Tryd.ntmps70
  go_wp2_with fail
  refine HU.out.mono ?_
  rintro e' w1 ⟨rfl, rfl⟩
  go_wp2
  go_ret3
  exact ⟨rfl, rfl⟩

set_option maxRecDepth 100000 in
set_option maxHeartbeats 4000000 in
theorem rUpdates (v : Value) (xs : List Int) (w : World) (h : Rd w v xs) (N u0 : Nat) (hN : N ≤ 48) (hl : u0 ≤ xs.length) (hd : dec 0 0 xs = ((N : Int), (u0 : Int), 0)) :
    Calls Tryd.prog 70 #[v] w fun e w' => ∃ v', e = .returned (.tuple #[v', .int .i64 ((SM.rest xs N [] u0).2.1 : Int), .int .i64 (SM.rest xs N [] u0).1]) ∧ RdF w' v' (SM.rest xs N [] u0).2.2 ∧ Below w.heap.size w w' := by
  obtain ⟨va, vc, rfl, hvc⟩ := h.shape
  have hby := h.bytes
  have hU := rNumber (.slice va xs.length vc) xs w h
  have hn31 : ¬ (2147483647 : Int) < (N : Int) := by omega
  rw [show JM.num xs = ((N : Int), (u0 : Int), 0) by unfold JM.num; rw [hd]; simp [hn31]] at hU
  obtain ⟨R, hR⟩ : ∃ R, R = SM.rest xs N [] u0 := ⟨_, rfl⟩
  rw [← hR]
  have H := Lib.hid h
  have HU := Lib.hid hU
  have HR := Lib.hid hR
  have hq9 : ¬ (48 : Int) < (N : Int) := by omega
  have HL := Lib.hid hl
  have HBY := Lib.hid hby
  clear hd hR hl hN hby hU h hn31
  go_enter Tryd.func70, Tryd.ntmps70
  go_wp2_with fail
  refine HU.out.mono ?_
  rintro e' w1 ⟨rfl, rfl⟩
  clear HU
  go_wp2
  go_loopw [6, 8, 9] (fun us c i wr => ∃ (k uu : Nat) (qs : List Up) (U : List Fp), k ≤ N ∧ i = .int .i64 k ∧ us = .int .i64 uu ∧ Hid (uu ≤ xs.length) ∧ Hid (U.length ≤ k) ∧ Hid (OwnUp w.heap.size wr c qs) ∧ Hid (TelO w.heap.size wr qs U) ∧ Hid (Below w.heap.size w wr) ∧ Hid (R = SM.rest xs (N - k) U uu)) (fun _ _ i _ => N - (intOf i).toNat)
  case atStart => exact ⟨0, u0, [], [], Nat.zero_le _, rfl, rfl, HL.out, Nat.le_refl _, OwnG.nil hlUp _ _ _, trivial, Below.refl _ _, HR.out⟩
  case round =>
    obtain ⟨k, uu, qs, U, hk, rfl, rfl, huu, hul, ho, ht, hbl, he⟩ := hrel
    clear HR HL
    obtain ⟨c1, c2, rfl, hc2, _⟩ := ho.out.rd.shape
    have HQF := Lib.hid ht.out.rd.len
    by_cases hlt : k < N
    · have hq : (k : Int) < (N : Int) := by omega
      obtain ⟨v2, hcut, hrd⟩ := (H.out.below hbl.out).cutL uu huu.out
      have hD := rDecodeUO v2 _ wr hrd
      have hus := UM.decU_used (xs := xs.drop uu) (fun c hc => HBY.out c (List.mem_of_mem_drop hc))
      have hrs := SM.rest_succ xs (N - (k + 1)) U uu
      rw [show N - (k + 1) + 1 = N - k by omega] at hrs
      have e1 := he.out
      rw [hrs] at e1
      rw [List.length_drop] at hus
      generalize UM.decU (xs.drop uu) = d at hD hus e1
      obtain ⟨er, used, ⟨a, n, t⟩, cs⟩ := d
      simp only at hD hus e1
      have HD := Lib.hid hD
      have HUS := Lib.hid hus
      have hxl : xs.length ≤ 9223372036854775807 := by
        obtain ⟨_, n', _, hv, h1, h2, h3, _⟩ := H.out
        unfold maxLen at h3
        omega
      have hw1 : (uu : Int) + (used : Int) ≤ 9223372036854775807 := by have := huu.out; omega
      clear he hrs hD hus hrd
      by_cases hE : er = 0
      · subst hE
        have E1 := Lib.hid (show R = SM.rest xs (N - (k + 1)) (U ++ [(a, n, t, cs)]) (uu + used) by rw [e1, if_neg (by simp)])
        clear e1
        go_wp2_with fail
        refine HD.out.mono ?_
        rintro e w2 ⟨sv, rfl, hos, hb2⟩
        obtain ⟨sa, sc, rfl, _, _⟩ := hos.rd.shape
        have hbx := below_fresh w2 (.cells #[.int .i64 a, .int .i64 n, .int .i64 t, .slice sa cs.length sc] 43)
        have HWS := Lib.hid (World.size_alloc w2 (.cells #[.int .i64 a, .int .i64 n, .int .i64 t, .slice sa cs.length sc] 43))
        have hox := (ho.out.below hb2).below hbx
        have HTX := Lib.hid (TelO.snoc (f := (a, n, t, cs)) (q := (a, n, t, sa, cs.length, sc)) ⟨rfl, rfl, rfl, (OwnG.below (OwnG.mono hos hbl.out.size) hbx)⟩ ((ht.out.below hb2).below hbx))
        have HBX := Lib.hid (bnext (bnext hbl.out hb2) hbx)
        have hsx := HBX.out.size
        have hlq : qs.length ≤ 1073741824 := by have := hul.out; have := HQF.out; omega
        have HUL := Lib.hid (show (U ++ [(a, n, t, cs)]).length ≤ k + 1 by rw [List.length_append]; have := hul.out; simp; omega)
        have HUU := Lib.hid (show uu + used ≤ xs.length by have := HUS.out; have := huu.out; omega)
        clear hbx hos hb2 ho ht hbl HD HUS hul
        go_wp2_with (at_builtin; refine wp_appG1' upE (a, n, t, sa, cs.length, sc) _ HWS.out rfl _ _ rfl rfl hox rfl hlq hsx ?_)
        intro v3 w3 ho3 hb3 hk3
        have HO3 := Lib.hid ho3
        have HB3 := Lib.hid (HBX.out.trans hb3)
        have HT3 := Lib.hid (HTX.out.keep hk3)
        clear ho3 hb3 hk3 hox HTX HBX hsx hlq HWS
        go_wp2
        go_roundw
        case rel => exact ⟨k + 1, uu + used, _, _, by omega, by go_num, by go_num, HUU, HUL, HO3, HT3, HB3, E1⟩
        case measure => simp [intOf]; omega
      · have E1 := Lib.hid (show R = (er, 0, []) by rw [e1, if_pos hE])
        have hne : (er != 0) = true := bne_t hE
        clear e1 hE
        go_wp2_with fail
        refine HD.out.mono ?_
        rintro e w2 ⟨sv, rfl, hos, hb2⟩
        obtain ⟨sa, sc, rfl, _, _⟩ := hos.rd.shape
        have HB2 := Lib.hid (bnext (bnext hbl.out hb2) (below_fresh w2 (.cells #[.int .i64 a, .int .i64 n, .int .i64 t, .slice sa cs.length sc] 43)))
        clear hos hb2 HD ho ht hbl
        go_wp2
        go_ret3
        exact ⟨_, by rw [E1.out]; rfl, by rw [E1.out]; exact RdF.nil _, HB2.out⟩
    · have hq : ¬ ((k : Int) < (N : Int)) := by omega
      obtain rfl : k = N := by omega
      have E1 := Lib.hid (show R = (0, uu, U) by rw [he.out, Nat.sub_self, SM.rest])
      have HF := Lib.hid (show RdF wr (.slice c1 qs.length c2) U from ⟨qs, ho.out.rd, ht.out.rd⟩)
      clear he ho ht
      go_wp2
      go_ret3
      exact ⟨_, by rw [E1.out]; rfl, by rw [E1.out]; exact HF.out, hbl.out⟩

set_option maxRecDepth 100000 in
set_option maxHeartbeats 4000000 in
theorem rDecodeS (v : Value) (xs : List Int) (w : World) (h : Rd w v xs) :
    Calls Tryd.prog 41 #[v] w fun e w' => ∃ v', e = .returned (.tuple #[v', .int .i64 ((SM.decL xs).2.1 : Int), .int .i64 (SM.decL xs).1]) ∧ RdF w' v' (SM.decL xs).2.2 ∧ Below w.heap.size w w' := by
  obtain ⟨va, vc, rfl, hvc⟩ := h.shape
  have hby := h.bytes
  have hU := rUint (.slice va xs.length vc) xs w h
  obtain ⟨R, hR⟩ : ∃ R, R = SM.decL xs := ⟨_, rfl⟩
  rw [← hR]
  rcases SM.dec_num hby with ⟨e0, he, hd⟩ | ⟨N, hN, hd, hl⟩
  · rw [hd] at hU
    have HR := Lib.hid (show R = (e0, 0, []) by rw [hR, SM.decL, hd, if_pos he])
    have HP := Lib.hid (rUpdatesE (.slice va xs.length vc) xs w h e0 he hd)
    have hne : (e0 != 0) = true := bne_t he
    have heq : (e0 == 0) = false := beq_f he
    have HU := Lib.hid hU
    clear hd hU hR he h
    go_enter Tryd.func41, Tryd.ntmps41
    go_wp2_with fail
    refine HU.out.mono ?_
    rintro e' w1 ⟨rfl, rfl⟩
    go_wp2_with fail
    refine HP.out.mono ?_
    rintro e' w1 ⟨rfl, rfl⟩
    go_wp2
    go_ret3
    exact ⟨_, by rw [HR.out]; rfl, by rw [HR.out]; exact RdF.nil _, Below.refl _ _⟩
  rw [hd] at hU
  have HU := Lib.hid hU
  clear hU
  by_cases h9 : 48 < N
  · have HR := Lib.hid (show R = (3, 0, []) by rw [hR, SM.decL, hd, if_neg (by simp), if_pos (by simp only; omega)])
    have hq9 : (48 : Int) < (N : Int) := by omega
    clear hd hR h
    go_enter Tryd.func41, Tryd.ntmps41
    go_wp2_with fail
    refine HU.out.mono ?_
    rintro e' w1 ⟨rfl, rfl⟩
    go_wp2
    go_ret3
    exact ⟨_, by rw [HR.out]; rfl, by rw [HR.out]; exact RdF.nil _, Below.refl _ _⟩
  have HR := Lib.hid (show R = SM.finL (SM.rest xs N [] (enc N).length) by rw [hR, SM.decL, hd, if_neg (by simp), if_neg (by simp only; omega)]; rfl)
  have hq9 : ¬ (48 : Int) < (N : Int) := by omega
  have HP := Lib.hid (rUpdates (.slice va xs.length vc) xs w h N (enc N).length (by omega) hl hd)
  generalize (enc N).length = u0 at HU HR HP
  generalize SM.rest xs N [] u0 = d at HR HP
  obtain ⟨er, uu, U⟩ := d
  simp only at HP
  clear hd hR hl hN hby h
  by_cases hE : er = 0
  · subst hE
    have e2 : R = if SM.errL (0, 0) U ≠ 0 then (SM.errL (0, 0) U, 0, []) else (0, uu, U) := by rw [HR.out, SM.finL, if_neg (by simp)]
    have hV := fun v' w' (hr : RdF w' v' U) => rValidateS v' U w' hr
    generalize SM.errL (0, 0) U = E at hV e2
    have HV := Lib.hid hV
    clear hV HR
    by_cases hE : E = 0
    · subst hE
      have E1 := Lib.hid (show R = (0, uu, U) by rw [e2, if_neg (by simp)])
      clear e2
      go_enter Tryd.func41, Tryd.ntmps41
      go_wp2_with fail
      refine HU.out.mono ?_
      rintro e' w1 ⟨rfl, rfl⟩
      go_wp2_with fail
      refine HP.out.mono ?_
      rintro e' w2 ⟨v2, rfl, hr2, hb2⟩
      have HR2 := Lib.hid hr2
      have HB2 := Lib.hid hb2
      clear hr2 hb2
      go_wp2_with fail
      refine (HV.out _ _ HR2.out).mono ?_
      rintro e w3 ⟨rfl, hb3⟩
      have HB3 := Lib.hid (bnext HB2.out hb3)
      have HR3 := Lib.hid (HR2.out.below hb3)
      clear hb3 HV HP HU
      go_wp2
      go_ret3
      exact ⟨_, by rw [E1.out]; rfl, by rw [E1.out]; exact HR3.out, HB3.out⟩
    · have E1 := Lib.hid (show R = (E, 0, []) by rw [e2, if_pos hE])
      have hne : (E != 0) = true := bne_t hE
      clear e2 hE
      go_enter Tryd.func41, Tryd.ntmps41
      go_wp2_with fail
      refine HU.out.mono ?_
      rintro e' w1 ⟨rfl, rfl⟩
      go_wp2_with fail
      refine HP.out.mono ?_
      rintro e' w2 ⟨v2, rfl, hr2, hb2⟩
      have HR2 := Lib.hid hr2
      have HB2 := Lib.hid hb2
      clear hr2 hb2
      go_wp2_with fail
      refine (HV.out _ _ HR2.out).mono ?_
      rintro e w3 ⟨rfl, hb3⟩
      have HB3 := Lib.hid (bnext HB2.out hb3)
      clear hb3 HV HP HU
      go_wp2
      go_ret3
      exact ⟨_, by rw [E1.out]; rfl, by rw [E1.out]; exact RdF.nil _, HB3.out⟩
  · have E1 := Lib.hid (show R = (er, 0, []) by rw [HR.out, SM.finL, if_pos hE])
    have hne : (er != 0) = true := bne_t hE
    clear HR hE
    go_enter Tryd.func41, Tryd.ntmps41
    go_wp2_with fail
    refine HU.out.mono ?_
    rintro e' w1 ⟨rfl, rfl⟩
    go_wp2_with fail
    refine HP.out.mono ?_
    rintro e' w2 ⟨v2, rfl, _, hb2⟩
    have HB2 := Lib.hid hb2
    clear hb2 HP HU
    go_wp2
    go_ret3
    exact ⟨_, by rw [E1.out]; rfl, by rw [E1.out]; exact RdF.nil _, HB2.out⟩

end Go.Proofs.YtdfablboenfblaaDoor.ST

namespace Go.Proofs.YtdfablboenfblaaDoor.ST
open Go.RowKit Go.Joins
open UM (Ef)
open SM (Fp)
open VM (Ent)

set_option maxRecDepth 100000 in
set_option maxHeartbeats 8000000 in
theorem rMerge (va vb : Value) (s l : List Fp) (w : World) (ha : RdF w va s) (hb : RdF w vb l) (ho : SM.Ok s) (hl : l.length ≤ 1000) :
    Calls Tryd.prog 36 #[va, vb] w fun e w' => ∃ v', e = .returned (.tuple #[v', .int .i64 (SM.mrg s l).2.1, .int .i64 (SM.mrg s l).2.2]) ∧ RdF w' v' (SM.mrg s l).1 ∧ Below w.heap.size w w' := by
  obtain ⟨l1, l2, rfl, hlc, _⟩ := hb.shape
  have HA := Lib.hid ha
  have HB := Lib.hid hb
  have HO := Lib.hid ho
  have HL := Lib.hid hl
  clear ha hb ho hl
  go_enter Tryd.func36, Tryd.ntmps36
  go_wp2
  go_loopg [0, 7, 8, 9] l.length (fun g sv a d i wr => ∃ (k A D : Nat) (T : List Fp), k + g = l.length ∧ i = .int .i64 k ∧ a = .int .i64 A ∧ d = .int .i64 D ∧ A ≤ k ∧ D ≤ k ∧ Hid (RdF wr sv T) ∧ Hid (SM.Ok T) ∧ Hid (SM.mrg s (l.take k) = (T, (A : Int), (D : Int))) ∧ Hid (Below w.heap.size w wr))
  case atStart => exact ⟨0, 0, 0, s, by omega, rfl, rfl, rfl, Nat.le_refl _, Nat.le_refl _, HA.out, HO.out, rfl, Below.refl _ _⟩
  case round =>
    obtain ⟨k, A, D, T, hk, rfl, rfl, rfl, hA, hD, hS, hT, he, hbl⟩ := hrel
    clear HA HO
    obtain ⟨s1, s2, rfl, _, _⟩ := hS.out.shape
    cases gk with
    | zero =>
      have hk' : k = l.length := by omega
      have hq : ¬ ((k : Int) < (l.length : Int)) := by omega
      have hm := he.out
      rw [hk', List.take_length] at hm
      have HMM := Lib.hid hm
      clear hm he hk'
      go_wp2
      go_ret3
      rw [HMM.out]
      exact ⟨_, rfl, hS.out, hbl.out⟩
    | succ g =>
      have hlt : k < l.length := by omega
      have hq : (k : Int) < (l.length : Int) := by omega
      have hk2 := List.getElem?_eq_getElem hlt
      generalize l[k] = f at hk2
      have hM := SM.mrg_snoc s (l.take k) f
      rw [← take_snocF hk2, he.out] at hM
      obtain ⟨x, m, t, cs⟩ := f
      obtain ⟨b, o, da, dl, dc, hi, hbw, c0, c1, c2, c3, hrd⟩ := (HB.out.below hbl.out).atS k x m t cs hk2
      have HRD := Lib.hid hrd
      have HV := Lib.hid (fun w' (hh : Below wr.heap.size wr w') => rValU x m t (.slice da dl dc) cs w' (hrd.below hh))
      have HN := Lib.hid (fun h => SM.errF_num (f := (x, m, t, cs)) h)
      have HM := Lib.hid hM
      have HC0 := Lib.hid c0
      have HC1 := Lib.hid c1
      have HC2 := Lib.hid c2
      have HC3 := Lib.hid c3
      have HBL := Lib.hid hbl.out
      clear hM hk2 hrd he hbl c0 c1 c2 c3 hbw
      by_cases hE : UM.errU x m t cs = 0
      · obtain ⟨n1, n2, n3, n4⟩ := HN.out hE
        simp only at n1 n2 n3 n4
        have HV2 := Lib.hid (fun w' (hh : Below wr.heap.size wr w') => by have := HV.out w' hh; rw [hE] at this; exact this)
        have HER := Lib.hid hE
        have h48 := hT.out.all48
        have HVEC := Lib.hid (fun w' (hh : Below wr.heap.size wr w') => rVectorOf _ T w' (hS.out.below hh) hT.out.all (by omega))
        have hvs := SM.vr_spec hT.out.all (show T.length ≤ 1000 by omega)
        have HGET := Lib.hid (fun w' v' (ho : VX.RdV w' v' (SM.vr T)) => VX.rCount v' (SM.vr T) x w' ho)
        have hcx := hvs.2.1 x
        have hcp0 := SM.ct_pos T x
        have hc3 := hT.out.ct8 x
        rw [← hcx] at hcp0 hc3
        obtain ⟨N, hN⟩ : ∃ N, N = VM.cnt (SM.vr T) x := ⟨_, rfl⟩
        rw [← hN] at HGET hcp0 hc3 hcx
        have HNC := Lib.hid hcx
        clear hcx hvs hE HN HV hN
        have hw1 : IntKind.i64.wrap (N + 1) = N + 1 := IntWalk.i64_in _ (by omega)
        go_wp2
        refine wp_region_held_drew (S := fun w' => Below wr.heap.size wr w') (by kernel_rfl) ((Below.refl _ _).drew) (fun ha => ?_)
        replace ha : Below wr.heap.size wr wr.drew := (Below.refl _ _).drew
        generalize wr.drew = wa at ha ⊢
        refine takeH (i := 0) (v := ?_) rfl (by kernel_rfl) (by kernel_rfl) (by kernel_rfl) (fun _ _ _ h => h) (Or.inl ⟨by rfl, ?_⟩) (by assumption) ?_
        rotate_left
        · (intro w hSw; (try dsimp only at hSw); go_simp; first | done | with_reducible rfl)
        (try simp only [Act.put, List.setIfInBounds_toArray, List.set_cons_zero, List.set_cons_succ])
        refine takeH (i := 1) (v := ?_) rfl (by kernel_rfl) (by kernel_rfl) (by kernel_rfl) (fun _ _ _ h => h) (Or.inl ⟨by rfl, ?_⟩) (by assumption) ?_
        rotate_left
        · (intro w hSw; (try dsimp only at hSw); go_simp; first | done | with_reducible rfl)
        (try simp only [Act.put, List.setIfInBounds_toArray, List.set_cons_zero, List.set_cons_succ])
        refine takeH (i := 2) (v := ?_) rfl (by kernel_rfl) (by kernel_rfl) (by kernel_rfl) (fun _ _ _ h => h) (Or.inl ⟨by rfl, ?_⟩) (by assumption) ?_
        rotate_left
        · (intro w hSw; (try dsimp only at hSw); go_simp; first | done | with_reducible rfl)
        (try simp only [Act.put, List.setIfInBounds_toArray, List.set_cons_zero, List.set_cons_succ])
        refine takeH (i := 3) (v := ?_) rfl (by kernel_rfl) (by kernel_rfl) (by kernel_rfl) (fun _ _ _ h => h) (Or.inl ⟨by rfl, ?_⟩) (by assumption) ?_
        rotate_left
        · (intro w hSw; (try dsimp only at hSw); have d0 := below_cell hSw HC0.out ; have d1 := below_cell hSw HC1.out ; have d2 := below_cell hSw HC2.out ; have d3 := below_cell hSw HC3.out; go_simp; first | done | with_reducible rfl)
        (try simp only [Act.put, List.setIfInBounds_toArray, List.set_cons_zero, List.set_cons_succ])
        refine wpAnyH_ready (rs := [4]) (by kernel_rfl) (by simp) ?_
        refine stepH rfl (fun K hK => ?_) AllReadyH.nil
        go_simp
        refine (HV2.out wa ha).mono ?_
        rintro e wb ⟨rfl, hq⟩
        have hb := bnext ha hq
        go_wp2_with fail
        refine hK.out _ _ (hb) (fun _ => ?_)
        clear hK K
        (try simp only [Act.put, List.setIfInBounds_toArray, List.set_cons_zero, List.set_cons_succ])
        refine takeH (i := 5) (v := ?_) rfl (by kernel_rfl) (by kernel_rfl) (by kernel_rfl) (fun _ _ _ h => h) (Or.inl ⟨by rfl, ?_⟩) (by assumption) ?_
        rotate_left
        · (intro w hSw; (try dsimp only at hSw); go_simp; first | done | with_reducible rfl)
        (try simp only [Act.put, List.setIfInBounds_toArray, List.set_cons_zero, List.set_cons_succ])
        refine takeH (i := 6) (v := ?_) rfl (by kernel_rfl) (by kernel_rfl) (by kernel_rfl) (fun _ _ _ h => h) (Or.inl ⟨by rfl, ?_⟩) (by assumption) ?_
        rotate_left
        · (intro w hSw; (try dsimp only at hSw); go_simp; first | done | with_reducible rfl)
        (try simp only [Act.put, List.setIfInBounds_toArray, List.set_cons_zero, List.set_cons_succ])
        refine takeH (i := 7) (v := ?_) rfl (by kernel_rfl) (by kernel_rfl) (by kernel_rfl) (fun _ _ _ h => h) (Or.inl ⟨by rfl, ?_⟩) (by assumption) ?_
        rotate_left
        · (intro w hSw; (try dsimp only at hSw); go_simp; first | done | with_reducible rfl)
        (try simp only [Act.put, List.setIfInBounds_toArray, List.set_cons_zero, List.set_cons_succ])
        refine takeH (i := 8) (v := ?_) rfl (by kernel_rfl) (by kernel_rfl) (by kernel_rfl) (fun _ _ _ h => h) (Or.inl ⟨by rfl, ?_⟩) (by assumption) ?_
        rotate_left
        · (intro w hSw; (try dsimp only at hSw); go_simp; first | done | with_reducible rfl)
        (try simp only [Act.put, List.setIfInBounds_toArray, List.set_cons_zero, List.set_cons_succ])
        refine takeH (i := 9) (v := ?_) rfl (by kernel_rfl) (by kernel_rfl) (by kernel_rfl) (fun _ _ _ h => h) (Or.inl ⟨by rfl, ?_⟩) (by assumption) ?_
        rotate_left
        · (intro w hSw; (try dsimp only at hSw); go_simp; first | done | with_reducible rfl)
        (try simp only [Act.put, List.setIfInBounds_toArray, List.set_cons_zero, List.set_cons_succ])
        refine takeH (i := 10) (v := ?_) rfl (by kernel_rfl) (by kernel_rfl) (by kernel_rfl) (fun _ _ _ h => h) (Or.inl ⟨by rfl, ?_⟩) (by assumption) ?_
        rotate_left
        · (intro w hSw; (try dsimp only at hSw); go_simp; first | done | with_reducible rfl)
        (try simp only [Act.put, List.setIfInBounds_toArray, List.set_cons_zero, List.set_cons_succ])
        refine takeH (i := 11) (v := ?_) rfl (by kernel_rfl) (by kernel_rfl) (by kernel_rfl) (fun _ _ _ h => h) (Or.inl ⟨by rfl, ?_⟩) (by assumption) ?_
        rotate_left
        · (intro w hSw; (try dsimp only at hSw); have d1 := below_cell hSw HC1.out; go_simp; first | done | with_reducible rfl)
        (try simp only [Act.put, List.setIfInBounds_toArray, List.set_cons_zero, List.set_cons_succ])
        refine takeH (i := 12) (v := ?_) rfl (by kernel_rfl) (by kernel_rfl) (by kernel_rfl) (fun _ _ _ h => h) (Or.inl ⟨by rfl, ?_⟩) (by assumption) ?_
        rotate_left
        · (intro w hSw; (try dsimp only at hSw); go_simp; first | done | with_reducible rfl)
        (try simp only [Act.put, List.setIfInBounds_toArray, List.set_cons_zero, List.set_cons_succ])
        refine takeH (i := 14) (v := ?_) rfl (by kernel_rfl) (by kernel_rfl) (by kernel_rfl) (fun _ _ _ h => h) (Or.inl ⟨by rfl, ?_⟩) (by assumption) ?_
        rotate_left
        · (intro w hSw; (try dsimp only at hSw); go_simp; first | done | with_reducible rfl)
        (try simp only [Act.put, List.setIfInBounds_toArray, List.set_cons_zero, List.set_cons_succ])
        refine takeH (i := 15) (v := ?_) rfl (by kernel_rfl) (by kernel_rfl) (by kernel_rfl) (fun _ _ _ h => h) (Or.inl ⟨by rfl, ?_⟩) (by assumption) ?_
        rotate_left
        · (intro w hSw; (try dsimp only at hSw); go_simp; first | done | with_reducible rfl)
        (try simp only [Act.put, List.setIfInBounds_toArray, List.set_cons_zero, List.set_cons_succ])
        refine takeH (i := 16) (v := ?_) rfl (by kernel_rfl) (by kernel_rfl) (by kernel_rfl) (fun _ _ _ h => h) (Or.inl ⟨by rfl, ?_⟩) (by assumption) ?_
        rotate_left
        · (intro w hSw; (try dsimp only at hSw); go_simp; first | done | with_reducible rfl)
        (try simp only [Act.put, List.setIfInBounds_toArray, List.set_cons_zero, List.set_cons_succ])
        refine takeH (i := 17) (v := ?_) rfl (by kernel_rfl) (by kernel_rfl) (by kernel_rfl) (fun _ _ _ h => h) (Or.inl ⟨by rfl, ?_⟩) (by assumption) ?_
        rotate_left
        · (intro w hSw; (try dsimp only at hSw); go_simp; first | done | with_reducible rfl)
        (try simp only [Act.put, List.setIfInBounds_toArray, List.set_cons_zero, List.set_cons_succ])
        refine takeH (i := 18) (v := ?_) rfl (by kernel_rfl) (by kernel_rfl) (by kernel_rfl) (fun _ _ _ h => h) (Or.inl ⟨by rfl, ?_⟩) (by assumption) ?_
        rotate_left
        · (intro w hSw; (try dsimp only at hSw); have d0 := below_cell hSw HC0.out; go_simp; first | done | with_reducible rfl)
        (try simp only [Act.put, List.setIfInBounds_toArray, List.set_cons_zero, List.set_cons_succ])
        refine wpAnyH_ready (rs := [13]) (by kernel_rfl) (by simp) ?_
        refine stepH rfl (fun K hK => ?_) AllReadyH.nil
        go_simp
        refine (HVEC.out wb hb).mono ?_
        rintro e wc ⟨vc, rfl, hoc, hq⟩
        have hc := bnext hb hq
        go_wp2_with fail
        refine hK.out _ _ (hc) (fun _ => ?_)
        clear hK K
        (try simp only [Act.put, List.setIfInBounds_toArray, List.set_cons_zero, List.set_cons_succ])
        refine wpAnyH_ready (rs := [19]) (by kernel_rfl) (by simp) ?_
        refine stepH rfl (fun K hK => ?_) AllReadyH.nil
        go_simp
        refine (HGET.out wc vc hoc.rdV).mono ?_
        rintro e wd ⟨rfl, rfl⟩
        go_wp2_with fail
        refine hK.out _ _ (hc) (fun _ => ?_)
        clear hK K
        (try simp only [Act.put, List.setIfInBounds_toArray, List.set_cons_zero, List.set_cons_succ])
        refine takeH (i := 20) (v := ?_) rfl (by kernel_rfl) (by kernel_rfl) (by kernel_rfl) (fun _ _ _ h => h) (Or.inl ⟨by rfl, ?_⟩) (by assumption) ?_
        rotate_left
        · (intro w hSw; (try dsimp only at hSw); go_simp; first | done | with_reducible rfl)
        (try simp only [Act.put, List.setIfInBounds_toArray, List.set_cons_zero, List.set_cons_succ])
        refine takeH (i := 21) (v := ?_) rfl (by kernel_rfl) (by kernel_rfl) (by kernel_rfl) (fun _ _ _ h => h) (Or.inl ⟨by rfl, ?_⟩) (by assumption) ?_
        rotate_left
        · (intro w hSw; (try dsimp only at hSw); go_simp; first | done | with_reducible rfl)
        (try simp only [Act.put, List.setIfInBounds_toArray, List.set_cons_zero, List.set_cons_succ])
        refine takeH (i := 22) (v := ?_) rfl (by kernel_rfl) (by kernel_rfl) (by kernel_rfl) (fun _ _ _ h => h) (Or.inl ⟨by rfl, ?_⟩) (by assumption) ?_
        rotate_left
        · (intro w hSw; (try dsimp only at hSw); go_simp; first | done | with_reducible rfl)
        (try simp only [Act.put, List.setIfInBounds_toArray, List.set_cons_zero, List.set_cons_succ])
        refine takeH (i := 23) (v := ?_) rfl (by kernel_rfl) (by kernel_rfl) (by kernel_rfl) (fun _ _ _ h => h) (Or.inl ⟨by rfl, ?_⟩) (by assumption) ?_
        rotate_left
        · (intro w hSw; (try dsimp only at hSw); go_simp; first | done | with_reducible rfl)
        (try simp only [Act.put, List.setIfInBounds_toArray, List.set_cons_zero, List.set_cons_succ])
        refine wpAnyH_done (by kernel_rfl) ?_ _
        have HB3 := Lib.hid (bnext HBL.out hc)
        have H3 := Lib.hid (hS.out.below hc)
        have c0 := below_cell hc HC0.out
        have c1 := below_cell hc HC1.out
        have c2 := below_cell hc HC2.out
        have c3 := below_cell hc HC3.out
        have HRD3 := Lib.hid (HRD.out.below hc)
        clear ha hb hc hoc HVEC HGET HV2 HC0 HC1 HC2 HC3 HRD hS HBL
        obtain ⟨w3, hw3⟩ : ∃ w3, w3 = wc := ⟨_, rfl⟩
        rw [← hw3] at HB3 H3 HRD3 c0 c1 c2 c3 ⊢
        clear hw3
        by_cases hgt : N + 1 < m
        · have HMF := Lib.hid (show SM.mrg s (l.take (k + 1)) = (T, (A : Int), ((D + 1 : Nat) : Int)) from HM.out.trans (by unfold SM.mrg1; dsimp only; rw [if_pos (.inr (by have := HNC.out; omega))]; rfl))
          clear HM HNC c0 c1 c2 c3 HRD3
          go_wp2
          go_roundg g
          case measure => omega
          case rel => exact ⟨k + 1, A, D + 1, T, by omega, by go_num, rfl, by go_num, by omega, by omega, H3, hT, HMF, HB3⟩
        · have hF := rHas (.slice s1 T.length s2) T x m t da dl dc w3 H3.out
          obtain ⟨F, hFF⟩ : ∃ F, F = SM.hasK T x m := ⟨_, rfl⟩
          rw [← hFF] at hF
          have HF := Lib.hid hF
          have HFF := Lib.hid hFF
          have HNE := Lib.hid (show ¬ (SM.errF (x, m, t, cs) ≠ 0 ∨ SM.ct T x + 1 < m) by rintro (h | h); exact h HER.out; have := HNC.out; omega)
          clear hF hFF
          cases F
          · have HMF := Lib.hid (show SM.mrg s (l.take (k + 1)) = (SM.un T [(x, m, t, cs)], ((A + 1 : Nat) : Int), (D : Int)) from HM.out.trans (by unfold SM.mrg1; dsimp only; rw [if_neg HNE.out, if_neg (by rw [← HFF.out]; decide)]; rfl))
            have HOK := Lib.hid (hT.out.un_one (f := (x, m, t, cs)) HER.out (by
              have h1 : ¬ m ≤ SM.ct T x := fun h => by have := (hT.out.has x m n3).2 h; rw [← HFF.out] at this; cases this
              have h2 := HNC.out
              show m = SM.ct T x + 1
              omega))
            clear HM HNE
            go_wp2_with fail
            refine HF.out.mono ?_
            rintro e w4 ⟨rfl, hb4⟩
            have HB4 := Lib.hid (bnext HB3.out hb4)
            have H4 := Lib.hid (H3.out.below hb4)
            have HRD4 := Lib.hid (HRD3.out.below hb4)
            have c0 := below_cell hb4 c0
            have c1 := below_cell hb4 c1
            have c2 := below_cell hb4 c2
            have c3 := below_cell hb4 c3
            have hbx := below_fresh w4 (.cells #[.int .i64 x, .int .i64 m, .int .i64 t, .slice da dl dc] 43)
            have hrp : RdUp (w4.alloc (.cells #[.int .i64 x, .int .i64 m, .int .i64 t, .slice da dl dc] 43)) (.slice (some ⟨w4.heap.size, 0, none⟩) 1 1) [(x, m, t, da, dl, dc)] := (ownG_fresh hlUp 43 w4 [(x, m, t, da, dl, dc)] (by simp [maxLen])).rd
            have HU := Lib.hid (rUnion _ _ T [(x, m, t, cs)] _ (H4.out.below hbx) ⟨_, hrp, Tel.one ⟨rfl, rfl, rfl, HRD4.out.below hbx⟩⟩ (by omega) (by simp))
            have HBX := Lib.hid (bnext HB4.out hbx)
            clear hbx hrp HB4 H4 HRD4 HF HB3 H3 HRD3 hb4
            go_wp2_with fail
            refine HU.out.mono ?_
            rintro e w5 ⟨v5, rfl, hr5, hb5⟩
            have HR5 := Lib.hid hr5
            have HB5 := Lib.hid (bnext HBX.out hb5)
            clear hr5 hb5 HU HBX c0 c1 c2 c3
            go_wp2
            go_roundg g
            case measure => omega
            case rel => exact ⟨k + 1, A + 1, D, _, by omega, by go_num, by go_num, rfl, by omega, by omega, HR5, HOK, HMF, HB5⟩
          · have HMF := Lib.hid (show SM.mrg s (l.take (k + 1)) = (T, (A : Int), (D : Int)) from HM.out.trans (by unfold SM.mrg1; dsimp only; rw [if_neg HNE.out, if_pos HFF.out.symm]))
            clear HM HNE
            go_wp2_with fail
            refine HF.out.mono ?_
            rintro e w4 ⟨rfl, hb4⟩
            have HB4 := Lib.hid (bnext HB3.out hb4)
            have H4 := Lib.hid (H3.out.below hb4)
            clear HF HB3 H3 HRD3 hb4 c0 c1 c2 c3
            go_wp2
            go_roundg g
            case measure => omega
            case rel => exact ⟨k + 1, A, D, T, by omega, by go_num, rfl, rfl, by omega, by omega, H4, hT, HMF, HB4⟩
      · have HMF := Lib.hid (show SM.mrg s (l.take (k + 1)) = (T, (A : Int), ((D + 1 : Nat) : Int)) from HM.out.trans (SM.mrg1_err (f := (x, m, t, cs)) hE))
        obtain ⟨E, hEE⟩ : ∃ E, E = UM.errU x m t cs := ⟨_, rfl⟩
        rw [← hEE] at HV hE
        have hne : (E != 0) = true := bne_t hE
        clear HM hEE hE HN
        go_wp2
        refine wp_region_held_drew (S := fun w' => Below wr.heap.size wr w') (by kernel_rfl) ((Below.refl _ _).drew) (fun ha => ?_)
        replace ha : Below wr.heap.size wr wr.drew := (Below.refl _ _).drew
        generalize wr.drew = wa at ha ⊢
        refine takeH (i := 0) (v := ?_) rfl (by kernel_rfl) (by kernel_rfl) (by kernel_rfl) (fun _ _ _ h => h) (Or.inl ⟨by rfl, ?_⟩) (by assumption) ?_
        rotate_left
        · (intro w hSw; (try dsimp only at hSw); go_simp; first | done | with_reducible rfl)
        (try simp only [Act.put, List.setIfInBounds_toArray, List.set_cons_zero, List.set_cons_succ])
        refine takeH (i := 1) (v := ?_) rfl (by kernel_rfl) (by kernel_rfl) (by kernel_rfl) (fun _ _ _ h => h) (Or.inl ⟨by rfl, ?_⟩) (by assumption) ?_
        rotate_left
        · (intro w hSw; (try dsimp only at hSw); go_simp; first | done | with_reducible rfl)
        (try simp only [Act.put, List.setIfInBounds_toArray, List.set_cons_zero, List.set_cons_succ])
        refine takeH (i := 2) (v := ?_) rfl (by kernel_rfl) (by kernel_rfl) (by kernel_rfl) (fun _ _ _ h => h) (Or.inl ⟨by rfl, ?_⟩) (by assumption) ?_
        rotate_left
        · (intro w hSw; (try dsimp only at hSw); go_simp; first | done | with_reducible rfl)
        (try simp only [Act.put, List.setIfInBounds_toArray, List.set_cons_zero, List.set_cons_succ])
        refine takeH (i := 3) (v := ?_) rfl (by kernel_rfl) (by kernel_rfl) (by kernel_rfl) (fun _ _ _ h => h) (Or.inl ⟨by rfl, ?_⟩) (by assumption) ?_
        rotate_left
        · (intro w hSw; (try dsimp only at hSw); have d0 := below_cell hSw HC0.out ; have d1 := below_cell hSw HC1.out ; have d2 := below_cell hSw HC2.out ; have d3 := below_cell hSw HC3.out; go_simp; first | done | with_reducible rfl)
        (try simp only [Act.put, List.setIfInBounds_toArray, List.set_cons_zero, List.set_cons_succ])
        refine wpAnyH_ready (rs := [4]) (by kernel_rfl) (by simp) ?_
        refine stepH rfl (fun K hK => ?_) AllReadyH.nil
        go_simp
        refine (HV.out wa ha).mono ?_
        rintro e wb ⟨rfl, hq⟩
        have hb := bnext ha hq
        go_wp2_with fail
        refine hK.out _ _ (hb) (fun _ => ?_)
        clear hK K
        (try simp only [Act.put, List.setIfInBounds_toArray, List.set_cons_zero, List.set_cons_succ])
        refine takeH (i := 5) (v := ?_) rfl (by kernel_rfl) (by kernel_rfl) (by kernel_rfl) (fun _ _ _ h => h) (Or.inl ⟨by rfl, ?_⟩) (by assumption) ?_
        rotate_left
        · (intro w hSw; (try dsimp only at hSw); go_simp; first | done | with_reducible rfl)
        (try simp only [Act.put, List.setIfInBounds_toArray, List.set_cons_zero, List.set_cons_succ])
        refine takeH (i := 6) (v := ?_) rfl (by kernel_rfl) (by kernel_rfl) (by kernel_rfl) (fun _ _ _ h => h) (Or.inl ⟨by rfl, ?_⟩) (by assumption) ?_
        rotate_left
        · (intro w hSw; (try dsimp only at hSw); go_simp; first | done | with_reducible rfl)
        (try simp only [Act.put, List.setIfInBounds_toArray, List.set_cons_zero, List.set_cons_succ])
        refine takeH (i := 7) (v := undef) rfl (by kernel_rfl) (by kernel_rfl) (by kernel_rfl) (fun _ _ _ h => h) (Or.inr ⟨by rfl, by rfl⟩) (by assumption) ?_
        (try simp only [Act.put, List.setIfInBounds_toArray, List.set_cons_zero, List.set_cons_succ])
        refine takeH (i := 8) (v := undef) rfl (by kernel_rfl) (by kernel_rfl) (by kernel_rfl) (fun _ _ _ h => h) (Or.inr ⟨by rfl, by rfl⟩) (by assumption) ?_
        (try simp only [Act.put, List.setIfInBounds_toArray, List.set_cons_zero, List.set_cons_succ])
        refine takeH (i := 9) (v := undef) rfl (by kernel_rfl) (by kernel_rfl) (by kernel_rfl) (fun _ _ _ h => h) (Or.inr ⟨by rfl, by rfl⟩) (by assumption) ?_
        (try simp only [Act.put, List.setIfInBounds_toArray, List.set_cons_zero, List.set_cons_succ])
        refine takeH (i := 10) (v := undef) rfl (by kernel_rfl) (by kernel_rfl) (by kernel_rfl) (fun _ _ _ h => h) (Or.inr ⟨by rfl, by rfl⟩) (by assumption) ?_
        (try simp only [Act.put, List.setIfInBounds_toArray, List.set_cons_zero, List.set_cons_succ])
        refine takeH (i := 11) (v := undef) rfl (by kernel_rfl) (by kernel_rfl) (by kernel_rfl) (fun _ _ _ h => h) (Or.inr ⟨by rfl, by rfl⟩) (by assumption) ?_
        (try simp only [Act.put, List.setIfInBounds_toArray, List.set_cons_zero, List.set_cons_succ])
        refine takeH (i := 12) (v := undef) rfl (by kernel_rfl) (by kernel_rfl) (by kernel_rfl) (fun _ _ _ h => h) (Or.inr ⟨by rfl, by rfl⟩) (by assumption) ?_
        (try simp only [Act.put, List.setIfInBounds_toArray, List.set_cons_zero, List.set_cons_succ])
        refine takeH (i := 13) (v := undef) rfl (by kernel_rfl) (by kernel_rfl) (by kernel_rfl) (fun _ _ _ h => h) (Or.inr ⟨by rfl, by rfl⟩) (by assumption) ?_
        (try simp only [Act.put, List.setIfInBounds_toArray, List.set_cons_zero, List.set_cons_succ])
        refine takeH (i := 14) (v := undef) rfl (by kernel_rfl) (by kernel_rfl) (by kernel_rfl) (fun _ _ _ h => h) (Or.inr ⟨by rfl, by rfl⟩) (by assumption) ?_
        (try simp only [Act.put, List.setIfInBounds_toArray, List.set_cons_zero, List.set_cons_succ])
        refine takeH (i := 15) (v := undef) rfl (by kernel_rfl) (by kernel_rfl) (by kernel_rfl) (fun _ _ _ h => h) (Or.inr ⟨by rfl, by rfl⟩) (by assumption) ?_
        (try simp only [Act.put, List.setIfInBounds_toArray, List.set_cons_zero, List.set_cons_succ])
        refine takeH (i := 16) (v := undef) rfl (by kernel_rfl) (by kernel_rfl) (by kernel_rfl) (fun _ _ _ h => h) (Or.inr ⟨by rfl, by rfl⟩) (by assumption) ?_
        (try simp only [Act.put, List.setIfInBounds_toArray, List.set_cons_zero, List.set_cons_succ])
        refine takeH (i := 17) (v := undef) rfl (by kernel_rfl) (by kernel_rfl) (by kernel_rfl) (fun _ _ _ h => h) (Or.inr ⟨by rfl, by rfl⟩) (by assumption) ?_
        (try simp only [Act.put, List.setIfInBounds_toArray, List.set_cons_zero, List.set_cons_succ])
        refine takeH (i := 18) (v := undef) rfl (by kernel_rfl) (by kernel_rfl) (by kernel_rfl) (fun _ _ _ h => h) (Or.inr ⟨by rfl, by rfl⟩) (by assumption) ?_
        (try simp only [Act.put, List.setIfInBounds_toArray, List.set_cons_zero, List.set_cons_succ])
        refine takeH (i := 19) (v := undef) rfl (by kernel_rfl) (by kernel_rfl) (by kernel_rfl) (fun _ _ _ h => h) (Or.inr ⟨by rfl, by rfl⟩) (by assumption) ?_
        (try simp only [Act.put, List.setIfInBounds_toArray, List.set_cons_zero, List.set_cons_succ])
        refine takeH (i := 20) (v := undef) rfl (by kernel_rfl) (by kernel_rfl) (by kernel_rfl) (fun _ _ _ h => h) (Or.inr ⟨by rfl, by rfl⟩) (by assumption) ?_
        (try simp only [Act.put, List.setIfInBounds_toArray, List.set_cons_zero, List.set_cons_succ])
        refine takeH (i := 21) (v := undef) rfl (by kernel_rfl) (by kernel_rfl) (by kernel_rfl) (fun _ _ _ h => h) (Or.inr ⟨by rfl, by rfl⟩) (by assumption) ?_
        (try simp only [Act.put, List.setIfInBounds_toArray, List.set_cons_zero, List.set_cons_succ])
        refine takeH (i := 22) (v := ?_) rfl (by kernel_rfl) (by kernel_rfl) (by kernel_rfl) (fun _ _ _ h => h) (Or.inl ⟨by rfl, ?_⟩) (by assumption) ?_
        rotate_left
        · (intro w hSw; (try dsimp only at hSw); go_simp; first | done | with_reducible rfl)
        (try simp only [Act.put, List.setIfInBounds_toArray, List.set_cons_zero, List.set_cons_succ])
        refine takeH (i := 23) (v := ?_) rfl (by kernel_rfl) (by kernel_rfl) (by kernel_rfl) (fun _ _ _ h => h) (Or.inl ⟨by rfl, ?_⟩) (by assumption) ?_
        rotate_left
        · (intro w hSw; (try dsimp only at hSw); go_simp; first | done | with_reducible rfl)
        (try simp only [Act.put, List.setIfInBounds_toArray, List.set_cons_zero, List.set_cons_succ])
        refine wpAnyH_done (by kernel_rfl) ?_ _
        have HB3 := Lib.hid (bnext HBL.out hb)
        have H3 := Lib.hid (hS.out.below hb)
        clear ha hb HV HC0 HC1 HC2 HC3 HRD hS HBL
        generalize wb = w3 at HB3 H3 ⊢
        go_wp2
        go_roundg g
        case measure => omega
        case rel => exact ⟨k + 1, A, D + 1, T, by omega, by go_num, rfl, by go_num, by omega, by omega, H3, hT, HMF, HB3⟩

end Go.Proofs.YtdfablboenfblaaDoor.ST

namespace Go.Proofs.YtdfablboenfblaaDoor.ST
open Go.RowKit Go.Joins
open UM (Ef)
open SM (Fp)

set_option maxRecDepth 100000 in
set_option maxHeartbeats 4000000 in
theorem kSome (v : Value) (fs : List Fp) (n : Int) (w : World) (h : RdF w v fs) (hv : ∀ x ∈ fs, SM.errF x = 0) (hl : fs.length ≤ 1000) :
    Calls Tryd.prog 27 #[v, .int .i64 n] w fun e w' => ∃ u, e = .returned u ∧ RdF w' u (SM.rs fs (fun a => (dg n 9 (a - 101).toNat : Int))) ∧ Below w.heap.size w w' := by
  obtain ⟨ad, cp, rfl, hc, _⟩ := h.shape
  obtain ⟨g, hg⟩ : ∃ g : Int → Int, g = fun a => (dg n 9 (a - 101).toNat : Int) := ⟨_, rfl⟩
  rw [← hg]
  have HGE := Lib.hid hg
  have H := Lib.hid h
  have HL := Lib.hid hl
  have HV := Lib.hid hv
  clear h hl hv hg
  go_enter Tryd.func27, Tryd.ntmps27
  go_wp2
  go_loopw [5, 6] (fun u i wr => ∃ k : Nat, k ≤ fs.length ∧ i = .int .i64 k ∧ Hid (OwnF w w.heap.size wr u (SM.rs (fs.take k) g)) ∧ Hid (Below w.heap.size w wr)) (fun _ i _ => fs.length - (intOf i).toNat)
  case atStart => exact ⟨0, Nat.zero_le _, rfl, OwnF.nil _ _ _, Below.refl _ _⟩
  case round =>
    obtain ⟨k, hk, rfl, ho, hbl⟩ := hrel
    by_cases hlt : k < fs.length
    · have hq : (k : Int) < (fs.length : Int) := by omega
      have hk2 := List.getElem?_eq_getElem hlt
      generalize fs[k] = f at hk2
      have hnext := SM.rs_snoc (fs.take k) f g
      rw [← take_snocF hk2] at hnext
      have hef := SM.errF_num (HV.out f (List.mem_of_getElem? hk2))
      obtain ⟨x, m, t, cs⟩ := f
      simp only at hnext hef
      obtain ⟨b, o, da, dl, dc, hi, hbw, c0, c1, c2, c3, hrd⟩ := H.out.at_ k x m t cs hk2
      have HT1 := Lib.hid (show Tell1 w (x, m, t, da, dl, dc) (x, m, t, cs) from ⟨rfl, rfl, rfl, hrd⟩)
      have c0 := below_cell hbl.out c0
      have c1 := below_cell hbl.out c1
      have c2 := below_cell hbl.out c2
      have c3 := below_cell hbl.out c3
      have k0 : ∀ p : Later wr, p.val.cell? ⟨b, o, none⟩ = some (.int .i64 x) := fun p => below_cell p.h c0
      have k1 : ∀ p : Later wr, p.val.cell? ⟨b, o + 1, none⟩ = some (.int .i64 m) := fun p => below_cell p.h c1
      have hw1 : IntKind.i64.wrap (x - 101) = x - 101 := IntWalk.i64_in _ (by omega)
      have hG : ∀ p : Later wr, Calls Tryd.prog 56 #[.int .i64 n, .int .i64 9, .int .i64 (x - 101)] p.val fun e w'' => e = .returned (.int .i64 (g x)) ∧ ∃ q : Later wr, w'' = q.val := fun p => by
        have hd := kDigit n 9 (x - 101).toNat p.val (by decide) (by decide) (by omega)
        rw [show (((x - 101).toNat : Nat) : Int) = x - 101 by omega] at hd
        refine hd.mono ?_
        rintro e w'' ⟨rfl, rfl⟩
        exact ⟨by rw [HGE.out], p, rfl⟩
      obtain ⟨U, hU⟩ : ∃ U, U = SM.rs (fs.take k) g := ⟨_, rfl⟩
      rw [← hU] at ho hnext
      obtain ⟨N, hN⟩ : ∃ N, N = g x := ⟨_, rfl⟩
      rw [← hN] at hG hnext
      have HGC := Lib.hid hG
      have HNX := Lib.hid hnext
      obtain ⟨uq, hu1, hu2, hu3⟩ := ho.out.out
      have hlu : uq.length ≤ 1073741824 := by
        have h1 : U.length ≤ (fs.take k).length := by rw [hU]; exact SM.rs_len _ _
        rw [List.length_take] at h1
        have := HL.out
        omega
      obtain ⟨au, cu, rfl, hcu, hcu2⟩ := hu1.rd.shape
      have HTU := Lib.hid hu2
      have HU1 := Lib.hid hu1
      have HBL := Lib.hid hbl.out
      clear hnext hG hk2 hrd ho hbl hU hN hu1 hu2 hu3 hef
      go_wp2
      by_cases hm : m ≤ N
      · refine wp_region_later (by kernel_rfl) (by kernel_rfl) ?_
        repeat (go_big_quiet_step (first | (go_at_call 56; with_reducible exact HGC.out _)))
        refine wpQuiet_nil ?_
        rintro _ ⟨p', rfl⟩
        have hu2 := HU1.out.below p'.h
        have HB2 := Lib.hid (bnext HBL.out p'.h)
        have c0 := k0 p'
        have c1 := k1 p'
        have c2 := below_cell p'.h c2
        have c3 := below_cell p'.h c3
        generalize p'.val = w2 at hu2 HB2 c0 c1 c2 c3 ⊢
        clear k0 k1 HGC HU1 HBL
        have HNX2 := Lib.hid (HNX.out.trans (by rw [if_pos hm]))
        have hsz := HB2.out.size
        clear HNX
        go_wp2_with (at_builtin; refine wp_appG1' upE (x, m, t, da, dl, dc) _ rfl rfl _ _ rfl rfl hu2 rfl hlu hsz ?_)
        intro v3 w3 ho3 hb3 _
        have HO3 := Lib.hid (show OwnF w w.heap.size w3 v3 (SM.rs (fs.take (k + 1)) g) by rw [HNX2.out]; exact OwnF.snoc ho3 HTU.out HT1.out)
        have HB3 := Lib.hid (HB2.out.trans hb3)
        clear ho3 hb3 hu2 HTU HT1 c0 c1 c2 c3 HB2 hsz HNX2
        go_wp2
        go_roundw
        case rel => exact ⟨k + 1, by omega, by go_num, HO3, HB3⟩
        case measure => simp [intOf]; omega
      · have HNX2 := Lib.hid (HNX.out.trans (by rw [if_neg hm, List.append_nil]))
        clear HNX
        refine wp_region_later (by kernel_rfl) (by kernel_rfl) ?_
        repeat (go_big_quiet_step (first | (go_at_call 56; with_reducible exact HGC.out _)))
        refine wpQuiet_nil ?_
        rintro _ ⟨p', rfl⟩
        have HO3 := Lib.hid (show OwnF w w.heap.size p'.val (.slice au uq.length cu) (SM.rs (fs.take (k + 1)) g) by rw [HNX2.out]; exact ⟨uq, HU1.out.below p'.h, HTU.out⟩)
        have HB3 := Lib.hid (bnext HBL.out p'.h)
        generalize p'.val = w3 at HO3 HB3 ⊢
        clear k0 k1 HGC HNX2 HU1 HTU HBL
        go_wp2
        go_roundw
        case rel => exact ⟨k + 1, by omega, by go_num, HO3, HB3⟩
        case measure => simp [intOf]; omega
    · have hq : ¬ ((k : Int) < (fs.length : Int)) := by omega
      obtain rfl : k = fs.length := by omega
      rw [List.take_length] at ho
      have HR := Lib.hid (ho.out.rd hbl.out)
      go_wp2
      go_ret
      exact ⟨_, rfl, HR.out, hbl.out⟩

end Go.Proofs.YtdfablboenfblaaDoor.ST
