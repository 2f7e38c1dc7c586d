/-
  The calls of the reference's Beyond and of the laws' Some. Conditions: what comes in reads; for Some: the updates are valid.
  The calls of the reference's updates and DecodeState. Conditions: the bytes read.
  The call of the laws' Some: a part of the state. Conditions: what comes in reads; the updates are valid.
-/
import Derived.Test.YtohcmbdlcnhlfaaDoorQYA
import Derived.Test.YtohcmbdlcnhlfaaDoorQSM1
import Derived.Test.YtohcmbdlcnhlfaaDoorQKI
import Derived.Test.YtohcmbdlcnhlfaaDoorQUR
import Derived.Test.YtohcmbdlcnhlfaaDoorQKE
namespace Go.Proofs.YtohcmbdlcnhlfaaDoor.ST
open Go.RowKit Go.Joins
open UM (Ef)
open SM (Fp)
open VM (Ent)

end Go.Proofs.YtohcmbdlcnhlfaaDoor.ST
namespace Go.Proofs.YtohcmbdlcnhlfaaDoor.SM
theorem rs_snoc (l : List Fp) (f : Fp) (g : Int → Int) : SM.rs (l ++ [f]) g = SM.rs l g ++ if f.2.1 ≤ g f.1 then [f] else [] := by
  unfold SM.rs
  rw [List.filter_append]
  by_cases h : f.2.1 ≤ g f.1
  · rw [if_pos h, List.filter_cons_of_pos (by simpa using h)]; rfl
  · rw [if_neg h, List.filter_cons_of_neg (by simpa using h)]; rfl
end Go.Proofs.YtohcmbdlcnhlfaaDoor.SM
namespace Go.Proofs.YtohcmbdlcnhlfaaDoor.ST
open Go.RowKit Go.Joins
open UM (Ef)
open SM (Fp)
open VM (Ent)

end Go.Proofs.YtohcmbdlcnhlfaaDoor.ST

namespace Go.Proofs.YtohcmbdlcnhlfaaDoor.ST
open Go.RowKit Go.Joins
open UM (Ef)
open SM (Fp)
open WM (enc dec Bytes)

end Go.Proofs.YtohcmbdlcnhlfaaDoor.ST

namespace Go.Proofs.YtohcmbdlcnhlfaaDoor.ST
open Go.RowKit Go.Joins
open UM (Ef)
open SM (Fp)

set_option maxRecDepth 100000 in
set_option maxHeartbeats 4000000 in
theorem kSome (v : Value) (fs : List Fp) (n : Int) (w : World) (h : RdF w v fs) (hv : ∀ x ∈ fs, SM.errF x = 0) (hl : fs.length ≤ 1000) :
    Calls Tryd.prog 27 #[v, .int .i64 n] w fun e w' => ∃ u, e = .returned u ∧ RdF w' u (SM.rs fs (fun a => (dg n 9 (a - 101).toNat : Int))) ∧ Below w.heap.size w w' := by
  obtain ⟨ad, cp, rfl, hc, _⟩ := h.shape
  obtain ⟨g, hg⟩ : ∃ g : Int → Int, g = fun a => (dg n 9 (a - 101).toNat : Int) := ⟨_, rfl⟩
  rw [← hg]
  have HGE := Lib.hid hg
  have H := Lib.hid h
  have HL := Lib.hid hl
  have HV := Lib.hid hv
  clear h hl hv hg
  go_enter Tryd.func27, Tryd.ntmps27
  go_wp2
  go_loopw [5, 6] (fun u i wr => ∃ k : Nat, k ≤ fs.length ∧ i = .int .i64 k ∧ Hid (OwnF w w.heap.size wr u (SM.rs (fs.take k) g)) ∧ Hid (Below w.heap.size w wr)) (fun _ i _ => fs.length - (intOf i).toNat)
  case atStart => exact ⟨0, Nat.zero_le _, rfl, OwnF.nil _ _ _, Below.refl _ _⟩
  case round =>
    obtain ⟨k, hk, rfl, ho, hbl⟩ := hrel
    by_cases hlt : k < fs.length
    · have hq : (k : Int) < (fs.length : Int) := by omega
      have hk2 := List.getElem?_eq_getElem hlt
      generalize fs[k] = f at hk2
      have hnext := SM.rs_snoc (fs.take k) f g
      rw [← take_snocF hk2] at hnext
      have hef := SM.errF_num (HV.out f (List.mem_of_getElem? hk2))
      obtain ⟨x, m, t, cs⟩ := f
      simp only at hnext hef
      obtain ⟨b, o, da, dl, dc, hi, hbw, c0, c1, c2, c3, hrd⟩ := H.out.at_ k x m t cs hk2
      have HT1 := Lib.hid (show Tell1 w (x, m, t, da, dl, dc) (x, m, t, cs) from ⟨rfl, rfl, rfl, hrd⟩)
      have c0 := below_cell hbl.out c0
      have c1 := below_cell hbl.out c1
      have c2 := below_cell hbl.out c2
      have c3 := below_cell hbl.out c3
      have k0 : ∀ p : Later wr, p.val.cell? ⟨b, o, none⟩ = some (.int .i64 x) := fun p => below_cell p.h c0
      have k1 : ∀ p : Later wr, p.val.cell? ⟨b, o + 1, none⟩ = some (.int .i64 m) := fun p => below_cell p.h c1
      have hw1 : IntKind.i64.wrap (x - 101) = x - 101 := IntWalk.i64_in _ (by omega)
      have hG : ∀ p : Later wr, Calls Tryd.prog 56 #[.int .i64 n, .int .i64 9, .int .i64 (x - 101)] p.val fun e w'' => e = .returned (.int .i64 (g x)) ∧ ∃ q : Later wr, w'' = q.val := fun p => by
        have hd := kDigit n 9 (x - 101).toNat p.val (by decide) (by decide) (by omega)
        rw [show (((x - 101).toNat : Nat) : Int) = x - 101 by omega] at hd
        refine hd.mono ?_
        rintro e w'' ⟨rfl, rfl⟩
        exact ⟨by rw [HGE.out], p, rfl⟩
      obtain ⟨U, hU⟩ : ∃ U, U = SM.rs (fs.take k) g := ⟨_, rfl⟩
      rw [← hU] at ho hnext
      obtain ⟨N, hN⟩ : ∃ N, N = g x := ⟨_, rfl⟩
      rw [← hN] at hG hnext
      have HGC := Lib.hid hG
      have HNX := Lib.hid hnext
      obtain ⟨uq, hu1, hu2, hu3⟩ := ho.out.out
      have hlu : uq.length ≤ 1073741824 := by
        have h1 : U.length ≤ (fs.take k).length := by rw [hU]; exact SM.rs_len _ _
        rw [List.length_take] at h1
        have := HL.out
        omega
      obtain ⟨au, cu, rfl, hcu, hcu2⟩ := hu1.rd.shape
      have HTU := Lib.hid hu2
      have HU1 := Lib.hid hu1
      have HBL := Lib.hid hbl.out
      clear hnext hG hk2 hrd ho hbl hU hN hu1 hu2 hu3 hef
      go_wp2
      by_cases hm : m ≤ N
      · refine wp_region_later (by kernel_rfl) (by kernel_rfl) ?_
        repeat (go_big_quiet_step (first | (go_at_call 56; with_reducible exact HGC.out _)))
        refine wpQuiet_nil ?_
        rintro _ ⟨p', rfl⟩
        have hu2 := HU1.out.below p'.h
        have HB2 := Lib.hid (bnext HBL.out p'.h)
        have c0 := k0 p'
        have c1 := k1 p'
        have c2 := below_cell p'.h c2
        have c3 := below_cell p'.h c3
        generalize p'.val = w2 at hu2 HB2 c0 c1 c2 c3 ⊢
        clear k0 k1 HGC HU1 HBL
        have HNX2 := Lib.hid (HNX.out.trans (by rw [if_pos hm]))
        have hsz := HB2.out.size
        clear HNX
        go_wp2_with (at_builtin; refine wp_appG1' upE (x, m, t, da, dl, dc) _ rfl rfl _ _ rfl rfl hu2 rfl hlu hsz ?_)
        intro v3 w3 ho3 hb3 _
        have HO3 := Lib.hid (show OwnF w w.heap.size w3 v3 (SM.rs (fs.take (k + 1)) g) by rw [HNX2.out]; exact OwnF.snoc ho3 HTU.out HT1.out)
        have HB3 := Lib.hid (HB2.out.trans hb3)
        clear ho3 hb3 hu2 HTU HT1 c0 c1 c2 c3 HB2 hsz HNX2
        go_wp2
        go_roundw
        case rel => exact ⟨k + 1, by omega, by go_num, HO3, HB3⟩
        case measure => simp [intOf]; omega
      · have HNX2 := Lib.hid (HNX.out.trans (by rw [if_neg hm, List.append_nil]))
        clear HNX
        refine wp_region_later (by kernel_rfl) (by kernel_rfl) ?_
        repeat (go_big_quiet_step (first | (go_at_call 56; with_reducible exact HGC.out _)))
        refine wpQuiet_nil ?_
        rintro _ ⟨p', rfl⟩
        have HO3 := Lib.hid (show OwnF w w.heap.size p'.val (.slice au uq.length cu) (SM.rs (fs.take (k + 1)) g) by rw [HNX2.out]; exact ⟨uq, HU1.out.below p'.h, HTU.out⟩)
        have HB3 := Lib.hid (bnext HBL.out p'.h)
        generalize p'.val = w3 at HO3 HB3 ⊢
        clear k0 k1 HGC HNX2 HU1 HTU HBL
        go_wp2
        go_roundw
        case rel => exact ⟨k + 1, by omega, by go_num, HO3, HB3⟩
        case measure => simp [intOf]; omega
    · have hq : ¬ ((k : Int) < (fs.length : Int)) := by omega
      obtain rfl : k = fs.length := by omega
      rw [List.take_length] at ho
      have HR := Lib.hid (ho.out.rd hbl.out)
      go_wp2
      go_ret
      exact ⟨_, rfl, HR.out, hbl.out⟩

end Go.Proofs.YtohcmbdlcnhlfaaDoor.ST
