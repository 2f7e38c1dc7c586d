/-
  Mathematics and small contracts that the laws of stage 10 need: parts of one configuration, the configuration between, 'is' on a graph of parts. No conditions beyond those that each lemma names.
-/
import Derived.Test.YtkgkhofkhjgnbaaGreatGAwk
namespace Go.Proofs.YtkgkhofkhjgnbaaGreat
open Go.RowKit Go.Joins Go.Shelf
open JM (Chg)
open CM (Fp)
open VM (Ent)
namespace IM
theorem agr_part {p a b : List Fp} (op : CM.Ok p) (pa : CM.cons p a = true) (pb : CM.cons p b = true) : CM.Agr a b :=
  fun x hx y hy h1 h2 => op.srt.key (CM.cons_iff.1 pa x hx) (CM.cons_iff.1 pb y hy) ⟨h1, h2⟩
theorem conk_part {p a b : List Fp} (op : CM.Ok p) (pa : CM.cons p a = true) (pb : CM.cons p b = true) : CM.conk a b = CM.cons a b := CM.conk_cons (agr_part op pa pb)
theorem mid_ok {p fa ft fb : List Fp} (op : CM.Ok p) (oa : CM.Ok fa) (ot : CM.Ok ft) (ob : CM.Ok fb) (pa : CM.cons p fa = true) (pt : CM.cons p ft = true) (pb : CM.cons p fb = true) (ta : CM.cons ft fa = true) :
    CM.Ok (CM.un fa (CM.meetK fb ft)) ∧ CM.cons p (CM.un fa (CM.meetK fb ft)) = true ∧ CM.cons (CM.un fa (CM.meetK fb ft)) fa = true ∧ CM.cons ft (CM.un fa (CM.meetK fb ft)) = true := by
  have ea := rs_sub oa op pa
  have et := rs_sub ot op pt
  have eb := rs_sub ob op pb
  have hm : CM.un fa (CM.meetK fb ft) = CM.rs p (fun c => max (CM.ct fa c) (min (CM.ct fb c) (CM.ct ft c))) := by
    rw [← CM.meet_eq ob ot]
    conv => lhs; rw [← ea, ← eb, ← et]
    rw [CM.meet_rs op, CM.un_rs op.srt]
  rw [hm]
  refine ⟨op.rs _, cons_rs _ _, CM.cons_iff.2 fun f hf => CM.rs_mem.2 ⟨CM.cons_iff.1 pa f hf, ?_⟩, CM.cons_iff.2 fun f hf => ?_⟩
  · have := mem_le oa hf
    show f.2.1 ≤ max _ _
    omega
  · obtain ⟨h1, h2⟩ := CM.rs_mem.1 hf
    have h2 : f.2.1 ≤ max (CM.ct fa f.1) (min (CM.ct fb f.1) (CM.ct ft f.1)) := h2
    have := ct_mono oa ot ta f.1
    rw [← et]
    exact CM.rs_mem.2 ⟨h1, by omega⟩
theorem isG {p : List Fp} {L : List (List Fp)} {w : World} {gv nv : Value} (gd : Gd p L) (h : RdGr w gv L) (hn : RdLs RdF w nv L) :
    Calls Tryz.prog 11 #[gv, nv] w fun e w' => e = .returned (.bool true) ∧ Below w.heap.size w w' :=
  gIs gv nv L w h hn (by have := gd.1; omega) (fun f hf => by have := gd.nine f hf; omega)
end IM
end Go.Proofs.YtkgkhofkhjgnbaaGreat
