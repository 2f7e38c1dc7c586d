/-
  The calls of interval.Views and interval.Span at a valid genesis and valid configurations.
-/
import Derived.Test.YtejafpbobgkibaaGreatIAll
import Derived.Test.YtejafpbobgkibaaGreatIView
import Derived.Test.YtejafpbobgkibaaGreatIVal
import Derived.Test.YtejafpbobgkibaaGreatMSum
namespace Go.Proofs.YtejafpbobgkibaaGreat
open Go.RowKit Go.Joins Go.Shelf
open JM (Chg)
open CM (Fp)
open MM (Mem Ent Sm Tri)

abbrev Vw := List Mem × Int × Int × Int
def encVw (p : SV × Vw) : List Value := [svV p.1, .int .i64 p.2.2.1, .int .i64 p.2.2.2.1, .int .i64 p.2.2.2.2]
theorem hlVw : 0 < 4 ∧ ∀ x : SV × Vw, (encVw x).length = 4 := ⟨by decide, fun _ => rfl⟩
theorem viewE : IsElem Tryz.prog 38 41 4 48 encVw where
  ht := Tryz.underlying38
  info := by
    obtain ⟨i0, hi, hz0, hz1, hz2⟩ := info_parts (show (Tryz.prog.info? 41).map (fun i => (i.zero, i.size, i.bytes)) = some (some (.agg #[.slice none 0 0, .int .i64 0, .int .i64 0, .int .i64 0]), 4, 48) by kernel_rfl)
    exact ⟨i0, _, hi, hz0, hz1, hz2, rfl⟩
  len := fun _ => rfl
  one := by
    intro x u hu
    simp only [encVw, List.mem_cons, List.mem_nil_iff, or_false] at hu
    rcases hu with rfl | rfl | rfl | rfl <;> rfl
  pos := by decide
  fits := by decide
/-- A list of views of the call's own; their members are the call's own from block B on. -/
def OwnVs (B base : Nat) (w : World) (v : Value) (ls : List Vw) : Prop := ∃ ps : List (SV × Vw), OwnG encVw 41 4 base w v ps ∧ (∀ p ∈ ps, OwnM B w (svV p.1) p.2.1) ∧ ps.map (·.2) = ls
theorem OwnVs.below {B base : Nat} {w w' : World} {v : Value} {ls : List Vw} (h : OwnVs B base w v ls) (hb : Below w.heap.size w w') : OwnVs B base w' v ls := by
  obtain ⟨ps, h1, h2, h3⟩ := h; exact ⟨ps, h1.below hb, fun p hp => (h2 p hp).below hb, h3⟩
theorem OwnVs.mono {B base b2 : Nat} {w : World} {v : Value} {ls : List Vw} (h : OwnVs B base w v ls) (hle : b2 ≤ base) : OwnVs B b2 w v ls := by
  obtain ⟨ps, h1, h2, h3⟩ := h; exact ⟨ps, h1.mono hle, h2, h3⟩
theorem OwnVs.shape {B base : Nat} {w : World} {v : Value} {ls : List Vw} (h : OwnVs B base w v ls) : ∃ a c, v = .slice a ls.length c ∧ c ≤ 9223372036854775807 ∧ ls.length ≤ c := by
  obtain ⟨ps, h1, _, rfl⟩ := h
  simpa using h1.rd.shape
theorem OwnVs.at_ {B base : Nat} {w : World} {a : Option Addr} {n c : Nat} {ls : List Vw} (h : OwnVs B base w (.slice a n c) ls) (k : Nat) (ms : List Mem) (x y z : Int) (hk : ls[k]? = some (ms, x, y, z)) :
    ∃ b o ad l cp, (∀ w0, (Instr.indexAt 38 (.slice a n c) (.int .i64 (k : Int))).run Tryz.prog w0 = .ok (.pointer (some ⟨b, o, none⟩)) w0) ∧ b < w.heap.size ∧
      w.cell? ⟨b, o, none⟩ = some (.slice ad l cp) ∧ w.cell? ⟨b, o + 1, none⟩ = some (.int .i64 x) ∧ w.cell? ⟨b, o + 2, none⟩ = some (.int .i64 y) ∧ w.cell? ⟨b, o + 3, none⟩ = some (.int .i64 z) ∧ OwnM B w (.slice ad l cp) ms := by
  obtain ⟨ps, h1, h2, rfl⟩ := h
  rw [List.getElem?_map] at hk
  obtain ⟨p, hp, hx⟩ := Option.map_eq_some_iff.1 hk
  obtain ⟨b, o, h3, h4, h5⟩ := h1.rd.at_ viewE k p hp
  have h6 := h2 p (List.mem_of_getElem? hp)
  obtain ⟨⟨ad, l, cp⟩, q⟩ := p
  simp only at hx
  subst hx
  exact ⟨b, o, ad, l, cp, h3, h4, h5 0 _ rfl, h5 1 _ rfl, h5 2 _ rfl, h5 3 _ rfl, h6⟩

namespace IM
def vwOf (ms : List Mem) (k c f : Int) (fs : List Fp) : Vw := (MM.mems (MM.summ ms k c f fs), MM.vk (MM.summ ms k c f fs), (MM.summ ms k c f fs).c, (MM.summ ms k c f fs).f)
def views (ms : List Mem) (k c f : Int) (fa fb : List Fp) : List Vw := (all fa fb).map (vwOf ms k c f)
end IM

set_option maxRecDepth 100000 in
set_option maxHeartbeats 2000000 in
theorem cViewOf (u v : Value) (k c f : Int) (ms : List Mem) (fs : List Fp) (w : World) (hu : RdM w u ms) (h : RdF w v fs) (hg : MM.errG k c f ms = 0) (hml : ms.length ≤ 1000000) (ho : CM.Ok fs) :
    Calls Tryz.prog 47 #[vw u k c f, v] w fun e w' => ∃ sv', e = .returned sv' ∧ Below w.heap.size w w' ∧ ∀ w2, Below w'.heap.size w' w2 →
      Calls Tryz.prog 46 #[sv'] w2 fun e w3 => ∃ sl, e = .returned (vw sl (IM.vwOf ms k c f fs).2.1 (IM.vwOf ms k c f fs).2.2.1 (IM.vwOf ms k c f fs).2.2.2) ∧ OwnM w2.heap.size w3 sl (IM.vwOf ms k c f fs).1 ∧ Below w2.heap.size w2 w3 := by
  obtain ⟨g1, g2, _⟩ := MM.errG_zero hg
  refine (cSummarize u v k c f ms fs w hu h hg hml ho.all (by have := ho.nine; omega)).mono ?_
  rintro e w' ⟨s', rfl, hF, hb⟩
  have ok := (MM.sp_summ g1 g2 ho.all).ok
  exact ⟨s', rfl, hb, fun w2 hb2 => cViewO s' _ w2 (hF.rd.below hb2) ok.r ok.w (okS_len ok)⟩

end Go.Proofs.YtejafpbobgkibaaGreat
