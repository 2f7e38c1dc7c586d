/-
  Summaries of parts of one pool: the mathematics of their joins; what goes on reading while some blocks are written. Conditions: the genesis and the pool are valid.
-/
import Derived.Test.YtdipheijagjelaaGreatMKit
import Derived.Test.YtdipheijagjelaaGreatMUni
import Derived.Test.YtdipheijagjelaaGreatKI
import Derived.Test.YtdipheijagjelaaGreatKH
namespace Go.Proofs.YtdipheijagjelaaGreat
open Go.RowKit Go.Joins
open JM (Chg)
open CM (Fp)
open MM (Mem Ent Sm Tri)

/-! ### Mathematics -/
section
variable {ms : List Mem} {k c f : Int} {p : List Fp}
theorem pool_cmp (hg : MM.errG k c f ms = 0) (hok : CM.Ok p) : MM.Cmp (MM.allT ms k c f p) := by
  obtain ⟨g1, g2, _⟩ := MM.errG_zero hg
  exact MM.cmp_all g1 g2 (fun x hx => hok.all x hx) (fun x hx y hy h1 h2 => hok.srt.key hx hy ⟨h1, h2⟩)
theorem part_sp (hg : MM.errG k c f ms = 0) (hok : CM.Ok p) (g : Int → Int) : MM.Sp (MM.allT ms k c f (CM.rs p g)) (MM.summ ms k c f (CM.rs p g)) := by
  obtain ⟨g1, g2, _⟩ := MM.errG_zero hg
  exact MM.sp_summ g1 g2 (fun x hx => (hok.rs g).all x hx)
theorem part_sub (g : Int → Int) : ∀ u ∈ MM.allT ms k c f (CM.rs p g), u ∈ MM.allT ms k c f p := by
  intro u h1
  unfold MM.allT at h1 ⊢
  rcases List.mem_cons.1 h1 with rfl | h1
  · exact List.mem_cons_self
  · obtain ⟨y, h3, rfl⟩ := List.mem_map.1 h1
    exact List.mem_cons_of_mem _ (List.mem_map.2 ⟨y, (CM.rs_mem.1 h3).1, rfl⟩)
theorem un_join (hg : MM.errG k c f ms = 0) (hok : CM.Ok p) (g h : Int → Int) :
    MM.join (MM.summ ms k c f (CM.rs p g)) (MM.summ ms k c f (CM.rs p h)) = MM.summ ms k c f (CM.un (CM.rs p g) (CM.rs p h)) := by
  rw [CM.un_rs hok.srt]
  refine MM.Sp.uniq ((pool_cmp hg hok).sub (part_sub (fun a => max (g a) (h a)))) (MM.Sp.set (fun u => ?_) ((part_sp hg hok g).join (part_sp hg hok h))) (part_sp hg hok _)
  unfold MM.allT
  simp only [List.mem_append, List.mem_cons, List.mem_map, CM.rs_mem]
  constructor
  · rintro ((rfl | ⟨y, ⟨h1, h2⟩, rfl⟩) | (rfl | ⟨y, ⟨h1, h2⟩, rfl⟩))
    · exact .inl rfl
    · exact .inr ⟨y, ⟨h1, by omega⟩, rfl⟩
    · exact .inl rfl
    · exact .inr ⟨y, ⟨h1, by omega⟩, rfl⟩
  · rintro (rfl | ⟨y, ⟨h1, h2⟩, rfl⟩)
    · exact .inl (.inl rfl)
    · by_cases h3 : y.2.1 ≤ g y.1
      · exact .inl (.inr ⟨y, ⟨h1, h3⟩, rfl⟩)
      · exact .inr (.inr ⟨y, ⟨h1, by omega⟩, rfl⟩)
theorem un_comm (hg : MM.errG k c f ms = 0) (hok : CM.Ok p) (g h : Int → Int) :
    MM.join (MM.summ ms k c f (CM.rs p g)) (MM.summ ms k c f (CM.rs p h)) = MM.join (MM.summ ms k c f (CM.rs p h)) (MM.summ ms k c f (CM.rs p g)) := by
  refine MM.Sp.uniq (T := MM.allT ms k c f (CM.rs p g) ++ MM.allT ms k c f (CM.rs p h)) ((pool_cmp hg hok).sub fun u hu => ?_) ((part_sp hg hok g).join (part_sp hg hok h)) (MM.Sp.set (fun u => ?_) ((part_sp hg hok h).join (part_sp hg hok g)))
  · rcases List.mem_append.1 hu with hu | hu <;> exact part_sub _ u hu
  · simp only [List.mem_append]
    exact Or.comm
theorem un_self (hg : MM.errG k c f ms = 0) (hok : CM.Ok p) (g : Int → Int) :
    MM.join (MM.summ ms k c f (CM.rs p g)) (MM.summ ms k c f (CM.rs p g)) = MM.summ ms k c f (CM.rs p g) := by
  refine MM.Sp.uniq (T := MM.allT ms k c f (CM.rs p g)) ((pool_cmp hg hok).sub (part_sub g)) (MM.Sp.set (fun u => ?_) ((part_sp hg hok g).join (part_sp hg hok g))) (part_sp hg hok g)
  simp only [List.mem_append, or_self]
theorem un_assoc (hg : MM.errG k c f ms = 0) (hok : CM.Ok p) (g h l : Int → Int) :
    MM.join (MM.join (MM.summ ms k c f (CM.rs p g)) (MM.summ ms k c f (CM.rs p h))) (MM.summ ms k c f (CM.rs p l)) = MM.join (MM.summ ms k c f (CM.rs p g)) (MM.join (MM.summ ms k c f (CM.rs p h)) (MM.summ ms k c f (CM.rs p l))) := by
  refine MM.Sp.uniq (T := (MM.allT ms k c f (CM.rs p g) ++ MM.allT ms k c f (CM.rs p h)) ++ MM.allT ms k c f (CM.rs p l)) ((pool_cmp hg hok).sub fun u hu => ?_)
    (((part_sp hg hok g).join (part_sp hg hok h)).join (part_sp hg hok l)) (MM.Sp.set (fun u => ?_) ((part_sp hg hok g).join ((part_sp hg hok h).join (part_sp hg hok l))))
  · rcases List.mem_append.1 hu with hu | hu
    · rcases List.mem_append.1 hu with hu | hu <;> exact part_sub _ u hu
    · exact part_sub _ u hu
  · rw [List.append_assoc]
end

/-! ### What reads on while the blocks of L are written -/
def Exc (L : List Nat) (w w' : World) : Prop := w.heap.size ≤ w'.heap.size ∧ ∀ k, k < w.heap.size → k ∉ L → w'.heap[k]? = w.heap[k]?
def RsL (L : List Nat) (w : World) (v : Value) (s : Sm) : Prop := ∀ w', Exc L w w' → RdS w' v s
theorem Exc.refl (L : List Nat) (w : World) : Exc L w w := ⟨Nat.le_refl _, fun _ _ _ => rfl⟩
theorem Exc.trans {L : List Nat} {a b c : World} (h : Exc L a b) (k : Exc L b c) : Exc L a c :=
  ⟨Nat.le_trans h.1 k.1, fun i h1 h2 => (k.2 i (Nat.lt_of_lt_of_le h1 h.1) h2).trans (h.2 i h1 h2)⟩
theorem RsL.rd {L : List Nat} {w : World} {v : Value} {s : Sm} (h : RsL L w v s) : RdS w v s := h w (Exc.refl _ _)
theorem RsL.of {L : List Nat} {B : Nat} {w : World} {v : Value} {s : Sm} (h : FrS B w v s) (hL : ∀ k ∈ L, k < B) : RsL L w v s :=
  fun w' he => h w' ⟨he.1, fun i h1 h2 => he.2 i h2 (fun hi => by have := hL i hi; omega)⟩
theorem RsL.next {L : List Nat} {w w' : World} {v : Value} {s : Sm} (h : RsL L w v s) (hb : Below w.heap.size w w') : RsL L w' v s :=
  fun w'' he => h w'' (Exc.trans ⟨hb.size, fun i h1 _ => hb.block i h1⟩ he)
theorem RsL.new {L : List Nat} {w w' : World} {v : Value} {s : Sm} (h : RsL L w v s) (hb : Below w.heap.size w w') : RsL (w.heap.size :: L) w' v s :=
  fun w'' he => h w'' ⟨Nat.le_trans hb.size he.1, fun i h1 h2 => (he.2 i (Nat.lt_of_lt_of_le h1 hb.size) (fun hi => by
    rcases List.mem_cons.1 hi with rfl | hi
    · omega
    · exact h2 hi)).trans (hb.block i h1)⟩
theorem RsL.put {L : List Nat} {g : Nat} {w w' : World} {v : Value} {s : Sm} (h : RsL L w v s) (ho : Only g w w') (hg : g ∈ L) : RsL L w' v s :=
  fun w'' he => h w'' (Exc.trans ⟨ho.size, fun i h1 h2 => ho.block i h1 (fun e => h2 (e ▸ hg))⟩ he)

theorem RsL.sub {L L' : List Nat} {w : World} {v : Value} {s : Sm} (h : RsL L w v s) (hs : ∀ k ∈ L', k ∈ L) : RsL L' w v s :=
  fun w' he => h w' ⟨he.1, fun i h1 h2 => he.2 i h1 (fun hi => h2 (hs i hi))⟩

/-! ### States of a region that draws its order -/
theorem wpH_cap {P : Program} {md : Region.Mode} {ops : Array Oper} {Q : Exit → Act → World → Prop} {S : World → Prop} {n : Nat} {l : Array Bool} {a : Act} {w : World}
    (h : ∀ o q s t, o = ops → q = Q → s = S → t = a → wpAnyH P md o q s n l t w) : wpAnyH P md ops Q S n l a w := h _ _ _ _ rfl rfl rfl rfl
theorem wpH_cong {P : Program} {md : Region.Mode} {o o' : Array Oper} {q q' : Exit → Act → World → Prop} {s s' : World → Prop} {n : Nat} {l l' : Array Bool} {a a' : Act} {w : World}
    (h1 : o' = o) (h2 : q' = q) (h3 : s' = s) (h4 : l' = l) (h5 : a' = a) (h : wpAnyH P md o' q' s' n l' a' w) : wpAnyH P md o q s n l a w := by
  subst h1 h2 h3 h4 h5; exact h

/-- The reference's Union of parts of a pool. -/
theorem mUnion (va vb : Value) (p : List Fp) (g h : Int → Int) (w : World) (hok : CM.Ok p) (ha : RdF w va (CM.rs p g)) (hb : RdF w vb (CM.rs p h)) :
    Calls Tryz.prog 10 #[va, vb] w fun e w' => ∃ v', e = .returned v' ∧ RdF w' v' (CM.un (CM.rs p g) (CM.rs p h)) ∧ Below w.heap.size w w' := by
  have h1 := CM.rs_len p g
  have h2 := CM.rs_len p h
  have h3 := hok.nine
  exact rUnion va vb _ _ w ha hb (by omega) (by omega)

end Go.Proofs.YtdipheijagjelaaGreat
