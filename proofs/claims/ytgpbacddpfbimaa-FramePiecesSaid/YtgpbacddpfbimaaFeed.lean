/-
  The calls of frame.Feed and elasticstoreref03.Feed: each returns what P2.4 says (FM.next). Conditions: the slices read as bytes, within the bounds that are named.
-/
import Derived.Laws.ResultCell
import Derived.Test.YtgpbacddpfbimaaList
import Derived.Test.YtgpbacddpfbimaaFrame
namespace Go.Proofs.Ytgpbacddpfbimaa
open Go.RowKit
open WM (Bytes)

theorem load_split (w : World) (g : Nat) (x y : Value) (h0 : w.cell? ⟨g, 0, none⟩ = some x) (h1 : w.cell? ⟨g, 1, none⟩ = some y) :
    (loadVar 38 ⟨g, 0, none⟩).run Try.prog w = .ok (.agg #[x, y]) w := by
  simp [go_sem, h0, h1]

theorem below_fresh' (w : World) (o : Obj) : Below w.heap.size w (w.alloc o) := (Below.refl _ w).alloc (Nat.le_refl _) _

/-- The end of Feed: the splitter lies in a cell. -/
theorem feed_ret {R : Ending → World → Prop} {a : Act} {w : World} {g : Nat} {x y l : Value} (hp : a.tmps.getD 4 undef = .pointer (some ⟨g, 0, none⟩)) (hu : a.tmps.getD 5 undef = l)
    (h0 : w.cell? ⟨g, 0, none⟩ = some x) (h1 : w.cell? ⟨g, 1, none⟩ = some y) (hd : a.defers = []) (hR : R (.returned (.tuple #[.agg #[x, y], l])) w) :
    bodyPost Try.prog Try.f20 R .ret a w := by
  refine bodyPost_ret ((results_cell_tmp rfl _ _ _).trans ?_) hd hR
  rw [hp, hu]
  have e : (asAddr (.pointer (some ⟨g, 0, none⟩))).run Try.prog w = .ok ⟨g, 0, none⟩ w := rfl
  rw [e]
  simp only [Result.andThen, load_split w g x y h0 h1]

set_option maxRecDepth 100000 in
set_option maxHeartbeats 1000000 in
theorem wFeedFailed (vB v : Value) (f : Int) (w : World) (hf : f ≠ 0) :
    Calls Try.prog 20 #[.agg #[vB, .int .i64 f], v] w fun e w' => e = .returned (.tuple #[.agg #[.slice none 0 0, .int .i64 f], .slice none 0 0]) ∧ Below w.heap.size w w' := by
  have hq : (f != 0) = true := by simpa using hf
  go_enter Try.func20, Try.ntmps20
  go_wp2
  refine feed_ret rfl rfl (by simp) (by simp) rfl ⟨rfl, ?_⟩
  exact ((Below.refl _ w).alloc (Nat.le_refl _) _).alloc (by simp) _

/-- All blocks but splitters are as they were. -/
def KeepsS (w w' : World) : Prop := ∀ (k : Nat) (cur : Array Value) (t : TypeId) (fr : Nat × Nat), t ≠ 38 → w.heap[k]? = some (Obj.cells cur t fr) → w'.heap[k]? = some (Obj.cells cur t fr)
theorem RdT.keepS {w w' : World} {v : Value} {xs : List Int} (h : RdT w v xs) (hk : KeepsS w w') : RdT w' v xs := by
  obtain ⟨⟨a, n, c, rfl, h1, h2, h3, h4, h5, h6⟩, ht⟩ := h
  refine ⟨⟨a, n, c, rfl, h1, h2, h3, h4, fun x hx i hi => ?_, h6⟩, fun a' n' c' he => ?_⟩
  · subst hx
    obtain ⟨cur, fr, hc⟩ := ht x n c rfl
    have h7 := h5 x rfl i hi
    have hb : (x.add i).block = x.block := by unfold Addr.add; split <;> rfl
    rw [World.cell?_of_block (w := w) (w' := w')]
    · exact h7
    · rw [hb, hc]; exact hk _ _ _ _ (by decide) hc
  · obtain ⟨cur, fr, hc⟩ := ht a' n' c' he
    exact ⟨cur, fr, hk _ _ _ _ (by decide) hc⟩
theorem Pays.keepS {w w' : World} {us : List Value} {pss : List (List Int)} (h : Pays w us pss) (hk : KeepsS w w') : Pays w' us pss := by
  induction h with
  | nil => exact .nil
  | cons h1 _ ih => exact .cons (h1.keepS hk) ih
theorem OwnL.keepS {base : Nat} {w w' : World} {v : Value} {pss : List (List Int)} (h : OwnL base w v pss) (hk : KeepsS w w') : OwnL base w' v pss := by
  obtain ⟨us, ⟨hl, h⟩, hp⟩ := h
  refine ⟨us, ⟨hl, ?_⟩, hp.keepS hk⟩
  rcases h with h | ⟨g, cap, cur, hv, hg, hh, r⟩
  · exact .inl h
  · exact .inr ⟨g, cap, cur, hv, hg, hk _ _ _ _ (by decide) hh, r⟩
theorem KeepsS.trans {a b c : World} (h : KeepsS a b) (k : KeepsS b c) : KeepsS a c := fun i cur t fr ht hi => k i cur t fr ht (h i cur t fr ht hi)
theorem keepsS_set {w : World} {g : Nat} {cur : Array Value} {fr : Nat × Nat} (h : w.heap[g]? = some (.cells cur 38 fr)) (i : Nat) (u : Value) : KeepsS w (w.setCell ⟨g, i, none⟩ u) := by
  intro k cur' t fr' ht hk
  by_cases e : k = g
  · subst e
    rw [h] at hk
    cases hk
    exact absurd rfl ht
  · rw [heap_setCell_other w ⟨g, i, none⟩ k u e]; exact hk

/-- What a store of a whole splitter needs and leaves. -/
theorem split_at {w : World} {g : Nat} {x y : Value} (h : w.heap[g]? = some (.cells #[x, y] 38 (0, 0))) :
    w.cell? ⟨g, 0, none⟩ = some x ∧ w.cell? ⟨g, 1, none⟩ = some y ∧ w.frozen? ⟨g, 0, none⟩ = false ∧ w.frozen? ⟨g, 1, none⟩ = false := by
  refine ⟨?_, ?_, ?_, ?_⟩
  · simp [World.cell?, h]
  · simp [World.cell?, h]
  · simp [World.frozen?, h]
  · simp [World.frozen?, h]
theorem split_put {w : World} {g : Nat} {x y : Value} (h : w.heap[g]? = some (.cells #[x, y] 38 (0, 0))) (u v : Value) (B : Nat) (hB : B ≤ g) :
    ((w.setCell ⟨g, 0, none⟩ u).setCell ⟨g, 1, none⟩ v).heap[g]? = some (.cells #[u, v] 38 (0, 0)) ∧
    KeepsS w ((w.setCell ⟨g, 0, none⟩ u).setCell ⟨g, 1, none⟩ v) ∧ Below B w ((w.setCell ⟨g, 0, none⟩ u).setCell ⟨g, 1, none⟩ v) := by
  have h1 := heap_setCell_same w g 0 _ _ u h
  have h2 := heap_setCell_same (w.setCell ⟨g, 0, none⟩ u) g 1 _ _ v h1
  exact ⟨h2, (keepsS_set h 0 u).trans (keepsS_set h1 1 v), ((Below.refl _ w).setCell hB u).setCell hB v⟩

/-- How many elements a slice value has. -/
def slLen : Value → Nat
  | .slice _ n _ => n
  | _ => 0
theorem Rd.slLen {w : World} {v : Value} {xs : List Int} (h : Rd w v xs) : slLen v = xs.length := by
  obtain ⟨a, n, c, rfl, h1, _⟩ := h
  exact h1.symm

set_option maxRecDepth 100000 in
set_option maxHeartbeats 2000000 in
theorem wFeed0 (vB v : Value) (bs xs : List Int) (w : World) (hB : Rd w vB bs) (hv : Rd w v xs) (hl : bs.length + xs.length ≤ 1099511627776) :
    Calls Try.prog 20 #[.agg #[vB, .int .i64 0], v] w fun e w' => ∃ vR vL, e = .returned (.tuple #[.agg #[vR, .int .i64 (FM.feed (bs ++ xs)).2.1], vL]) ∧
      RdT w' vR (FM.feed (bs ++ xs)).1 ∧ OwnL w.heap.size w' vL (FM.feed (bs ++ xs)).2.2 ∧ Below w.heap.size w w' := by
  have hxb := FM.Bytes.append' hB.bytes hv.bytes
  obtain ⟨F, hF⟩ : ∃ F, F = FM.feed (bs ++ xs) := ⟨_, rfl⟩
  rw [← hF]
  have HF := Lib.hid hF
  clear hF
  obtain ⟨ab, cb, rfl, hcb⟩ := hB.shape
  obtain ⟨av, cv, rfl, hcv⟩ := hv.shape
  obtain ⟨w2, hw2⟩ : ∃ w2, w2 = (w.alloc (.cells #[.slice ab bs.length cb, .int .i64 0] 38)).alloc (.cells #[.slice none 0 0, .int .i64 0] 38) := ⟨_, rfl⟩
  have hb0 : Below w.heap.size w w2 := by rw [hw2]; exact ((Below.refl _ w).alloc (Nat.le_refl _) _).alloc (by simp) _
  have hg0 : w2.heap[w.heap.size + 1]? = some (.cells #[.slice none 0 0, .int .i64 0] 38 (0, 0)) := by
    have := heap_alloc_new (w.alloc (.cells #[.slice ab bs.length cb, .int .i64 0] 38)) (.cells #[.slice none 0 0, .int .i64 0] 38)
    rw [hw2]
    simpa using this
  have hsz0 : w2.heap.size = w.heap.size + 2 := by rw [hw2]; simp
  have hb1 := below_fresh' w2 (.cells #[.slice ab bs.length cb, .slice av xs.length cv] 22)
  have hcat := wConcat w2.heap.size _ _ bs xs _ (pair0 w2 _ _ _) (pair1 w2 _ _ _) ((hB.below hb0).below hb1) ((hv.below hb0).below hb1) (by omega)
  have hb2 := hb0.trans (hb1.mono hb0.size)
  have hg1 := (Below.keepsT hb1) _ _ _ _ (by decide) hg0
  rw [hsz0] at hcat
  have hbb := Lib.hid hxb
  have hlen := Lib.hid (show (bs ++ xs).length ≤ 1099511627776 by rw [List.length_append]; exact hl)
  clear hB hv hxb hb0 hb1 hg0
  generalize hZ : bs ++ xs = Z at HF hcat hbb hlen
  clear hZ
  go_enter Try.func20, Try.ntmps20
  go_wp2_with fail
  rw [← hw2]
  refine hcat.mono ?_
  rintro e w3 ⟨v1, rfl, ho1, hb3⟩
  have hb4 := hb2.trans (hb3.mono hb2.size)
  have hg3 := (Below.keepsT hb3) _ _ _ _ (by decide) hg1
  have hr1 := ho1.rdT
  obtain ⟨a1, c1, rfl, hc1⟩ := hr1.1.shape
  clear hcat hb2 hb3 hg1 ho1 hw2 hsz0
  go_wp2_with fail
  go_loopw [6, 7] (fun z r wr => ∃ rs ds, slLen r = rs.length ∧ RdT wr r rs ∧ OwnL w.heap.size wr z ds ∧ Below w.heap.size w wr ∧ Hid (wr.heap[w.heap.size + 1]? = some (.cells #[.slice none 0 0, .int .i64 0] 38 (0, 0))) ∧
      Hid (F = ((FM.feed rs).1, (FM.feed rs).2.1, ds ++ (FM.feed rs).2.2)) ∧ ds.length + rs.length ≤ 1099511627776) (fun _ r _ => slLen r)
  case atStart => exact ⟨Z, [], rfl, hr1, OwnL.nil _ _, hb4, hg3, HF.out, by have := hlen.out; simpa using this⟩
  case round =>
    obtain ⟨rs, ds, hsl, hr, ho, hb, hg, he, hdl⟩ := hrel
    have hdec := wDecode _ rs wr hr.1 (by omega)
    rcases FM.dec_ways rs hr.1.bytes with ⟨n, p, hd, h8, hn, hpl, hpb⟩ | hd | hd | hd
    · rw [hd] at hdec
      have hfd := FM.feed_more hd h8 hn
      rw [hfd] at he
      obtain ⟨a, c, rfl, hc⟩ := hr.1.shape
      obtain ⟨vn, hcut, hrn⟩ := hr.cutL n hn
      clear hd hfd hsl
      go_wp2_with fail
      refine hdec.mono ?_
      rintro e w4 ⟨v4, rfl, ho4, hb5⟩
      have hb6 := hb.trans (hb5.mono hb.size)
      have ho5 := ho.below hb5
      have hrn5 := hrn.below hb5
      have hg5 := (Below.keepsT hb5) _ _ _ _ (by decide) hg.out
      have hp4 := ho4.rdT
      obtain ⟨a4, c4, rfl, hc4⟩ := hp4.1.shape
      have hs6 := hb6.size
      clear hdec ho4 ho hrn hr hb hb5 hg
      have HN := Lib.hid hrn5
      have HG := Lib.hid hg5
      clear hrn5 hg5
      go_wp2_with (at_builtin; refine wp_appL1 rfl _ _ rfl rfl ho5 rfl hp4 (by omega) hs6 ?_)
      intro v5 w5 ho6 hb7 hk7
      have hrn6 := HN.out.keep hk7
      have hg6 := Lib.hid (hk7 _ _ _ _ (by decide) HG.out)
      have hb8 := hb6.trans hb7
      clear HN HG hk7 hb6 hb7 ho5 hp4
      have hln := hrn6.1.slLen
      rw [List.length_drop] at hln
      go_wp2
      go_roundw
      case rel => exact ⟨rs.drop n, ds ++ [p], by rw [hln, List.length_drop], hrn6, ho6, hb8, hg6, (by show _ = _; rw [he.out, List.append_assoc]; rfl), (by rw [List.length_append, List.length_drop, List.length_singleton]; omega)⟩
      case measure => rw [hln]; simp only [slLen]; omega
    · rw [hd] at hdec
      have hfd := FM.feed_wait (xs := rs) (by rw [hd])
      rw [hfd, List.append_nil] at he
      obtain ⟨a, c, rfl, hc⟩ := hr.1.shape
      clear hd hfd hsl
      go_wp2_with fail
      refine hdec.mono ?_
      rintro e w4 ⟨v4, rfl, ho4, hb5⟩
      have hb6 := hb.trans (hb5.mono hb.size)
      have ho5 := ho.below hb5
      have hr5 := hr.below hb5
      have hg5 := (Below.keepsT hb5) _ _ _ _ (by decide) hg.out
      obtain ⟨a4, c4, rfl, hc4⟩ := ho4.rd.shape
      obtain ⟨q0, q1, q2, q3⟩ := split_at hg5
      obtain ⟨g6, k6, b6⟩ := split_put hg5 (.slice a rs.length c) (.int .i64 0) w.heap.size (by omega)
      obtain ⟨p0, p1, _, _⟩ := split_at g6
      have HP0 := Lib.hid p0
      have HP1 := Lib.hid p1
      clear hdec ho4 ho hr hb hb5 hg g6 p0 p1
      go_wp2
      have he2 := he.out
      rw [he2]
      refine feed_ret rfl rfl HP0.out HP1.out rfl ⟨_, _, rfl, hr5.keepS k6, ho5.keepS k6, hb6.trans b6⟩
    · rw [hd] at hdec
      have hfd := FM.feed_stop (xs := rs) (e := 3) (by rw [hd]) (by decide) (by decide)
      rw [hfd, List.append_nil] at he
      obtain ⟨a, c, rfl, hc⟩ := hr.1.shape
      clear hd hfd hsl
      go_wp2_with fail
      refine hdec.mono ?_
      rintro e w4 ⟨v4, rfl, ho4, hb5⟩
      have hb6 := hb.trans (hb5.mono hb.size)
      have ho5 := ho.below hb5
      have hr5 := hr.below hb5
      have hg5 := (Below.keepsT hb5) _ _ _ _ (by decide) hg.out
      obtain ⟨a4, c4, rfl, hc4⟩ := ho4.rd.shape
      obtain ⟨q0, q1, q2, q3⟩ := split_at hg5
      obtain ⟨g6, k6, b6⟩ := split_put hg5 (.slice none 0 0) (.int .i64 3) w.heap.size (by omega)
      obtain ⟨p0, p1, _, _⟩ := split_at g6
      have HP0 := Lib.hid p0
      have HP1 := Lib.hid p1
      clear hdec ho4 ho hr hb hb5 hg g6 p0 p1
      go_wp2
      have he2 := he.out
      rw [he2]
      refine feed_ret rfl rfl HP0.out HP1.out rfl ⟨_, _, rfl, RdT.nil _, ho5.keepS k6, hb6.trans b6⟩
    · rw [hd] at hdec
      have hfd := FM.feed_stop (xs := rs) (e := 4) (by rw [hd]) (by decide) (by decide)
      rw [hfd, List.append_nil] at he
      obtain ⟨a, c, rfl, hc⟩ := hr.1.shape
      clear hd hfd hsl
      go_wp2_with fail
      refine hdec.mono ?_
      rintro e w4 ⟨v4, rfl, ho4, hb5⟩
      have hb6 := hb.trans (hb5.mono hb.size)
      have ho5 := ho.below hb5
      have hr5 := hr.below hb5
      have hg5 := (Below.keepsT hb5) _ _ _ _ (by decide) hg.out
      obtain ⟨a4, c4, rfl, hc4⟩ := ho4.rd.shape
      obtain ⟨q0, q1, q2, q3⟩ := split_at hg5
      obtain ⟨g6, k6, b6⟩ := split_put hg5 (.slice none 0 0) (.int .i64 4) w.heap.size (by omega)
      obtain ⟨p0, p1, _, _⟩ := split_at g6
      have HP0 := Lib.hid p0
      have HP1 := Lib.hid p1
      clear hdec ho4 ho hr hb hb5 hg g6 p0 p1
      go_wp2
      have he2 := he.out
      rw [he2]
      refine feed_ret rfl rfl HP0.out HP1.out rfl ⟨_, _, rfl, RdT.nil _, ho5.keepS k6, hb6.trans b6⟩

theorem wFeed (vB v : Value) (f : Int) (bs xs : List Int) (w : World) (hB : Rd w vB bs) (hv : Rd w v xs) (hl : bs.length + xs.length ≤ 1099511627776) :
    Calls Try.prog 20 #[.agg #[vB, .int .i64 f], v] w fun e w' => ∃ vR vL, e = .returned (.tuple #[.agg #[vR, .int .i64 (FM.next bs f xs).2.1], vL]) ∧
      RdT w' vR (FM.next bs f xs).1 ∧ OwnL w.heap.size w' vL (FM.next bs f xs).2.2 ∧ Below w.heap.size w w' := by
  unfold FM.next
  by_cases hf : f = 0
  · subst hf
    rw [if_pos rfl]
    exact wFeed0 vB v bs xs w hB hv hl
  · rw [if_neg hf]
    refine (wFeedFailed vB v f w hf).mono ?_
    rintro e w1 ⟨rfl, hb⟩
    exact ⟨_, _, rfl, RdT.nil _, OwnL.nil _ _, hb⟩

set_option maxRecDepth 100000 in
set_option maxHeartbeats 1000000 in
theorem rFeedFailed (vB v : Value) (f : Int) (w : World) (hf : f ≠ 0) :
    Calls Try.prog 21 #[vB, .int .i64 f, v] w fun e w' => e = .returned (.tuple #[.slice none 0 0, .int .i64 f, .slice none 0 0]) ∧ w = w' := by
  have hq : (f != 0) = true := by simpa using hf
  go_enter Try.func21, Try.ntmps21
  go_wp2
  go_ret3
  exact ⟨rfl, rfl⟩

set_option maxRecDepth 100000 in
set_option maxHeartbeats 2000000 in
theorem rFeed0 (vB v : Value) (bs xs : List Int) (w : World) (hB : Rd w vB bs) (hv : Rd w v xs) (hl : bs.length + xs.length ≤ 1099511627776) :
    Calls Try.prog 21 #[vB, .int .i64 0, v] w fun e w' => ∃ vR vL, e = .returned (.tuple #[vR, .int .i64 (FM.feed (bs ++ xs)).2.1, vL]) ∧
      RdT w' vR (FM.feed (bs ++ xs)).1 ∧ OwnL w.heap.size w' vL (FM.feed (bs ++ xs)).2.2 ∧ Below w.heap.size w w' := by
  have hxb := FM.Bytes.append' hB.bytes hv.bytes
  obtain ⟨F, hF⟩ : ∃ F, F = FM.feed (bs ++ xs) := ⟨_, rfl⟩
  rw [← hF]
  have HF := Lib.hid hF
  clear hF
  obtain ⟨ab, cb, rfl, hcb⟩ := hB.shape
  obtain ⟨av, cv, rfl, hcv⟩ := hv.shape
  have ho0 := own_empty w
  have hb0 := below_empty w
  have HB := hB.below hb0
  have HV := Lib.hid hv
  have hs0 := hb0.size
  have hbb := Lib.hid hxb
  clear hB hv hxb
  go_enter Try.func21, Try.ntmps21
  go_wp2_with (at_builtin; refine wp_appS rfl _ _ rfl rfl ho0 rfl HB (by simp) (by omega) hs0 ?_)
  intro v1 w1 ho1 hb1
  have hb2 := hb0.trans hb1
  have HV1 := HV.out.below hb2
  have hs2 := hb2.size
  clear ho0 hb0 HB hs0 hb1 HV
  go_wp2_with (at_builtin; refine wp_appS rfl _ _ rfl rfl ho1 rfl HV1 (by omega) (by omega) hs2 ?_)
  intro v2 w2 ho2 hb3
  have hb4 := hb2.trans hb3
  have hlen := Lib.hid (show (bs ++ xs).length = bs.length + xs.length from List.length_append)
  generalize bs ++ xs = Z at ho2 HF hbb hlen
  have hr1 := ho2.rdT
  obtain ⟨a1, c1, rfl, hc1⟩ := hr1.1.shape
  clear ho1 HV1 hb2 hb3 hs2 ho2
  go_wp2_with fail
  go_loopw [9, 10] (fun r z wr => ∃ rs ds, slLen r = rs.length ∧ RdT wr r rs ∧ OwnL w.heap.size wr z ds ∧ Below w.heap.size w wr ∧
      Hid (F = ((FM.feed rs).1, (FM.feed rs).2.1, ds ++ (FM.feed rs).2.2)) ∧ ds.length + rs.length ≤ bs.length + xs.length) (fun r _ _ => slLen r)
  case atStart => exact ⟨Z, [], rfl, hr1, OwnL.nil _ _, hb4, HF.out, by rw [hlen.out]; simp⟩
  case round =>
    obtain ⟨rs, ds, hsl, hr, ho, hb, he, hdl⟩ := hrel
    have hdec := rDecode _ rs wr hr.1 (by omega)
    obtain ⟨az, cz, rfl, hcz, hzl⟩ := ho.rdL.shape
    have hle : (ds.length : Int) ≤ (bs.length : Int) + (xs.length : Int) := by omega
    obtain ⟨a, c, rfl, hc⟩ := hr.1.shape
    rcases FM.dec_ways rs hr.1.bytes with ⟨n, p, hd, h8, hn, hpl, hpb⟩ | hd | hd | hd
    · rw [hd] at hdec
      have hfd := FM.feed_more hd h8 hn
      rw [hfd] at he
      obtain ⟨vn, hcut, hrn⟩ := hr.cutL n hn
      clear hd hfd hsl
      go_wp2_with fail
      refine hdec.mono ?_
      rintro e w4 ⟨v4, rfl, ho4, hb5⟩
      have hb6 := hb.trans (hb5.mono hb.size)
      have ho5 := ho.below hb5
      have hrn5 := hrn.below hb5
      have hp4 := ho4.rdT
      obtain ⟨a4, c4, rfl, hc4⟩ := hp4.1.shape
      have hs6 := hb6.size
      clear hdec ho4 ho hrn hr hb hb5
      have HN := Lib.hid hrn5
      clear hrn5
      go_wp2_with (at_builtin; refine wp_appL1 rfl _ _ rfl rfl ho5 rfl hp4 (by omega) hs6 ?_)
      intro v5 w5 ho6 hb7 hk7
      have hrn6 := HN.out.keep hk7
      have hb8 := hb6.trans hb7
      clear HN hk7 hb6 hb7 ho5 hp4
      have hln := hrn6.1.slLen
      rw [List.length_drop] at hln
      go_wp2
      go_roundw
      case rel => exact ⟨rs.drop n, ds ++ [p], by rw [hln, List.length_drop], hrn6, ho6, hb8, (by show _ = _; rw [he.out, List.append_assoc]; rfl), (by rw [List.length_append, List.length_drop, List.length_singleton]; omega)⟩
      case measure => rw [hln]; simp only [slLen]; omega
    · rw [hd] at hdec
      have hfd := FM.feed_wait (xs := rs) (by rw [hd])
      rw [hfd, List.append_nil] at he
      clear hd hfd hsl
      go_wp2_with fail
      refine hdec.mono ?_
      rintro e w4 ⟨v4, rfl, ho4, hb5⟩
      have hb6 := hb.trans (hb5.mono hb.size)
      have ho5 := ho.below hb5
      have hr5 := hr.below hb5
      clear hdec ho4 ho hr hb hb5 hzl
      go_wp2
      go_ret3
      have he2 := he.out
      rw [he2]
      exact ⟨_, _, rfl, hr5, ho5, hb6⟩
    · rw [hd] at hdec
      have hfd := FM.feed_stop (xs := rs) (e := 3) (by rw [hd]) (by decide) (by decide)
      rw [hfd, List.append_nil] at he
      clear hd hfd hsl
      go_wp2_with fail
      refine hdec.mono ?_
      rintro e w4 ⟨v4, rfl, ho4, hb5⟩
      have hb6 := hb.trans (hb5.mono hb.size)
      have ho5 := ho.below hb5
      have hr5 := hr.below hb5
      clear hdec ho4 ho hr hb hb5 hzl
      go_wp2
      go_ret3
      have he2 := he.out
      rw [he2]
      exact ⟨_, _, rfl, RdT.nil _, ho5, hb6⟩
    · rw [hd] at hdec
      have hfd := FM.feed_stop (xs := rs) (e := 4) (by rw [hd]) (by decide) (by decide)
      rw [hfd, List.append_nil] at he
      clear hd hfd hsl
      go_wp2_with fail
      refine hdec.mono ?_
      rintro e w4 ⟨v4, rfl, ho4, hb5⟩
      have hb6 := hb.trans (hb5.mono hb.size)
      have ho5 := ho.below hb5
      have hr5 := hr.below hb5
      clear hdec ho4 ho hr hb hb5 hzl
      go_wp2
      go_ret3
      have he2 := he.out
      rw [he2]
      exact ⟨_, _, rfl, RdT.nil _, ho5, hb6⟩

theorem rFeed (vB v : Value) (f : Int) (bs xs : List Int) (w : World) (hB : Rd w vB bs) (hv : Rd w v xs) (hl : bs.length + xs.length ≤ 1099511627776) :
    Calls Try.prog 21 #[vB, .int .i64 f, v] w fun e w' => ∃ vR vL, e = .returned (.tuple #[vR, .int .i64 (FM.next bs f xs).2.1, vL]) ∧
      RdT w' vR (FM.next bs f xs).1 ∧ OwnL w.heap.size w' vL (FM.next bs f xs).2.2 ∧ Below w.heap.size w w' := by
  unfold FM.next
  by_cases hf : f = 0
  · subst hf
    rw [if_pos rfl]
    exact rFeed0 vB v bs xs w hB hv hl
  · rw [if_neg hf]
    refine (rFeedFailed vB v f w hf).mono ?_
    rintro e w1 ⟨rfl, rfl⟩
    exact ⟨_, _, rfl, RdT.nil _, OwnL.nil _ _, Below.refl _ _⟩

end Go.Proofs.Ytgpbacddpfbimaa
