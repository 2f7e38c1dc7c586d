/-
  The calls of package vector's walk, its collector and its observer; of vector.Join, Meet, Compare, LessEqual. Conditions: the arguments read as vectors, valid and within the bounds where they are named.
  The calls of vector.Join, Meet, Compare, LessEqual: each returns what the plain mathematics says. Conditions: the arguments read as vectors, within the bounds that are named.
-/
import Derived.StillTailTactics
import Derived.Shelf.Abstract
import Derived.Test.YtejedodicihecaaAB
namespace Go.Proofs.Ytejedodicihecaa.VX
open Go.RowKit Go.Shelf
open VM (Ent)

/-- Block g is a collector (or whatever lies in one cell) that holds the call's own vector xs; all that lay in w0 is as it was. -/
def Coll (w0 : World) (g : Nat) (w : World) (xs : List Ent) : Prop :=
  ∃ v, w.heap[g]? = some (.cells #[v] 62 (0, 0)) ∧ OwnV w0.heap.size w v xs ∧ Below w0.heap.size w0 w

theorem OwnV.set_other {B : Nat} {w : World} {v u x : Value} {xs : List Ent} {g : Nat} {t : TypeId} (h : OwnV B w v xs) (hg : w.heap[g]? = some (.cells #[x] t (0, 0))) (ht : t ≠ 49) : OwnV B (w.setCell ⟨g, 0, none⟩ u) v xs := by
  refine ownsRow_setCell_other h ?_ u
  intro he
  rcases h.2 with ⟨rfl, _⟩ | ⟨g', cap, cur, rfl, _, hh, _⟩
  · cases he
  · simp only [Value.ownBlock] at he
    cases he
    rw [hh] at hg
    cases hg
    exact ht rfl

set_option maxRecDepth 100000 in
set_option maxHeartbeats 1000000 in
theorem wAdd (w0 : World) (g : Nat) (xs : List Ent) (x n : Int) (w : World) (h : Coll w0 g w xs) (hg : w0.heap.size ≤ g) (hl : xs.length ≤ 1000000) :
    Calls Try.prog 35 #[.pointer (some ⟨g, 0, none⟩), .int .i64 x, .int .i64 n] w fun e w' => e = .returned (.tuple #[]) ∧ Coll w0 g w' (xs ++ VM.one x n) := by
  by_cases hn : n = 0
  · have hx : (n != 0) = false := by simpa using hn
    have h' : Coll w0 g w (xs ++ VM.one x n) := by rw [VM.one, if_pos hn, List.append_nil]; exact h
    clear h hn
    go_enter Try.func35, Try.ntmps35
    go_wp2
    go_end0
    exact ⟨rfl, h'⟩
  · have hx : (n != 0) = true := by simpa using hn
    obtain ⟨v, hv, ho, hb⟩ := h
    have hsz := hb.size
    have ho1 : VM.one x n = [(x, n)] := by rw [VM.one, if_neg hn]
    rw [ho1]
    have c0 := cell_of_one hv
    have HV := Lib.hid hv
    clear hn ho1 hv
    go_enter Try.func35, Try.ntmps35
    go_wp2_with (at_builtin; refine wp_appV1 rfl _ _ rfl rfl ho rfl (by omega) hsz ?_)
    intro v5 w5 ho5 hb5 hk5
    have hv5 := hk5 _ _ _ _ (by decide) HV.out
    have hb6 := (hb.trans hb5).setCell (p := ⟨g, 0, none⟩) hg v5
    have ho6 := ho5.set_other (u := v5) hv5 (by decide)
    have hv6 := one_setCell (u := v5) hv5
    have c5 := cell_of_one hv5
    have f5 := free_of_one hv5
    have HV6 := Lib.hid hv6
    have HO6 := Lib.hid ho6
    have HB6 := Lib.hid hb6
    clear hk5 hv5 ho5 hb5 hb ho HV hv6 ho6 hb6 c0 hsz
    obtain ⟨a5, n5, k5, rfl⟩ : ∃ a5 n5 k5, v5 = .slice a5 n5 k5 := by
      obtain ⟨a, c, h, _⟩ := HO6.out.rd.shape
      exact ⟨_, _, _, h⟩
    go_wp2
    go_end0
    exact ⟨rfl, _, HV6.out, HO6.out, HB6.out⟩

set_option maxRecDepth 100000 in
set_option maxHeartbeats 1000000 in
theorem wAddGreater (w0 : World) (g : Nat) (xs : List Ent) (x n m : Int) (w : World) (h : Coll w0 g w xs) (hg : w0.heap.size ≤ g) (hl : xs.length ≤ 1000000) :
    Calls Try.prog 32 #[.pointer (some ⟨g, 0, none⟩), .int .i64 x, .int .i64 n, .int .i64 m] w fun e w' => e = .returned (.tuple #[]) ∧ Coll w0 g w' (xs ++ VM.one x (max n m)) := by
  have hadd := wAdd w0 g xs x (max n m) w h hg hl
  obtain ⟨M, hM⟩ : ∃ M, M = max n m := ⟨_, rfl⟩
  have hM2 : (if n < m then m else n) = M := by split <;> omega
  rw [← hM] at hadd ⊢
  clear hM h
  go_enter Try.func32, Try.ntmps32
  go_wp2_with fail
  refine hadd.mono ?_
  rintro e w1 ⟨rfl, h1⟩
  go_wp2
  go_end0
  exact ⟨rfl, h1⟩

/-- Block g is an Order with the directions l and r. -/
def Obs (w0 : World) (g : Nat) (w : World) (l r : Bool) : Prop :=
  w.heap[g]? = some (.cells #[.int .i64 (VM.code l r)] 59 (0, 0)) ∧ Below w0.heap.size w0 w

theorem Obs.put {w0 w : World} {g : Nat} {l r l' r' : Bool} (h : Obs w0 g w l r) (hg : w0.heap.size ≤ g) : Obs w0 g (w.setCell ⟨g, 0, none⟩ (.int .i64 (VM.code l' r'))) l' r' :=
  ⟨one_setCell h.1, h.2.setCell (p := ⟨g, 0, none⟩) hg _⟩

set_option maxRecDepth 100000 in
set_option maxHeartbeats 1000000 in
theorem wObserve (w0 : World) (g : Nat) (l r : Bool) (x n m : Int) (w : World) (h : Obs w0 g w l r) (hg : w0.heap.size ≤ g) :
    Calls Try.prog 33 #[.pointer (some ⟨g, 0, none⟩), .int .i64 x, .int .i64 n, .int .i64 m] w fun e w' => e = .returned (.tuple #[]) ∧ Obs w0 g w' (l || decide (n < m)) (r || decide (m < n)) := by
  have c0 := cell_of_one h.1
  have f0 := free_of_one h.1
  have b01 : bits .or .i64 0 1 = 1 := by decide
  have b11 : bits .or .i64 1 1 = 1 := by decide
  have b21 : bits .or .i64 2 1 = 3 := by decide
  have b31 : bits .or .i64 3 1 = 3 := by decide
  have b02 : bits .or .i64 0 2 = 2 := by decide
  have b12 : bits .or .i64 1 2 = 3 := by decide
  have b22 : bits .or .i64 2 2 = 2 := by decide
  have b32 : bits .or .i64 3 2 = 3 := by decide
  obtain ⟨l', hl⟩ : ∃ z, z = (l || decide (n < m)) := ⟨_, rfl⟩
  obtain ⟨r', hr⟩ : ∃ z, z = (r || decide (m < n)) := ⟨_, rfl⟩
  rw [← hl, ← hr]
  by_cases h1 : n < m
  · have h2 : ¬ m < n := by omega
    have H : Obs w0 g (w.setCell ⟨g, 0, none⟩ (.int .i64 (VM.code true r))) l' r' := by
      rw [hl, hr, decide_eq_true h1, decide_eq_false h2, Bool.or_true, Bool.or_false]
      exact h.put hg
    have HH := Lib.hid H
    clear h H hl hr
    cases l <;> cases r
    all_goals
      simp only [VM.code, if_true, if_false, Bool.false_eq_true, Int.reduceAdd] at c0 HH
      go_enter Try.func33, Try.ntmps33
      go_wp2
      go_end0
      exact ⟨rfl, HH.out⟩
  · by_cases h2 : m < n
    · have H : Obs w0 g (w.setCell ⟨g, 0, none⟩ (.int .i64 (VM.code l true))) l' r' := by
        rw [hl, hr, decide_eq_false h1, decide_eq_true h2, Bool.or_true, Bool.or_false]
        exact h.put hg
      have HH := Lib.hid H
      clear h H hl hr
      cases l <;> cases r
      all_goals
        simp only [VM.code, if_true, if_false, Bool.false_eq_true, Int.reduceAdd] at c0 HH
        go_enter Try.func33, Try.ntmps33
        go_wp2
        go_end0
        exact ⟨rfl, HH.out⟩
    · have H : Obs w0 g w l' r' := by
        rw [hl, hr, decide_eq_false h1, decide_eq_false h2, Bool.or_false, Bool.or_false]
        exact h
      have HH := Lib.hid H
      clear h H hl hr
      go_enter Try.func33, Try.ntmps33
      go_wp2
      go_end0
      exact ⟨rfl, HH.out⟩

/-- How many elements a slice value has. -/
def slLen : Value → Nat
  | .slice _ n _ => n
  | _ => 0
theorem RdV.slLen {w : World} {v : Value} {xs : List Ent} (h : RdV w v xs) : slLen v = xs.length := by
  obtain ⟨a, c, rfl, _⟩ := h
  rfl

/-- 'v[0]' and 'v[1:]' of a vector that has an entry. -/
theorem RdV.head {w : World} {a : Option Addr} {n c : Nat} {e : Ent} {v : List Ent} (h : RdV w (.slice a n c) (e :: v)) :
    ∃ b o v', (∀ w0, (Instr.indexAt 23 (.slice a n c) (.int .i64 0)).run Try.prog w0 = .ok (.pointer (some ⟨b, o, none⟩)) w0) ∧
      w.cell? ⟨b, o, none⟩ = some (.int .i64 e.1) ∧ w.cell? ⟨b, o + 1, none⟩ = some (.int .i64 e.2) ∧
      (∀ w0, (Instr.slice 23 (.slice a n c) (some (.int .i64 1)) none none).run Try.prog w0 = .ok v' w0) ∧ RdV w v' v ∧ v.length + 1 = n := by
  obtain ⟨b, o, h1, _, h2, h3⟩ := h.at 0 e rfl
  obtain ⟨v', h4, h5⟩ := h.cutL 1 (by simp)
  have hn := h.slLen
  exact ⟨b, o, v', h1, h2, h3, h4, h5, hn.symm⟩

/-- A world that has drawn. -/
def Drew (w w' : World) : Prop := ∃ n, w' = w.drewN n

theorem mrg_nil_nil : VM.mrg [] [] = [] := by rw [VM.mrg]
theorem mrg_cons_nil (e : Ent) (a : List Ent) : VM.mrg (e :: a) [] = (e.1, e.2, 0) :: VM.mrg a [] := by rw [VM.mrg]
theorem mrg_nil_cons (f : Ent) (b : List Ent) : VM.mrg [] (f :: b) = (f.1, 0, f.2) :: VM.mrg [] b := by rw [VM.mrg]
theorem mrg_cons_cons (e f : Ent) (a b : List Ent) : VM.mrg (e :: a) (f :: b) = if e.1 < f.1 then (e.1, e.2, 0) :: VM.mrg a (f :: b) else if f.1 < e.1 then (f.1, 0, f.2) :: VM.mrg (e :: a) b else (e.1, e.2, f.2) :: VM.mrg a b := by
  rw [VM.mrg]

set_option maxRecDepth 100000 in
set_option maxHeartbeats 4000000 in
theorem wWalk (F : Nat) (bp : Value) (eF : ∀ args w, (callFunc F args).run Try.prog w = .ok (.enter F args) w) (va vb : Value) (xs ys : List Ent) (w0 w : World) (I : List (Int × Int × Int) → World → Prop)
    (ha : RdV w0 va xs) (hb : RdV w0 vb ys) (h0 : I [] w) (hI : ∀ ts wr, I ts wr → Below w0.heap.size w0 wr) (hdr : ∀ ts wr n, I ts wr → I ts (wr.drewN n))
    (hst : ∀ ts x n m wr, ts.length < xs.length + ys.length → I ts wr → Calls Try.prog F #[bp, .int .i64 x, .int .i64 n, .int .i64 m] wr fun e w' => e = .returned (.tuple #[]) ∧ I (ts ++ [(x, n, m)]) w') :
    Calls Try.prog 31 #[va, vb, .func (.func F) #[bp] #[]] w fun e w' => e = .returned (.tuple #[]) ∧ I (VM.mrg xs ys) w' := by
  obtain ⟨aa, ca, rfl, hca, hla⟩ := ha.shape
  obtain ⟨ab, cb, rfl, hcb, hlb⟩ := hb.shape
  have HA := Lib.hid ha
  have HB := Lib.hid hb
  have HI := Lib.hid hI
  have HD := Lib.hid hdr
  have HS := Lib.hid hst
  obtain ⟨R, hR⟩ : ∃ R, R = VM.mrg xs ys := ⟨_, rfl⟩
  rw [← hR]
  have HR := Lib.hid hR
  have H0 := Lib.hid h0
  clear ha hb hI hdr hst hR h0 hla hlb hca hcb
  go_enter Try.func31, Try.ntmps31
  go_wp2
  go_loopw [0, 1] (fun za zb wr => ∃ (da db : List Ent) (ts : List (Int × Int × Int)), RdV w0 za da ∧ RdV w0 zb db ∧ ts.length + da.length + db.length ≤ xs.length + ys.length ∧ Hid (I ts wr) ∧ Hid (ts ++ VM.mrg da db = R)) (fun za zb _ => slLen za + slLen zb)
  case atStart => exact ⟨xs, ys, [], HA.out, HB.out, by simp, H0, (by show _ = _; rw [HR.out]; rfl)⟩
  case round =>
    obtain ⟨da, db, ts, hra, hrb, hlen, hi, he⟩ := hrel
    have hbl := HI.out ts wr hi.out
    clear HR H0
    obtain ⟨aa, ca, rfl, hca, hla⟩ := hra.shape
    obtain ⟨ab, cb, rfl, hcb, hlb⟩ := hrb.shape
    cases da with
    | nil =>
      cases db with
      | nil =>
        have e2 := Lib.hid (show I R wr by rw [← he.out, mrg_nil_nil, List.append_nil]; exact hi.out)
        clear he hi hra hrb hbl
        go_wp2
        go_end0
        exact ⟨rfl, e2.out⟩
      | cons f b =>
        obtain ⟨bb, ob, vb', hib, c0, c1, hsb, hrb', hnb⟩ := hrb.head
        obtain ⟨y, m⟩ := f
        have e2 := Lib.hid (show (ts ++ [(y, 0, m)]) ++ VM.mrg [] b = R by rw [← he.out, mrg_nil_cons, List.append_assoc]; rfl)
        have hlt : ts.length < xs.length + ys.length := by simp only [List.length_nil, List.length_cons] at hlen; omega
        have hl2 : (ts ++ [(y, (0 : Int), m)]).length + ([] : List Ent).length + b.length ≤ xs.length + ys.length := by simp only [List.length_append, List.length_nil, List.length_cons] at hlen ⊢; omega
        have C0 := Lib.hid c0
        have C1 := Lib.hid c1
        have d0 := below_cell hbl c0
        have d1 := below_cell hbl c1
        simp only at d0 d1
        generalize ((y, m) :: b).length = n at hib hsb hnb hcb hlb
        have hpos : 0 < n := by omega
        have hpoi : (0 : Int) < (n : Int) := by omega
        have hne : ((n : Int) == 0) = false := by simp; omega
        clear c0 c1 hrb hlen he
        go_wp2
        go_quiet (fail)
        go_wp2
        go_quiet (fail)
        go_wp2
        generalize hw : World.drewN _ _ = wq
        have h2 : I ts wq := by rw [← hw]; exact HD.out _ _ _ (HD.out _ _ _ hi.out)
        clear hw hi hbl d0 d1
        have hbq := HI.out ts wq h2
        have d0 := below_cell hbq C0.out
        have d1 := below_cell hbq C1.out
        have H2 := Lib.hid h2
        clear h2
        go_still_tail 9, (by kernel_rfl)
        change wpList _ _ _ _ _ wq.drew
        have h3 := HS.out ts y 0 m wq.drew hlt (HD.out ts wq 1 H2.out)
        clear d0 d1 H2 hbq
        generalize wq.drew = w3 at h3
        go_wp2_with (go_at_fn F; refine h3.mono ?_; rintro e w4 ⟨rfl, h4⟩; have H4 := Lib.hid h4; clear h4)
        go_roundw
        case rel => exact ⟨_, _, _, hra, hrb', hl2, H4, e2⟩
        case measure => rw [hrb'.slLen]; simp only [slLen]; omega
    | cons e a =>
      obtain ⟨ba, oa, va', hia, p0, p1, hsa, hra', hna⟩ := hra.head
      obtain ⟨x, n⟩ := e
      have P0 := Lib.hid p0
      have P1 := Lib.hid p1
      have q0 := below_cell hbl p0
      have q1 := below_cell hbl p1
      simp only at q0 q1
      cases db with
      | nil =>
        have e2 := Lib.hid (show (ts ++ [(x, n, 0)]) ++ VM.mrg a [] = R by rw [← he.out, mrg_cons_nil, List.append_assoc]; rfl)
        have hlt : ts.length < xs.length + ys.length := by simp only [List.length_nil, List.length_cons] at hlen; omega
        have hl2 : (ts ++ [(x, n, (0 : Int))]).length + a.length + ([] : List Ent).length ≤ xs.length + ys.length := by simp only [List.length_append, List.length_nil, List.length_cons] at hlen ⊢; omega
        generalize ((x, n) :: a).length = k at hia hsa hna hca hla
        have hpk : 0 < k := by omega
        have hpki : (0 : Int) < (k : Int) := by omega
        have hnk : ((k : Int) == 0) = false := by simp; omega
        clear p0 p1 hra hlen he
        go_wp2
        go_quiet (fail)
        go_wp2
        generalize hw : World.drewN _ _ = wq
        have h2 : I ts wq := by rw [← hw]; exact HD.out _ _ _ hi.out
        clear hw hi hbl q0 q1
        have hbq := HI.out ts wq h2
        have q0 := below_cell hbq P0.out
        have q1 := below_cell hbq P1.out
        have H2 := Lib.hid h2
        clear h2
        go_still_tail 9, (by kernel_rfl)
        change wpList _ _ _ _ _ wq.drew
        have h3 := HS.out ts x n 0 wq.drew hlt (HD.out ts wq 1 H2.out)
        clear H2 hbq q0 q1
        generalize wq.drew = w3 at h3
        go_wp2_with (go_at_fn F; refine h3.mono ?_; rintro e w4 ⟨rfl, h4⟩; have H4 := Lib.hid h4; clear h4)
        go_roundw
        case rel => exact ⟨_, _, _, hra', hrb, hl2, H4, e2⟩
        case measure => rw [hra'.slLen]; simp only [slLen]; omega
      | cons f b =>
        obtain ⟨bb, ob, vb', hib, c0, c1, hsb, hrb', hnb⟩ := hrb.head
        obtain ⟨y, m⟩ := f
        have C0 := Lib.hid c0
        have C1 := Lib.hid c1
        have d0 := below_cell hbl c0
        have d1 := below_cell hbl c1
        simp only at d0 d1
        by_cases hxy : x < y
        · have e2 := Lib.hid (show (ts ++ [(x, n, 0)]) ++ VM.mrg a ((y, m) :: b) = R by rw [← he.out, mrg_cons_cons, if_pos (show (x, n).1 < (y, m).1 from hxy), List.append_assoc]; rfl)
          have hlt : ts.length < xs.length + ys.length := by simp only [List.length_cons] at hlen; omega
          have hl2 : (ts ++ [(x, n, (0 : Int))]).length + a.length + ((y, m) :: b).length ≤ xs.length + ys.length := by simp only [List.length_append, List.length_nil, List.length_cons] at hlen ⊢; omega
          have HRB := Lib.hid hrb
          generalize hLb : ((y, m) :: b).length = nb at hib hsb hnb hcb hlb hrb
          have HLB := Lib.hid hLb
          clear hLb
          generalize ((x, n) :: a).length = k at hia hsa hna hca hla
          have hpk : 0 < k := by omega
          have hpki : (0 : Int) < (k : Int) := by omega
          have hnk : ((k : Int) == 0) = false := by simp; omega
          have hpn : 0 < nb := by omega
          have hpni : (0 : Int) < (nb : Int) := by omega
          have hnn : ((nb : Int) == 0) = false := by simp; omega
          clear p0 p1 c0 c1 hra hrb hlen he
          go_wp2
          go_quiet (fail)
          go_wp2
          generalize hw : World.drewN _ _ = wq
          have h2 : I ts wq := by rw [← hw]; exact HD.out _ _ _ hi.out
          clear hw hi hbl q0 q1 d0 d1
          have hbq := HI.out ts wq h2
          have q0 := below_cell hbq P0.out
          have q1 := below_cell hbq P1.out
          have H2 := Lib.hid h2
          clear h2
          go_still_tail 9, (by kernel_rfl)
          change wpList _ _ _ _ _ wq.drew
          have h3 := HS.out ts x n 0 wq.drew hlt (HD.out ts wq 1 H2.out)
          clear H2 hbq q0 q1
          generalize wq.drew = w3 at h3
          go_wp2_with (go_at_fn F; refine h3.mono ?_; rintro e w4 ⟨rfl, h4⟩; have H4 := Lib.hid h4; clear h4)
          go_roundw
          case rel => exact ⟨_, _, _, hra', (by rw [← HLB.out]; exact HRB.out), hl2, H4, e2⟩
          case measure => rw [hra'.slLen]; simp only [slLen]; omega
        · by_cases hyx : y < x
          · have e2 := Lib.hid (show (ts ++ [(y, 0, m)]) ++ VM.mrg ((x, n) :: a) b = R by rw [← he.out, mrg_cons_cons, if_neg (show ¬ (x, n).1 < (y, m).1 from hxy), if_pos (show (y, m).1 < (x, n).1 from hyx), List.append_assoc]; rfl)
            have hlt : ts.length < xs.length + ys.length := by simp only [List.length_cons] at hlen; omega
            have hl2 : (ts ++ [(y, (0 : Int), m)]).length + ((x, n) :: a).length + b.length ≤ xs.length + ys.length := by simp only [List.length_append, List.length_nil, List.length_cons] at hlen ⊢; omega
            have HRA := Lib.hid hra
            generalize ((y, m) :: b).length = nb at hib hsb hnb hcb hlb
            generalize hLa : ((x, n) :: a).length = k at hia hsa hna hca hla hra
            have HLA := Lib.hid hLa
            clear hLa
            have hpk : 0 < k := by omega
            have hpki : (0 : Int) < (k : Int) := by omega
            have hnk : ((k : Int) == 0) = false := by simp; omega
            have hpn : 0 < nb := by omega
            have hpni : (0 : Int) < (nb : Int) := by omega
            have hnn : ((nb : Int) == 0) = false := by simp; omega
            clear p0 p1 c0 c1 hra hrb hlen he
            go_wp2
            go_quiet (fail)
            go_wp2
            go_quiet (fail)
            go_wp2
            generalize hw : World.drewN _ _ = wq
            have h2 : I ts wq := by rw [← hw]; exact HD.out _ _ _ (HD.out _ _ _ hi.out)
            clear hw hi hbl q0 q1 d0 d1
            have hbq := HI.out ts wq h2
            have d0 := below_cell hbq C0.out
            have d1 := below_cell hbq C1.out
            have H2 := Lib.hid h2
            clear h2
            go_still_tail 9, (by kernel_rfl)
            change wpList _ _ _ _ _ wq.drew
            have h3 := HS.out ts y 0 m wq.drew hlt (HD.out ts wq 1 H2.out)
            clear H2 hbq d0 d1
            generalize wq.drew = w3 at h3
            go_wp2_with (go_at_fn F; refine h3.mono ?_; rintro e w4 ⟨rfl, h4⟩; have H4 := Lib.hid h4; clear h4)
            go_roundw
            case rel => exact ⟨_, _, _, (by rw [← HLA.out]; exact HRA.out), hrb', hl2, H4, e2⟩
            case measure => rw [hrb'.slLen]; simp only [slLen]; omega
          · have e2 := Lib.hid (show (ts ++ [(x, n, m)]) ++ VM.mrg a b = R by rw [← he.out, mrg_cons_cons, if_neg (show ¬ (x, n).1 < (y, m).1 from hxy), if_neg (show ¬ (y, m).1 < (x, n).1 from hyx), List.append_assoc]; rfl)
            have hlt : ts.length < xs.length + ys.length := by simp only [List.length_cons] at hlen; omega
            have hl2 : (ts ++ [(x, n, m)]).length + a.length + b.length ≤ xs.length + ys.length := by simp only [List.length_append, List.length_nil, List.length_cons] at hlen ⊢; omega
            generalize ((y, m) :: b).length = nb at hib hsb hnb hcb hlb
            generalize ((x, n) :: a).length = k at hia hsa hna hca hla
            have hpk : 0 < k := by omega
            have hpki : (0 : Int) < (k : Int) := by omega
            have hnk : ((k : Int) == 0) = false := by simp; omega
            have hpn : 0 < nb := by omega
            have hpni : (0 : Int) < (nb : Int) := by omega
            have hnn : ((nb : Int) == 0) = false := by simp; omega
            clear p0 p1 c0 c1 hra hrb hlen he
            go_wp2
            go_quiet (fail)
            go_wp2
            go_quiet (fail)
            go_wp2
            generalize hw : World.drewN _ _ = wq
            have h2 : I ts wq := by rw [← hw]; exact HD.out _ _ _ (HD.out _ _ _ hi.out)
            clear hw hi hbl q0 q1 d0 d1
            have hbq := HI.out ts wq h2
            have q0 := below_cell hbq P0.out
            have q1 := below_cell hbq P1.out
            have d0 := below_cell hbq C0.out
            have d1 := below_cell hbq C1.out
            have H2 := Lib.hid h2
            clear h2
            go_still_tail 13, (by kernel_rfl)
            change wpList _ _ _ _ _ wq.drew
            have h3 := HS.out ts x n m wq.drew hlt (HD.out ts wq 1 H2.out)
            clear H2 hbq q0 q1 d0 d1
            generalize wq.drew = w3 at h3
            go_wp2_with (go_at_fn F; refine h3.mono ?_; rintro e w4 ⟨rfl, h4⟩; have H4 := Lib.hid h4; clear h4)
            go_quiet (fail)
            go_wp2
            have H5 := Lib.hid (HD.out _ _ nq H4.out)
            go_roundw
            case rel => exact ⟨_, _, _, hra', hrb', hl2, H5, e2⟩
            case measure => rw [hra'.slLen, hrb'.slLen]; simp only [slLen]; omega

end Go.Proofs.Ytejedodicihecaa.VX

namespace Go.Proofs.Ytejedodicihecaa.VX
open Go.RowKit Go.Shelf
open VM (Ent)

theorem Coll.below {w0 w : World} {g : Nat} {xs : List Ent} (h : Coll w0 g w xs) : Below w0.heap.size w0 w := by
  obtain ⟨_, _, _, hb⟩ := h
  exact hb
theorem Coll.drew {w0 w : World} {g : Nat} {xs : List Ent} (h : Coll w0 g w xs) (n : Nat) : Coll w0 g (w.drewN n) xs := by
  obtain ⟨v, h1, h2, h3⟩ := h
  exact ⟨v, h1, h2.below (below_drewN _ w n), h3.trans (below_drewN _ w n)⟩
theorem Coll.new (w : World) : Coll w w.heap.size (w.alloc (.cells #[.slice none 0 0] 62)) [] := ⟨_, heap_alloc_new w _, OwnV.nil _ _, below_fresh w _⟩
theorem Obs.drew {w0 w : World} {g : Nat} {l r : Bool} (h : Obs w0 g w l r) (n : Nat) : Obs w0 g (w.drewN n) l r := ⟨h.1, h.2.trans (below_drewN _ w n)⟩

set_option maxRecDepth 100000 in
set_option maxHeartbeats 1000000 in
theorem wJoin (va vb : Value) (xs ys : List Ent) (w : World) (ha : RdV w va xs) (hb : RdV w vb ys) (hl : xs.length + ys.length ≤ 1000000) :
    Calls Try.prog 27 #[va, vb] w fun e w' => ∃ v', e = .returned v' ∧ OwnV w.heap.size w' v' (VM.jn xs ys) ∧ Below w.heap.size w w' := by
  have hw := wWalk 32 (.pointer (some ⟨w.heap.size, 0, none⟩)) (enters_of Try.func32 (by kernel_rfl) rfl) va vb xs ys w _
    (fun ts wr => Coll w w.heap.size wr (VM.sel max ts)) ha hb (Coll.new w) (fun ts wr h => h.below) (fun ts wr n h => h.drew n)
    (fun ts x n m wr hts h => (wAddGreater w w.heap.size _ x n m wr h (Nat.le_refl _) (by have := VM.sel_length max ts; omega)).mono fun e w' ⟨he, hc⟩ => ⟨he, by rw [VM.sel_snoc]; exact hc⟩)
  have hmf : ∀ (fn : Fn) (first cap : Array Value) (w : World), (Instr.makeFunc fn first cap).run Try.prog w = .ok (.func fn first cap) w := fun _ _ _ _ => rfl
  clear ha hb
  go_enter Try.func27, Try.ntmps27
  go_wp2_with fail
  refine hw.mono ?_
  rintro e w1 ⟨rfl, v, hv, ho, hb1⟩
  have c0 := cell_of_one hv
  clear hw hv hmf
  go_wp2
  go_ret
  exact ⟨_, rfl, ho, hb1⟩

theorem anyL_snoc (ts : List (Int × Int × Int)) (x n m : Int) : VM.anyL (ts ++ [(x, n, m)]) = (VM.anyL ts || decide (n < m)) := by simp [VM.anyL, List.any_append]
theorem anyG_snoc (ts : List (Int × Int × Int)) (x n m : Int) : VM.anyG (ts ++ [(x, n, m)]) = (VM.anyG ts || decide (m < n)) := by simp [VM.anyG, List.any_append]

set_option maxRecDepth 100000 in
set_option maxHeartbeats 1000000 in
theorem wCompareAny (va vb : Value) (xs ys : List Ent) (w : World) (ha : RdV w va xs) (hb : RdV w vb ys) :
    Calls Try.prog 29 #[va, vb] w fun e w' => e = .returned (.int .i64 (VM.code (VM.anyL (VM.mrg xs ys)) (VM.anyG (VM.mrg xs ys)))) ∧ Below w.heap.size w w' := by
  have h0 : Obs w w.heap.size (w.alloc (.cells #[.int .i64 0] 59)) (VM.anyL []) (VM.anyG []) := ⟨heap_alloc_new w _, below_fresh w _⟩
  have hw := wWalk 33 (.pointer (some ⟨w.heap.size, 0, none⟩)) (enters_of Try.func33 (by kernel_rfl) rfl) va vb xs ys w _
    (fun ts wr => Obs w w.heap.size wr (VM.anyL ts) (VM.anyG ts)) ha hb h0 (fun ts wr h => h.2) (fun ts wr n h => h.drew n)
    (fun ts x n m wr hts h => (wObserve w w.heap.size _ _ x n m wr h (Nat.le_refl _)).mono fun e w' ⟨he, hc⟩ => ⟨he, by rw [anyL_snoc, anyG_snoc]; exact hc⟩)
  have hmf : ∀ (fn : Fn) (first cap : Array Value) (w : World), (Instr.makeFunc fn first cap).run Try.prog w = .ok (.func fn first cap) w := fun _ _ _ _ => rfl
  generalize VM.anyL (VM.mrg xs ys) = l at hw ⊢
  generalize VM.anyG (VM.mrg xs ys) = r at hw ⊢
  clear ha hb h0
  go_enter Try.func29, Try.ntmps29
  go_wp2_with fail
  refine hw.mono ?_
  rintro e w1 ⟨rfl, hv, hb1⟩
  have c0 := cell_of_one hv
  clear hw hv hmf
  go_wp2
  go_ret
  exact ⟨rfl, hb1⟩

/-- The result of Compare, of valid vectors. -/
def cmp (xs ys : List Ent) : Int := VM.code (!VM.le ys xs) (!VM.le xs ys)

theorem wCompare (va vb : Value) (xs ys : List Ent) (w : World) (ha : RdV w va xs) (hb : RdV w vb ys) (hx : VM.Val 0 xs) (hy : VM.Val 0 ys) :
    Calls Try.prog 29 #[va, vb] w fun e w' => e = .returned (.int .i64 (cmp xs ys)) ∧ Below w.heap.size w w' := by
  have h := wCompareAny va vb xs ys w ha hb
  rw [VM.anyL_le hx hy, VM.anyG_le hx hy] at h
  exact h

set_option maxRecDepth 100000 in
set_option maxHeartbeats 1000000 in
theorem wLessEqual (va vb : Value) (xs ys : List Ent) (w : World) (ha : RdV w va xs) (hb : RdV w vb ys) (hx : VM.Val 0 xs) (hy : VM.Val 0 ys) :
    Calls Try.prog 22 #[va, vb] w fun e w' => e = .returned (.bool (VM.le xs ys)) ∧ Below w.heap.size w w' := by
  have h := wCompare va vb xs ys w ha hb hx hy
  unfold cmp at h
  generalize VM.le ys xs = l at h
  generalize VM.le xs ys = r at h ⊢
  clear ha hb hx hy
  cases l <;> cases r
  all_goals
    simp only [VM.code, Bool.not_true, Bool.not_false, if_true, if_false, Bool.false_eq_true, Int.reduceAdd] at h
    go_enter Try.func22, Try.ntmps22
    go_wp2_with fail
    refine h.mono ?_
    rintro e w1 ⟨rfl, hb1⟩
    clear h
    go_wp2
    go_ret
    exact ⟨rfl, hb1⟩

end Go.Proofs.Ytejedodicihecaa.VX
