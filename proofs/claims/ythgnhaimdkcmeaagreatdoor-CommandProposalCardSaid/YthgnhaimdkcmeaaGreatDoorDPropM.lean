/-
  The mathematics of CommandProposal: what Compile gives without an error is a valid proposal, whose versions win over the summary's. No program. Condition: the summary is valid.
-/
import Derived.Test.YthgnhaimdkcmeaaGreatDoorDForm
import Derived.Test.YthgnhaimdkcmeaaGreatDoorGM
namespace Go.Proofs.YthgnhaimdkcmeaaGreatDoor.DM
open JM (Chg)
open MM (Sm Ent)

/-- A change that Compile has placed. -/
def Plc (s : Sm) (x : Chg) : Prop := JM.errCh x = 0 ∧ (x.1 = 3 → x.2.2.2.1 = wv s.W x.2.1 + 1) ∧ (x.1 = 4 → x.2.2.2.1 = s.v + 1)
def Good (s : Sm) (acc : List Chg) : Prop := acc.length ≤ 6 ∧ (∀ x ∈ acc, Plc s x) ∧ acc.Pairwise fun x y => JM.sim x y = false
theorem has_sim {acc : List Chg} {x : Chg} (h : has acc x.1 x.2.1 = false) : ∀ y ∈ acc, JM.sim y x = false := by
  intro y hy
  cases hc : JM.sim y x with
  | false => rfl
  | true =>
    have : has acc x.1 x.2.1 = true := List.any_eq_true.2 ⟨y, hy, hc⟩
    rw [this] at h; cases h
theorem wv_lk (l : List Ent) (z : Int) : wv l z = match MM.lk MM.kW l z with
  | some e => e.2.2.1
  | none => 0 := by
  induction l with
  | nil => rfl
  | cons e r ih =>
    show (if e.1 = z then e.2.2.1 else wv r z) = _
    rw [MM.lk]
    by_cases h : e.1 = z
    · rw [if_pos h, if_pos (show MM.kW e = z from h)]
    · rw [if_neg h, if_neg (show ¬ MM.kW e = z from h)]; exact ih
theorem wv_pos {s : Sm} (h : MM.OkS s) (z : Int) : 0 ≤ wv s.W z := by
  rw [wv_lk]
  cases ho : MM.lk MM.kW s.W z with
  | none => exact Int.le_refl _
  | some p => exact (h.ws p (MM.lk_some MM.kW ho).1).2.2.2.1
theorem prs_ok {l : List UInt8} (h : (prs l).2 = 0) : ∃ k sv t a b c, (prs l).1 = (k, sv, t, 0, a, b, c) ∧ JM.errCh (ver (k, sv, t, 0, a, b, c)) = 0 := by
  have key : ∀ k sv t a b c : Int, frm (sp 32 l) = some (k, sv, t, 0, a, b, c) → ∃ k sv t a b c, (prs l).1 = (k, sv, t, 0, a, b, c) ∧ JM.errCh (ver (k, sv, t, 0, a, b, c)) = 0 := by
    intro k sv t a b c hf
    have e : prs l = if JM.errCh (ver (k, sv, t, 0, a, b, c)) = 0 then ((k, sv, t, 0, a, b, c), 0) else (zc, JM.errCh (ver (k, sv, t, 0, a, b, c))) := by unfold prs; rw [hf]
    by_cases hz : JM.errCh (ver (k, sv, t, 0, a, b, c)) = 0
    · rw [if_pos hz] at e; rw [e]; exact ⟨k, sv, t, a, b, c, rfl, hz⟩
    · rw [if_neg hz] at e; rw [e] at h; exact absurd h hz
  cases way l with
  | join b _ _ h3 _ => exact key _ _ _ _ _ _ h3
  | joinw b d _ _ h3 _ _ => exact key _ _ _ _ _ _ h3
  | remove b _ _ h3 _ => exact key _ _ _ _ _ _ h3
  | weight b d _ _ h3 _ _ => exact key _ _ _ _ _ _ h3
  | maj _ h3 => exact key _ _ _ _ _ _ h3
  | wtd _ h3 => exact key _ _ _ _ _ _ h3
  | grid b _ _ h3 _ => exact key _ _ _ _ _ _ h3
  | mask b _ _ h3 _ => exact key _ _ _ _ _ _ h3
  | none _ _ _ _ _ _ _ _ hf =>
    have : prs l = (zc, 11) := by unfold prs; rw [hf]
    rw [this] at h; cases h
theorem errCh_ver {k sv t v a b c : Int} (hk : k = 3 ∨ k = 4) (h : JM.errCh (ver (k, sv, t, 0, a, b, c)) = 0) (h1 : 1 ≤ v) (h2 : v ≤ 1000) : JM.errCh (k, sv, t, v, a, b, c) = 0 := by
  have e : ver (k, sv, t, 0, a, b, c) = (k, sv, t, 1, a, b, c) := by show (k, sv, t, (if (0 : Int) = 0 ∧ (k = 3 ∨ k = 4) then (1 : Int) else 0), a, b, c) = _; rw [if_pos ⟨rfl, hk⟩]
  rw [e] at h
  have hv : JM.fit v (JM.verOf k) = true := by
    rcases hk with rfl | rfl <;> simp [JM.fit, JM.verOf] <;> omega
  have h1v : JM.fit 1 (JM.verOf k) = true := by
    rcases hk with rfl | rfl <;> simp [JM.fit, JM.verOf]
  have h' : JM.errC k sv t 1 a b c = 0 := h
  show JM.errC k sv t v a b c = 0
  unfold JM.errC at h' ⊢
  rw [hv]
  rw [h1v] at h'
  exact h'
theorem plc_good {s : Sm} {acc : List Chg} {x : Chg} (hs : MM.OkS s) (hg : Good s acc) {k sv t a b c : Int} (hx : x = (k, sv, t, 0, a, b, c)) (hv : JM.errCh (ver (k, sv, t, 0, a, b, c)) = 0) (h : (plc x acc s).2 = 0) : Good s (acc ++ [(plc x acc s).1]) := by
  subst hx
  obtain ⟨g1, g2, g3⟩ := hg
  have key : ∀ y : Chg, y.1 = k → y.2.1 = sv → acc.length < 6 → has acc k sv = false → Plc s y → Good s (acc ++ [y]) := by
    intro y e1 e2 hl hh hp
    refine ⟨by simp; omega, fun z hz => ?_, List.pairwise_append.2 ⟨g3, by simp, fun u hu w hw => ?_⟩⟩
    · rcases List.mem_append.1 hz with hz | hz
      · exact g2 z hz
      · obtain rfl : z = y := by simpa using hz
        exact hp
    · obtain rfl : w = y := by simpa using hw
      exact has_sim (by rw [e1, e2]; exact hh) u hu
  have hver : k ≠ 3 → k ≠ 4 → JM.errCh (k, sv, t, 0, a, b, c) = 0 := by
    intro n3 n4
    have e : ver (k, sv, t, 0, a, b, c) = (k, sv, t, 0, a, b, c) := by show (k, sv, t, (if (0 : Int) = 0 ∧ (k = 3 ∨ k = 4) then (1 : Int) else 0), a, b, c) = _; rw [if_neg (by omega)]
    rw [e] at hv; exact hv
  unfold plc at h ⊢
  dsimp only at h ⊢
  by_cases h6 : 6 ≤ acc.length
  · rw [if_pos h6] at h; cases h
  rw [if_neg h6] at h ⊢
  cases hh : has acc k sv with
  | true => rw [hh, if_pos rfl] at h; cases h
  | false =>
    rw [hh, if_neg (by decide)] at h
    rw [if_neg (by decide)]
    by_cases k1 : k = 1
    · rw [if_pos k1] at h ⊢
      by_cases hj : s.J.contains sv = true ∨ s.R.contains sv = true
      · rw [if_pos hj] at h; cases h
      · rw [if_neg hj]
        exact key _ rfl rfl (by omega) hh ⟨hver (by omega) (by omega), fun e => absurd (show k = 3 from e) (by omega), fun e => absurd (show k = 4 from e) (by omega)⟩
    · rw [if_neg k1] at h ⊢
      by_cases k4 : k = 4
      · rw [if_pos k4] at h ⊢
        by_cases hm : 1000 ≤ s.v
        · rw [if_pos hm] at h; cases h
        · rw [if_neg hm]
          have := hs.t.1
          exact key _ rfl rfl (by omega) hh ⟨errCh_ver (.inr k4) hv (by omega) (by omega), fun e => absurd (show k = 3 from e) (by omega), fun _ => rfl⟩
      · rw [if_neg k4] at h ⊢
        by_cases hm : mbr s sv = false ∧ has acc 1 sv = false
        · rw [if_pos hm] at h; cases h
        · rw [if_neg hm] at h ⊢
          by_cases k3 : k = 3
          · rw [if_pos k3] at h ⊢
            by_cases hw : 1000 ≤ wv s.W sv
            · rw [if_pos hw] at h; cases h
            · rw [if_neg hw]
              have := wv_pos hs sv
              exact key _ rfl rfl (by omega) hh ⟨errCh_ver (.inl k3) hv (by omega) (by omega), fun _ => rfl, fun e => absurd (show k = 4 from e) (by omega)⟩
          · rw [if_neg k3]
            exact key _ rfl rfl (by omega) hh ⟨hver k3 k4, fun e => absurd (show k = 3 from e) k3, fun e => absurd (show k = 4 from e) k4⟩
/-- What Compile gives: without an error a good list that is not empty; else none. -/
theorem comp_good {s : Sm} (hs : MM.OkS s) : ∀ (ls : List (List UInt8)) (acc : List Chg) (n : Int), Good s acc →
    ((comp s ls acc n).2.2 = 0 → Good s (comp s ls acc n).1 ∧ (comp s ls acc n).1 ≠ []) ∧ ((comp s ls acc n).2.2 ≠ 0 → (comp s ls acc n).1 = [])
  | [], acc, n, hg => by
    rw [comp]
    by_cases h : acc = []
    · rw [if_pos h]; exact ⟨(fun e => by cases e), fun _ => rfl⟩
    · rw [if_neg h]; exact ⟨fun _ => ⟨hg, h⟩, fun e => absurd rfl e⟩
  | l :: r, acc, n, hg => by
    cases hk : skip l with
    | true => rw [comp_skip hk]; exact comp_good hs r acc _ hg
    | false =>
      by_cases he : (step s acc l).2 = 0
      · rw [comp_ok hk he]
        refine comp_good hs r _ _ ?_
        unfold step at he ⊢
        by_cases hp : (prs l).2 = 0
        · rw [if_pos hp] at he ⊢
          obtain ⟨k, sv, t, a, b, c, e, hv⟩ := prs_ok hp
          exact plc_good hs hg e hv he
        · rw [if_neg hp] at he; exact absurd he hp
      · rw [comp_bad hk he]; exact ⟨fun e => absurd e he, fun _ => rfl⟩
theorem errS_of {d cs : List Chg} (h1 : ∀ x ∈ cs, JM.errCh x = 0) (h2 : (d ++ cs).Pairwise fun x y => JM.sim x y = false) : JM.errS d cs = 0 := by
  induction cs generalizing d with
  | nil => rfl
  | cons x r ih =>
    rw [JM.errS, if_neg (by simp [h1 x (by simp)])]
    have h3 : ∀ y ∈ d, JM.sim y x = false := fun y hy => (List.pairwise_append.1 h2).2.2 y hy x (by simp)
    rw [if_neg (by
      intro he
      obtain ⟨y, hy, hs⟩ := List.any_eq_true.1 he
      rw [h3 y hy] at hs; cases hs)]
    exact ih (fun y hy => h1 y (by simp [hy])) (by rw [List.append_assoc]; exact h2)
theorem good_valid {s : Sm} {cs : List Chg} (h : Good s cs) (h0 : cs ≠ []) : JM.errP 201 1 cs = 0 := by
  unfold JM.errP
  rw [if_neg (by decide), if_neg h0, if_neg (by have := h.1; omega)]
  exact errS_of (fun x hx => (h.2.1 x hx).1) h.2.2

/-- A rule among the changes is the rule of their summary. -/
theorem fold_rule {ad nu : Int} {x0 : Chg} (hk : x0.1 = 4) : ∀ (cs : List Chg) (s0 : Sm), (∀ y ∈ cs, y.1 = 4 → y = x0) → (x0 ∈ cs ∨ ((s0.k, s0.c, s0.f) = x0.2.2.2.2 ∧ s0.v = x0.2.2.2.1)) →
    (((cs.foldl (MM.stp ad nu) s0).k, (cs.foldl (MM.stp ad nu) s0).c, (cs.foldl (MM.stp ad nu) s0).f) = x0.2.2.2.2 ∧ (cs.foldl (MM.stp ad nu) s0).v = x0.2.2.2.1)
  | [], s0, _, h => by
    rcases h with h | h
    · cases h
    · exact h
  | y :: cs, s0, hu, h => by
    rw [List.foldl_cons]
    refine fold_rule hk cs _ (fun z hz => hu z (by simp [hz])) ?_
    by_cases hy : y.1 = 4
    · right
      have e := hu y (by simp) hy
      obtain ⟨k, sv, wt, vn, a, b, c⟩ := y
      subst e
      dsimp only at hy hk
      subst hy
      exact ⟨rfl, rfl⟩
    · rcases h with h | h
      · rcases List.mem_cons.1 h with h | h
        · rw [h] at hk; exact absurd hk hy
        · exact .inl h
      · right
        obtain ⟨k, sv, wt, vn, a, b, c⟩ := y
        dsimp only at hy
        simp only [MM.stp]
        split
        · exact h
        · split
          · exact h
          · split
            · exact h
            · exact h
theorem pair_uniq {cs : List Chg} (h : cs.Pairwise fun x y => JM.sim x y = false) {x y : Chg} (hx : x ∈ cs) (hy : y ∈ cs) (h1 : x.1 = y.1) (h2 : x.2.1 = y.2.1) : x = y := by
  induction cs with
  | nil => cases hx
  | cons z r ih =>
    have hz := (List.pairwise_cons.1 h).1
    rcases List.mem_cons.1 hx with hx | hx
    · rcases List.mem_cons.1 hy with hy | hy
      · rw [hx, hy]
      · rw [hx] at h1 h2; exact absurd ⟨h1, h2⟩ (MM.sim_iff.1 (hz y hy))
    · rcases List.mem_cons.1 hy with hy | hy
      · rw [hy] at h1 h2; exact absurd ⟨h1.symm, h2.symm⟩ (MM.sim_iff.1 (hz x hx))
      · exact ih (List.pairwise_cons.1 h).2 hx hy
theorem rule_wins {s : Sm} {cs : List Chg} (h : Good s cs) {x : Chg} (hx : x ∈ cs) (hk : x.1 = 4) :
    ((MM.join s (MM.ofP 201 1 cs)).k, (MM.join s (MM.ofP 201 1 cs)).c, (MM.join s (MM.ofP 201 1 cs)).f) = x.2.2.2.2 := by
  have hsv : ∀ y ∈ cs, y.1 = 4 → y.2.1 = 0 := by
    intro y hy h4
    have hc := (h.2.1 y hy).1
    obtain ⟨k, sv, t, v, a, b, c⟩ := y
    dsimp only at h4 ⊢
    subst h4
    have h' : JM.errC 4 sv t v a b c = 0 := hc
    unfold JM.errC at h'
    rw [if_neg (by omega)] at h'
    by_cases hf : JM.fit sv (JM.srvOf 4) = false
    · rw [if_pos hf] at h'; cases h'
    · have := of_decide_eq_true (Bool.of_not_eq_false hf)
      simp [JM.srvOf] at this
      omega
  have hu : ∀ y ∈ cs, y.1 = 4 → y = x := fun y hy h4 => pair_uniq h.2.2 hy hx (by rw [h4, hk]) (by rw [hsv y hy h4, hsv x hx hk])
  obtain ⟨f1, f2⟩ := fold_rule (ad := 201) (nu := 1) hk cs MM.emp hu (.inl hx)
  obtain ⟨hc, _, hv⟩ := h.2.1 x hx
  have hv := hv hk
  have e : MM.ofP 201 1 cs = cs.foldl (MM.stp 201 1) MM.emp := rfl
  rw [← e] at f1 f2
  obtain ⟨k, sv, t, v, a, b, c⟩ := x
  dsimp only at hk hv f1 f2 ⊢
  subst hk
  injection f1 with f1 f3
  injection f3 with f3 f4
  have hR : JM.errR a b c = 0 := by
    rcases MM.chg_zero hc with ⟨e, _⟩ | ⟨e, _⟩ | ⟨e, _⟩ | ⟨_, _, e⟩
    · omega
    · omega
    · omega
    · exact e
  have ha := MM.errR_one hR
  have hz : MM.rz (MM.ofP 201 1 cs) = false := by
    unfold MM.rz
    exact decide_eq_false (by rw [f1]; intro hh; exact ha hh.1)
  have hU : MM.useB s (MM.ofP 201 1 cs) = true := by
    unfold MM.useB
    rw [hz]
    have : MM.aft (MM.tri (MM.ofP 201 1 cs)) (MM.tri s) = true := MM.aft_iff.2 (.inl (by show s.v < (MM.ofP 201 1 cs).v; omega))
    rw [this]; simp
  unfold MM.join MM.joinU
  rw [hU]
  simp only [if_true]
  rw [f1, f3, f4]
/-- A weight among the changes is the weight of its server in the join. -/
theorem weight_wins {s : Sm} (hs : MM.OkS s) {cs : List Chg} (h : Good s cs) (h0 : cs ≠ []) {x : Chg} (hx : x ∈ cs) (hk : x.1 = 3) {e : Ent} (he : e ∈ (MM.join s (MM.ofP 201 1 cs)).W) (hse : e.1 = x.2.1) : e.2.1 = x.2.2.1 := by
  have hval := good_valid h h0
  obtain ⟨_, _, _, hS⟩ := MM.errP_zero hval
  have hr : MM.Rel 201 1 (MM.ofP 201 1 cs) (MM.rawP 201 1 cs) := MM.rel_ofP fun y hy h1 => by
    have h2 := ((MM.errS_zero hS).1 y hy).1
    obtain ⟨k, s, t, v, a, b, c⟩ := y
    dsimp only at h1 ⊢
    subst h1
    have := MM.chg_zero h2
    omega
  have okP := MM.okS_ofP hval
  obtain ⟨_, _, e3⟩ := MM.raw_lists 201 1 cs
  obtain ⟨hc, hv, _⟩ := h.2.1 x hx
  have hv := hv hk
  obtain ⟨k, sv, t, v, a, b, c⟩ := x
  dsimp only at hk hv hse ⊢
  subst hk
  have hwp := wv_pos hs sv
  have hmem : (sv, t, v, (201 : Int), (1 : Int)) ∈ (MM.rawP 201 1 cs).W := by
    rw [e3]
    exact List.mem_filterMap.2 ⟨_, hx, by simp [MM.wOf]⟩
  have hq : MM.lk MM.kW (MM.ofP 201 1 cs).W sv = some (sv, t, v, 201, 1) := by
    have hb := hr.wb sv
    cases ho : MM.lk MM.kW (MM.ofP 201 1 cs).W sv with
    | none => rw [ho] at hb; exact absurd rfl (hb _ hmem)
    | some p =>
      rw [ho] at hb
      obtain ⟨hp1, hp2, hp3⟩ := hb
      have hge := hp3 _ hmem rfl
      dsimp only at hge
      have hp1' := hp1
      rw [e3] at hp1'
      obtain ⟨y, hy, hyp⟩ := List.mem_filterMap.1 hp1'
      have hyc := (h.2.1 y hy).1
      obtain ⟨k', sv', t', v', a', b', c'⟩ := y
      simp only [MM.wOf] at hyp
      split at hyp
      · cases hyp
        dsimp only at hp2 hge
        subst hp2
        have hc' := MM.chg_zero hyc
        have hk3 : k' = 3 := by omega
        subst hk3
        have := pair_uniq h.2.2 hx hy rfl rfl
        injection this with _ this
        injection this with _ this
        injection this with g1 this
        injection this with g2 _
        rw [g1, g2]
      · cases hyp
  have hjs : MM.Srt MM.kW (MM.join s (MM.ofP 201 1 cs)).W := (MM.okS_join hs okP).w
  have hl := MM.lk_mem MM.kW hjs he
  have hl2 : MM.lk MM.kW (MM.join s (MM.ofP 201 1 cs)).W sv = some e := by rw [← hse]; exact hl
  have hj : (MM.join s (MM.ofP 201 1 cs)).W = MM.mg MM.kW MM.lat s.W (MM.ofP 201 1 cs).W := rfl
  rw [hj, MM.lk_mg MM.kW MM.lat MM.hkW hs.w okP.w, hq] at hl2
  have hwl := wv_lk s.W sv
  cases ho : MM.lk MM.kW s.W sv with
  | none =>
    rw [ho] at hl2
    have : some (sv, t, v, (201 : Int), (1 : Int)) = some e := hl2
    rw [← Option.some.inj this]
  | some p =>
    rw [ho] at hl2 hwl
    have h9 : some (MM.lat p (sv, t, v, 201, 1)) = some e := hl2
    have hl3 : MM.lat p (sv, t, v, 201, 1) = (sv, t, v, 201, 1) := by
      unfold MM.lat
      rw [if_pos (MM.aft_iff.2 (.inl (by show p.2.2.1 < v; dsimp only at hwl; omega)))]
    rw [hl3] at h9
    rw [← Option.some.inj h9]

end Go.Proofs.YthgnhaimdkcmeaaGreatDoor.DM
