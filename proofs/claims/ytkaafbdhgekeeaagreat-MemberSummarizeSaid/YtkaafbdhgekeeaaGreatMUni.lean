/-
  The mathematics of joins of many summaries: a join is determined by the set of the summaries that it joins, where equal triples mean equal entries. No program. No conditions beyond those that each lemma names.
-/
import Derived.Test.YtkaafbdhgekeeaaGreatMOfM
namespace Go.Proofs.YtkaafbdhgekeeaaGreat.MM
open JM (Chg)

theorem aft_iff {x y : Tri} : aft x y = true ↔ (y.1 < x.1 ∨ y.1 = x.1 ∧ (y.2.1 < x.2.1 ∨ y.2.1 = x.2.1 ∧ y.2.2 < x.2.2)) := decide_eq_true_iff
theorem aft_eq {x y : Tri} (h1 : aft x y = false) (h2 : aft y x = false) : x = y := by
  have h1 := of_decide_eq_false h1
  have h2 := of_decide_eq_false h2
  obtain ⟨a, b, c⟩ := x
  obtain ⟨a', b', c'⟩ := y
  dsimp only at h1 h2
  have e1 : a = a' := by omega
  have e2 : b = b' := by omega
  have e3 : c = c' := by omega
  rw [e1, e2, e3]
theorem aft_self (x : Tri) : aft x x = false := decide_eq_false (by omega)
theorem aft_le {x y z : Tri} (h1 : aft x y = false) (h2 : aft y z = false) : aft x z = false := by
  have h1 := of_decide_eq_false h1
  have h2 := of_decide_eq_false h2
  exact decide_eq_false (by omega)
theorem aft_lt {x y z : Tri} (h1 : aft x y = true) (h2 : aft z y = false) : aft z x = false := by
  have h1 := aft_iff.1 h1
  have h2 := of_decide_eq_false h2
  exact decide_eq_false (by omega)

/-- The latest entry of a server in the summaries T. -/
def Lat (T : List Sm) (z : Int) : Option Ent → Prop
  | none => ∀ u ∈ T, ∀ e ∈ u.W, e.1 ≠ z
  | some p => (∃ u ∈ T, p ∈ u.W) ∧ p.1 = z ∧ ∀ u ∈ T, ∀ e ∈ u.W, e.1 = z → aft e.2.2 p.2.2 = false
/-- The latest rule. -/
def LatR (T : List Sm) (s : Sm) : Prop :=
  (rz s = true ∧ ∀ u ∈ T, rz u = true) ∨ (rz s = false ∧ (∃ u ∈ T, rz u = false ∧ u.k = s.k ∧ u.c = s.c ∧ u.f = s.f ∧ tri u = tri s) ∧ ∀ u ∈ T, rz u = false → aft (tri u) (tri s) = false)
/-- s is what the summaries T are together. -/
structure Sp (T : List Sm) (s : Sm) : Prop where
  ok : OkS s
  j : ∀ x, x ∈ s.J ↔ ∃ u ∈ T, x ∈ u.J
  r : ∀ x, x ∈ s.R ↔ ∃ u ∈ T, x ∈ u.R
  w : ∀ z, Lat T z (lk kW s.W z)
  l : LatR T s
/-- Equal triples mean equal entries, equal rules. -/
structure Cmp (T : List Sm) : Prop where
  w : ∀ u ∈ T, ∀ v ∈ T, ∀ e ∈ u.W, ∀ e' ∈ v.W, e.1 = e'.1 → e.2.2 = e'.2.2 → e = e'
  l : ∀ u ∈ T, ∀ v ∈ T, rz u = false → rz v = false → tri u = tri v → u.k = v.k ∧ u.c = v.c ∧ u.f = v.f
theorem Cmp.sub {T T' : List Sm} (h : Cmp T) (hs : ∀ u ∈ T', u ∈ T) : Cmp T' := ⟨fun u hu v hv => h.w u (hs u hu) v (hs v hv), fun u hu v hv => h.l u (hs u hu) v (hs v hv)⟩

theorem Lat.set {T T' : List Sm} (h : ∀ u, u ∈ T ↔ u ∈ T') {z : Int} {o : Option Ent} (hl : Lat T z o) : Lat T' z o := by
  cases o with
  | none => exact fun u hu => hl u ((h u).2 hu)
  | some p =>
    obtain ⟨⟨u, h1, h2⟩, h3, h4⟩ := hl
    exact ⟨⟨u, (h u).1 h1, h2⟩, h3, fun v hv => h4 v ((h v).2 hv)⟩
theorem Sp.set {T T' : List Sm} (h : ∀ u, u ∈ T ↔ u ∈ T') {s : Sm} (hs : Sp T s) : Sp T' s := by
  refine ⟨hs.ok, fun x => ?_, fun x => ?_, fun z => (hs.w z).set h, ?_⟩
  · rw [hs.j]; simp only [h]
  · rw [hs.r]; simp only [h]
  · rcases hs.l with ⟨h1, h2⟩ | ⟨h1, ⟨u, h2, h3⟩, h4⟩
    · exact .inl ⟨h1, fun u hu => h2 u ((h u).2 hu)⟩
    · exact .inr ⟨h1, ⟨u, (h u).1 h2, h3⟩, fun v hv => h4 v ((h v).2 hv)⟩
theorem rz_iff {s : Sm} : rz s = true ↔ s.k = 0 ∧ s.c = 0 ∧ s.f = 0 := decide_eq_true_iff
/-- One set, one summary. -/
theorem Sp.uniq {T : List Sm} (hc : Cmp T) {s t : Sm} (hs : Sp T s) (ht : Sp T t) : s = t := by
  have eJ : s.J = t.J := srtI_ext hs.ok.j ht.ok.j fun x => by rw [hs.j, ht.j]
  have eR : s.R = t.R := srtI_ext hs.ok.r ht.ok.r fun x => by rw [hs.r, ht.r]
  have eW : s.W = t.W := ext kW hs.ok.w ht.ok.w fun z => by
    have h1 := hs.w z
    have h2 := ht.w z
    cases ho : lk kW s.W z with
    | none =>
      rw [ho] at h1
      cases ho' : lk kW t.W z with
      | none => rfl
      | some q =>
        rw [ho'] at h2
        obtain ⟨⟨u, a, b⟩, c, d⟩ := h2
        exact absurd c (h1 u a q b)
    | some p =>
      rw [ho] at h1
      obtain ⟨⟨u, a, b⟩, c, d⟩ := h1
      cases ho' : lk kW t.W z with
      | none => rw [ho'] at h2; exact absurd c (h2 u a p b)
      | some q =>
        rw [ho'] at h2
        obtain ⟨⟨u', a', b'⟩, c', d'⟩ := h2
        rw [hc.w u a u' a' p b q b' (by rw [c, c']) (aft_eq (d' u a p b c) (d u' a' q b' c'))]
  have eL : s.k = t.k ∧ s.c = t.c ∧ s.f = t.f ∧ s.v = t.v ∧ s.a = t.a ∧ s.n = t.n := by
    rcases hs.l with ⟨h1, h2⟩ | ⟨h1, ⟨u, h2, h3, h4, h5, h6, h7⟩, h8⟩
    · rcases ht.l with ⟨k1, k2⟩ | ⟨k1, ⟨u', k2, k3, k4, k5, k6, k7⟩, k8⟩
      · have a := rz_iff.1 h1
        have b := rz_iff.1 k1
        have c := hs.ok.t0 h1
        have d := ht.ok.t0 k1
        omega
      · rw [h2 u' k2] at k3; cases k3
    · rcases ht.l with ⟨k1, k2⟩ | ⟨k1, ⟨u', k2, k3, k4, k5, k6, k7⟩, k8⟩
      · rw [k2 u h2] at h3; cases h3
      · have e : tri s = tri t := by
          have x1 := k8 u h2 h3
          have x2 := h8 u' k2 k3
          rw [h7] at x1
          rw [k7] at x2
          exact aft_eq x1 x2
        have e2 := hc.l u h2 u' k2 h3 k3 (by rw [h7, k7, e])
        have e3 : s.v = t.v ∧ s.a = t.a ∧ s.n = t.n := by
          unfold tri at e
          injection e with e1 e
          injection e with e2 e3
          exact ⟨e1, e2, e3⟩
        omega
  obtain ⟨j, r, w, k, c, f, v, a, n⟩ := s
  obtain ⟨j', r', w', k', c', f', v', a', n'⟩ := t
  dsimp only at eJ eR eW eL
  obtain ⟨rfl, rfl, rfl, rfl, rfl, rfl⟩ := eL
  rw [eJ, eR, eW]
theorem Sp.one {s : Sm} (h : OkS s) : Sp [s] s := by
  refine ⟨h, fun x => by simp, fun x => by simp, fun z => ?_, ?_⟩
  · cases ho : lk kW s.W z with
    | none =>
      intro u hu e he h1
      obtain rfl : u = s := by simpa using hu
      have := lk_mem kW h.w he
      rw [show kW e = z from h1, ho] at this
      cases this
    | some p =>
      obtain ⟨h1, h2⟩ := lk_some kW ho
      refine ⟨⟨s, by simp, h1⟩, h2, fun u hu e he h3 => ?_⟩
      obtain rfl : u = s := by simpa using hu
      have := lk_mem kW h.w he
      rw [show kW e = z from h3, ho] at this
      obtain rfl := Option.some.inj this
      exact aft_self _
  · cases hz : rz s with
    | true => exact .inl ⟨hz, fun u hu => by obtain rfl : u = s := by simpa using hu
                                             exact hz⟩
    | false =>
      refine .inr ⟨hz, ⟨s, by simp, hz, rfl, rfl, rfl, rfl⟩, fun u hu _ => ?_⟩
      obtain rfl : u = s := by simpa using hu
      exact aft_self _
theorem Sp.emp : Sp [] emp := by
  refine ⟨okS_emp, fun x => by simp [MM.emp], fun x => by simp [MM.emp], fun z => ?_, .inl ⟨rfl, fun u hu => by cases hu⟩⟩
  intro u hu; cases hu
theorem mem_mgI {l m : List Int} (h : Srt kI l) (k : Srt kI m) {x : Int} : x ∈ mg kI fstI l m ↔ x ∈ l ∨ x ∈ m := by
  have hs := mg_srt kI fstI hkI h k
  have e : ∀ {l : List Int}, Srt kI l → (x ∈ l ↔ ∃ y, lk kI l x = some y) := by
    intro l hl
    constructor
    · intro hm; exact ⟨x, lk_mem kI hl hm⟩
    · rintro ⟨y, hy⟩
      obtain ⟨h1, h2⟩ := lk_some kI hy
      rw [show x = y from h2.symm]; exact h1
  rw [e hs, e h, e k, lk_mg kI fstI hkI h k]
  cases lk kI l x <;> cases lk kI m x <;> simp [comb]
theorem Sp.join {T T' : List Sm} {s t : Sm} (hs : Sp T s) (ht : Sp T' t) : Sp (T ++ T') (join s t) := by
  refine ⟨okS_join hs.ok ht.ok, fun x => ?_, fun x => ?_, fun z => ?_, ?_⟩
  · show x ∈ mg kI fstI s.J t.J ↔ _
    rw [mem_mgI hs.ok.j ht.ok.j, hs.j, ht.j]
    simp only [List.mem_append, or_and_right, exists_or]
  · show x ∈ mg kI fstI s.R t.R ↔ _
    rw [mem_mgI hs.ok.r ht.ok.r, hs.r, ht.r]
    simp only [List.mem_append, or_and_right, exists_or]
  · show Lat _ z (lk kW (mg kW lat s.W t.W) z)
    rw [lk_mg kW lat hkW hs.ok.w ht.ok.w]
    have h1 := hs.w z
    have h2 := ht.w z
    cases ho : lk kW s.W z with
    | none =>
      rw [ho] at h1
      cases ho' : lk kW t.W z with
      | none =>
        rw [ho'] at h2
        intro u hu
        rcases List.mem_append.1 hu with hu | hu
        · exact h1 u hu
        · exact h2 u hu
      | some q =>
        rw [ho'] at h2
        obtain ⟨⟨u, a, b⟩, c, d⟩ := h2
        refine ⟨⟨u, by simp [a], b⟩, c, fun v hv e he h3 => ?_⟩
        rcases List.mem_append.1 hv with hv | hv
        · exact absurd h3 (h1 v hv e he)
        · exact d v hv e he h3
    | some p =>
      rw [ho] at h1
      obtain ⟨⟨u, a, b⟩, c, d⟩ := h1
      cases ho' : lk kW t.W z with
      | none =>
        rw [ho'] at h2
        refine ⟨⟨u, by simp [a], b⟩, c, fun v hv e he h3 => ?_⟩
        rcases List.mem_append.1 hv with hv | hv
        · exact d v hv e he h3
        · exact absurd h3 (h2 v hv e he)
      | some q =>
        rw [ho'] at h2
        obtain ⟨⟨u', a', b'⟩, c', d'⟩ := h2
        show Lat _ z (some (lat p q))
        unfold lat
        by_cases hq : aft q.2.2 p.2.2 = true
        · rw [if_pos hq]
          refine ⟨⟨u', by simp [a'], b'⟩, c', fun v hv e he h3 => ?_⟩
          rcases List.mem_append.1 hv with hv | hv
          · exact aft_lt hq (d v hv e he h3)
          · exact d' v hv e he h3
        · rw [if_neg hq]
          have hq' : aft q.2.2 p.2.2 = false := by simpa using hq
          refine ⟨⟨u, by simp [a], b⟩, c, fun v hv e he h3 => ?_⟩
          rcases List.mem_append.1 hv with hv | hv
          · exact d v hv e he h3
          · exact aft_le (d' v hv e he h3) hq'
  · have hU : MM.join s t = joinU (useB s t) s t := rfl
    rw [hU]
    unfold useB
    rcases hs.l with ⟨h1, h2⟩ | ⟨h1, ⟨u, h2, h3, h4⟩, h8⟩
    · rw [h1]
      show LatR _ (joinU true s t)
      rcases ht.l with ⟨k1, k2⟩ | ⟨k1, ⟨u', k2, k3, k4⟩, k8⟩
      · refine .inl ⟨k1, fun u hu => ?_⟩
        rcases List.mem_append.1 hu with hu | hu
        · exact h2 u hu
        · exact k2 u hu
      · refine .inr ⟨k1, ⟨u', by simp [k2], k3, k4⟩, fun v hv hz => ?_⟩
        rcases List.mem_append.1 hv with hv | hv
        · rw [h2 v hv] at hz; cases hz
        · exact k8 v hv hz
    · rw [h1]
      rcases ht.l with ⟨k1, k2⟩ | ⟨k1, ⟨u', k2, k3, k4⟩, k8⟩
      · rw [k1]
        show LatR _ (joinU false s t)
        refine .inr ⟨h1, ⟨u, by simp [h2], h3, h4⟩, fun v hv hz => ?_⟩
        rcases List.mem_append.1 hv with hv | hv
        · exact h8 v hv hz
        · rw [k2 v hv] at hz; cases hz
      · rw [k1]
        cases ha : aft (tri t) (tri s) with
        | true =>
          show LatR _ (joinU true s t)
          refine .inr ⟨k1, ⟨u', by simp [k2], k3, k4⟩, fun v hv hz => ?_⟩
          rcases List.mem_append.1 hv with hv | hv
          · exact aft_lt ha (h8 v hv hz)
          · exact k8 v hv hz
        | false =>
          show LatR _ (joinU false s t)
          refine .inr ⟨h1, ⟨u, by simp [h2], h3, h4⟩, fun v hv hz => ?_⟩
          rcases List.mem_append.1 hv with hv | hv
          · exact h8 v hv hz
          · exact aft_le (k8 v hv hz) ha

/-! The summary of a genesis; of a configuration. -/
theorem val_srt {p : Int} {ms : List Mem} (h : Val p ms) : ms.Pairwise (fun x y => x.1 < y.1) ∧ ∀ m ∈ ms, p < m.1 ∧ (1 ≤ m.1 ∧ m.1 ≤ 12) ∧ 1 ≤ m.2 ∧ m.2 ≤ 9 := by
  induction ms generalizing p with
  | nil => exact ⟨List.Pairwise.nil, fun _ h => by cases h⟩
  | cons m v ih =>
    obtain ⟨h1, h2, h3, h4, h5, h6⟩ := h
    obtain ⟨i1, i2⟩ := ih h6
    refine ⟨List.pairwise_cons.2 ⟨fun y hy => (i2 y hy).1, i1⟩, fun y hy => ?_⟩
    rcases List.mem_cons.1 hy with rfl | hy
    · exact ⟨h1, ⟨h2, h3⟩, h4, h5⟩
    · have := i2 y hy; exact ⟨by omega, this.2⟩
theorem errG_zero {k c f : Int} {ms : List Mem} (h : errG k c f ms = 0) : JM.errR k c f = 0 ∧ Val 0 ms ∧ ms ≠ [] := by
  unfold errG at h
  by_cases h1 : errV k c f ms = 0
  · rw [if_pos h1] at h
    unfold errV at h1
    by_cases h2 : JM.errR k c f = 0
    · rw [if_pos h2] at h1
      refine ⟨h2, errM_val.1 h1, fun hn => ?_⟩
      rw [if_pos hn] at h; cases h
    · rw [if_neg h2] at h1; exact absurd h1 h2
  · rw [if_neg h1] at h; exact absurd h h1
theorem okS_ini {k c f : Int} {ms : List Mem} (h1 : JM.errR k c f = 0) (h2 : Val 0 ms) : OkS (ini ms k c f) := by
  obtain ⟨a, b⟩ := val_srt h2
  refine ⟨List.pairwise_map.2 a, List.Pairwise.nil, List.pairwise_map.2 a, fun x hx => ?_, (fun _ h => by cases h), fun e he => ?_, .inr h1, ⟨Int.le_refl 0, Int.le_refl 0, Int.le_refl 0⟩, fun _ => ⟨rfl, rfl, rfl⟩⟩
  · obtain ⟨m, hm, rfl⟩ := List.mem_map.1 hx
    exact (b m hm).2.1
  · obtain ⟨m, hm, rfl⟩ := List.mem_map.1 he
    have := b m hm
    exact ⟨this.2.1, this.2.2.1, this.2.2.2, Int.le_refl 0, Int.le_refl 0, Int.le_refl 0⟩
/-- A proposal: administrator, number, changes. -/
abbrev Prp := Int × Int × List Chg
def ofF (f : Prp) : Sm := ofP f.1 f.2.1 f.2.2
/-- The entries and the rule of a proposal are its own. -/
theorem ofP_own {ad nu : Int} {cs : List Chg} (h : JM.errS [] cs = 0) : (∀ e ∈ (ofP ad nu cs).W, e.2.2.2 = (ad, nu)) ∧ (rz (ofP ad nu cs) = false → (ofP ad nu cs).a = ad ∧ (ofP ad nu cs).n = nu) := by
  have hr : Rel ad nu (ofP ad nu cs) (rawP ad nu cs) := rel_ofP fun x hx h1 => by
    have h2 := ((errS_zero h).1 x hx).1
    obtain ⟨k, s, t, v, a, b, c⟩ := x
    dsimp only at h1 ⊢
    subst h1
    have := chg_zero h2
    omega
  refine ⟨fun e he => ?_, ?_⟩
  · have h1 := hr.wb e.1
    rw [show lk kW (ofP ad nu cs).W e.1 = some e from lk_mem kW hr.w he] at h1
    exact hr.wo e h1.1
  · have hg : ∀ (cs : List Chg) (s : Sm), (rz s = false → s.a = ad ∧ s.n = nu) → rz (cs.foldl (stp ad nu) s) = false → (cs.foldl (stp ad nu) s).a = ad ∧ (cs.foldl (stp ad nu) s).n = nu := by
      intro cs
      induction cs with
      | nil => intro s h; exact h
      | cons x cs ih =>
        intro s h
        refine ih _ ?_
        obtain ⟨k, sv, wt, vn, a, b, c⟩ := x
        simp only [stp]
        split
        · exact h
        · split
          · exact h
          · split
            · exact h
            · split
              · intro _; exact ⟨rfl, rfl⟩
              · exact h
    exact hg cs emp (fun h => by cases h)
/-- The genesis and the proposals of a valid configuration. -/
def allT (ms : List Mem) (k c f : Int) (fs : List Prp) : List Sm := ini ms k c f :: fs.map ofF
theorem cmp_all {ms : List Mem} {k c f : Int} {fs : List Prp} (hr : JM.errR k c f = 0) (hm : Val 0 ms) (h : ∀ x ∈ fs, JM.errP x.1 x.2.1 x.2.2 = 0) (hk : ∀ x ∈ fs, ∀ y ∈ fs, x.1 = y.1 → x.2.1 = y.2.1 → x = y) : Cmp (allT ms k c f fs) := by
  have hown : ∀ x ∈ fs, (∀ e ∈ (ofF x).W, e.2.2.2 = (x.1, x.2.1)) ∧ (rz (ofF x) = false → (ofF x).a = x.1 ∧ (ofF x).n = x.2.1) ∧ 201 ≤ x.1 ∧ OkS (ofF x) := by
    intro x hx
    obtain ⟨h1, h2, h3, h4⟩ := errP_zero (h x hx)
    have := ofP_own (ad := x.1) (nu := x.2.1) h4
    exact ⟨this.1, this.2, h1.1, okS_ofP (h x hx)⟩
  have hini : OkS (ini ms k c f) := okS_ini hr hm
  have hW0 : ∀ e ∈ (ini ms k c f).W, e.2.2 = (0, 0, 0) := by
    intro e he
    obtain ⟨m, _, rfl⟩ := List.mem_map.1 he
    rfl
  have hsame : ∀ {s : Sm}, OkS s → ∀ e ∈ s.W, ∀ e' ∈ s.W, e.1 = e'.1 → e = e' := by
    intro s hs e he e' he' h1
    have a := lk_mem kW hs.w he
    have b := lk_mem kW hs.w he'
    rw [show kW e = kW e' from h1, b] at a
    exact (Option.some.inj a).symm
  refine ⟨fun u hu v hv e he e' he' h1 h2 => ?_, fun u hu v hv z1 z2 ht => ?_⟩
  · rcases List.mem_cons.1 hu with hu | hu
    · rcases List.mem_cons.1 hv with hv | hv
      · subst hu; subst hv; exact hsame hini e he e' he' h1
      · obtain ⟨y, hy, hyv⟩ := List.mem_map.1 hv
        subst hyv; subst hu
        have a := hW0 e he
        have b := (hown y hy).1 e' he'
        have c := (hown y hy).2.2.1
        rw [a] at h2
        rw [← h2] at b
        injection b with b1 b2
        omega
    · obtain ⟨x, hx, hxu⟩ := List.mem_map.1 hu
      subst hxu
      rcases List.mem_cons.1 hv with hv | hv
      · subst hv
        have a := hW0 e' he'
        have b := (hown x hx).1 e he
        have c := (hown x hx).2.2.1
        rw [a] at h2
        rw [h2] at b
        injection b with b1 b2
        omega
      · obtain ⟨y, hy, hyv⟩ := List.mem_map.1 hv
        subst hyv
        have a := (hown x hx).1 e he
        have b := (hown y hy).1 e' he'
        rw [h2, b] at a
        injection a with a1 a2
        obtain rfl := hk x hx y hy a1.symm a2.symm
        exact hsame (hown x hx).2.2.2 e he e' he' h1
  · rcases List.mem_cons.1 hu with hu | hu
    · rcases List.mem_cons.1 hv with hv | hv
      · subst hu; subst hv; exact ⟨rfl, rfl, rfl⟩
      · obtain ⟨y, hy, hyv⟩ := List.mem_map.1 hv
        subst hyv; subst hu
        have b := (hown y hy).2.1 z2
        have c9 := (hown y hy).2.2.1
        unfold tri at ht
        injection ht with t1 t2
        injection t2 with t2 t3
        rw [b.1] at t2
        have : (ini ms k c f).a = 0 := rfl
        omega
    · obtain ⟨x, hx, hxu⟩ := List.mem_map.1 hu
      subst hxu
      have a := (hown x hx).2.1 z1
      unfold tri at ht
      injection ht with t1 t2
      injection t2 with t2 t3
      rcases List.mem_cons.1 hv with hv | hv
      · subst hv
        have c9 := (hown x hx).2.2.1
        rw [a.1] at t2
        have : (ini ms k c f).a = 0 := rfl
        omega
      · obtain ⟨y, hy, hyv⟩ := List.mem_map.1 hv
        subst hyv
        have b := (hown y hy).2.1 z2
        obtain rfl := hk x hx y hy (by rw [← a.1, t2, b.1]) (by rw [← a.2, t3, b.2])
        exact ⟨rfl, rfl, rfl⟩

/-- The program's way: halves. -/
def jall : Nat → List Prp → Sm
  | 0, _ => emp
  | _ + 1, [] => emp
  | _ + 1, [f] => ofF f
  | n + 1, f :: g :: r => join (jall n ((f :: g :: r).take ((r.length + 2) / 2))) (jall n ((f :: g :: r).drop ((r.length + 2) / 2)))
theorem sp_jall : ∀ (n : Nat) (fs : List Prp), fs.length ≤ n → (∀ x ∈ fs, JM.errP x.1 x.2.1 x.2.2 = 0) → Sp (fs.map ofF) (jall n fs)
  | 0, fs, h, _ => by
    obtain rfl : fs = [] := List.eq_nil_of_length_eq_zero (by omega)
    exact Sp.emp
  | n + 1, [], _, _ => Sp.emp
  | n + 1, [f], _, h => Sp.one (okS_ofP (h f (by simp)))
  | n + 1, f :: g :: r, hn, h => by
    have hl : (f :: g :: r).length = r.length + 2 := rfl
    have h1 := sp_jall n ((f :: g :: r).take ((r.length + 2) / 2)) (by rw [List.length_take]; omega) (fun x hx => h x (List.mem_of_mem_take hx))
    have h2 := sp_jall n ((f :: g :: r).drop ((r.length + 2) / 2)) (by rw [List.length_drop]; omega) (fun x hx => h x (List.mem_of_mem_drop hx))
    have h3 := h1.join h2
    rw [← List.map_append, List.take_append_drop] at h3
    exact h3
def summ (ms : List Mem) (k c f : Int) (fs : List Prp) : Sm := join (ini ms k c f) (jall fs.length fs)
def summR (ms : List Mem) (k c f : Int) (fs : List Prp) : Sm := fs.foldl (fun s x => join s (ofF x)) (ini ms k c f)
theorem sp_summ {ms : List Mem} {k c f : Int} {fs : List Prp} (hr : JM.errR k c f = 0) (hm : Val 0 ms) (h : ∀ x ∈ fs, JM.errP x.1 x.2.1 x.2.2 = 0) : Sp (allT ms k c f fs) (summ ms k c f fs) :=
  (Sp.one (okS_ini hr hm)).join (sp_jall _ fs (Nat.le_refl _) h)
theorem sp_summR {ms : List Mem} {k c f : Int} {fs : List Prp} (hr : JM.errR k c f = 0) (hm : Val 0 ms) (h : ∀ x ∈ fs, JM.errP x.1 x.2.1 x.2.2 = 0) : Sp (allT ms k c f fs) (summR ms k c f fs) := by
  have hg : ∀ (fs : List Prp) (T : List Sm) (s : Sm), (∀ x ∈ fs, JM.errP x.1 x.2.1 x.2.2 = 0) → Sp T s → Sp (T ++ fs.map ofF) (fs.foldl (fun s x => join s (ofF x)) s) := by
    intro fs
    induction fs with
    | nil => intro T s _ h; simpa using h
    | cons x fs ih =>
      intro T s hx h
      have h1 := ih (T ++ [ofF x]) _ (fun y hy => hx y (by simp [hy])) (h.join (Sp.one (okS_ofP (hx x (by simp)))))
      simpa using h1
  exact hg fs [ini ms k c f] _ h (Sp.one (okS_ini hr hm))
/-- The two ways are one. -/
theorem summ_eq {ms : List Mem} {k c f : Int} {fs : List Prp} (hr : JM.errR k c f = 0) (hm : Val 0 ms) (h : ∀ x ∈ fs, JM.errP x.1 x.2.1 x.2.2 = 0) (hk : ∀ x ∈ fs, ∀ y ∈ fs, x.1 = y.1 → x.2.1 = y.2.1 → x = y) : summ ms k c f fs = summR ms k c f fs :=
  (sp_summ hr hm h).uniq (cmp_all hr hm h hk) (sp_summR hr hm h)

end Go.Proofs.YtkaafbdhgekeeaaGreat.MM
