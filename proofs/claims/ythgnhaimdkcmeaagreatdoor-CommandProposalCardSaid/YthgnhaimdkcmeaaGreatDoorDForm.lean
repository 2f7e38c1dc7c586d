/-
  The mathematics of commands, second part: the forms of a command, what Parse, Format and Compile give. No program. No conditions beyond those that each lemma names.
-/
import Derived.Test.YthgnhaimdkcmeaaGreatDoorDMath
import Derived.Test.YthgnhaimdkcmeaaGreatDoorGM
namespace Go.Proofs.YthgnhaimdkcmeaaGreatDoor.DM
open JM (Chg)
open MM (Sm Ent)

def sJoin : List UInt8 := [106, 111, 105, 110]
def sRemove : List UInt8 := [114, 101, 109, 111, 118, 101]
def sWeight : List UInt8 := [119, 101, 105, 103, 104, 116]
def sRule : List UInt8 := [114, 117, 108, 101]
def sMaj : List UInt8 := [109, 97, 106, 111, 114, 105, 116, 121]
def sWtd : List UInt8 := [119, 101, 105, 103, 104, 116, 101, 100]
def sGrid : List UInt8 := [103, 114, 105, 100]
def sMask : List UInt8 := [109, 97, 115, 107, 105, 110, 103]
def zc : Chg := (0, 0, 0, 0, 0, 0, 0)
/-- A command's form, of its words. -/
def frm : List (List UInt8) → Option Chg
  | [a, b] =>
    if a = sJoin ∧ isN b = true then some (1, val b, 1, 0, 0, 0, 0)
    else if a = sRemove ∧ isN b = true then some (2, val b, 0, 0, 0, 0, 0)
    else if a = sRule ∧ b = sMaj then some (4, 0, 0, 0, 1, 0, 0)
    else if a = sRule ∧ b = sWtd then some (4, 0, 0, 0, 2, 0, 0) else none
  | [a, b, c] =>
    if a = sWeight ∧ isN b = true ∧ isN c = true then some (3, val b, val c, 0, 0, 0, 0)
    else if a = sRule ∧ b = sGrid ∧ isN c = true then some (4, 0, 0, 0, 3, val c, 0)
    else if a = sRule ∧ b = sMask ∧ isN c = true then some (4, 0, 0, 0, 4, 0, val c) else none
  | [a, b, c, d] => if a = sJoin ∧ isN b = true ∧ c = sWeight ∧ isN d = true then some (1, val b, val d, 0, 0, 0, 0) else none
  | _ => none
/-- A word, numbers turned into 0. -/
def mk (w : List UInt8) : List UInt8 := if isN w = true then [48] else w
def shape (l : List UInt8) : List UInt8 := jn 32 ((spn 32 4 l).map mk)
def nums (l : List UInt8) : List Int := ((spn 32 4 l).filter isN).map fun w => (val w : Int)
theorem isN_zero : isN [48] = true := by decide
theorem mk_num {w : List UInt8} : mk w = [48] ↔ isN w = true := by
  unfold mk
  by_cases h : isN w = true
  · rw [if_pos h]; exact ⟨fun _ => h, fun _ => rfl⟩
  · rw [if_neg h]
    exact ⟨fun e => by rw [e]; exact isN_zero, fun e => absurd e h⟩
theorem mk_word {w k : List UInt8} (hk : isN k = false) : mk w = k ↔ w = k := by
  unfold mk
  by_cases h : isN w = true
  · rw [if_pos h]
    exact ⟨fun e => (by rw [← e, isN_zero] at hk; cases hk), fun e => (by rw [e, hk] at h; cases h)⟩
  · rw [if_neg h]
theorem mk_no {w : List UInt8} (h : (32 : UInt8) ∉ w) : (32 : UInt8) ∉ mk w := by
  unfold mk
  split
  · decide
  · exact h
theorem shape_iff (l : List UInt8) (ks : List (List UInt8)) (h4 : ks.length ≤ 4) (h0 : ks ≠ []) (hno : ∀ w ∈ ks, (32 : UInt8) ∉ w) : shape l = jn 32 ks ↔ (sp 32 l).map mk = ks := by
  unfold shape spn
  by_cases h : (sp 32 l).length ≤ 4
  · rw [if_pos h]
    have hw : ∀ w ∈ (sp 32 l).map mk, (32 : UInt8) ∉ w := by
      intro w hw
      obtain ⟨x, hx, rfl⟩ := List.mem_map.1 hw
      exact mk_no (sp_no l x hx)
    have hn : (sp 32 l).map mk ≠ [] := by simpa using sp_ne l
    constructor
    · intro e
      have := congrArg (sp 32) e
      rwa [sp_jn hn hw, sp_jn h0 hno] at this
    · intro e; rw [e]
  · rw [if_neg h]
    constructor
    · intro e
      have := congrArg (sp 32) e
      rw [List.map_append, List.map_singleton, sp_jn_app _ _ (fun w hw => by
        obtain ⟨x, hx, rfl⟩ := List.mem_map.1 hw
        exact mk_no (sp_no l x (List.mem_of_mem_take hx))), sp_jn h0 hno] at this
      have h1 := congrArg List.length this
      have h2 := sp_ne (c := 32) (mk (jn 32 ((sp 32 l).drop 4)))
      have h3 : 0 < (sp 32 (mk (jn 32 ((sp 32 l).drop 4)))).length := List.length_pos_iff.2 h2
      rw [List.length_append, List.length_map, List.length_take] at h1
      omega
    · intro e
      have := congrArg List.length e
      rw [List.length_map] at this
      omega

def K1 : List UInt8 := [106, 111, 105, 110, 32, 48]
def K2 : List UInt8 := [106, 111, 105, 110, 32, 48, 32, 119, 101, 105, 103, 104, 116, 32, 48]
def K3 : List UInt8 := [114, 101, 109, 111, 118, 101, 32, 48]
def K4 : List UInt8 := [119, 101, 105, 103, 104, 116, 32, 48, 32, 48]
def K5 : List UInt8 := [114, 117, 108, 101, 32, 109, 97, 106, 111, 114, 105, 116, 121]
def K6 : List UInt8 := [114, 117, 108, 101, 32, 119, 101, 105, 103, 104, 116, 101, 100]
def K7 : List UInt8 := [114, 117, 108, 101, 32, 103, 114, 105, 100, 32, 48]
def K8 : List UInt8 := [114, 117, 108, 101, 32, 109, 97, 115, 107, 105, 110, 103, 32, 48]

theorem map_two {f : List UInt8 → List UInt8} {l : List (List UInt8)} {x y : List UInt8} (h : l.map f = [x, y]) : ∃ a b, l = [a, b] ∧ f a = x ∧ f b = y := by
  match l, h with
  | [a, b], h => simp at h; exact ⟨a, b, rfl, h.1, h.2⟩
theorem map_three {f : List UInt8 → List UInt8} {l : List (List UInt8)} {x y z : List UInt8} (h : l.map f = [x, y, z]) : ∃ a b c, l = [a, b, c] ∧ f a = x ∧ f b = y ∧ f c = z := by
  match l, h with
  | [a, b, c], h => simp at h; exact ⟨a, b, c, rfl, h.1, h.2.1, h.2.2⟩
theorem map_four {f : List UInt8 → List UInt8} {l : List (List UInt8)} {x y z u : List UInt8} (h : l.map f = [x, y, z, u]) : ∃ a b c d, l = [a, b, c, d] ∧ f a = x ∧ f b = y ∧ f c = z ∧ f d = u := by
  match l, h with
  | [a, b, c, d], h => simp at h; exact ⟨a, b, c, d, rfl, h.1, h.2.1, h.2.2.1, h.2.2.2⟩
theorem w1 : isN sJoin = false := by decide
theorem w2 : isN sRemove = false := by decide
theorem w3 : isN sWeight = false := by decide
theorem w4 : isN sRule = false := by decide
theorem w5 : isN sMaj = false := by decide
theorem w6 : isN sWtd = false := by decide
theorem w7 : isN sGrid = false := by decide
theorem w8 : isN sMask = false := by decide
theorem k1 (l : List UInt8) : shape l = K1 ↔ ∃ b, sp 32 l = [sJoin, b] ∧ isN b = true := by
  rw [show K1 = jn 32 [sJoin, [48]] from rfl, shape_iff l _ (by decide) (by decide) (by decide)]
  constructor
  · intro h
    obtain ⟨a, b, h1, h2, h3⟩ := map_two h
    obtain rfl := (mk_word w1).1 h2
    exact ⟨b, h1, mk_num.1 h3⟩
  · rintro ⟨b, h1, h2⟩; rw [h1]; simp [(mk_word w1).2 rfl, mk_num.2 h2]
theorem k2 (l : List UInt8) : shape l = K2 ↔ ∃ b d, sp 32 l = [sJoin, b, sWeight, d] ∧ isN b = true ∧ isN d = true := by
  rw [show K2 = jn 32 [sJoin, [48], sWeight, [48]] from rfl, shape_iff l _ (by decide) (by decide) (by decide)]
  constructor
  · intro h
    obtain ⟨a, b, c, d, h1, h2, h3, h4, h5⟩ := map_four h
    obtain rfl := (mk_word w1).1 h2
    obtain rfl := (mk_word w3).1 h4
    exact ⟨b, d, h1, mk_num.1 h3, mk_num.1 h5⟩
  · rintro ⟨b, d, h1, h2, h3⟩; rw [h1]; simp [(mk_word w1).2 rfl, (mk_word w3).2 rfl, mk_num.2 h2, mk_num.2 h3]
theorem k3 (l : List UInt8) : shape l = K3 ↔ ∃ b, sp 32 l = [sRemove, b] ∧ isN b = true := by
  rw [show K3 = jn 32 [sRemove, [48]] from rfl, shape_iff l _ (by decide) (by decide) (by decide)]
  constructor
  · intro h
    obtain ⟨a, b, h1, h2, h3⟩ := map_two h
    obtain rfl := (mk_word w2).1 h2
    exact ⟨b, h1, mk_num.1 h3⟩
  · rintro ⟨b, h1, h2⟩; rw [h1]; simp [(mk_word w2).2 rfl, mk_num.2 h2]
theorem k4 (l : List UInt8) : shape l = K4 ↔ ∃ b c, sp 32 l = [sWeight, b, c] ∧ isN b = true ∧ isN c = true := by
  rw [show K4 = jn 32 [sWeight, [48], [48]] from rfl, shape_iff l _ (by decide) (by decide) (by decide)]
  constructor
  · intro h
    obtain ⟨a, b, c, h1, h2, h3, h4⟩ := map_three h
    obtain rfl := (mk_word w3).1 h2
    exact ⟨b, c, h1, mk_num.1 h3, mk_num.1 h4⟩
  · rintro ⟨b, c, h1, h2, h3⟩; rw [h1]; simp [(mk_word w3).2 rfl, mk_num.2 h2, mk_num.2 h3]
theorem k5 (l : List UInt8) : shape l = K5 ↔ sp 32 l = [sRule, sMaj] := by
  rw [show K5 = jn 32 [sRule, sMaj] from rfl, shape_iff l _ (by decide) (by decide) (by decide)]
  constructor
  · intro h
    obtain ⟨a, b, h1, h2, h3⟩ := map_two h
    obtain rfl := (mk_word w4).1 h2
    obtain rfl := (mk_word w5).1 h3
    exact h1
  · intro h1; rw [h1]; simp [(mk_word w4).2 rfl, (mk_word w5).2 rfl]
theorem k6 (l : List UInt8) : shape l = K6 ↔ sp 32 l = [sRule, sWtd] := by
  rw [show K6 = jn 32 [sRule, sWtd] from rfl, shape_iff l _ (by decide) (by decide) (by decide)]
  constructor
  · intro h
    obtain ⟨a, b, h1, h2, h3⟩ := map_two h
    obtain rfl := (mk_word w4).1 h2
    obtain rfl := (mk_word w6).1 h3
    exact h1
  · intro h1; rw [h1]; simp [(mk_word w4).2 rfl, (mk_word w6).2 rfl]
theorem k7 (l : List UInt8) : shape l = K7 ↔ ∃ c, sp 32 l = [sRule, sGrid, c] ∧ isN c = true := by
  rw [show K7 = jn 32 [sRule, sGrid, [48]] from rfl, shape_iff l _ (by decide) (by decide) (by decide)]
  constructor
  · intro h
    obtain ⟨a, b, c, h1, h2, h3, h4⟩ := map_three h
    obtain rfl := (mk_word w4).1 h2
    obtain rfl := (mk_word w7).1 h3
    exact ⟨c, h1, mk_num.1 h4⟩
  · rintro ⟨c, h1, h2⟩; rw [h1]; simp [(mk_word w4).2 rfl, (mk_word w7).2 rfl, mk_num.2 h2]
theorem k8 (l : List UInt8) : shape l = K8 ↔ ∃ c, sp 32 l = [sRule, sMask, c] ∧ isN c = true := by
  rw [show K8 = jn 32 [sRule, sMask, [48]] from rfl, shape_iff l _ (by decide) (by decide) (by decide)]
  constructor
  · intro h
    obtain ⟨a, b, c, h1, h2, h3, h4⟩ := map_three h
    obtain rfl := (mk_word w4).1 h2
    obtain rfl := (mk_word w8).1 h3
    exact ⟨c, h1, mk_num.1 h4⟩
  · rintro ⟨c, h1, h2⟩; rw [h1]; simp [(mk_word w4).2 rfl, (mk_word w8).2 rfl, mk_num.2 h2]
theorem spn_short {l : List UInt8} (h : (sp 32 l).length ≤ 4) : spn 32 4 l = sp 32 l := by unfold spn; rw [if_pos h]

/-- The nine ways of a line: its shape, its numbers, its form. -/
inductive Way (l : List UInt8) : Prop
  | join (b : Int) (h1 : shape l = K1) (h2 : nums l = [b]) (h3 : frm (sp 32 l) = some (1, b, 1, 0, 0, 0, 0)) (hb : 0 ≤ b ∧ b ≤ 9999)
  | joinw (b d : Int) (h1 : shape l = K2) (h2 : nums l = [b, d]) (h3 : frm (sp 32 l) = some (1, b, d, 0, 0, 0, 0)) (hb : 0 ≤ b ∧ b ≤ 9999) (hd : 0 ≤ d ∧ d ≤ 9999)
  | remove (b : Int) (h1 : shape l = K3) (h2 : nums l = [b]) (h3 : frm (sp 32 l) = some (2, b, 0, 0, 0, 0, 0)) (hb : 0 ≤ b ∧ b ≤ 9999)
  | weight (b d : Int) (h1 : shape l = K4) (h2 : nums l = [b, d]) (h3 : frm (sp 32 l) = some (3, b, d, 0, 0, 0, 0)) (hb : 0 ≤ b ∧ b ≤ 9999) (hd : 0 ≤ d ∧ d ≤ 9999)
  | maj (h1 : shape l = K5) (h3 : frm (sp 32 l) = some (4, 0, 0, 0, 1, 0, 0))
  | wtd (h1 : shape l = K6) (h3 : frm (sp 32 l) = some (4, 0, 0, 0, 2, 0, 0))
  | grid (b : Int) (h1 : shape l = K7) (h2 : nums l = [b]) (h3 : frm (sp 32 l) = some (4, 0, 0, 0, 3, b, 0)) (hb : 0 ≤ b ∧ b ≤ 9999)
  | mask (b : Int) (h1 : shape l = K8) (h2 : nums l = [b]) (h3 : frm (sp 32 l) = some (4, 0, 0, 0, 4, 0, b)) (hb : 0 ≤ b ∧ b ≤ 9999)
  | none (h1 : shape l ≠ K1) (h2 : shape l ≠ K2) (h3 : shape l ≠ K3) (h4 : shape l ≠ K4) (h5 : shape l ≠ K5) (h6 : shape l ≠ K6) (h7 : shape l ≠ K7) (h8 : shape l ≠ K8) (h : frm (sp 32 l) = none)
theorem val_bd {b : List UInt8} (h : isN b = true) : 0 ≤ (val b : Int) ∧ (val b : Int) ≤ 9999 := by have := val_lt h; omega
theorem way (l : List UInt8) : Way l := by
  by_cases h1 : shape l = K1
  · obtain ⟨b, e, hb⟩ := (k1 l).1 h1
    exact .join (val b) h1 (by simp [nums, spn_short (l := l) (by rw [e]; simp), e, w1, hb]) (by rw [e]; simp [frm, hb]) (val_bd hb)
  by_cases h2 : shape l = K2
  · obtain ⟨b, d, e, hb, hd⟩ := (k2 l).1 h2
    exact .joinw (val b) (val d) h2 (by simp [nums, spn_short (l := l) (by rw [e]; simp), e, w1, w3, hb, hd]) (by rw [e]; simp [frm, hb, hd]) (val_bd hb) (val_bd hd)
  by_cases h3 : shape l = K3
  · obtain ⟨b, e, hb⟩ := (k3 l).1 h3
    exact .remove (val b) h3 (by simp [nums, spn_short (l := l) (by rw [e]; simp), e, w2, hb]) (by rw [e]; simp [frm, hb, show sRemove ≠ sJoin by decide]) (val_bd hb)
  by_cases h4 : shape l = K4
  · obtain ⟨b, d, e, hb, hd⟩ := (k4 l).1 h4
    exact .weight (val b) (val d) h4 (by simp [nums, spn_short (l := l) (by rw [e]; simp), e, w3, hb, hd]) (by rw [e]; simp [frm, hb, hd]) (val_bd hb) (val_bd hd)
  by_cases h5 : shape l = K5
  · have e := (k5 l).1 h5
    exact .maj h5 (by rw [e]; simp [frm, w5, show sRule ≠ sJoin by decide, show sRule ≠ sRemove by decide])
  by_cases h6 : shape l = K6
  · have e := (k6 l).1 h6
    exact .wtd h6 (by rw [e]; simp [frm, w6, show sRule ≠ sJoin by decide, show sRule ≠ sRemove by decide, show sWtd ≠ sMaj by decide])
  by_cases h7 : shape l = K7
  · obtain ⟨b, e, hb⟩ := (k7 l).1 h7
    exact .grid (val b) h7 (by simp [nums, spn_short (l := l) (by rw [e]; simp), e, w4, w7, hb]) (by rw [e]; simp [frm, hb, w7]) (val_bd hb)
  by_cases h8 : shape l = K8
  · obtain ⟨b, e, hb⟩ := (k8 l).1 h8
    exact .mask (val b) h8 (by simp [nums, spn_short (l := l) (by rw [e]; simp), e, w4, w8, hb]) (by rw [e]; simp [frm, hb, w8, show sMask ≠ sGrid by decide]) (val_bd hb)
  refine .none h1 h2 h3 h4 h5 h6 h7 h8 ?_
  unfold frm
  split
  · rename_i a b e
    rw [if_neg (fun h => h1 ((k1 l).2 ⟨b, by rw [e, h.1], h.2⟩)), if_neg (fun h => h3 ((k3 l).2 ⟨b, by rw [e, h.1], h.2⟩)), if_neg (fun h => h5 ((k5 l).2 (by rw [e, h.1, h.2]))), if_neg (fun h => h6 ((k6 l).2 (by rw [e, h.1, h.2])))]
  · rename_i a b c e
    rw [if_neg (fun h => h4 ((k4 l).2 ⟨b, c, by rw [e, h.1], h.2.1, h.2.2⟩)), if_neg (fun h => h7 ((k7 l).2 ⟨c, by rw [e, h.1, h.2.1], h.2.2⟩)), if_neg (fun h => h8 ((k8 l).2 ⟨c, by rw [e, h.1, h.2.1], h.2.2⟩))]
  · rename_i a b c d e
    rw [if_neg (fun h => h2 ((k2 l).2 ⟨b, d, by rw [e, h.1, h.2.2.1], h.2.1, h.2.2.2⟩))]
  · rfl

/-- A change with version 1, if its kind has versions and it has version 0. -/
def ver : Chg → Chg
  | (k, s, t, v, a, b, c) => (k, s, t, if v = 0 ∧ (k = 3 ∨ k = 4) then 1 else v, a, b, c)
/-- What Parse gives. -/
def prs (l : List UInt8) : Chg × Int :=
  match frm (sp 32 l) with
  | none => (zc, 11)
  | some x => if JM.errCh (ver x) = 0 then (x, 0) else (zc, JM.errCh (ver x))

/-! ### Compile -/
def has (cs : List Chg) (k s : Int) : Bool := cs.any fun y => y.1 == k && y.2.1 == s
/-- The version of a server's weight. -/
def wv : List Ent → Int → Int
  | [], _ => 0
  | e :: r, s => if e.1 = s then e.2.2.1 else wv r s
def mbr (s : Sm) (x : Int) : Bool := s.J.contains x && !s.R.contains x
def plc (x : Chg) (acc : List Chg) (s : Sm) : Chg × Int :=
  match x with
  | (k, sv, t, _, a, b, c) =>
    if 6 ≤ acc.length then (zc, 3)
    else if has acc k sv = true then (zc, 5)
    else if k = 1 then if s.J.contains sv = true ∨ s.R.contains sv = true then (zc, 5) else (x, 0)
    else if k = 4 then if 1000 ≤ s.v then (zc, 9) else ((k, sv, t, s.v + 1, a, b, c), 0)
    else if mbr s sv = false ∧ has acc 1 sv = false then (zc, 6)
    else if k = 3 then if 1000 ≤ wv s.W sv then (zc, 9) else ((k, sv, t, wv s.W sv + 1, a, b, c), 0)
    else (x, 0)
def skip (l : List UInt8) : Bool := l.isEmpty || l.head? == some 35
def step (s : Sm) (acc : List Chg) (l : List UInt8) : Chg × Int := if (prs l).2 = 0 then plc (prs l).1 acc s else (zc, (prs l).2)
def comp (s : Sm) : List (List UInt8) → List Chg → Int → List Chg × Int × Int
  | [], acc, _ => if acc = [] then ([], 0, 2) else (acc, 0, 0)
  | l :: r, acc, n =>
    if skip l = true then comp s r acc (n + 1)
    else if (step s acc l).2 = 0 then comp s r (acc ++ [(step s acc l).1]) (n + 1)
    else ([], n + 1, (step s acc l).2)
def cmpl (text : List UInt8) (s : Sm) : List Chg × Int × Int := comp s (sp 10 text) [] 0
theorem comp_skip {s : Sm} {l : List UInt8} {r : List (List UInt8)} {acc : List Chg} {n : Int} (h : skip l = true) : comp s (l :: r) acc n = comp s r acc (n + 1) := by rw [comp, if_pos h]
theorem comp_ok {s : Sm} {l : List UInt8} {r : List (List UInt8)} {acc : List Chg} {n : Int} (h : skip l = false) (h2 : (step s acc l).2 = 0) : comp s (l :: r) acc n = comp s r (acc ++ [(step s acc l).1]) (n + 1) := by rw [comp, if_neg (by rw [h]; simp), if_pos h2]
theorem comp_bad {s : Sm} {l : List UInt8} {r : List (List UInt8)} {acc : List Chg} {n : Int} (h : skip l = false) (h2 : (step s acc l).2 ≠ 0) : comp s (l :: r) acc n = ([], n + 1, (step s acc l).2) := by rw [comp, if_neg (by rw [h]; simp), if_neg h2]

end Go.Proofs.YthgnhaimdkcmeaaGreatDoor.DM
