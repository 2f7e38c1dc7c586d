/-
  The call of the laws' awake: it returns true. No conditions.
-/
import Derived.Test.YtkaafbdhgekeeaaGreatMSum
import Derived.Test.YtkaafbdhgekeeaaGreatMView
import Derived.Test.YtkaafbdhgekeeaaGreatMGdM
namespace Go.Proofs.YtkaafbdhgekeeaaGreat
open Go.RowKit Go.Joins
open JM (Chg St)
open MM (Mem Ent Sm Tri)

def Ga : List Mem := [(1, 1), (2, 3)]
def Ca : List Chg := [(1, 4, 2, 0, 0, 0, 0), (2, 1, 0, 0, 0, 0, 0), (4, 0, 0, 1, 2, 0, 0)]
def Pa : MM.Prp := (201, 1, Ca)
def Sa : Sm := ⟨[1, 2, 4], [1], [(1, 1, 0, 0, 0), (2, 3, 0, 0, 0), (4, 2, 0, 201, 1)], 2, 0, 0, 1, 201, 1⟩
theorem gen_a : MM.errG 1 0 0 Ga = 0 := by decide
theorem gen_n : MM.errG 1 0 0 [] = 2 := by decide
theorem prp_a : JM.errP 201 1 Ca = 0 := by decide
theorem prp_all : ∀ x ∈ [Pa], JM.errP x.1 x.2.1 x.2.2 = 0 := fun x hx => by
  obtain rfl : x = Pa := by simpa using hx
  exact prp_a
theorem of_a : MM.ofP 201 1 Ca = ⟨[4], [1], [(4, 2, 0, 201, 1)], 2, 0, 0, 1, 201, 1⟩ := by rfl
theorem summ_a : MM.summ Ga 1 0 0 [Pa] = Sa := by
  show MM.join (MM.ini Ga 1 0 0) (MM.ofP 201 1 Ca) = Sa
  rw [of_a]
  show (⟨MM.mg MM.kI MM.fstI [1, 2] [4], MM.mg MM.kI MM.fstI [] [1], MM.mg MM.kW MM.lat [(1, 1, 0, 0, 0), (2, 3, 0, 0, 0)] [(4, 2, 0, 201, 1)], 2, 0, 0, 1, 201, 1⟩ : Sm) = Sa
  rw [MM.mg_nil, MM.mg_lt (key := MM.kI) (x := 1) (y := 4) MM.fstI (by decide), MM.mg_lt (key := MM.kI) (x := 2) (y := 4) MM.fstI (by decide), MM.mg_nil,
    MM.mg_lt (key := MM.kW) (x := (1, 1, 0, 0, 0)) (y := (4, 2, 0, 201, 1)) MM.lat (by decide), MM.mg_lt (key := MM.kW) (x := (2, 3, 0, 0, 0)) (y := (4, 2, 0, 201, 1)) MM.lat (by decide), MM.mg_nil]
  rfl
theorem ok_sa : MM.OkS Sa := by
  obtain ⟨h1, h2, _⟩ := MM.errG_zero gen_a
  rw [← summ_a]
  exact (MM.sp_summ h1 h2 prp_all).ok
theorem mems_a : MM.mems Sa = [(2, 3), (4, 2)] := by rfl
theorem join_a : (MM.join Sa Sa).J.length = 3 := by
  show (MM.mg MM.kI MM.fstI [1, 2, 4] [1, 2, 4]).length = 3
  rw [MM.mg_eq (key := MM.kI) (x := 1) (y := 1) MM.fstI rfl, MM.mg_eq (key := MM.kI) (x := 2) (y := 2) MM.fstI rfl, MM.mg_eq (key := MM.kI) (x := 4) (y := 4) MM.fstI rfl, MM.mg_nil]
  rfl
theorem sa_shape {w : World} {v : Value} (h : RdS w v Sa) : ∃ (ax : Option Addr) (cx : Nat) (ay : Option Addr) (cy : Nat) (az : Option Addr) (cz : Nat), v = sv (.slice ax 3 cx) (.slice ay 1 cy) (.slice az 3 cz) 2 0 0 1 201 1 := by
  obtain ⟨x, y, z, rfl, h1, h2, h3⟩ := h
  obtain ⟨ax, cx, rfl, _⟩ := h1.shape
  obtain ⟨ay, cy, rfl, _⟩ := h2.shape
  obtain ⟨az, cz, rfl, _⟩ := h3.shape
  exact ⟨_, _, _, _, _, _, rfl⟩
/-- A summary's first list, by its length. -/
theorem j_shape {w : World} {v : Value} {s : Sm} {n : Nat} (h : RdS w v s) (hn : s.J.length = n) : ∃ (a : Option Addr) (c : Nat) (y z : Value), v = sv (.slice a n c) y z s.k s.c s.f s.v s.a s.n := by
  obtain ⟨x, y, z, rfl, h1, h2, h3⟩ := h
  obtain ⟨ax, cx, rfl, _⟩ := h1.shape
  rw [hn]
  exact ⟨_, _, _, _, rfl⟩
theorem run_fieldJ (x y z : Value) (k c f v a n : Int) (w : World) : (Instr.field 37 (sv x y z k c f v a n) 0).run Tryz.prog w = .ok x w := by
  have hu := Tryz.underlying37
  have ha := Tryz.isAgg34
  have hs := Tryz.sizeOf34
  simp [Instr.field, run_underlying hu, asAgg, part, ha, hs]
/-- The blocks that awake lays ahead of its calls. -/
theorem awake_blocks (w : World) :
    ∃ w4, (((w.alloc (.cells #[.int .i64 1, .int .i64 1, .int .i64 2, .int .i64 3] 48)).alloc (.cells #[.slice (some ⟨w.heap.size, 0, none⟩) 2 2, .int .i64 1, .int .i64 0, .int .i64 0] 26)).alloc
        (.cells #[.int .i64 1, .int .i64 4, .int .i64 2, .int .i64 0, .int .i64 0, .int .i64 0, .int .i64 0, .int .i64 2, .int .i64 1, .int .i64 0, .int .i64 0, .int .i64 0, .int .i64 0, .int .i64 0, .int .i64 4, .int .i64 0, .int .i64 0, .int .i64 1, .int .i64 2, .int .i64 0, .int .i64 0] 50)).alloc
        (.cells #[.int .i64 201, .int .i64 1, .slice (some ⟨w.heap.size + 1 + 1, 0, none⟩) 3 3] 45) = w4 ∧ Below w.heap.size w w4 ∧
      RdM w4 (.slice (some ⟨w.heap.size, 0, none⟩) 2 2) Ga ∧ RdF w4 (.slice (some ⟨w.heap.size + 1 + 1 + 1, 0, none⟩) 1 1) [Pa] ∧ w4.heap[w.heap.size + 1]? = some (gBox (.slice (some ⟨w.heap.size, 0, none⟩) 2 2) 1 0 0) := by
  have b1 := below_fresh w (.cells #[.int .i64 1, .int .i64 1, .int .i64 2, .int .i64 3] 48)
  have z1 := World.size_alloc w (.cells #[.int .i64 1, .int .i64 1, .int .i64 2, .int .i64 3] 48)
  have h1 : RdM (w.alloc (.cells #[.int .i64 1, .int .i64 1, .int .i64 2, .int .i64 3] 48)) (.slice (some ⟨w.heap.size, 0, none⟩) 2 2) Ga := (ownG_fresh hlM 48 w Ga (by unfold maxLen; simp [Ga])).rd
  generalize w.alloc (.cells #[.int .i64 1, .int .i64 1, .int .i64 2, .int .i64 3] 48) = w1 at *
  have b2 := below_fresh w1 (.cells #[.slice (some ⟨w.heap.size, 0, none⟩) 2 2, .int .i64 1, .int .i64 0, .int .i64 0] 26)
  have z2 := World.size_alloc w1 (.cells #[.slice (some ⟨w.heap.size, 0, none⟩) 2 2, .int .i64 1, .int .i64 0, .int .i64 0] 26)
  have h2 := heap_alloc_new w1 (.cells #[.slice (some ⟨w.heap.size, 0, none⟩) 2 2, .int .i64 1, .int .i64 0, .int .i64 0] 26)
  generalize w1.alloc (.cells #[.slice (some ⟨w.heap.size, 0, none⟩) 2 2, .int .i64 1, .int .i64 0, .int .i64 0] 26) = w2 at *
  have b3 := below_fresh w2 (.cells #[.int .i64 1, .int .i64 4, .int .i64 2, .int .i64 0, .int .i64 0, .int .i64 0, .int .i64 0, .int .i64 2, .int .i64 1, .int .i64 0, .int .i64 0, .int .i64 0, .int .i64 0, .int .i64 0, .int .i64 4, .int .i64 0, .int .i64 0, .int .i64 1, .int .i64 2, .int .i64 0, .int .i64 0] 50)
  have z3 := World.size_alloc w2 (.cells #[.int .i64 1, .int .i64 4, .int .i64 2, .int .i64 0, .int .i64 0, .int .i64 0, .int .i64 0, .int .i64 2, .int .i64 1, .int .i64 0, .int .i64 0, .int .i64 0, .int .i64 0, .int .i64 0, .int .i64 4, .int .i64 0, .int .i64 0, .int .i64 1, .int .i64 2, .int .i64 0, .int .i64 0] 50)
  have h3 : RdC (w2.alloc (.cells #[.int .i64 1, .int .i64 4, .int .i64 2, .int .i64 0, .int .i64 0, .int .i64 0, .int .i64 0, .int .i64 2, .int .i64 1, .int .i64 0, .int .i64 0, .int .i64 0, .int .i64 0, .int .i64 0, .int .i64 4, .int .i64 0, .int .i64 0, .int .i64 1, .int .i64 2, .int .i64 0, .int .i64 0] 50)) (.slice (some ⟨w2.heap.size, 0, none⟩) 3 3) Ca := (ownG_fresh hlC 50 w2 Ca (by unfold maxLen; simp [Ca])).rd
  generalize w2.alloc (.cells #[.int .i64 1, .int .i64 4, .int .i64 2, .int .i64 0, .int .i64 0, .int .i64 0, .int .i64 0, .int .i64 2, .int .i64 1, .int .i64 0, .int .i64 0, .int .i64 0, .int .i64 0, .int .i64 0, .int .i64 4, .int .i64 0, .int .i64 0, .int .i64 1, .int .i64 2, .int .i64 0, .int .i64 0] 50) = w3 at *
  have b4 := below_fresh w3 (.cells #[.int .i64 201, .int .i64 1, .slice (some ⟨w.heap.size + 1 + 1, 0, none⟩) 3 3] 45)
  have h4 : RdQ (w3.alloc (.cells #[.int .i64 201, .int .i64 1, .slice (some ⟨w.heap.size + 1 + 1, 0, none⟩) 3 3] 45)) (.slice (some ⟨w3.heap.size, 0, none⟩) 1 1) [(201, 1, some ⟨w.heap.size + 1 + 1, 0, none⟩, 3, 3)] := (ownG_fresh hlQ 45 w3 [(201, 1, some ⟨w.heap.size + 1 + 1, 0, none⟩, 3, 3)] (by unfold maxLen; simp)).rd
  refine ⟨_, rfl, bnext (bnext (bnext b1 b2) b3) b4, ((h1.below b2).below b3).below b4, ?_, ?_⟩
  · have hz3 : w3.heap.size = w.heap.size + 1 + 1 + 1 := by omega
    have hz2 : w2.heap.size = w.heap.size + 1 + 1 := by omega
    rw [← hz3]
    rw [hz2] at h3
    exact ⟨_, h4, Tel.one ⟨rfl, rfl, h3.below b4⟩⟩
  · rw [z1] at h2
    exact below_block (below_block h2 b3) b4

set_option maxRecDepth 100000 in
set_option maxHeartbeats 8000000 in
theorem cAwake (w : World) : Calls Tryz.prog 6 #[] w fun e w' => e = .returned (.bool true) ∧ Below w.heap.size w w' := by
  obtain ⟨w4, hw4, hB, hM, hF, hG⟩ := awake_blocks w
  have HS := Lib.hid (fun w' (h1 : RdM w' (.slice (some ⟨w.heap.size, 0, none⟩) 2 2) Ga) (h2 : RdF w' (.slice (some ⟨w.heap.size + 1 + 1 + 1, 0, none⟩) 1 1) [Pa]) => by
    have := cSummarize _ _ 1 0 0 Ga [Pa] w' h1 h2 gen_a (by decide) prp_all (by decide)
    rw [summ_a] at this
    exact this)
  have HW := Lib.hid hw4
  have HB := Lib.hid hB
  have HM := Lib.hid hM
  have HF := Lib.hid hF
  have HG := Lib.hid hG
  have HEQ := Lib.hid (fun w' (v : Value) (h : RdS w' v Sa) => by
    have := cEqSum v v Sa Sa w' h h
    rw [MM.eqS_self] at this
    exact this)
  have HVS := Lib.hid (fun w' (v : Value) (h : RdS w' v Sa) => by
    have := cValSum v Sa w' h
    rw [MM.errS_iff.2 ok_sa] at this
    exact this)
  have HVG := Lib.hid (fun w' => by
    have := cValGen (.slice none 0 0) 1 0 0 [] w' (RdG.nil hlM _)
    rw [gen_n] at this
    exact this)
  have HVW := Lib.hid (fun w' (v : Value) (h : RdS w' v Sa) => by
    have := cView v Sa w' h ok_sa.r ok_sa.w (okS_len ok_sa)
    rw [mems_a] at this
    exact (show Calls Tryz.prog 13 #[v] w' fun e w'' => ∃ sl, e = .returned (vw sl 2 0 0) ∧ RdM w'' sl [(2, 3), (4, 2)] ∧ Below w'.heap.size w' w'' from this))
  have HJ := Lib.hid (fun w' (v : Value) (h : RdS w' v Sa) => cJoin v v Sa Sa w' h h (okS_len ok_sa) (okS_len ok_sa))
  have HI := Lib.hid (fun w' (h : RdM w' (.slice (some ⟨w.heap.size, 0, none⟩) 2 2) Ga) => cInitial (.slice (some ⟨w.heap.size, 0, none⟩) 2 2) 1 0 0 Ga w' h (by decide))
  have HO := Lib.hid (fun w' (u : Value) (h : RdC w' u Ca) => cOf 201 1 u Ca w' h prp_a)
  have HAG := Lib.hid (fun w' (h : RdM w' (.slice (some ⟨w.heap.size, 0, none⟩) 2 2) Ga) => cAppendGenesis (.slice none 0 0) _ [] Ga 1 0 0 w' (Rd.nil _) h (gnum_small gen_a (by decide)) (by decide) (by decide))
  have HDG := Lib.hid (fun w' (v : Value) (h : Rd w' v (JM.encN (gnum Ga 1 0 0))) => by
    have := cDecGen v _ w' h
    have e := decG_enc gen_a (gnum_small gen_a (by decide)) (by decide) []
    rw [List.append_nil] at e
    rw [e] at this
    exact this)
  have hlen : (0 : Int) < ((JM.encN (gnum Ga 1 0 0)).length : Int) := by
    have : JM.encN (gnum Ga 1 0 0) = WM.enc 2 ++ JM.encN (flat Ga ++ [1, 0, 0]) := rfl
    have h2 := WM.enc_pos 2
    rw [this, List.length_append]
    omega
  generalize JM.encN (gnum Ga 1 0 0) = EN at HAG HDG hlen
  clear hw4 hB hM hF hG
  go_enter Tryz.func6, Tryz.ntmps6
  go_upto_region 3 with fail
  rw [HW.out]
  obtain ⟨⟨q0, q1, q2, q3⟩, _⟩ := row4_at HG.out
  go_wp2_with fail
  refine (HS.out _ HM.out HF.out).mono ?_
  rintro e w5 ⟨v5, rfl, hr5, hb5⟩
  have hrs := hr5.rd
  obtain ⟨ax, cx, ay, cy, az, cz, hv5⟩ := sa_shape hrs
  subst hv5
  replace HM := Lib.hid (HM.out.below hb5)
  replace HF := Lib.hid (HF.out.below hb5)
  replace HG := Lib.hid (below_block HG.out hb5)
  replace HB := Lib.hid (bnext HB.out hb5)
  have HSR := Lib.hid hrs
  clear hr5 hrs hb5 HS q0 q1 q2 q3
  -- the summary's box
  obtain ⟨S0, hS0⟩ : ∃ o, o = Obj.cells (s9 (.slice ax 3 cx) (.slice ay 1 cy) (.slice az 3 cz) 2 0 0 1 201 1) 37 := ⟨_, rfl⟩
  have hb6 := below_fresh w5 S0
  have hx6 := heap_alloc_new w5 S0
  obtain ⟨X, hX⟩ : ∃ X, X = w5.heap.size := ⟨_, rfl⟩
  rw [← hX] at hx6
  replace HM := Lib.hid (HM.out.below hb6)
  replace HF := Lib.hid (HF.out.below hb6)
  replace HG := Lib.hid (below_block HG.out hb6)
  replace HB := Lib.hid (bnext HB.out hb6)
  replace HSR := Lib.hid (HSR.out.below hb6)
  generalize hw6 : w5.alloc S0 = w6 at hx6 HM HF HG HB HSR
  rw [hS0] at hx6 hw6
  have HX := Lib.hid hx6
  have HW6 := Lib.hid hw6
  have HXE := Lib.hid hX
  clear hb6 hx6 hw6 hX hS0 S0
  go_upto_region 4 with fail
  rw [HW6.out, ← HXE.out]
  obtain ⟨⟨s0, s1, s2, s3, s4, s5, s6, s7, s8⟩, _⟩ := row9_at HX.out
  go_wp2_with fail
  refine (HVW.out w6 _ HSR.out).mono ?_
  rintro e w7 ⟨sl, rfl, hr7, hb7⟩
  obtain ⟨am, cm, hvs, _⟩ := hr7.shape
  have hvs : sl = .slice am 2 cm := hvs
  subst hvs
  replace HM := Lib.hid (HM.out.below hb7)
  replace HF := Lib.hid (HF.out.below hb7)
  replace HG := Lib.hid (below_block HG.out hb7)
  replace HB := Lib.hid (bnext HB.out hb7)
  replace HSR := Lib.hid (HSR.out.below hb7)
  replace HX := Lib.hid (below_block HX.out hb7)
  have HVR := Lib.hid hr7
  clear hr7 hb7 HVW s0 s1 s2 s3 s4 s5 s6 s7 s8 HW6 HXE
  -- the view's box
  obtain ⟨S0, hS0⟩ : ∃ o, o = Obj.cells (v4 (.slice am 2 cm) 2 0 0) 41 := ⟨_, rfl⟩
  have hb8 := below_fresh w7 S0
  have hx8 := heap_alloc_new w7 S0
  obtain ⟨Y, hY⟩ : ∃ Y, Y = w7.heap.size := ⟨_, rfl⟩
  rw [← hY] at hx8
  replace HM := Lib.hid (HM.out.below hb8)
  replace HF := Lib.hid (HF.out.below hb8)
  replace HG := Lib.hid (below_block HG.out hb8)
  replace HB := Lib.hid (bnext HB.out hb8)
  replace HSR := Lib.hid (HSR.out.below hb8)
  replace HX := Lib.hid (below_block HX.out hb8)
  replace HVR := Lib.hid (HVR.out.below hb8)
  generalize hw8 : w7.alloc S0 = w8 at hx8 HM HF HG HB HSR HX HVR
  rw [hS0] at hx8 hw8
  have HY := Lib.hid hx8
  have HW8 := Lib.hid hw8
  have HYE := Lib.hid hY
  clear hb8 hx8 hw8 hY hS0 S0
  go_upto_region 5 with fail
  rw [HW8.out, ← HYE.out]
  obtain ⟨⟨q0, q1, q2, q3⟩, _⟩ := row4_at HG.out
  go_wp2_with fail
  refine (HAG.out w8 HM.out).mono ?_
  rintro e w9 ⟨v9, rfl, ho9, hb9⟩
  have hrd9 := ho9.rd
  rw [List.nil_append] at hrd9
  replace HM := Lib.hid (HM.out.below hb9)
  replace HF := Lib.hid (HF.out.below hb9)
  replace HG := Lib.hid (below_block HG.out hb9)
  replace HB := Lib.hid (bnext HB.out hb9)
  replace HSR := Lib.hid (HSR.out.below hb9)
  replace HX := Lib.hid (below_block HX.out hb9)
  replace HY := Lib.hid (below_block HY.out hb9)
  replace HVR := Lib.hid (HVR.out.below hb9)
  have HRD := Lib.hid hrd9
  clear ho9 hrd9 hb9 HAG q0 q1 q2 q3 HW8 HYE
  go_wp2_with fail
  refine (HDG.out w9 _ HRD.out).mono ?_
  rintro e w10 ⟨sh, rfl, hr10, hb10⟩
  obtain ⟨ah, ch, hvs, _⟩ := hr10.shape
  have hvs : sh = .slice ah 2 ch := hvs
  subst hvs
  replace HM := Lib.hid (HM.out.below hb10)
  replace HF := Lib.hid (HF.out.below hb10)
  replace HG := Lib.hid (below_block HG.out hb10)
  replace HB := Lib.hid (bnext HB.out hb10)
  replace HSR := Lib.hid (HSR.out.below hb10)
  replace HX := Lib.hid (below_block HX.out hb10)
  replace HY := Lib.hid (below_block HY.out hb10)
  replace HVR := Lib.hid (HVR.out.below hb10)
  clear hr10 hb10 HDG HRD
  obtain ⟨S0, hS0⟩ : ∃ o, o = Obj.cells (v4 (.slice ah 2 ch) 1 0 0) 26 := ⟨_, rfl⟩
  have hb11 := below_fresh w10 S0
  have hx11 := heap_alloc_new w10 S0
  obtain ⟨Z, hZ⟩ : ∃ Z, Z = w10.heap.size := ⟨_, rfl⟩
  rw [← hZ] at hx11
  replace HM := Lib.hid (HM.out.below hb11)
  replace HF := Lib.hid (HF.out.below hb11)
  replace HG := Lib.hid (below_block HG.out hb11)
  replace HB := Lib.hid (bnext HB.out hb11)
  replace HSR := Lib.hid (HSR.out.below hb11)
  replace HX := Lib.hid (below_block HX.out hb11)
  replace HY := Lib.hid (below_block HY.out hb11)
  replace HVR := Lib.hid (HVR.out.below hb11)
  generalize hw11 : w10.alloc S0 = w11 at hx11 HM HF HG HB HSR HX HY HVR
  rw [hS0] at hx11 hw11
  have HZ := Lib.hid hx11
  have HW11 := Lib.hid hw11
  have HZE := Lib.hid hZ
  clear hb11 hx11 hw11 hZ hS0 S0
  generalize EN.length = LN at hlen ⊢
  go_upto_region 6 with fail
  rw [HW11.out, ← HZE.out]
  -- the long conjunction
  obtain ⟨⟨s0, s1, s2, s3, s4, s5, s6, s7, s8⟩, _⟩ := row9_at HX.out
  obtain ⟨⟨y0, y1, y2, y3⟩, _⟩ := row4_at HY.out
  obtain ⟨⟨z0, z1, z2, z3⟩, _⟩ := row4_at HZ.out
  obtain ⟨⟨q0, q1, q2, q3⟩, _⟩ := row4_at HG.out
  obtain ⟨b, o, hi, hbb, c0, c1⟩ := atM HVR.out 0 (2, 3) rfl
  obtain ⟨b2, o2, hi2, hbb2, d0, d1⟩ := atM HVR.out 1 (4, 2) rfl
  simp only at c0 c1 d0 d1
  have hi : ∀ w0, (Instr.indexAt 22 (.slice am 2 cm) (.int .i64 0)).run Tryz.prog w0 = .ok (.pointer (some ⟨b, o, none⟩)) w0 := hi
  have hi2 : ∀ w0, (Instr.indexAt 22 (.slice am 2 cm) (.int .i64 1)).run Tryz.prog w0 = .ok (.pointer (some ⟨b2, o2, none⟩)) w0 := hi2
  have e1 : ∀ w, (binOp .eql 48 (mv 2 3) (mv 2 3)).run Tryz.prog w = .ok (.bool true) w := fun w => eql_mem 2 3 2 3 w
  have e2 : ∀ w, (binOp .eql 48 (mv 4 2) (mv 4 2)).run Tryz.prog w = .ok (.bool true) w := fun w => eql_mem 4 2 4 2 w
  have hg1 := gm_mem
  go_wp2_with fail
  refine (HEQ.out w11 _ HSR.out).mono ?_
  rintro e w12 ⟨rfl, hb12⟩
  replace HM := Lib.hid (HM.out.below hb12)
  replace HF := Lib.hid (HF.out.below hb12)
  replace HG := Lib.hid (below_block HG.out hb12)
  replace HB := Lib.hid (bnext HB.out hb12)
  replace HSR := Lib.hid (HSR.out.below hb12)
  replace HX := Lib.hid (below_block HX.out hb12)
  replace HZ := Lib.hid (below_block HZ.out hb12)
  clear hb12 HEQ s0 s1 s2 s3 s4 s5 s6 s7 s8 y0 y1 y2 y3 z0 z1 z2 z3 q0 q1 q2 q3 hi hi2 hbb hbb2 c0 c1 d0 d1 e1 e2 hg1 HY HVR HW11 HZE
  obtain ⟨⟨z0, z1, z2, z3⟩, _⟩ := row4_at HZ.out
  obtain ⟨⟨q0, q1, q2, q3⟩, _⟩ := row4_at HG.out
  go_wp2_with fail
  refine (HVG.out w12).mono ?_
  rintro e w13 ⟨rfl, hb13⟩
  replace HM := Lib.hid (HM.out.below hb13)
  replace HF := Lib.hid (HF.out.below hb13)
  replace HG := Lib.hid (below_block HG.out hb13)
  replace HB := Lib.hid (bnext HB.out hb13)
  replace HSR := Lib.hid (HSR.out.below hb13)
  replace HX := Lib.hid (below_block HX.out hb13)
  clear hb13 HVG z0 z1 z2 z3 q0 q1 q2 q3 HZ
  obtain ⟨⟨s0, s1, s2, s3, s4, s5, s6, s7, s8⟩, _⟩ := row9_at HX.out
  go_wp2_with fail
  refine (HVS.out w13 _ HSR.out).mono ?_
  rintro e w14 ⟨rfl, hb14⟩
  replace HM := Lib.hid (HM.out.below hb14)
  replace HF := Lib.hid (HF.out.below hb14)
  replace HG := Lib.hid (below_block HG.out hb14)
  replace HB := Lib.hid (bnext HB.out hb14)
  replace HSR := Lib.hid (HSR.out.below hb14)
  replace HX := Lib.hid (below_block HX.out hb14)
  clear hb14 HVS s0 s1 s2 s3 s4 s5 s6 s7 s8
  obtain ⟨⟨q0, q1, q2, q3⟩, _⟩ := row4_at HG.out
  go_wp2_with fail
  have hfj := fun (x y z : Value) (k c f v a n : Int) (w : World) => run_fieldJ x y z k c f v a n w
  refine (HI.out w14 HM.out).mono ?_
  rintro e w15 ⟨v15, rfl, hr15, hb15⟩
  obtain ⟨ai, ci, yi, zi, hv15⟩ := j_shape (n := 2) hr15.rd rfl
  subst hv15
  replace HF := Lib.hid (HF.out.below hb15)
  replace HB := Lib.hid (bnext HB.out hb15)
  replace HSR := Lib.hid (HSR.out.below hb15)
  replace HX := Lib.hid (below_block HX.out hb15)
  clear hr15 hb15 HI q0 q1 q2 q3 HM HG
  obtain ⟨b, o, sa, slen, sc, hi, hbb, c0, c1, c2, hrc⟩ := HF.out.at_ 0 201 1 Ca rfl
  have hi : ∀ w0, (Instr.indexAt 28 (.slice (some ⟨w.heap.size + 1 + 1 + 1, 0, none⟩) 1 1) (.int .i64 0)).run Tryz.prog w0 = .ok (.pointer (some ⟨b, o, none⟩)) w0 := hi
  have HRC := Lib.hid hrc
  clear hrc
  go_wp2_with fail
  refine (HO.out w15 _ HRC.out).mono ?_
  rintro e w16 ⟨v16, rfl, hr16, hb16⟩
  have hof : (MM.ofP 201 1 Ca).J.length = 1 := by rw [of_a]; rfl
  obtain ⟨ao, co, yo, zo, hv16⟩ := j_shape hr16.rd hof
  subst hv16
  replace HB := Lib.hid (bnext HB.out hb16)
  replace HSR := Lib.hid (HSR.out.below hb16)
  replace HX := Lib.hid (below_block HX.out hb16)
  clear hr16 hb16 HO hof hi hbb c0 c1 c2 HF HRC
  obtain ⟨⟨s0, s1, s2, s3, s4, s5, s6, s7, s8⟩, _⟩ := row9_at HX.out
  go_wp2_with fail
  refine (HJ.out w16 _ HSR.out).mono ?_
  rintro e w17 ⟨v17, rfl, hr17, hb17⟩
  obtain ⟨aj, cj, yj, zj, hv17⟩ := j_shape hr17.rd join_a
  subst hv17
  replace HB := Lib.hid (bnext HB.out hb17)
  clear hr17 hb17 HJ s0 s1 s2 s3 s4 s5 s6 s7 s8 HX HSR
  go_wp2
  go_ret
  exact ⟨rfl, HB.out⟩

end Go.Proofs.YtkaafbdhgekeeaaGreat
