/-
  The calls of command.parseNumber and command.split. Conditions: the library's variables hold what they are laid with; the line has at most a million bytes.
-/
import Derived.Test.YthgnhaimdkcmeaaGreatDoorDRep
import Derived.Test.YthgnhaimdkcmeaaGreatDoorDShelf
import Derived.Lib.AppendIntMem
import Derived.WalkSmall
namespace Go.Proofs.YthgnhaimdkcmeaaGreatDoor
open Go.RowKit Go.Joins
open JM (Chg)

/-! ### What the library's variables hold -/
structure Vars (w : World) : Prop where
  max : ∃ m, w.cell? ⟨2, 0, none⟩ = some (.int .i64 m)
  tab : Lib.TabIs Tryz.prog w "internal/strconv.uint64pow10" .u64 Lib.pow10Tab
  syn : ∃ tp p, w.var? Tryz.prog "strconv.ErrSyntax" = some #[.iface tp p]
  rng : ∃ tp p, w.var? Tryz.prog "strconv.ErrRange" = some #[.iface tp p]
theorem var_lt {w : World} {n : String} {g : Nat} {cs : Array Value} (hg : Tryz.prog.globalNamed n = some g) (h : w.var? Tryz.prog n = some cs) : g < w.heap.size := by
  unfold World.var? at h
  rw [hg] at h
  simp only [Option.bind_some] at h
  by_cases hlt : g < w.heap.size
  · exact hlt
  · rw [Array.getElem?_eq_none (by omega)] at h; cases h
theorem var_below {w w' : World} {n : String} {g : Nat} {cs : Array Value} (hg : Tryz.prog.globalNamed n = some g) (h : w.var? Tryz.prog n = some cs) (hb : Below w.heap.size w w') : w'.var? Tryz.prog n = some cs :=
  var?_below hb hg (var_lt hg h) h
theorem g_pow : Tryz.prog.globalNamed "internal/strconv.uint64pow10" = some 3 := by kernel_rfl
theorem g_syn : Tryz.prog.globalNamed "strconv.ErrSyntax" = some 4 := by kernel_rfl
theorem g_rng : Tryz.prog.globalNamed "strconv.ErrRange" = some 5 := by kernel_rfl
theorem Vars.below {w w' : World} (h : Vars w) (hb : Below w.heap.size w w') : Vars w' := by
  obtain ⟨⟨m, h1⟩, h2, ⟨t3, p3, h3⟩, ⟨t4, p4, h4⟩⟩ := h
  exact ⟨⟨m, below_cell hb h1⟩, var_below g_pow h2 hb, ⟨t3, p3, var_below g_syn h3 hb⟩, ⟨t4, p4, var_below g_rng h4 hb⟩⟩

/-! ### Numbers -/
/-- Atoi, however it ends. -/
theorem cAtoi (s : ByteArray) (w : World) (hs : s.size ≤ 1000000) (hV : Vars w) :
    Calls Tryz.prog 54 #[.string s] w fun e w' => ((∃ n : Int, Lib.atoiAll s.data.toList = .ok n ∧ e = .returned (.tuple #[.int .i64 n, .nilIface])) ∨
      ((∀ n, Lib.atoiAll s.data.toList ≠ .ok n) ∧ ∃ (n : Int) (t : TypeId) (p : Value), e = .returned (.tuple #[.int .i64 n, .iface t p]))) ∧ Below w.heap.size w w' := by
  rcases h : Lib.atoiAll s.data.toList with n | _ | _
  · refine (Any.strconv_Atoi_ok Tryz.lAtoi s (by omega) n h w).mono ?_
    rintro e w' ⟨rfl, hw⟩
    refine ⟨.inl ⟨n, rfl, rfl⟩, ?_⟩
    rcases hw with rfl | ⟨t, rfl⟩
    · exact Below.refl _ _
    · exact Lib.bytesWorld_below _ _ _
  · obtain ⟨tp, p, hv⟩ := hV.syn
    refine (Any.strconv_Atoi_syntax_var Tryz.lAtoi s (by omega) h tp p w hv).mono ?_
    rintro e w' ⟨N, rfl, _, _, hb⟩
    exact ⟨.inr ⟨fun n => by simp, _, _, _, rfl⟩, hb⟩
  · obtain ⟨tp, p, hv⟩ := hV.rng
    refine (Any.strconv_Atoi_range_var Tryz.lAtoi s (by omega) h tp p w hv).mono ?_
    rintro e w' ⟨N, rfl, _, _, hb⟩
    exact ⟨.inr ⟨fun n => by simp, _, _, _, rfl⟩, hb⟩
theorem cItoa (n : Int) (w : World) (h0 : 0 ≤ n) (h1 : n ≤ 1000000) (hV : Vars w) :
    Calls Tryz.prog 30 #[.int .i64 n] w fun e w' => e = .returned (.string ⟨(Lib.itoa n).toArray⟩) ∧ Below w.heap.size w w' := by
  refine (Any.strconv_Itoa Tryz.lItoa n (by omega) (by omega) w hV.tab).mono ?_
  rintro e w' ⟨rfl, k, os, rfl⟩
  exact ⟨rfl, Lib.below_grow _ _ (Nat.le_refl _) _ _⟩
theorem str_eq {a b : ByteArray} : (a.toList == b.toList) = decide (a.data.toList = b.data.toList) := by
  rw [ByteArray.toList_eq, ByteArray.toList_eq, Bool.eq_iff_iff]
  simp

def Npost (B : Bool) (V : Nat) (w : World) (e : Ending) (w' : World) : Prop := ∃ n : Int, e = .returned (.tuple #[.int .i64 n, .bool B]) ∧ (B = true → n = V) ∧ Below w.heap.size w w'

set_option maxRecDepth 100000 in
set_option maxHeartbeats 1000000 in
theorem cParseNumber (s : ByteArray) (w : World) (hs : s.size ≤ 1000000) (hV : Vars w) :
    Calls Tryz.prog 43 #[.string s] w (Npost (DM.isN s.data.toList) (DM.val s.data.toList) w) := by
  have HA := Lib.hid (cAtoi s w hs hV)
  have HI := Lib.hid (fun n w' (hb : Below w.heap.size w w') h0 h1 => cItoa n w' h0 h1 (hV.below hb))
  have HN := Lib.hid (DM.isN_iff s.data.toList)
  have HVAL := Lib.hid (fun (h : DM.isN s.data.toList = true) => DM.atoi_val h)
  have HEQ := Lib.hid (fun n : Int => str_eq (a := (⟨(Lib.itoa n).toArray⟩ : ByteArray)) (b := s))
  clear hs hV
  generalize DM.isN s.data.toList = B at HN HVAL ⊢
  generalize DM.val s.data.toList = V at HVAL ⊢
  go_enter Tryz.func43, Tryz.ntmps43
  go_wp2_with fail
  refine HA.out.mono ?_
  rintro e w1 ⟨he, hb⟩
  have HB := Lib.hid hb
  clear hb HA
  rcases he with ⟨n, ha, rfl⟩ | ⟨ha, n, t, p, rfl⟩
  · have HAT := Lib.hid ha
    have HNB := Lib.hid (Lib.atoiAll_bounds ha)
    clear ha
    have hv : Hid (B = true → n = (V : Int)) := Lib.hid (fun hB => by
      have h1 := HVAL.out hB
      rw [HAT.out] at h1
      exact Lib.NumEnd.ok.inj h1)
    by_cases h0 : 0 ≤ n
    · by_cases h1 : n ≤ 9999
      · have hst : Hid (((⟨(Lib.itoa n).toArray⟩ : ByteArray).toList == s.toList) = B) := Lib.hid (by
          rw [HEQ.out, Bool.eq_iff_iff, HN.out, decide_eq_true_eq]
          constructor
          · intro h; exact ⟨n, HAT.out, h0, h1, h⟩
          · rintro ⟨m, h2, _, _, h5⟩
            rw [HAT.out] at h2
            obtain rfl := Lib.NumEnd.ok.inj h2
            exact h5)
        have HI2 := Lib.hid (HI.out n w1 HB.out h0 (by omega))
        generalize (⟨(Lib.itoa n).toArray⟩ : ByteArray) = S at hst HI2
        clear HI HEQ HN HAT HNB HVAL
        go_wp2_with fail
        refine HI2.out.mono ?_
        rintro e w2 ⟨rfl, hb2⟩
        clear HI2
        have hbb := hst.out
        clear hst
        have HP := Lib.hid (show Npost B V w (.returned (.tuple #[.int .i64 n, .bool B])) w2 from ⟨n, rfl, hv.out, bnext HB.out hb2⟩)
        clear hv
        go_wp2
        go_ret2
        exact HP.out
      · have hB : B = false := by
          cases B with
          | false => rfl
          | true => obtain ⟨m, h2, h3, h4, _⟩ := HN.out.1 rfl; rw [HAT.out] at h2; have := Lib.NumEnd.ok.inj h2; omega
        subst hB
        clear HI HEQ HN HAT HNB HVAL
        have HP := Lib.hid (show Npost false V w (.returned (.tuple #[.int .i64 n, .bool false])) w1 from ⟨n, rfl, hv.out, HB.out⟩)
        clear hv
        go_wp2
        go_ret2
        exact HP.out
    · have hB : B = false := by
        cases B with
        | false => rfl
        | true => obtain ⟨m, h2, h3, h4, _⟩ := HN.out.1 rfl; rw [HAT.out] at h2; have := Lib.NumEnd.ok.inj h2; omega
      subst hB
      clear HI HEQ HN HAT HNB HVAL
      have HP := Lib.hid (show Npost false V w (.returned (.tuple #[.int .i64 n, .bool false])) w1 from ⟨n, rfl, hv.out, HB.out⟩)
      clear hv
      go_wp2
      go_ret2
      exact HP.out
  · have hB : B = false := by
      cases B with
      | false => rfl
      | true => obtain ⟨m, h2, _⟩ := HN.out.1 rfl; exact absurd h2 (ha m)
    subst hB
    clear HI HEQ HN HVAL ha
    have HP := Lib.hid (show Npost false V w (.returned (.tuple #[.int .i64 n, .bool false])) w1 from ⟨n, rfl, (fun h => by cases h), HB.out⟩)
    go_wp2
    go_ret2
    exact HP.out

end Go.Proofs.YthgnhaimdkcmeaaGreatDoor
