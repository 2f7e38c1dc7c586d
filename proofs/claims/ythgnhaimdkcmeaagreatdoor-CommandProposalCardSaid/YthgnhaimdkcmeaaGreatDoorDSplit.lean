/-
  The calls of strings.SplitN at five, of strings.Join and of command.split. Conditions: the library's variables hold what they are laid with; the line has at most a million bytes.
-/
import Derived.Test.YthgnhaimdkcmeaaGreatDoorDNum
import Derived.Test.YthgnhaimdkcmeaaGreatDoorGB
namespace Go.Proofs.YthgnhaimdkcmeaaGreatDoor
open Go.RowKit Go.Joins
open JM (Chg)

/-- 'out = append(out, x)' where the new block's number is given in another form. -/
theorem wp_appG1n {α : Type} {P : Program} {t e : TypeId} {size bytes : Nat} {enc : α → List Value} {w : World} {ops : Array Oper} {rest : List Oper} {o : Oper} {a : Act} {Q : Exit → Act → World → Prop} {base : Nat} {v : Value} {ys : List α}
    (E : IsElem P t e size bytes enc) (x : α) (B0 : Nat) (hB0 : w.heap.size = B0) (hgd : o.guard = none) (s r : Operand) (ho : o.op = .call { callee := .builtin .append, args := #[s, r], argTypes := #[t, t] })
    (hs : a.eval s = v) (hown : OwnG enc e size base w v ys) (hx : a.eval r = .slice (some ⟨B0, 0, none⟩) 1 1) (hlen : ys.length ≤ 1073741824) (hb : base ≤ w.heap.size)
    (h : ∀ v' w', OwnG enc e size base w' v' (ys ++ [x]) → Below base w w' → KeepsX e w w' → wpList P ops Q rest (a.put o.dst v') w') :
    wpList P ops Q (o :: rest) a (w.alloc (.cells (enc x).toArray e)) :=
  wp_appG1 E x hgd s r ho hs hown (by rw [hx, hB0]) hlen hb (fun v' w' h1 h2 h3 _ => h v' w' h1 h2 h3)

theorem cSplitN (s : ByteArray) (w : World) (hs : s.size ≤ 1000000) (hV : Vars w) :
    Calls Tryz.prog 42 #[.string s, .string ⟨#[32]⟩, .int .i64 5] w fun e w' => ∃ (ys : List ByteArray) (N : Nat), e = .returned (.slice (some ⟨w.heap.size, 0, none⟩) ys.length N) ∧ ys.map (·.data.toList) = DM.spn 32 4 s.data.toList ∧ ys.length ≤ N ∧ N ≤ 5 ∧ w' = w.alloc (.cells (Lib.cellsOf ys N) 9) := by
  obtain ⟨m, hm⟩ := hV.max
  refine (Any.strings_SplitN { Tryz.lSplitN with } Tryz.lSplitN.i9 s ⟨#[32]⟩ 5 m w (by omega) hm (by decide) (by decide) (by decide)).mono ?_
  rintro e w' ⟨rfl, rfl⟩
  refine ⟨_, _, rfl, ?_, ?_, Nat.min_le_left _ _, rfl⟩
  · rw [Lib.splitB_data, Lib.size_eq]
    exact (DM.splitK_eq _ _).trans (DM.spn_five _)
  · have := Lib.splitB_length_le ⟨#[32]⟩ 0 (min 5 (s.size + 1) - 1) s
    omega

def mkB (b : ByteArray) : ByteArray := if DM.isN b.data.toList = true then ⟨#[48]⟩ else b
theorem mkB_data (b : ByteArray) : (mkB b).data.toList = DM.mk b.data.toList := by unfold mkB DM.mk; split <;> rfl
def valB (b : ByteArray) : Int := DM.val b.data.toList
def isB (b : ByteArray) : Bool := DM.isN b.data.toList
theorem cells_get {a b : List ByteArray} {x : ByteArray} {N : Nat} : (Lib.cellsOf (a ++ x :: b) N)[a.length]? = some (.string x) := by
  unfold Lib.cellsOf
  simp
theorem cells_put {a b : List ByteArray} {x y : ByteArray} {N : Nat} : (Lib.cellsOf (a ++ x :: b) N).setIfInBounds a.length (.string y) = Lib.cellsOf (a ++ y :: b) N := by
  unfold Lib.cellsOf
  apply Array.ext_getElem?
  intro i
  rw [Array.getElem?_setIfInBounds]
  by_cases h : a.length = i
  · subst h
    rw [if_pos rfl]
    simp
  · rw [if_neg h]
    simp only [List.getElem?_toArray, List.map_append, List.map_cons, List.append_assoc, List.cons_append, List.length_append, List.length_cons]
    by_cases h2 : i < a.length
    · rw [List.getElem?_append_left (by simpa using h2), List.getElem?_append_left (by simpa using h2)]
    · rw [List.getElem?_append_right (by simpa using Nat.le_of_not_lt h2), List.getElem?_append_right (by simpa using Nat.le_of_not_lt h2)]
      obtain ⟨j, hj⟩ : ∃ j, i - (a.map Value.string).length = j + 1 := ⟨i - a.length - 1, by rw [List.length_map]; omega⟩
      rw [hj]
      rfl
def wordsAt (ys : List ByteArray) (k : Nat) : List ByteArray := (ys.take k).map mkB ++ ys.drop k
def numsAt (ys : List ByteArray) (k : Nat) : List Int := ((ys.take k).filter isB).map valB
theorem words_at {ys : List ByteArray} {k : Nat} (h : k < ys.length) : wordsAt ys k = (ys.take k).map mkB ++ ys[k] :: ys.drop (k + 1) ∧ wordsAt ys (k + 1) = (ys.take k).map mkB ++ mkB ys[k] :: ys.drop (k + 1) ∧ ((ys.take k).map mkB).length = k := by
  unfold wordsAt
  refine ⟨by rw [List.drop_eq_getElem_cons h], ?_, by simp; omega⟩
  rw [List.take_succ_eq_append_getElem h, List.map_append]
  simp
theorem nums_at {ys : List ByteArray} {k : Nat} (h : k < ys.length) : numsAt ys (k + 1) = if isB ys[k] = true then numsAt ys k ++ [valB ys[k]] else numsAt ys k := by
  unfold numsAt
  rw [List.take_succ_eq_append_getElem h, List.filter_append]
  by_cases hb : isB ys[k] = true
  · rw [if_pos hb]; simp [hb]
  · rw [if_neg hb]; simp [hb]
theorem mk_len (x : List UInt8) : (DM.mk x).length ≤ x.length := by
  unfold DM.mk
  split
  · rename_i h
    cases x with
    | nil => exact absurd h (by decide)
    | cons a b => simp
  · exact Nat.le_refl _
theorem len_jn_mk (ws : List (List UInt8)) : (DM.jn 32 (ws.map DM.mk)).length ≤ (DM.jn 32 ws).length := by
  induction ws with
  | nil => exact Nat.le_refl _
  | cons x r ih =>
    have h2 := mk_len x
    cases r with
    | nil => exact h2
    | cons y r =>
      rw [List.map_cons, DM.jn_cons _ (by simp), DM.jn_cons _ (by simp), List.length_append, List.length_append, List.length_cons, List.length_cons]
      omega
theorem spn_jn (l : List UInt8) : DM.jn 32 (DM.spn 32 4 l) = l := by
  unfold DM.spn
  split
  · exact DM.jn_sp l.length l (Nat.le_refl _)
  · rename_i h
    have e : ∀ (a b : List (List UInt8)), b ≠ [] → DM.jn 32 (a ++ [DM.jn 32 b]) = DM.jn 32 (a ++ b) := by
      intro a b hb
      induction a with
      | nil => rfl
      | cons x a ih => rw [List.cons_append, List.cons_append, DM.jn_cons _ (by simp), DM.jn_cons _ (by simp [hb]), ih]
    rw [e _ _ (by intro e; have := congrArg List.length e; rw [List.length_drop] at this; simp at this; omega), List.take_append_drop]
    exact DM.jn_sp l.length l (Nat.le_refl _)
theorem cJoinS (g N : Nat) (ys : List ByteArray) (w : World) (hg : w.heap[g]? = some (.cells (Lib.cellsOf ys N) 9 (0, 0))) (hN : ys.length ≤ N) (hN5 : N ≤ 5) (hl : (DM.jn 32 (ys.map (·.data.toList))).length ≤ 1000000) :
    Calls Tryz.prog 44 #[.slice (some ⟨g, 0, none⟩) ys.length N, .string ⟨#[32]⟩] w fun e w' => e = .returned (.string ⟨(DM.jn 32 (ys.map (·.data.toList))).toArray⟩) ∧ Below w.heap.size w w' := by
  rw [← DM.lib_join] at hl ⊢
  refine Any.strings_Join Tryz.lJoin Tryz.xJoin g 0 N ys ⟨#[32]⟩ w (fun j x hj => ?_) (Array.getElem?_eq_some_iff.1 hg).1 (by omega) hN (by show (Lib.join _ [32]).length ≤ _; omega)
  have hcell : w.cell? ⟨g, 0 + j, none⟩ = (Lib.cellsOf ys N)[0 + j]? := by simp [World.cell?, hg]
  rw [hcell, Nat.zero_add]
  unfold Lib.cellsOf
  rw [List.getElem?_toArray, List.getElem?_append_left (by rw [List.length_map]; exact (List.getElem?_eq_some_iff.1 hj).1), List.getElem?_map, hj]
  rfl

def Spost (l : List UInt8) (w : World) (e : Ending) (w' : World) : Prop := ∃ S v, e = .returned (.tuple #[.string S, v]) ∧ S.data.toList = DM.shape l ∧ OwnI w.heap.size w' v (DM.nums l) ∧ Below w.heap.size w w'
set_option maxRecDepth 100000 in
set_option maxHeartbeats 4000000 in
theorem cSplit (s : ByteArray) (w : World) (hs : s.size ≤ 1000000) (hV : Vars w) :
    Calls Tryz.prog 27 #[.string s] w (Spost s.data.toList w) := by
  have HSP := Lib.hid (cSplitN s w hs hV)
  have HVR := Lib.hid hV
  have HSZ := Lib.hid hs
  obtain ⟨l, hl⟩ : ∃ l, l = s.data.toList := ⟨_, rfl⟩
  rw [← hl] at HSP ⊢
  have HLN : Hid (l.length ≤ 1000000) := Lib.hid (by rw [hl, ← Lib.size_eq]; exact hs)
  clear hs hV hl
  go_enter Tryz.func27, Tryz.ntmps27
  go_wp2_with fail
  refine HSP.out.mono ?_
  rintro e w1 ⟨ys, N, rfl, hys, hN, hN5, hw1⟩
  have hg0 : w1.heap[w.heap.size]? = some (.cells (Lib.cellsOf ys N) 9 (0, 0)) := by rw [hw1]; exact heap_alloc_new _ _
  have hb1 : Below w.heap.size w w1 := by rw [hw1]; exact below_fresh _ _
  have hg1 : w.heap.size < w1.heap.size := (Array.getElem?_eq_some_iff.1 hg0).1
  have HYS := Lib.hid hys
  have HG1 := Lib.hid hg1
  have HNN := Lib.hid (And.intro hN hN5)
  have HST : Hid (∀ j (h : j < ys.length), ys[j].size ≤ 1000000) := Lib.hid (fun j h => by
    have h1 : ys[j].data.toList ∈ DM.spn 32 4 l := by rw [← hys]; exact List.mem_map.2 ⟨_, List.getElem_mem h, rfl⟩
    have h2 : ∀ (ws : List (List UInt8)) (x : List UInt8), x ∈ ws → x.length ≤ (DM.jn 32 ws).length := by
      intro ws
      induction ws with
      | nil => intro x hx; cases hx
      | cons a r ih =>
        intro x hx
        cases r with
        | nil => rcases List.mem_cons.1 hx with rfl | hx
                 · exact Nat.le_refl _
                 · cases hx
        | cons b r =>
          rw [DM.jn_cons _ (by simp), List.length_append, List.length_cons]
          rcases List.mem_cons.1 hx with rfl | hx
          · omega
          · have := ih x hx; omega
    have h3 := h2 _ _ h1
    rw [spn_jn] at h3
    rw [Lib.size_eq]
    have := HLN.out
    omega)
  have hlen : (ys.length : Int) ≤ 5 := by omega
  have H0 : Hid (w1.heap[w.heap.size]? = some (.cells (Lib.cellsOf (wordsAt ys 0) N) 9 (0, 0))) := Lib.hid (by rw [show wordsAt ys 0 = ys by simp [wordsAt]]; exact hg0)
  have HO0 : Hid (OwnI w1.heap.size w1 (.slice none 0 0) (numsAt ys 0)) := Lib.hid (OwnG.nil hlI _ _ _)
  have HB1 := Lib.hid hb1
  clear hys hg0 hw1 hb1 hg1 hN hN5 HSP
  go_wp2
  go_loopw [4, 14] (fun nv i wr => ∃ (j : Nat) (na : Option Addr) (nl nc : Nat), j ≤ ys.length ∧ nv = .slice na nl nc ∧ i = .int .i64 j ∧ Hid (wr.heap[w.heap.size]? = some (.cells (Lib.cellsOf (wordsAt ys j) N) 9 (0, 0))) ∧ Hid (OwnI w1.heap.size wr (.slice na nl nc) (numsAt ys j)) ∧ Hid (Below w.heap.size w wr) ∧ Hid (w1.heap.size ≤ wr.heap.size)) (fun _ i _ => ys.length - (intOf i).toNat)
  case atStart => exact ⟨0, _, _, _, Nat.zero_le _, rfl, rfl, H0, HO0, HB1, Lib.hid (Nat.le_refl _)⟩
  case round =>
    obtain ⟨j, na, nl, nc, hj, rfl, rfl, hc, ho, hb, hsz⟩ := hrel
    clear H0 HO0 HB1
    by_cases hlt : j < ys.length
    · have hq : (j : Int) < (ys.length : Int) := by omega
      obtain ⟨e1, e2, e3⟩ := words_at hlt
      have e4 := nums_at hlt
      have hxs := HST.out j hlt
      generalize (ys.take j).map mkB = A at e1 e2 e3
      generalize ys[j] = x at e1 e2 e4 hxs
      generalize ys.drop (j + 1) = T at e1 e2
      rw [e1] at hc
      have hcell : wr.cell? ⟨w.heap.size, j, none⟩ = some (.string x) := by
        have := cells_get (a := A) (b := T) (x := x) (N := N)
        rw [e3] at this
        simp [World.cell?, hc.out, this]
      have HP := Lib.hid (cParseNumber x wr hxs (HVR.out.below hb.out))
      have HBX : Hid (DM.isN x.data.toList = isB x ∧ (DM.val x.data.toList : Int) = valB x) := Lib.hid ⟨rfl, rfl⟩
      rw [HBX.out.1] at HP
      have hmk : isB x = false → mkB x = x := fun h => by unfold mkB; rw [if_neg (by show ¬ isB x = true; rw [h]; simp)]
      have hmk2 : isB x = true → mkB x = ⟨#[48]⟩ := fun h => if_pos (show DM.isN x.data.toList = true from h)
      have HMK := Lib.hid (And.intro hmk hmk2)
      have E1 := Lib.hid e1
      have E2 := Lib.hid e2
      have E3 := Lib.hid e3
      have E4 := Lib.hid e4
      have HXV := Lib.hid HBX.out.2
      generalize valB x = V at HXV E4
      generalize isB x = B at HP HMK E4
      have hlb : ((numsAt ys j).length : Int) ≤ 5 := by
        unfold numsAt
        have h1 := List.length_filter_le isB (ys.take j)
        rw [List.length_take] at h1
        rw [List.length_map]
        omega
      have HLB := Lib.hid hlb
      clear e1 e2 e3 e4 hmk hmk2 HBX hlb hxs
      go_wp2_with fail
      refine HP.out.mono ?_
      rintro e w2 ⟨n, rfl, hn, hq2⟩
      have HC2 := Lib.hid (below_block hc.out hq2)
      have HO2 := Lib.hid (ho.out.below hq2)
      have HB2 := Lib.hid (bnext hb.out hq2)
      have HS2 := Lib.hid (Nat.le_trans hsz.out hq2.size)
      have HN := Lib.hid hn
      clear hcell hq2 hn HP hc ho hb hsz
      cases B
      · have HW := Lib.hid (show A ++ x :: T = wordsAt ys (j + 1) by rw [E2.out, HMK.out.1 rfl])
        have HNU := Lib.hid (show numsAt ys (j + 1) = numsAt ys j by rw [E4.out]; rfl)
        clear HMK E1 E2 E4
        go_wp2
        go_roundw
        case rel => exact ⟨j + 1, _, _, _, by omega, rfl, by go_num, Lib.hid (by rw [← HW.out]; exact HC2.out), Lib.hid (by rw [HNU.out]; exact HO2.out), HB2, HS2⟩
        case measure => simp [intOf]; omega
      · have HW := Lib.hid (show A ++ (⟨#[48]⟩ : ByteArray) :: T = wordsAt ys (j + 1) by rw [E2.out, HMK.out.2 rfl])
        have HNU := Lib.hid (show numsAt ys (j + 1) = numsAt ys j ++ [V] by rw [E4.out]; rfl)
        have hnv : n = V := by rw [HN.out rfl]; exact HXV.out
        clear HMK E1 E2 E4 HXV HN
        have hf0 : w2.frozen? ⟨w.heap.size, j, none⟩ = false := by simp [World.frozen?, HC2.out]
        have hcell : w2.cell? ⟨w.heap.size, j, none⟩ = some (.string x) := by
          have := cells_get (a := A) (b := T) (x := x) (N := N)
          rw [E3.out] at this
          simp [World.cell?, HC2.out, this]
        have hput : (w2.setCell ⟨w.heap.size, j, none⟩ (.string ⟨#[48]⟩)).heap[w.heap.size]? = some (.cells (Lib.cellsOf (wordsAt ys (j + 1)) N) 9 (0, 0)) := by
          rw [← HW.out, ← cells_put (x := x), E3.out]
          exact heap_setCell_same _ _ _ _ _ _ HC2.out
        have hon : Only w.heap.size w2 (w2.setCell ⟨w.heap.size, j, none⟩ (.string ⟨#[48]⟩)) := Only.set j _
        have hsz3 : (w2.setCell ⟨w.heap.size, j, none⟩ (.string ⟨#[48]⟩)).heap.size = w2.heap.size := by simp
        have HO3 := Lib.hid (ownG_only HO2.out HC2.out (by decide) hon)
        have HB3 := Lib.hid (HB2.out.trans (hon.below (Nat.le_refl _) (Nat.le_of_lt (Nat.lt_of_lt_of_le HG1.out HS2.out))))
        have HS3 := Lib.hid (show w1.heap.size ≤ (w2.setCell ⟨w.heap.size, j, none⟩ (.string ⟨#[48]⟩)).heap.size by rw [hsz3]; exact HS2.out)
        have HP3 := Lib.hid hput
        have HZ3 := Lib.hid hsz3
        clear hput hon hsz3 HO2 HB2 HS2 HC2
        go_wp2_with (at_builtin; refine wp_appG1n intE V w2.heap.size HZ3.out rfl _ _ rfl rfl HO3.out rfl (by have := HLB.out; omega) HS3.out ?_)
        intro v' w4 ho4 hb4 hk4
        obtain ⟨a', c', hv', _⟩ := ho4.rd.shape
        have HO4 := Lib.hid (show OwnI w1.heap.size w4 v' (numsAt ys (j + 1)) by rw [HNU.out]; exact ho4)
        subst hv'
        have HC4 := Lib.hid (hk4.at HP3.out (by decide))
        have HB4 := Lib.hid (HB3.out.trans (hb4.mono (Nat.le_of_lt HG1.out)))
        have HS4 := Lib.hid (Nat.le_trans HS3.out hb4.size)
        clear ho4 hb4 hk4 hcell hf0
        go_wp2
        go_roundw
        case rel => exact ⟨j + 1, _, _, _, by omega, rfl, by go_num, HC4, HO4, HB4, HS4⟩
        case measure => simp [intOf]; omega
    · have hq : ¬ ((j : Int) < (ys.length : Int)) := by omega
      obtain rfl : j = ys.length := by omega
      obtain ⟨zs, hzs⟩ : ∃ zs, zs = wordsAt ys ys.length := ⟨_, rfl⟩
      have hzl : zs.length = ys.length := by rw [hzs]; simp [wordsAt]
      have hzd : zs.map (·.data.toList) = (DM.spn 32 4 l).map DM.mk := by
        rw [hzs, ← HYS.out]
        simp only [wordsAt, List.take_length, List.drop_length, List.append_nil, List.map_map]
        exact List.map_congr_left (fun x _ => mkB_data x)
      have hnn : numsAt ys ys.length = DM.nums l := by
        unfold numsAt DM.nums
        rw [← HYS.out, List.take_length, List.filter_map, List.map_map]
        rfl
      have hsh : DM.jn 32 (zs.map (·.data.toList)) = DM.shape l := by rw [hzd]; rfl
      rw [← hzs] at hc
      have HJ := Lib.hid (cJoinS w.heap.size N zs wr hc.out (by rw [hzl]; exact HNN.out.1) HNN.out.2 (by rw [hzd]; have := len_jn_mk (DM.spn 32 4 l); rw [spn_jn] at this; have := HLN.out; omega))
      rw [hsh, hzl] at HJ
      have HO := Lib.hid (show OwnI w1.heap.size wr (.slice na nl nc) (DM.nums l) by rw [← hnn]; exact ho.out)
      obtain ⟨S, hS⟩ : ∃ S : ByteArray, S = ⟨(DM.shape l).toArray⟩ := ⟨_, rfl⟩
      rw [← hS] at HJ
      have HSD := Lib.hid (show S.data.toList = DM.shape l by rw [hS])
      clear hS hsh hnn hzd hzl hzs hc ho HYS
      go_wp2_with fail
      refine HJ.out.mono ?_
      rintro e w2 ⟨rfl, hq2⟩
      have HE := Lib.hid (show Spost l w (.returned (.tuple #[.string S, .slice na nl nc])) w2 from ⟨S, _, rfl, HSD.out, (HO.out.below hq2).mono (Nat.le_of_lt HG1.out), bnext hb.out hq2⟩)
      clear hq2 HJ
      go_wp2
      go_ret2
      exact HE.out

end Go.Proofs.YthgnhaimdkcmeaaGreatDoor
