/-
  The law CommandProposal: true. Conditions: the library's variables hold what they are laid with; the lists read.
-/
import Derived.Test.YthgnhaimdkcmeaaGreatDoorDPropM
import Derived.Test.YthgnhaimdkcmeaaGreatDoorDComp
import Derived.Test.YthgnhaimdkcmeaaGreatDoorGR
import Derived.Test.YthgnhaimdkcmeaaGreatDoorKI
namespace Go.Proofs.YthgnhaimdkcmeaaGreatDoor
open Go.RowKit Go.Joins Go.Shelf
open JM (Chg)
open MM (Mem Ent Sm Tri)

def encF (b : ByteArray) : List Value := [.string b]
theorem frmE : IsElem Tryz.prog 25 9 1 16 encF where
  ht := Tryz.underlying25
  info := by
    obtain ⟨i0, hi, hz0, hz1, hz2⟩ := info_parts (show (Tryz.prog.info? 9).map (fun i => (i.zero, i.size, i.bytes)) = some (some (.string ⟨#[]⟩), 1, 16) by kernel_rfl)
    exact ⟨i0, _, hi, hz0, hz1, hz2, rfl⟩
  len := fun _ => rfl
  one := by intro x u hu; simp [encF] at hu; subst hu; rfl
  pos := by decide
  fits := by decide
def forms : List ByteArray := [⟨#[106, 111, 105, 110, 32, 57]⟩, ⟨#[106, 111, 105, 110, 32, 49, 48, 32, 119, 101, 105, 103, 104, 116, 32, 51]⟩, ⟨#[114, 101, 109, 111, 118, 101, 32, 49]⟩, ⟨#[114, 101, 109, 111, 118, 101, 32, 50]⟩, ⟨#[119, 101, 105, 103, 104, 116, 32, 49, 32, 52]⟩, ⟨#[119, 101, 105, 103, 104, 116, 32, 50, 32, 50]⟩, ⟨#[114, 117, 108, 101, 32, 119, 101, 105, 103, 104, 116, 101, 100]⟩, ⟨#[114, 117, 108, 101, 32, 103, 114, 105, 100, 32, 50]⟩, ⟨#[114, 117, 108, 101, 32, 109, 97, 115, 107, 105, 110, 103, 32, 49]⟩, ⟨#[]⟩, ⟨#[35, 32, 110, 111, 116, 101]⟩, ⟨#[106, 111, 105, 110, 32, 52]⟩]
theorem forms_small : ∀ (k : Nat) (x : ByteArray), forms[k]? = some x → x.size ≤ 16 := by
  intro k x h
  have hm := List.mem_of_getElem? h
  simp only [forms, List.mem_cons, List.mem_nil_iff, or_false] at hm
  rcases hm with rfl | rfl | rfl | rfl | rfl | rfl | rfl | rfl | rfl | rfl | rfl | rfl <;> decide
theorem forms_at {w : World} {a : Option Addr} {n c : Nat} (h : RdG encF 1 w (.slice a n c) forms) (k : Nat) (hk : k < 12) :
    ∃ b o x, (∀ w0, (Instr.indexAt 25 (.slice a n c) (.int .i64 (k : Int))).run Tryz.prog w0 = .ok (.pointer (some ⟨b, o, none⟩)) w0) ∧ b < w.heap.size ∧ w.cell? ⟨b, o, none⟩ = some (.string x) ∧ x.size ≤ 16 := by
  have hx := List.getElem?_eq_getElem (show k < forms.length from hk)
  obtain ⟨b, o, h1, h2, h3⟩ := h.at_ frmE k _ hx
  exact ⟨b, o, _, h1, h2, h3 0 _ rfl, forms_small k _ hx⟩
theorem srt_len5 {α : Type} {key : α → Int} {l : List α} : ∀ {a : Int}, MM.Srt key l → (∀ x ∈ l, a ≤ key x ∧ key x ≤ 12) → a ≤ 13 → (l.length : Int) ≤ 13 - a := by
  induction l with
  | nil => intro a _ _ h; simpa using (by omega : (0 : Int) ≤ 13 - a)
  | cons x l ih =>
    intro a h hx ha
    have h1 := hx x (by simp)
    have h2 := ih (a := key x + 1) (h.tl key) (fun y hy => ⟨h.hd key y hy, (hx y (by simp [hy])).2⟩) (by omega)
    rw [List.length_cons]
    omega

theorem rdS_w {w : World} {x y z : Value} {s : Sm} {k c f v a n : Int} (h : RdS w (Go.Proofs.YthgnhaimdkcmeaaGreatDoor.sv x y z k c f v a n) s) : RdW w z s.W := by
  obtain ⟨x', y', z', he, _, _, h3⟩ := h
  simp [Go.Proofs.YthgnhaimdkcmeaaGreatDoor.sv] at he
  obtain ⟨_, _, rfl, _⟩ := he
  exact h3
theorem DM.gen_len {ms : List Mem} {k c f : Int} (hg : MM.errG k c f ms = 0) : ms.length ≤ 12 := by
  obtain ⟨g1, g2, _⟩ := MM.errG_zero hg
  have ok := MM.okS_ini (c := c) (f := f) g1 g2
  have h := srt_len5 (a := 1) ok.j (fun x hx => ok.js x hx) (by decide)
  have e : (MM.ini ms k c f).J = ms.map (·.1) := rfl
  rw [e, List.length_map] at h
  omega

set_option maxRecDepth 100000 in
set_option maxHeartbeats 4000000 in
theorem lProposal0 (n : Int) (lv : Value) (l : List Int) (bv : Value) (bs : List Int) (w : World) (hV : Vars w) (h : RdI w lv l) (hl : l.length ≤ 4611686018427387904) (hb : Rd w bv bs)
    (hA : ∀ w', Below w.heap.size w w' → Calls Tryz.prog 4 #[] w' fun e w'' => e = .returned (.bool true) ∧ Below w'.heap.size w' w'') :
    Calls Tryz.prog 3 #[.int .i64 n, lv, bv] w fun e w' => e = .returned (.bool true) ∧ Below w.heap.size w w' := by
  have HA := Lib.hid hA
  have HP := Lib.hid (fun w' (hb : Below w.heap.size w w') => kPool lv l w' (h.below hb) hl)
  have HGN := Lib.hid (fun w' => kGenesis n w')
  obtain ⟨la, lc, rfl, _, _⟩ := h.shape
  have HR := Lib.hid hb
  have HBY := Lib.hid hb.bytes
  obtain ⟨ba, bn, bc, rfl, hbn, hbc, _, hnone, hcell, _⟩ := hb
  have HNO := Lib.hid hnone
  have HCE := Lib.hid hcell
  have HVR := Lib.hid hV
  subst hbn
  generalize l.length = ll at *
  clear hA h hl hnone hcell hV
  by_cases h12 : bs.length ≤ 12
  case neg =>
    have hq : (12 : Int) < (bs.length : Int) := by omega
    go_enter Tryz.func3, Tryz.ntmps3
    go_wp2_with fail
    refine (HA.out w (Below.refl _ _)).mono ?_
    rintro e w' ⟨rfl, hb⟩
    go_wp2
    go_ret
    exact ⟨rfl, hb⟩
  have hq : ¬ (12 : Int) < (bs.length : Int) := by omega
  obtain ⟨w1, hw1, hB1, hF1⟩ : ∃ w1, w.alloc (.cells #[.string ⟨#[106, 111, 105, 110, 32, 57]⟩, .string ⟨#[106, 111, 105, 110, 32, 49, 48, 32, 119, 101, 105, 103, 104, 116, 32, 51]⟩, .string ⟨#[114, 101, 109, 111, 118, 101, 32, 49]⟩, .string ⟨#[114, 101, 109, 111, 118, 101, 32, 50]⟩, .string ⟨#[119, 101, 105, 103, 104, 116, 32, 49, 32, 52]⟩, .string ⟨#[119, 101, 105, 103, 104, 116, 32, 50, 32, 50]⟩, .string ⟨#[114, 117, 108, 101, 32, 119, 101, 105, 103, 104, 116, 101, 100]⟩, .string ⟨#[114, 117, 108, 101, 32, 103, 114, 105, 100, 32, 50]⟩, .string ⟨#[114, 117, 108, 101, 32, 109, 97, 115, 107, 105, 110, 103, 32, 49]⟩, .string ⟨#[]⟩, .string ⟨#[35, 32, 110, 111, 116, 101]⟩, .string ⟨#[106, 111, 105, 110, 32, 52]⟩] 9) = w1 ∧ Below w.heap.size w w1 ∧ RdG encF 1 w1 (.slice (some ⟨w.heap.size, 0, none⟩) 12 12) forms :=
    ⟨_, rfl, below_fresh _ _, (ownG_fresh frmE.hl 9 w forms (by simp [maxLen, forms])).rd⟩
  have HW1 := Lib.hid hw1
  have HB1 := Lib.hid hB1
  have HF1 := Lib.hid hF1
  clear hw1 hB1 hF1
  go_enter Tryz.func3, Tryz.ntmps3
  go_upto_region 4 with fail
  rw [HW1.out]
  obtain ⟨fa, hfa⟩ : ∃ fa, fa = some (Addr.mk w.heap.size 0 none) := ⟨_, rfl⟩
  rw [← hfa] at HF1 ⊢
  clear hfa HW1 hq
  go_wp2
  go_loopw [8, 9] (fun tv ix wr => ∃ (i : Nat) (T : ByteArray), i ≤ bs.length ∧ ix = .int .i64 i ∧ tv = .string T ∧ T.size ≤ 20 * i ∧ wr = w1) (fun _ ix _ => bs.length - (intOf ix).toNat)
  case atStart => exact ⟨0, _, Nat.zero_le _, rfl, rfl, by decide, rfl⟩
  case round =>
    obtain ⟨i, T, hii, rfl, rfl, hT, rfl⟩ := hrel
    by_cases hlt : i < bs.length
    · have hq2 : (i : Int) < (bs.length : Int) := by omega
      obtain ⟨p, hip, hpc⟩ := index_of (t := 23) (e := 5) (n := bs.length) (c := bc) (f := fun i => .int .u8 (bs.getD i 0)) Tryz.underlying23 (fun w => run_sizeU8 w) (fun e => (HNO.out e).1) HCE.out i hlt
      obtain ⟨y, hy, hy2⟩ : ∃ y : Nat, bs.getD i 0 = (y : Int) ∧ y < 256 := by
        have := HBY.out (bs.getD i 0) (by rw [List.getD_eq_getElem?_getD, List.getElem?_eq_getElem hlt]; exact List.getElem_mem hlt)
        obtain ⟨h1, h2⟩ := this
        exact ⟨(bs.getD i 0).toNat, by omega, by omega⟩
      have hpc : w.cell? p = some (.int .u8 (y : Int)) := by rw [← hy]; exact hpc
      have hpc : wr.cell? p = some (.int .u8 (y : Int)) := (HB1.out.cell (World.block_lt_of_cell? w _ hpc)).trans hpc
      obtain ⟨fb, fo, x, hif, hfb, hfc, hxs⟩ := forms_at HF1.out (y % 12) (by omega)
      have hmod : (y : Int) % 12 = ((y % 12 : Nat) : Int) := by omega
      have z1 : ¬ (9223372036854775807 < T.size + x.size) := by omega
      have z2 : ¬ (9223372036854775807 < T.size + x.size + 1) := by omega
      have hnx : ((T ++ x) ++ (⟨#[10]⟩ : ByteArray)).size ≤ 20 * (i + 1) := by
        rw [ByteArray.size_append, ByteArray.size_append]
        have : (⟨#[10]⟩ : ByteArray).size = 1 := rfl
        omega
      have HNX := Lib.hid hnx
      rw [← hmod] at hif
      clear hy hnx hmod
      go_wp2
      go_roundw
      case rel => exact ⟨i + 1, _, by omega, by go_num, rfl, HNX.out, trivial⟩
      case measure => simp [intOf]; omega
    have hq2 : ¬ ((i : Int) < (bs.length : Int)) := by omega
    have ht : T.size ≤ 1000000 := by omega
    have HT := Lib.hid ht
    clear hT hii hlt ht HF1 HNO HCE HBY HR h12
    generalize bs.length = bl at *
    go_wp2_with fail
    refine (HGN.out wr).mono ?_
    rintro e w2 ⟨ug, gk, gc, gf, ms, rfl, hm2, hg2, hb2⟩
    obtain ⟨ma, mc, hum, _, _⟩ := hm2.shape
    have HM2 := Lib.hid hm2
    have HGZ := Lib.hid hg2
    have HB2 := Lib.hid (bnext HB1.out hb2)
    subst hum
    obtain ⟨mn, hmn⟩ : ∃ mn, mn = ms.length := ⟨_, rfl⟩
    rw [← hmn] at HM2 ⊢
    have hml := DM.gen_len hg2
    clear hm2 hg2 hb2 hmn HGN HB1
    go_wp2_with fail
    refine (HP.out w2 HB2.out).mono ?_
    rintro e w3 ⟨u, p, rfl, hr3, hok, hb3⟩
    obtain ⟨ua, uc, hu, _, _⟩ := hr3.shape
    subst hu
    obtain ⟨w4, hw4, hB4, hG4⟩ : ∃ w4, w3.alloc (.cells #[.slice ma mn mc, .int .i64 gk, .int .i64 gc, .int .i64 gf] 30) = w4 ∧ Below w3.heap.size w3 w4 ∧ w4.heap[w3.heap.size]? = some (.cells #[.slice ma mn mc, .int .i64 gk, .int .i64 gc, .int .i64 gf] 30 (0, 0)) :=
      ⟨_, rfl, below_fresh _ _, heap_alloc_new _ _⟩
    have HW4 := Lib.hid hw4
    have hm4 := HM2.out.below (bnext hb3 hB4)
    have HB4 := Lib.hid (bnext HB2.out (bnext hb3 hB4))
    obtain ⟨g1, g2, _⟩ := MM.errG_zero HGZ.out
    have HSU := Lib.hid (rSummarize _ _ gk gc gf ms p w4 hm4 (hr3.below hB4) HGZ.out (by omega) hok.all (by have := hok.nine; omega))
    have HOS := Lib.hid ((MM.sp_summR (c := gc) (f := gf) g1 g2 hok.all).ok)
    obtain ⟨⟨q0, q1, q2, q3⟩, _⟩ := row4_at hG4
    generalize p.length = pl at *
    generalize MM.summR ms gk gc gf p = S at *
    clear hw4 hB4 hG4 hm4 hr3 hok hb3 HM2 HGZ HB2 HP g1 g2 hml
    go_upto_region 10 with fail
    rw [HW4.out]
    generalize w3.heap.size = G at *
    clear HW4
    go_wp2_with fail
    refine HSU.out.mono ?_
    rintro e w5 ⟨sv5, rfl, hs5, hb5⟩
    obtain ⟨x, y, z, rfl, hj, hr, hw⟩ := hs5
    obtain ⟨xa, xc, rfl, _, _⟩ := hj.shape
    obtain ⟨ya, yc, rfl, _, _⟩ := hr.shape
    obtain ⟨za, zc, rfl, _, _⟩ := hw.shape
    obtain ⟨lJ, hlJ⟩ : ∃ n, n = S.J.length := ⟨_, rfl⟩
    obtain ⟨lR, hlR⟩ : ∃ n, n = S.R.length := ⟨_, rfl⟩
    obtain ⟨lW, hlW⟩ : ∃ n, n = S.W.length := ⟨_, rfl⟩
    rw [← hlJ] at hj ⊢
    rw [← hlR] at hr ⊢
    rw [← hlW] at hw ⊢
    have hwl : S.W.length ≤ 1000000 := by
      have h3 := srt_len5 (a := 1) HOS.out.w (fun x hx => (HOS.out.ws x hx).1) (by decide)
      omega
    obtain ⟨w6, hw6, hB6, hX6⟩ : ∃ w6, w5.alloc (.cells (s9 (.slice xa lJ xc) (.slice ya lR yc) (.slice za lW zc) S.k S.c S.f S.v S.a S.n) 37) = w6 ∧ Below w5.heap.size w5 w6 ∧ w6.heap[w5.heap.size]? = some (.cells (s9 (.slice xa lJ xc) (.slice ya lR yc) (.slice za lW zc) S.k S.c S.f S.v S.a S.n) 37 (0, 0)) :=
      ⟨_, rfl, below_fresh _ _, heap_alloc_new _ _⟩
    have HB6 := Lib.hid (bnext HB4.out (bnext hb5 hB6))
    have hCC := cCompile T _ _ _ S w6 HT.out (HVR.out.below HB6.out) (hj.below hB6) (hr.below hB6) (hw.below hB6) HOS.out.t.1 (DM.wv_pos HOS.out) hwl
    have HS6 := Lib.hid (show RdS w6 (Go.Proofs.YthgnhaimdkcmeaaGreatDoor.sv (.slice xa lJ xc) (.slice ya lR yc) (.slice za lW zc) S.k S.c S.f S.v S.a S.n) S from ⟨_, _, _, rfl, hj.below hB6, hr.below hB6, hw.below hB6⟩)
    obtain ⟨C, hC⟩ : ∃ C, C = DM.cmpl T.data.toList S := ⟨_, rfl⟩
    have hCp : Cpost T S w6 = fun e w'' => ∃ v, e = .returned (.tuple #[v, .int .i64 C.2.1, .int .i64 C.2.2]) ∧ RdC w'' v C.1 ∧ Below w6.heap.size w6 w'' := by rw [hC]; rfl
    rw [hCp] at hCC
    have HCG := Lib.hid (show (C.2.2 = 0 → DM.Good S C.1 ∧ C.1 ≠ []) ∧ (C.2.2 ≠ 0 → C.1 = []) by rw [hC]; exact DM.comp_good HOS.out _ [] 0 ⟨Nat.zero_le _, (fun _ h => by cases h), List.Pairwise.nil⟩)
    have HCC := Lib.hid hCC
    have HX6 := Lib.hid hX6
    have HW6 := Lib.hid hw6
    obtain ⟨⟨s0, s1, s2, s3, s4, s5, s6, s7, s8⟩, _⟩ := row9_at hX6
    clear hC hCp hCC hX6 hw6 hB6 hb5 hj hr hw hwl hlJ hlR hlW HSU HB4 HVR q0 q1 q2 q3 HT
    obtain ⟨L, nl, er⟩ := C
    go_upto_region 11 with fail
    rw [HW6.out]
    generalize w5.heap.size = GS at *
    clear HW6
    go_wp2_with fail
    refine HCC.out.mono ?_
    rintro e w7 ⟨v7, rfl, hr7, hb7⟩
    obtain ⟨a7, c7, hv7, _, _⟩ := hr7.shape
    subst hv7
    have HB7 := Lib.hid (bnext HB6.out hb7)
    have HX7 := Lib.hid (below_block HX6.out hb7)
    have HS7 := Lib.hid (HS6.out.below hb7)
    have HR7 := Lib.hid hr7
    clear hr7 hb7 s0 s1 s2 s3 s4 s5 s6 s7 s8 HCC HX6 HS6 HB6
    by_cases he : er = 0
    case neg =>
      have h1 : (er != 0) = true := by simpa using he
      obtain rfl : L = [] := HCG.out.2 he
      clear he HCG HR7 HS7 HX7
      go_wp2_with fail
      refine (HA.out w7 HB7.out).mono ?_
      rintro e w' ⟨rfl, hb⟩
      have HE := Lib.hid (bnext HB7.out hb)
      go_wp2
      go_ret
      exact ⟨rfl, HE.out⟩
    subst he
    obtain ⟨hgood, hne⟩ := HCG.out.1 rfl
    have HGD := Lib.hid (show DM.Good S L from hgood)
    have hval := DM.good_valid hgood hne
    have HVL := Lib.hid (show JM.errP 201 1 L = 0 from hval)
    have HNE := Lib.hid (show L ≠ [] from hne)
    clear hgood hne hval HCG
    obtain ⟨w8, hw8, hB8, hP8⟩ : ∃ w8, w7.alloc (.cells #[.int .i64 201, .int .i64 1, .slice a7 L.length c7] 44) = w8 ∧ Below w7.heap.size w7 w8 ∧ w8.heap[w7.heap.size]? = some (.cells #[.int .i64 201, .int .i64 1, .slice a7 L.length c7] 44 (0, 0)) :=
      ⟨_, rfl, below_fresh _ _, heap_alloc_new _ _⟩
    have HW8 := Lib.hid hw8
    have HP8 := Lib.hid hP8
    have HB8 := Lib.hid (bnext HB7.out hB8)
    have HX8 := Lib.hid (below_block HX7.out hB8)
    have HS8 := Lib.hid (HS7.out.below hB8)
    have HR8 := Lib.hid (show RdC w8 (.slice a7 L.length c7) L from HR7.out.below hB8)
    have hva := rValidate 201 1 _ L w8 HR8.out
    rw [HVL.out] at hva
    have HVA := Lib.hid hva
    obtain ⟨⟨p0, p1, p2⟩, _⟩ := row3_at hP8
    clear hw8 hB8 hP8 hva HX7 HS7 HR7 HB7
    go_upto_region 15 with fail
    rw [HW8.out]
    generalize w7.heap.size = GP at *
    clear HW8
    go_wp2_with fail
    refine HVA.out.mono ?_
    rintro e w9 ⟨rfl, hb9⟩
    have HP9 := Lib.hid (below_block HP8.out hb9)
    have HB9 := Lib.hid (bnext HB8.out hb9)
    have HX9 := Lib.hid (below_block HX8.out hb9)
    have hs9 := HS8.out.below hb9
    have hr9 := HR8.out.below hb9
    have HR9 := Lib.hid hr9
    have HOF := Lib.hid (fun w' (hb : Below w9.heap.size w9 w') => rOf 201 1 _ L w' (hr9.below hb) HVL.out)
    have hokP := MM.okS_ofP HVL.out
    have HJN := Lib.hid (fun v2 w' (hb : Below w9.heap.size w9 w') (h2 : RdS w' v2 (MM.ofP 201 1 L)) => rJoin _ v2 S _ w' (hs9.below hb) h2 HOS.out hokP)
    have HS9 := Lib.hid hs9
    have HRW := Lib.hid (fun x hx hk => DM.rule_wins (s := S) HGD.out (x := x) hx hk)
    have HWW := Lib.hid (fun x hx hk e he hse => DM.weight_wins HOS.out HGD.out HNE.out (x := x) hx hk (e := e) he hse)
    have HLL := Lib.hid HGD.out.1
    have hjl := MM.okS_join HOS.out hokP
    have hjw : (MM.join S (MM.ofP 201 1 L)).W.length ≤ 1000000 := by
      have h3 := srt_len5 (a := 1) hjl.w (fun x hx => (hjl.ws x hx).1) (by decide)
      omega
    clear hb9 hs9 hr9 hokP hjl HVA HP8 HX8 HS8 HR8 HB8 HGD HVL HNE HOS p0 p1 p2
    generalize MM.ofP 201 1 L = O at *
    generalize MM.join S O = J at *
    go_wp2
    refine wp_region_held_drew (S := fun w' => Below w9.heap.size w9 w') (by kernel_rfl) ((Below.refl _ _).drew) (fun ha => ?_)
    replace ha : Below w9.heap.size w9 w9.drew := (Below.refl _ _).drew
    generalize w9.drew = wa at ha ⊢
    refine takeH (i := 0) (v := ?_) rfl (by kernel_rfl) (by kernel_rfl) (by kernel_rfl) (fun _ _ _ h => h) (Or.inl ⟨by rfl, ?_⟩) (by assumption) ?_
    rotate_left
    · (intro w hSw; (try dsimp only at hSw); obtain ⟨⟨s0, s1, s2, s3, s4, s5, s6, s7, s8⟩, _⟩ := row9_at (below_block HX9.out hSw); go_simp; first | done | with_reducible rfl)
    (try simp only [Act.put, List.setIfInBounds_toArray, List.set_cons_zero, List.set_cons_succ])
    refine takeH (i := 1) (v := ?_) rfl (by kernel_rfl) (by kernel_rfl) (by kernel_rfl) (fun _ _ _ h => h) (Or.inl ⟨by rfl, ?_⟩) (by assumption) ?_
    rotate_left
    · (intro w hSw; (try dsimp only at hSw); obtain ⟨⟨p0, p1, p2⟩, _⟩ := row3_at (below_block HP9.out hSw); go_simp; first | done | with_reducible rfl)
    (try simp only [Act.put, List.setIfInBounds_toArray, List.set_cons_zero, List.set_cons_succ])
    refine wpAnyH_ready (rs := [2, 4]) (by kernel_rfl) (by simp) ?_
    refine stepH rfl (fun K hK => ?_) (stepH rfl (fun K hK => ?_) AllReadyH.nil)
    focus
      go_simp
      refine (HOF.out wa ha).mono ?_
      rintro e wb ⟨v2, rfl, hf2, hq⟩
      have hb := bnext ha hq
      go_wp2_with fail
      refine hK.out _ _ (hb) (fun _ => ?_)
      clear hK K
      (try simp only [Act.put, List.setIfInBounds_toArray, List.set_cons_zero, List.set_cons_succ])
      refine wpAnyH_ready (rs := [3, 4]) (by kernel_rfl) (by simp) ?_
      refine stepH rfl (fun K hK => ?_) (stepH rfl (fun K hK => ?_) AllReadyH.nil)
      focus
        go_simp
        refine (HJN.out v2 wb hb hf2.rd).mono ?_
        rintro e wc ⟨v3, rfl, hJ, hq⟩
        have hX := bnext hb hq
        have hrd3 := hJ wc (Fr.refl _ _) (HS9.out.below hX)
        obtain ⟨x', y', z', rfl, hj3, hr3, hw3⟩ := hrd3
        obtain ⟨xa', xc', rfl, _, _⟩ := hj3.shape
        obtain ⟨ya', yc', rfl, _, _⟩ := hr3.shape
        obtain ⟨za', zc', rfl, _, _⟩ := hw3.shape
        clear hj3 hr3 hw3
        have hc := bnext hb hq
        go_wp2_with fail
        refine hK.out _ _ (hc) (fun _ => ?_)
        clear hK K
        (try simp only [Act.put, List.setIfInBounds_toArray, List.set_cons_zero, List.set_cons_succ])
        refine wpAnyH_ready (rs := [4]) (by kernel_rfl) (by simp) ?_
        refine stepH rfl (fun K hK => ?_) AllReadyH.nil
        go_simp
        have hd := bnext hc (below_fresh _ (.cells (s9 (.slice none 0 0) (.slice none 0 0) (.slice none 0 0) 0 0 0 0 0 0) 37))
        have hz := heap_alloc_new wc (.cells (s9 (.slice none 0 0) (.slice none 0 0) (.slice none 0 0) 0 0 0 0 0 0) 37)
        have hfz := below_fresh wc (.cells (s9 (.slice none 0 0) (.slice none 0 0) (.slice none 0 0) 0 0 0 0 0 0) 37)
        have hgs := World.size_alloc wc (.cells (s9 (.slice none 0 0) (.slice none 0 0) (.slice none 0 0) 0 0 0 0 0 0) 37)
        refine hK.out _ _ (hd) (fun _ => ?_)
        clear hK K
        (try simp only [Act.put, List.setIfInBounds_toArray, List.set_cons_zero, List.set_cons_succ])
        obtain ⟨wd , hwd ⟩ : ∃ wd , (wc).alloc (.cells (s9 (.slice none 0 0) (.slice none 0 0) (.slice none 0 0) 0 0 0 0 0 0) 37) = wd  := ⟨_, rfl⟩
        rw [hwd ] at hd hz hfz hgs ⊢
        clear hwd 
        have hgl := hc.size
        have HFIN := Lib.hid (fun (we : World) (ho : Only wc.heap.size wd we) => hJ we ⟨by have := ho.size; have := hfz.size; omega, fun i h1 h2 => (ho.block i (by omega) (by omega)).trans (hfz.block i h2)⟩ (HS9.out.below (hd.trans (ho.below hgl hd.size))))
        generalize wc.heap.size = g at hz hgl HFIN ⊢
        clear hq hb hc hX hJ hf2 hfz hgs
      rotate_left
      focus
        go_simp
        have hc := bnext hb (below_fresh _ (.cells (s9 (.slice none 0 0) (.slice none 0 0) (.slice none 0 0) 0 0 0 0 0 0) 37))
        have hz := heap_alloc_new wb (.cells (s9 (.slice none 0 0) (.slice none 0 0) (.slice none 0 0) 0 0 0 0 0 0) 37)
        have hf2b := hf2.fr (Fr.of (below_fresh wb (.cells (s9 (.slice none 0 0) (.slice none 0 0) (.slice none 0 0) 0 0 0 0 0 0) 37)))
        have hgs := World.size_alloc wb (.cells (s9 (.slice none 0 0) (.slice none 0 0) (.slice none 0 0) 0 0 0 0 0 0) 37)
        refine hK.out _ _ (hc) (fun _ => ?_)
        clear hK K
        (try simp only [Act.put, List.setIfInBounds_toArray, List.set_cons_zero, List.set_cons_succ])
        obtain ⟨wc , hwc ⟩ : ∃ wc , (wb).alloc (.cells (s9 (.slice none 0 0) (.slice none 0 0) (.slice none 0 0) 0 0 0 0 0 0) 37) = wc  := ⟨_, rfl⟩
        rw [hwc ] at hc hz hf2b hgs ⊢
        clear hwc 
        have hgl := hb.size
        obtain ⟨w', hw'⟩ : ∃ w', w' = wc := ⟨_, rfl⟩
        rw [← hw'] at hz hf2b hgs hc ⊢
        clear hw'
        refine wpAnyH_ready (rs := [3]) (by kernel_rfl) (by simp) ?_
        refine stepH rfl (fun K hK => ?_) AllReadyH.nil
        go_simp
        refine (HJN.out v2 w' hc hf2b.rd).mono ?_
        rintro e wc ⟨v3, rfl, hJ, hq⟩
        have hX := bnext hc hq
        have hrd3 := hJ wc (Fr.refl _ _) (HS9.out.below hX)
        obtain ⟨x', y', z', rfl, hj3, hr3, hw3⟩ := hrd3
        obtain ⟨xa', xc', rfl, _, _⟩ := hj3.shape
        obtain ⟨ya', yc', rfl, _, _⟩ := hr3.shape
        obtain ⟨za', zc', rfl, _, _⟩ := hw3.shape
        clear hj3 hr3 hw3
        have hd := bnext hc hq
        go_wp2_with fail
        refine hK.out _ _ (hd) (fun _ => ?_)
        clear hK K
        (try simp only [Act.put, List.setIfInBounds_toArray, List.set_cons_zero, List.set_cons_succ])
        obtain ⟨wd, hwd⟩ : ∃ wd, wd = wc := ⟨_, rfl⟩
        rw [← hwd] at hq hX hJ hd ⊢
        clear hwd
        replace hz := below_block hz hq
        have HFIN := Lib.hid (fun (we : World) (ho : Only wb.heap.size wd we) => hJ we (Fr.only ho (by omega)) (HS9.out.below (hd.trans (ho.below hgl hd.size))))
        generalize wb.heap.size = g at hz hgl HFIN ⊢
        clear hq hb hc hX hJ hf2 hf2b hgs
    rotate_left 2
    focus
      go_simp
      have hb := bnext ha (below_fresh _ (.cells (s9 (.slice none 0 0) (.slice none 0 0) (.slice none 0 0) 0 0 0 0 0 0) 37))
      have hz := heap_alloc_new wa (.cells (s9 (.slice none 0 0) (.slice none 0 0) (.slice none 0 0) 0 0 0 0 0 0) 37)
      have hgs := World.size_alloc wa (.cells (s9 (.slice none 0 0) (.slice none 0 0) (.slice none 0 0) 0 0 0 0 0 0) 37)
      refine hK.out _ _ (hb) (fun _ => ?_)
      clear hK K
      (try simp only [Act.put, List.setIfInBounds_toArray, List.set_cons_zero, List.set_cons_succ])
      obtain ⟨wb , hwb ⟩ : ∃ wb , (wa).alloc (.cells (s9 (.slice none 0 0) (.slice none 0 0) (.slice none 0 0) 0 0 0 0 0 0) 37) = wb  := ⟨_, rfl⟩
      rw [hwb ] at hb hz hgs ⊢
      clear hwb 
      have hgl := ha.size
      refine wpAnyH_ready (rs := [2]) (by kernel_rfl) (by simp) ?_
      refine stepH rfl (fun K hK => ?_) AllReadyH.nil
      go_simp
      refine (HOF.out wb hb).mono ?_
      rintro e wc ⟨v2, rfl, hf2, hq⟩
      have hc := bnext hb hq
      go_wp2_with fail
      refine hK.out _ _ (hc) (fun _ => ?_)
      clear hK K
      (try simp only [Act.put, List.setIfInBounds_toArray, List.set_cons_zero, List.set_cons_succ])
      replace hz := below_block hz hq
      have hsz := hq.size
      obtain ⟨w', hw'⟩ : ∃ w', w' = wc := ⟨_, rfl⟩
      rw [← hw'] at hz hf2 hsz hc ⊢
      clear hw' hq
      refine wpAnyH_ready (rs := [3]) (by kernel_rfl) (by simp) ?_
      refine stepH rfl (fun K hK => ?_) AllReadyH.nil
      go_simp
      refine (HJN.out v2 w' hc hf2.rd).mono ?_
      rintro e wc ⟨v3, rfl, hJ, hq⟩
      have hX := bnext hc hq
      have hrd3 := hJ wc (Fr.refl _ _) (HS9.out.below hX)
      obtain ⟨x', y', z', rfl, hj3, hr3, hw3⟩ := hrd3
      obtain ⟨xa', xc', rfl, _, _⟩ := hj3.shape
      obtain ⟨ya', yc', rfl, _, _⟩ := hr3.shape
      obtain ⟨za', zc', rfl, _, _⟩ := hw3.shape
      clear hj3 hr3 hw3
      have hd := bnext hc hq
      go_wp2_with fail
      refine hK.out _ _ (hd) (fun _ => ?_)
      clear hK K
      (try simp only [Act.put, List.setIfInBounds_toArray, List.set_cons_zero, List.set_cons_succ])
      obtain ⟨wd, hwd⟩ : ∃ wd, wd = wc := ⟨_, rfl⟩
      rw [← hwd] at hq hX hJ hd ⊢
      clear hwd
      replace hz := below_block hz hq
      have HFIN := Lib.hid (fun (we : World) (ho : Only wa.heap.size wd we) => hJ we (Fr.only ho (by omega)) (HS9.out.below (hd.trans (ho.below hgl hd.size))))
      generalize wa.heap.size = g at hz hgl HFIN ⊢
      clear hq hb hc hX hJ hf2 hgs hsz
    all_goals
      obtain ⟨⟨z0, z1, z2, z3, z4, z5, z6, z7, z8⟩, f0, f1, f2, f3, f4, f5, f6, f7, f8⟩ := row9_at hz
      have hput := row9_put hz (.slice xa' J.J.length xc') (.slice ya' J.R.length yc') (.slice za' J.W.length zc') (.int .i64 J.k) (.int .i64 J.c) (.int .i64 J.f) (.int .i64 J.v) (.int .i64 J.a) (.int .i64 J.n) w9.heap.size hgl
      have hon := onlyc9 (w := wd) (g := g) (.slice xa' J.J.length xc') (.slice ya' J.R.length yc') (.slice za' J.W.length zc') (.int .i64 J.k) (.int .i64 J.c) (.int .i64 J.f) (.int .i64 J.v) (.int .i64 J.a) (.int .i64 J.n)
      have hfin := rdS_w (HFIN.out _ hon)
      have he := hd.trans hput.2
      refine wpAnyH_ready (rs := [5]) (by kernel_rfl) (by simp) ?_
      refine stepH rfl (fun K hK => ?_) AllReadyH.nil
      go_simp
      skip
      refine hK.out _ _ (he) (fun _ => ?_)
      clear hK K
      (try simp only [Act.put, List.setIfInBounds_toArray, List.set_cons_zero, List.set_cons_succ])
      generalize (((((((((wd.setCell ⟨g, 0, none⟩ (.slice xa' J.J.length xc')).setCell ⟨g, 1, none⟩ (.slice ya' J.R.length yc')).setCell ⟨g, 2, none⟩ (.slice za' J.W.length zc')).setCell ⟨g, 3, none⟩ (.int .i64 J.k)).setCell ⟨g, 4, none⟩ (.int .i64 J.c)).setCell ⟨g, 5, none⟩ (.int .i64 J.f)).setCell ⟨g, 6, none⟩ (.int .i64 J.v)).setCell ⟨g, 7, none⟩ (.int .i64 J.a)).setCell ⟨g, 8, none⟩ (.int .i64 J.n)) = we at he hput hfin ⊢
      clear z0 z1 z2 z3 z4 z5 z6 z7 z8 f0 f1 f2 f3 f4 f5 f6 f7 f8 hz hon HFIN hd ha
      refine wpAnyH_done (by kernel_rfl) ?_ _
      have HX := Lib.hid hput.1
      have HWR := Lib.hid hfin
      have HRC := Lib.hid (HR9.out.below he)
      have HBE := Lib.hid (bnext HB9.out he)
      have hl6 := HLL.out
      obtain ⟨lw, hlw⟩ : ∃ lw, lw = J.W.length := ⟨_, rfl⟩
      rw [← hlw] at HX HWR hjw
      have HLW := Lib.hid hlw
      obtain ⟨lj, hlj⟩ : ∃ lj, lj = J.J.length := ⟨_, rfl⟩
      obtain ⟨lr, hlr⟩ : ∃ lr, lr = J.R.length := ⟨_, rfl⟩
      rw [← hlj, ← hlr] at HX
      clear hput hfin he hlw hlj hlr HOF HJN HR9 HS9 HP9 HX9 hgl
      go_wp2
      go_loopw [18] (fun ix wr => ∃ i : Nat, i ≤ L.length ∧ ix = .int .i64 i ∧ Hid (Below we.heap.size we wr)) (fun ix _ => L.length - (intOf ix).toNat)
      case atStart => exact ⟨0, Nat.zero_le _, rfl, Lib.hid (Below.refl _ _)⟩
      case round =>
        obtain ⟨i, hii, rfl, hbw⟩ := hrel
        by_cases hlt : i < L.length
        case neg =>
          have hq3 : ¬ ((i : Int) < (L.length : Int)) := by omega
          have HBW := Lib.hid (bnext HBE.out hbw.out)
          clear hbw hii hlt
          go_wp2_with fail
          refine (HA.out _ HBW.out).mono ?_
          rintro e w' ⟨rfl, hb⟩
          have HE := Lib.hid (bnext HBW.out hb)
          go_wp2
          go_ret
          exact ⟨rfl, HE.out⟩
        have hq3 : (i : Int) < (L.length : Int) := by omega
        have hat := List.getElem?_eq_getElem hlt
        generalize L[i] = x at hat
        obtain ⟨ck, cs, ct, cv', ca, cb, cc⟩ := x
        obtain ⟨b, o, hix, hxb, hc⟩ := (HRC.out.below hbw.out).at_ chgE i _ hat
        have c0 : wr.cell? ⟨b, o, none⟩ = some (.int .i64 ck) := hc 0 _ rfl
        have c1 : wr.cell? ⟨b, o + 1, none⟩ = some (.int .i64 cs) := hc 1 _ rfl
        have c2 : wr.cell? ⟨b, o + 2, none⟩ = some (.int .i64 ct) := hc 2 _ rfl
        have c4 : wr.cell? ⟨b, o + 4, none⟩ = some (.int .i64 ca) := hc 4 _ rfl
        have c5 : wr.cell? ⟨b, o + 5, none⟩ = some (.int .i64 cb) := hc 5 _ rfl
        have c6 : wr.cell? ⟨b, o + 6, none⟩ = some (.int .i64 cc) := hc 6 _ rfl
        have hR4 := HRW.out _ (List.mem_of_getElem? hat)
        have hW3 := HWW.out _ (List.mem_of_getElem? hat)
        dsimp only at hR4 hW3
        have HR4 := Lib.hid hR4
        have HW3 := Lib.hid hW3
        have HCL := Lib.hid (And.intro hix (And.intro c0 (And.intro c1 c2)))
        obtain ⟨⟨z0, z1, z2, z3, z4, z5, z6, z7, z8⟩, _⟩ := row9_at (below_block HX.out hbw.out)
        clear hat hc hR4 hW3 hxb
        clear HCL
        by_cases h4 : ck = 4
        · subst h4
          have k0 : ∀ p : Later wr, p.val.cell? ⟨b, o, none⟩ = some (.int .i64 4) := fun p => below_cell p.h c0
          obtain ⟨hk, hc', hf⟩ : J.k = ca ∧ J.c = cb ∧ J.f = cc := by have h9 := HR4.out (by first | rfl | trivial); injection h9 with a h9; injection h9 with b c; exact ⟨a, b, c⟩
          have hneq := fun w => neq_rule ca cb cc ca cb cc w
          rw [decide_eq_true ⟨rfl, rfl, rfl⟩] at hneq
          rw [hk] at z3
          rw [hc'] at z4
          rw [hf] at z5
          have kz3 : ∀ p : Later wr, p.val.cell? ⟨g, 3, none⟩ = some (.int .i64 ca) := fun p => below_cell p.h z3
          have kz4 : ∀ p : Later wr, p.val.cell? ⟨g, 4, none⟩ = some (.int .i64 cb) := fun p => below_cell p.h z4
          have kz5 : ∀ p : Later wr, p.val.cell? ⟨g, 5, none⟩ = some (.int .i64 cc) := fun p => below_cell p.h z5
          have kc4 : ∀ p : Later wr, p.val.cell? ⟨b, o + 4, none⟩ = some (.int .i64 ca) := fun p => below_cell p.h c4
          have kc5 : ∀ p : Later wr, p.val.cell? ⟨b, o + 4 + 1, none⟩ = some (.int .i64 cb) := fun p => below_cell p.h c5
          have kc6 : ∀ p : Later wr, p.val.cell? ⟨b, o + 4 + 2, none⟩ = some (.int .i64 cc) := fun p => below_cell p.h c6
          clear hk hc' hf
          go_wp2
          refine wp_region_later (by kernel_rfl) (by kernel_rfl) ?_
          repeat (go_big_quiet_step (fail))
          refine wpQuiet_nil ?_
          rintro _ ⟨p', rfl⟩
          have HB3 := Lib.hid (bnext hbw.out p'.h)
          have HC0 := Lib.hid (show ∀ w', Below p'.val.heap.size p'.val w' → w'.cell? ⟨b, o, none⟩ = some (.int .i64 4) from fun w' hb => below_cell (bnext p'.h hb) c0)
          have HC1 := Lib.hid (show ∀ w', Below p'.val.heap.size p'.val w' → w'.cell? ⟨b, o + 1, none⟩ = some (.int .i64 cs) from fun w' hb => below_cell (bnext p'.h hb) c1)
          have HC2 := Lib.hid (show ∀ w', Below p'.val.heap.size p'.val w' → w'.cell? ⟨b, o + 2, none⟩ = some (.int .i64 ct) from fun w' hb => below_cell (bnext p'.h hb) c2)
          have HIX := Lib.hid hix
          have HCC := Lib.hid (show True from trivial)
          generalize p'.val = w3 at HB3 HC0 HC1 HC2 ⊢
          clear hbw hix c0 c1 c2 c4 c5 c6 z0 z1 z2 z3 z4 z5 z6 z7 z8 hneq kz3 kz4 kz5 kc4 kc5 kc6
          have HBW := Lib.hid HB3.out
          clear k0 HCC
          go_wp2
          go_loopw [19] (fun jx wr => ∃ j : Nat, j ≤ lw ∧ jx = .int .i64 j ∧ Hid (Below w3.heap.size w3 wr)) (fun jx _ => lw - (intOf jx).toNat)
          case atStart => exact ⟨0, Nat.zero_le _, rfl, Lib.hid (Below.refl _ _)⟩
          case round =>
            obtain ⟨j, hjj, rfl, hbv⟩ := hrel
            have HBV := Lib.hid (bnext HBW.out hbv.out)
            obtain ⟨⟨z0, z1, z2, z3, z4, z5, z6, z7, z8⟩, _⟩ := row9_at (below_block HX.out HBV.out)
            by_cases hlj : j < lw
            case neg =>
              have hq4 : ¬ ((j : Int) < (lw : Int)) := by omega
              clear hbv hjj hlj
              go_wp2
              go_roundw
              case rel => exact ⟨i + 1, by omega, by go_num, HBV⟩
              case measure => simp [intOf]; omega
            have hq4 : (j : Int) < (lw : Int) := by omega
            have c0 := HC0.out wr hbv.out
            have kc0 : ∀ p : Later wr, p.val.cell? ⟨b, o, none⟩ = some (.int .i64 4) := fun p => below_cell p.h c0
            have hix := HIX.out
            go_wp2
            refine wp_region_later (by kernel_rfl) (by kernel_rfl) ?_
            repeat (go_big_quiet_step (fail))
            refine wpQuiet_nil ?_
            rintro _ ⟨p', rfl⟩
            have HB4 := Lib.hid (bnext hbv.out p'.h)
            generalize p'.val = w4' at HB4 ⊢
            clear kc0 c0 hix hbv HBV z0 z1 z2 z3 z4 z5 z6 z7 z8
            go_wp2
            go_roundw
            case rel => exact ⟨j + 1, by omega, by go_num, HB4⟩
            case measure => simp [intOf]; omega
        have hn4 : (ck == 4) = false := beq_eq_false_iff_ne.2 h4
        by_cases h3 : ck = 3
        · subst h3
          clear hn4 h4
          have k0 : ∀ p : Later wr, p.val.cell? ⟨b, o, none⟩ = some (.int .i64 3) := fun p => below_cell p.h c0
          go_wp2
          refine wp_region_later (by kernel_rfl) (by kernel_rfl) ?_
          repeat (go_big_quiet_step (fail))
          refine wpQuiet_nil ?_
          rintro _ ⟨p', rfl⟩
          have HB3 := Lib.hid (bnext hbw.out p'.h)
          have HC0 := Lib.hid (show ∀ w', Below p'.val.heap.size p'.val w' → w'.cell? ⟨b, o, none⟩ = some (.int .i64 3) from fun w' hb => below_cell (bnext p'.h hb) c0)
          have HC1 := Lib.hid (show ∀ w', Below p'.val.heap.size p'.val w' → w'.cell? ⟨b, o + 1, none⟩ = some (.int .i64 cs) from fun w' hb => below_cell (bnext p'.h hb) c1)
          have HC2 := Lib.hid (show ∀ w', Below p'.val.heap.size p'.val w' → w'.cell? ⟨b, o + 2, none⟩ = some (.int .i64 ct) from fun w' hb => below_cell (bnext p'.h hb) c2)
          have HIX := Lib.hid hix
          have HCC := Lib.hid (show True from trivial)
          generalize p'.val = w3 at HB3 HC0 HC1 HC2 ⊢
          clear hbw hix c0 c1 c2 c4 c5 c6 z0 z1 z2 z3 z4 z5 z6 z7 z8
          have HBW := Lib.hid HB3.out
          clear k0 HCC
          go_wp2
          go_loopw [19] (fun jx wr => ∃ j : Nat, j ≤ lw ∧ jx = .int .i64 j ∧ Hid (Below w3.heap.size w3 wr)) (fun jx _ => lw - (intOf jx).toNat)
          case atStart => exact ⟨0, Nat.zero_le _, rfl, Lib.hid (Below.refl _ _)⟩
          case round =>
            obtain ⟨j, hjj, rfl, hbv⟩ := hrel
            have HBV := Lib.hid (bnext HBW.out hbv.out)
            obtain ⟨⟨z0, z1, z2, z3, z4, z5, z6, z7, z8⟩, _⟩ := row9_at (below_block HX.out HBV.out)
            by_cases hlj : j < lw
            case neg =>
              have hq4 : ¬ ((j : Int) < (lw : Int)) := by omega
              clear hbv hjj hlj
              go_wp2
              go_roundw
              case rel => exact ⟨i + 1, by omega, by go_num, HBV⟩
              case measure => simp [intOf]; omega
            have hq4 : (j : Int) < (lw : Int) := by omega
            obtain ⟨e0, e1, e2, e3, e4, hej⟩ : ∃ e0 e1 e2 e3 e4, J.W[j]? = some (e0, e1, e2, e3, e4) := ⟨_, _, _, _, _, List.getElem?_eq_getElem (by rw [← HLW.out]; exact hlj)⟩
            obtain ⟨wb, wo, hiw, hwb, d0, d1, _, _, _⟩ := atW (HWR.out.below HBV.out) j _ _ _ _ _ hej
            have hw3 := HW3.out (by first | rfl | trivial) _ (List.mem_of_getElem? hej)
            dsimp only at hw3
            have kd0 : ∀ p : Later wr, p.val.cell? ⟨wb, wo, none⟩ = some (.int .i64 e0) := fun p => below_cell p.h d0
            have kd1 : ∀ p : Later wr, p.val.cell? ⟨wb, wo + 1, none⟩ = some (.int .i64 e1) := fun p => below_cell p.h d1
            have c0 := HC0.out wr hbv.out
            have c1 := HC1.out wr hbv.out
            have c2 := HC2.out wr hbv.out
            have kc0 : ∀ p : Later wr, p.val.cell? ⟨b, o, none⟩ = some (.int .i64 3) := fun p => below_cell p.h c0
            have kc1 : ∀ p : Later wr, p.val.cell? ⟨b, o + 1, none⟩ = some (.int .i64 cs) := fun p => below_cell p.h c1
            have kc2 : ∀ p : Later wr, p.val.cell? ⟨b, o + 2, none⟩ = some (.int .i64 ct) := fun p => below_cell p.h c2
            have kz2 : ∀ p : Later wr, p.val.cell? ⟨g, 2, none⟩ = some (.slice za' lw zc') := fun p => below_cell p.h z2
            have hix := HIX.out
            have hiw := hiw
            by_cases hes : e0 = cs
            · have hew := hw3 hes
              subst hes
              subst hew
              have hn1 : (e0 == e0) = true := beq_t rfl
              have hn2 : (e1 != e1) = false := by simp
              clear hej hw3
              go_wp2
              refine wp_region_later (by kernel_rfl) (by kernel_rfl) ?_
              repeat (go_big_quiet_step (fail))
              refine wpQuiet_nil ?_
              rintro _ ⟨p', rfl⟩
              have HB4 := Lib.hid (bnext hbv.out p'.h)
              generalize p'.val = w4' at HB4 ⊢
              clear kc0 kc1 kc2 kd0 kd1 kz2 c0 c1 c2 d0 d1 hix hiw hbv HBV hn1 hn2 z0 z1 z2 z3 z4 z5 z6 z7 z8
              go_wp2
              go_roundw
              case rel => exact ⟨j + 1, by omega, by go_num, HB4⟩
              case measure => simp [intOf]; omega
            · have hn1 : (e0 == cs) = false := beq_eq_false_iff_ne.2 hes
              clear hej hw3 hes
              go_wp2
              refine wp_region_later (by kernel_rfl) (by kernel_rfl) ?_
              repeat (go_big_quiet_step (fail))
              refine wpQuiet_nil ?_
              rintro _ ⟨p', rfl⟩
              have HB4 := Lib.hid (bnext hbv.out p'.h)
              generalize p'.val = w4' at HB4 ⊢
              clear kc0 kc1 kc2 kd0 kd1 kz2 c0 c1 c2 d0 d1 hix hiw hbv HBV hn1 z0 z1 z2 z3 z4 z5 z6 z7 z8
              go_wp2
              go_roundw
              case rel => exact ⟨j + 1, by omega, by go_num, HB4⟩
              case measure => simp [intOf]; omega
        have hn3 : (ck == 3) = false := beq_eq_false_iff_ne.2 h3
        clear h3 h4
        have k0 : ∀ p : Later wr, p.val.cell? ⟨b, o, none⟩ = some (.int .i64 ck) := fun p => below_cell p.h c0
        go_wp2
        refine wp_region_later (by kernel_rfl) (by kernel_rfl) ?_
        repeat (go_big_quiet_step (fail))
        refine wpQuiet_nil ?_
        rintro _ ⟨p', rfl⟩
        have HB3 := Lib.hid (bnext hbw.out p'.h)
        have HC0 := Lib.hid (show ∀ w', Below p'.val.heap.size p'.val w' → w'.cell? ⟨b, o, none⟩ = some (.int .i64 ck) from fun w' hb => below_cell (bnext p'.h hb) c0)
        have HC1 := Lib.hid (show ∀ w', Below p'.val.heap.size p'.val w' → w'.cell? ⟨b, o + 1, none⟩ = some (.int .i64 cs) from fun w' hb => below_cell (bnext p'.h hb) c1)
        have HC2 := Lib.hid (show ∀ w', Below p'.val.heap.size p'.val w' → w'.cell? ⟨b, o + 2, none⟩ = some (.int .i64 ct) from fun w' hb => below_cell (bnext p'.h hb) c2)
        have HIX := Lib.hid hix
        have HCC := Lib.hid (show True from trivial)
        generalize p'.val = w3 at HB3 HC0 HC1 HC2 ⊢
        clear hbw hix c0 c1 c2 c4 c5 c6 z0 z1 z2 z3 z4 z5 z6 z7 z8
        have HBW := Lib.hid HB3.out
        clear k0 HCC
        go_wp2
        go_loopw [19] (fun jx wr => ∃ j : Nat, j ≤ lw ∧ jx = .int .i64 j ∧ Hid (Below w3.heap.size w3 wr)) (fun jx _ => lw - (intOf jx).toNat)
        case atStart => exact ⟨0, Nat.zero_le _, rfl, Lib.hid (Below.refl _ _)⟩
        case round =>
          obtain ⟨j, hjj, rfl, hbv⟩ := hrel
          have HBV := Lib.hid (bnext HBW.out hbv.out)
          obtain ⟨⟨z0, z1, z2, z3, z4, z5, z6, z7, z8⟩, _⟩ := row9_at (below_block HX.out HBV.out)
          by_cases hlj : j < lw
          case neg =>
            have hq4 : ¬ ((j : Int) < (lw : Int)) := by omega
            clear hbv hjj hlj
            go_wp2
            go_roundw
            case rel => exact ⟨i + 1, by omega, by go_num, HBV⟩
            case measure => simp [intOf]; omega
          have hq4 : (j : Int) < (lw : Int) := by omega
          have c0 := HC0.out wr hbv.out
          have kc0 : ∀ p : Later wr, p.val.cell? ⟨b, o, none⟩ = some (.int .i64 ck) := fun p => below_cell p.h c0
          have hix := HIX.out
          go_wp2
          refine wp_region_later (by kernel_rfl) (by kernel_rfl) ?_
          repeat (go_big_quiet_step (fail))
          refine wpQuiet_nil ?_
          rintro _ ⟨p', rfl⟩
          have HB4 := Lib.hid (bnext hbv.out p'.h)
          generalize p'.val = w4' at HB4 ⊢
          clear kc0 c0 hix hbv HBV z0 z1 z2 z3 z4 z5 z6 z7 z8
          go_wp2
          go_roundw
          case rel => exact ⟨j + 1, by omega, by go_num, HB4⟩
          case measure => simp [intOf]; omega

end Go.Proofs.YthgnhaimdkcmeaaGreatDoor
