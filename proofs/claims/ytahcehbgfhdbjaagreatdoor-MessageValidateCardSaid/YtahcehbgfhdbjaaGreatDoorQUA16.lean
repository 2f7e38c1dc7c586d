/-
  NRx: joined texts, what nothing names left out.
-/
import Derived.Test.YtahcehbgfhdbjaaGreatDoorQUA15
set_option maxHeartbeats 8000000
set_option maxRecDepth 100000
open Go.Lib (hid)
namespace Go.Proofs.YtahcehbgfhdbjaaGreatDoor
open Go.RowKit
open NM (Ms)
open VM (Ent)
theorem list3 {l:List Int} (h:l.length=3):∃ a b c,l = [a,b,c]:=by
 match l,h with
 | [a,b,c],_=>exact ⟨a,b,c,rfl⟩
theorem rReadX1 (fr tx:Int) (v:Value) (xs:List Int) (w:World) (hv0:Rd w v xs) :
  Calls Tryz.prog 40 #[mv ({k:=1,fr,tx}:Ms) ({}:Mv),v] w fun e w'=>∃ (x':Mv) (m':Ms) (n':Int),e = .returned (.tuple #[mv m' x',.int .i64 n',.int .i64 (NM.pX 1 fr tx xs).1])/\((NM.pX 1 fr tx xs).1=0->n'=((NM.pX 1 fr tx xs).2.1:Int)/\OwnMs w.heap.size w' x' m'/\m'=(NM.pX 1 fr tx xs).2.2)/\SlX x'/\Below w.heap.size w w':=by
 obtain ⟨va,vc,rfl,_⟩:=hv0.shape;have hby:=hv0.bytes;have hxl:=rd_len64 hv0;obtain ⟨w0,hw0,hX,hZ,hb0⟩:=twoM w ({k:=1,fr,tx}:Ms) ({}:Mv) ({}:Ms) ({}:Mv);have HX:=hid hX;have HZ:=hid hZ;have HB:=hid hb0;have HG:=hid (show w.heap.size+1<w0.heap.size from hZ.lt);have HW:=hid (show (w.alloc (.cells #[.int .i64 1,.int .i64 fr,.int .i64 tx,.int .i64 0,.int .i64 0,.int .i64 0,.int .i64 0,.slice none 0 0,.slice none 0 0,.slice none 0 0,.slice none 0 0,.bool false,.slice none 0 0,.slice none 0 0,.slice none 0 0,.slice none 0 0,.slice none 0 0,.bool false] 33)).alloc (.cells zC 33)=w0 from hw0);obtain ⟨R,hR⟩:∃ R,R=NM.pX 1 fr tx xs:=⟨_,rfl⟩
 rw [<- hR];have hrd:=rRead _ xs 4 w0 (hv0.below hb0) (by decide);have hml:=JM.many_length xs (0,0) 4;obtain ⟨hms,hmu⟩:=JM.many_small xs (0,0) hby (Nat.zero_le _) 4;generalize hM:JM.many xs (0,0) 4=M at hrd hml hms hmu;obtain ⟨l,u0,e0⟩:=M;dsimp only at hrd hml hms hmu;obtain ⟨p,n,r,d,rfl⟩:=list4 hml;have hM':JM.many xs (0,0) (if (1:Int)=1 then 4 else 3)=([p,n,r,d],u0,e0):=by rw [if_pos rfl];exact hM
 have h1u:=CM.decL_used (NM.drop_bytes hby u0);have hC1:=fun v' w' (g:Rd w' v' (xs.drop u0))=>rDecodeCO v' (xs.drop u0) w' g
 generalize hD1:CM.decL (xs.drop u0)=D1 at h1u hC1;obtain ⟨e1,u1,cg⟩:=D1;rw [List.length_drop] at h1u;dsimp only at h1u hC1;have h2u:=NM.upd_used (NM.drop_bytes hby (u0+u1));have hC2:=fun v' w' (g:Rd w' v' (xs.drop (u0+u1)))=>ST.rUpdO v' (xs.drop (u0+u1)) w' g
 generalize hD2:NM.upd (xs.drop (u0+u1))=D2 at h2u hC2;obtain ⟨e2,u2,st⟩:=D2;rw [List.length_drop] at h2u;dsimp only at h2u hC2;have HU:=hid (show u0+u1+u2<=xs.length/\xs.length<=9223372036854775807 from ⟨by omega,hxl⟩);have HR:=hid hR;have HM:=hid hM';have HD1:=hid hD1;have HD2:=hid hD2;have HC1:=hid hC1;have HC2:=hid hC2;have HV:=hid hv0;have HRD:Hid (Calls Tryz.prog 39 #[.slice va xs.length vc,.int .i64 4] w0 _):=hrd;clear hv0 hby hxl hw0 hX hZ hb0 hR hrd hml hms hmu hM hM' h1u hC1 hD1 h2u hC2 hD2;dsimp only [mv,mcell];go_enter Tryz.func40,Tryz.ntmps40
 go_upto_region 1 with fail
 rw [HW.out];have x0:=HX.out.cells.1;dsimp only at x0;go_wp2_with fail
 refine HRD.out.mono ?_;rintro e w2 (⟨hne,rfl,hb2⟩ | ⟨rfl,lv,rfl,hoh,hb2⟩)
 ·have HX:=hid (HX.out.below hb2);have HZ:=hid (HZ.out.below hb2);have HB:=hid (bnext HB.out hb2);have HRE:=hid (HR.out.trans (NM.pX_e0 HM.out hne));have HE:=hid hne;have hne':(e0 != 0)=true:=bne_t hne;clear hne hb2 x0 HR HM HD1 HD2 HC1 HC2 HRD HW;obtain ⟨C,hC⟩:∃ C,C=mcell ({k:=1,fr,tx}:Ms) ({}:Mv):=⟨_,rfl⟩
  have hx:w2.heap[w.heap.size]? = some (.cells C 33 (0,0)):=by rw [hC];exact HX.out
  have hsz:C.size=18:=by rw [hC];rfl
  have hsc:=run_storeCells_row w2 (w.heap.size+1) 33 _ C HZ.out (by rw [hC];rfl) (by rw [hC];simp [mcell,Value.oneCell']);have HC:=hid hC;clear hC;go_upto_region 6 with fail
  go_wp2_with (refine wpList_load_row rfl 33 _ rfl w.heap.size rfl 33 C (0,0) _ hx Tryz.underlying33 rfl (by rw [hsz];kernel_rfl) ?_)
  refine msgRet3 (m:=({k:=1,fr,tx}:Ms)) (x:=({}:Mv)) rfl rfl rfl rfl (by rw [HC.out];exact HZ.out.put _ _) rfl ⟨({}:Mv),({k:=1,fr,tx}:Ms),0,?_,?_,⟨⟨_,_,_,rfl⟩,⟨_,_,_,rfl⟩,⟨_,_,_,rfl⟩,⟨_,_,_,rfl⟩,⟨_,_,_,rfl⟩,⟨_,_,_,rfl⟩,⟨_,_,_,rfl⟩,⟨_,_,_,rfl⟩,⟨_,_,_,rfl⟩⟩,?_⟩
  ·first | (rw [HRE.out];done) | (rw [HRE.out];rfl)
  ·rw [HRE.out];intro h;exact absurd h HE.out
  ·exact seen HB.out (by omega) (onlyRow _ _ _)
 have HX:=hid (HX.out.below hb2);have HZ:=hid (HZ.out.below hb2);have HB:=hid (bnext HB.out hb2);have HL:=hid hoh;obtain ⟨hda,hdc,rfl⟩:∃ a c,lv = .slice a 4 c:=by obtain ⟨a,c,h,_⟩:=hoh.rd.shape;exact ⟨a,c,h⟩
 obtain ⟨bx0,ox0,hi0,_,hc0⟩:=atI HL.out.rd 0 _ rfl;have hi0:∀ w0,(Instr.indexAt 43 (.slice hda 4 hdc) (.int .i64 0)).run Tryz.prog w0 = .ok (.pointer (some ⟨bx0,ox0,none⟩)) w0:=hi0;obtain ⟨bx1,ox1,hi1,_,hc1⟩:=atI HL.out.rd 1 _ rfl;have hi1:∀ w0,(Instr.indexAt 43 (.slice hda 4 hdc) (.int .i64 1)).run Tryz.prog w0 = .ok (.pointer (some ⟨bx1,ox1,none⟩)) w0:=hi1;obtain ⟨bx2,ox2,hi2,_,hc2⟩:=atI HL.out.rd 2 _ rfl;have hi2:∀ w0,(Instr.indexAt 43 (.slice hda 4 hdc) (.int .i64 2)).run Tryz.prog w0 = .ok (.pointer (some ⟨bx2,ox2,none⟩)) w0:=hi2;obtain ⟨bx3,ox3,hi3,_,hc3⟩:=atI HL.out.rd 3 _ rfl;have hi3:∀ w0,(Instr.indexAt 43 (.slice hda 4 hdc) (.int .i64 3)).run Tryz.prog w0 = .ok (.pointer (some ⟨bx3,ox3,none⟩)) w0:=hi3;clear hc0 hc1 hc2 hc3 hoh x0 HRD HW;go_wp2
 refine wp_region_held_drew (S:=fun w'=>OwnI w0.heap.size w' (.slice hda 4 hdc) [p,n,r,d]) (by kernel_rfl) (HL.out.below (Below.refl _ _).drew) (fun hS0=>?_);have ha:Below w2.heap.size w2 w2.drew:=(Below.refl _ _).drew;replace hS0:OwnI w0.heap.size w2.drew (.slice hda 4 hdc) [p,n,r,d]:=HL.out.below ha;generalize w2.drew=wa at ha hS0 ⊢;refine takeJ 0 ?_;refine takeJ 3 ?_;refine takeG 1 (v:=?_) ?_ ?_;rotate_left
 ·(intro w hSw;(try dsimp only at hSw);have hcx:=hi0;go_simp;first | done | with_reducible rfl)
 (try simp only [Act.put,lTA,lZ,lS]);refine takeG 4 (v:=?_) ?_ ?_;rotate_left
 ·(intro w hSw;(try dsimp only at hSw);have hcx:=hi1;go_simp;first | done | with_reducible rfl)
 (try simp only [Act.put,lTA,lZ,lS]);refine takeG 2 (v:=?_) ?_ ?_;rotate_left
 ·(intro w hSw;(try dsimp only at hSw);have hcx:=atI_cell hSw.rd 0 _ rfl hi0;go_simp;first | done | with_reducible rfl)
 (try simp only [Act.put,lTA,lZ,lS]);refine takeG 5 (v:=?_) ?_ ?_;rotate_left
 ·(intro w hSw;(try dsimp only at hSw);have hcx:=atI_cell hSw.rd 1 _ rfl hi1;go_simp;first | done | with_reducible rfl)
 (try simp only [Act.put,lTA,lZ,lS]);refine takeJ 6 ?_;refine takeJ 7 ?_;have HXa:=hid (HX.out.below ha);have x3:=HXa.out.cells.2.2.2.1;dsimp only at x3;have f3:=HXa.out.free 3;have x4:=HXa.out.cells.2.2.2.2.1;dsimp only at x4;have f4:=HXa.out.free 4;obtain ⟨w3,hw3⟩:∃ w3,(wa.setCell ⟨w.heap.size,3,none⟩ (.int .i64 p)).setCell ⟨w.heap.size,4,none⟩ (.int .i64 n)=w3:=⟨_,rfl⟩
 have ho3:Only w.heap.size wa w3:=by rw [<- hw3];exact onlyTwo _ _
 have hS1:OwnI w0.heap.size w3 (.slice hda 4 hdc) [p,n,r,d]:=OwnG.only hS0 ho3 (by have:=HG.out;omega);refine wpAnyH_ready (rs:=[8]) (by kernel_rfl) (by simp) ?_;refine stepH rfl (fun K hK=>?_) AllReadyH.nil;go_simp
 refine hK.out _ _ hS1 (fun _=>?_);clear hK K;(try simp only [Act.put,lTA,lZ,lS]);refine wpAnyH_done (by kernel_rfl) ?_ _;have HX3:=hid (show MB w3 w.heap.size ({k:=1,fr,tx,p,n}:Ms) ({}:Mv) by rw [<- hw3];exact HXa.out.setAcc p n);have HZ3:=hid ((HZ.out.below ha).only ho3 (by omega));have HB3:=hid (seen (bnext HB.out ha) (Nat.le_refl _) ho3);have HL3:=hid hS1;have HS3:=hid (show w0.heap.size<=w3.heap.size by have:=hb2.size;have:=ha.size;have:=ho3.size;omega);clear x3 x4 f3 f4 hw3 ho3 hS0 hS1 ha hb2 HX HZ HB HL HXa;have x5:=HX3.out.cells.2.2.2.2.2.1;dsimp only at x5;have f5:=HX3.out.free 5;have hc2:=atI_cell HL3.out.rd 2 _ rfl hi2;obtain ⟨w4,hw4⟩:∃ w4,w3.setCell ⟨w.heap.size,5,none⟩ (.int .i64 r)=w4:=⟨_,rfl⟩
 have ho4:Only w.heap.size w3 w4:=by rw [<- hw4];exact Only.set 5 _
 have HX4:=hid (show MB w4 w.heap.size ({k:=1,fr,tx,p,n,r}:Ms) ({}:Mv) by rw [<- hw4];exact HX3.out.setRnd r);have HZ4:=hid (HZ3.out.only ho4 (by omega));have HB4:=hid (seen HB3.out (Nat.le_refl _) ho4);have HS4:=hid (show w0.heap.size<=w4.heap.size by have:=HS3.out;have:=ho4.size;omega);have HL4:=hid (OwnG.only HL3.out ho4 (by have:=HG.out;omega));have HW4:=hid hw4;clear hw4 ho4 HX3 HZ3 HB3 HS3 HL3;go_upto_region 9 with fail
 rw [HW4.out];clear x5 f5 hc2 HW4;have x6:=HX4.out.cells.2.2.2.2.2.2.1;dsimp only at x6;have f6:=HX4.out.free 6;have hc3:=atI_cell HL4.out.rd 3 _ rfl hi3;obtain ⟨w5,hw5⟩:∃ w5,w4.setCell ⟨w.heap.size,6,none⟩ (.int .i64 d)=w5:=⟨_,rfl⟩
 have ho5:Only w.heap.size w4 w5:=by rw [<- hw5];exact Only.set 6 _
 have HX5:=hid (show MB w5 w.heap.size ({k:=1,fr,tx,p,n,r,d}:Ms) ({}:Mv) by rw [<- hw5];exact HX4.out.setMod d);have HZ5:=hid (HZ4.out.only ho5 (by omega));have HB5:=hid (seen HB4.out (Nat.le_refl _) ho5);have HS5:=hid (show w0.heap.size<=w5.heap.size by have:=HS4.out;have:=ho5.size;omega);have HW5:=hid hw5;clear hw5 ho5 HX4 HZ4 HB4 HS4 HL4;go_upto_region 11 with fail
 rw [HW5.out];clear x6 f6 hc3 HW5 hi0 hi1 hi2 hi3;obtain ⟨v2,hcut,hrd⟩:=(HV.out.below HB5.out).cutL u0 (by have:=HU.out;omega);have HQ:=hid (HC1.out v2 w5 hrd);clear hrd HC1;go_wp2_with fail
 refine HQ.out.mono ?_;rintro e w6 ⟨v6,rfl,ho6,hb6⟩;obtain ⟨ca,cc,rfl,_⟩:=ho6.shape;have HX6:=hid (HX5.out.below hb6);have HZ6:=hid (HZ5.out.below hb6);have HB6:=hid (bnext HB5.out hb6);have HO1:=hid (ho6.mono HS5.out);have HS6:=hid (show w0.heap.size<=w6.heap.size by have:=HS5.out;have:=hb6.size;omega);clear HX5 HZ5 HB5 HS5 HQ hcut ho6 hb6;by_cases he:e1=0
 case neg=>
  have HRE:=hid (HR.out.trans (NM.pX_e1 HM.out HD1.out he));have HE:=hid he;have hne':(e1 != 0)=true:=bne_t he;clear he HR HM HD1 HD2 HC2;obtain ⟨C,hC⟩:∃ C,C=mcell ({k:=1,fr,tx,p,n,r,d}:Ms) ({}:Mv):=⟨_,rfl⟩
  have hx:w6.heap[w.heap.size]? = some (.cells C 33 (0,0)):=by rw [hC];exact HX6.out
  have hsz:C.size=18:=by rw [hC];rfl
  have hsc:=run_storeCells_row w6 (w.heap.size+1) 33 _ C HZ6.out (by rw [hC];rfl) (by rw [hC];simp [mcell,Value.oneCell']);have HC:=hid hC;clear hC;go_upto_region 13 with fail
  go_wp2_with (refine wpList_load_row rfl 33 _ rfl w.heap.size rfl 33 C (0,0) _ hx Tryz.underlying33 rfl (by rw [hsz];kernel_rfl) ?_)
  refine msgRet3 (m:=({k:=1,fr,tx,p,n,r,d}:Ms)) (x:=({}:Mv)) rfl rfl rfl rfl (by rw [HC.out];exact HZ6.out.put _ _) rfl ⟨({}:Mv),({k:=1,fr,tx,p,n,r,d}:Ms),0,?_,?_,⟨⟨_,_,_,rfl⟩,⟨_,_,_,rfl⟩,⟨_,_,_,rfl⟩,⟨_,_,_,rfl⟩,⟨_,_,_,rfl⟩,⟨_,_,_,rfl⟩,⟨_,_,_,rfl⟩,⟨_,_,_,rfl⟩,⟨_,_,_,rfl⟩⟩,?_⟩
  ·first | (rw [HRE.out];done) | (rw [HRE.out];rfl)
  ·rw [HRE.out];intro h;exact absurd h HE.out
  ·exact seen HB6.out (by omega) (onlyRow _ _ _)
 subst he;have hsum1:(u0:Int)+(u1:Int)<=9223372036854775807:=by have:=HU.out;omega
 obtain ⟨v3,hcut0,hrd⟩:=(HV.out.below HB6.out).cutL (u0+u1) (by have:=HU.out;omega);have hcut:∀ w0:World,(Instr.slice 39 (.slice va xs.length vc) (some (.int .i64 ((u0:Int)+(u1:Int)))) none none).run Tryz.prog w0 = .ok v3 w0:=by
  intro w0;have h:=hcut0 w0;rwa [show ((u0+u1:Nat):Int)=(u0:Int)+(u1:Int) by omega] at h
 clear hcut0;have HQ:=hid (HC2.out v3 w6 hrd);clear hrd HC2;go_wp2_with fail
 refine HQ.out.mono ?_;rintro e w7 ⟨v7,rfl,ho7,hb7⟩;obtain ⟨sa,sc,rfl,_⟩:=ho7.rd.shape;have HX7:=hid (HX6.out.below hb7);have HZ7:=hid (HZ6.out.below hb7);have HB7:=hid (bnext HB6.out hb7);have HO1b:=hid (HO1.out.below hb7);have HO2:=hid (ho7.mono HS6.out);have HS7:=hid (show w0.heap.size<=w7.heap.size by have:=HS6.out;have:=hb7.size;omega);clear HX6 HZ6 HB6 HQ hcut ho7 hb7 HO1 HS6;by_cases he:e2=0
 case neg=>
  have HRE:=hid (HR.out.trans (NM.pX_e2 HM.out HD1.out HD2.out he));have HE:=hid he;have hne':(e2 != 0)=true:=bne_t he;clear he HR HM HD1 HD2;obtain ⟨C,hC⟩:∃ C,C=mcell ({k:=1,fr,tx,p,n,r,d}:Ms) ({}:Mv):=⟨_,rfl⟩
  have hx:w7.heap[w.heap.size]? = some (.cells C 33 (0,0)):=by rw [hC];exact HX7.out
  have hsz:C.size=18:=by rw [hC];rfl
  have hsc:=run_storeCells_row w7 (w.heap.size+1) 33 _ C HZ7.out (by rw [hC];rfl) (by rw [hC];simp [mcell,Value.oneCell']);have HC:=hid hC;clear hC;go_upto_region 17 with fail
  go_wp2_with (refine wpList_load_row rfl 33 _ rfl w.heap.size rfl 33 C (0,0) _ hx Tryz.underlying33 rfl (by rw [hsz];kernel_rfl) ?_)
  refine msgRet3 (m:=({k:=1,fr,tx,p,n,r,d}:Ms)) (x:=({}:Mv)) rfl rfl rfl rfl (by rw [HC.out];exact HZ7.out.put _ _) rfl ⟨({}:Mv),({k:=1,fr,tx,p,n,r,d}:Ms),0,?_,?_,⟨⟨_,_,_,rfl⟩,⟨_,_,_,rfl⟩,⟨_,_,_,rfl⟩,⟨_,_,_,rfl⟩,⟨_,_,_,rfl⟩,⟨_,_,_,rfl⟩,⟨_,_,_,rfl⟩,⟨_,_,_,rfl⟩,⟨_,_,_,rfl⟩⟩,?_⟩
  ·first | (rw [HRE.out];done) | (rw [HRE.out];rfl)
  ·rw [HRE.out];intro h;exact absurd h HE.out
  ·exact seen HB7.out (by omega) (onlyRow _ _ _)
 subst he;have hsum2:(u0:Int)+(u1:Int)+(u2:Int)<=9223372036854775807:=by have:=HU.out;omega
 have x14:=HX7.out.cells.2.2.2.2.2.2.2.2.2.2.2.2.2.2.1;dsimp only at x14;have f14:=HX7.out.free 14;have x15:=HX7.out.cells.2.2.2.2.2.2.2.2.2.2.2.2.2.2.2.1;dsimp only at x15;have f15:=HX7.out.free 15;obtain ⟨w8,hw8⟩:∃ w8,(w7.setCell ⟨w.heap.size,14,none⟩ (.slice ca cg.length cc)).setCell ⟨w.heap.size,15,none⟩ (.slice sa st.length sc)=w8:=⟨_,rfl⟩
 have ho8:Only w.heap.size w7 w8:=by rw [<- hw8];exact onlyTwo _ _
 have HX8:=hid (show MB w8 w.heap.size ({k:=1,fr,tx,p,n,r,d,cg,st}:Ms) ({cg:=.slice ca cg.length cc,st:=.slice sa st.length sc}:Mv) by rw [<- hw8];exact HX7.out.setCgSt cg st _ _);have HZ8:=hid (HZ7.out.only ho8 (by omega));have HB8:=hid (seen HB7.out (Nat.le_refl _) ho8);have HO3:=hid (HO1b.out.only ho8 (by have:=HG.out;omega));have HO4:=hid (HO2.out.only ho8 (by have:=HG.out;omega));have HS8:=hid (show w0.heap.size<=w8.heap.size by have:=HS7.out;have:=ho8.size;omega);have HW8:=hid hw8;clear hw8 ho8 HX7 HZ7 HB7 HO1b HO2 HS7;go_upto_region 21 with fail
 rw [HW8.out];clear x14 x15 f14 f15 HW8;have x0:=HX8.out.cells.1;dsimp only at x0;have HRE:=hid (HR.out.trans (NM.pX_1 HM.out HD1.out HD2.out rfl));clear HR HM HD1 HD2;obtain ⟨C,hC⟩:∃ C,C=mcell ({k:=1,fr,tx,p,n,r,d,cg,st}:Ms) ({cg:=.slice ca cg.length cc,st:=.slice sa st.length sc}:Mv):=⟨_,rfl⟩
 have hx:w8.heap[w.heap.size]? = some (.cells C 33 (0,0)):=by rw [hC];exact HX8.out
 have hsz:C.size=18:=by rw [hC];rfl
 have hsc:=run_storeCells_row w8 (w.heap.size+1) 33 _ C HZ8.out (by rw [hC];rfl) (by rw [hC];simp [mcell,Value.oneCell']);have HC:=hid hC;clear hC;go_upto_region 22 with fail
 go_wp2_with (refine wpList_load_row rfl 33 _ rfl w.heap.size rfl 33 C (0,0) _ hx Tryz.underlying33 rfl (by rw [hsz];kernel_rfl) ?_)
 refine msgRet3 (m:=({k:=1,fr,tx,p,n,r,d,cg,st}:Ms)) (x:=({cg:=.slice ca cg.length cc,st:=.slice sa st.length sc}:Mv)) rfl rfl rfl rfl (by rw [HC.out];exact HZ8.out.put _ _) rfl ⟨({cg:=.slice ca cg.length cc,st:=.slice sa st.length sc}:Mv),({k:=1,fr,tx,p,n,r,d,cg,st}:Ms),(u0:Int)+(u1:Int)+(u2:Int),?_,?_,⟨⟨_,_,_,rfl⟩,⟨_,_,_,rfl⟩,⟨_,_,_,rfl⟩,⟨_,_,_,rfl⟩,⟨_,_,_,rfl⟩,⟨_,_,_,rfl⟩,⟨_,_,_,rfl⟩,⟨_,_,_,rfl⟩,⟨_,_,_,rfl⟩⟩,?_⟩
 ·rw [HRE.out]
 ·rw [HRE.out];intro _;refine ⟨by show (u0:Int)+(u1:Int)+(u2:Int)=((u0+u1+u2:Nat):Int);omega,⟨OwnR.nil _ _,OwnR.nil _ _,OwnR.nil _ _,OwnR.nil _ _,OwnR.nil _ _,OwnR.nil _ _,(HO3.out.only (onlyRow _ _ _) HG.out).mono (by have:=HG.out;omega),(HO4.out.only (onlyRow _ _ _) HG.out).mono (by have:=HG.out;omega),VX.OwnV.nil _ _⟩,rfl⟩
 ·exact seen HB8.out (by omega) (onlyRow _ _ _)
theorem rReadX2 (fr tx:Int) (v:Value) (xs:List Int) (w:World) (hv0:Rd w v xs) :
  Calls Tryz.prog 40 #[mv ({k:=2,fr,tx}:Ms) ({}:Mv),v] w fun e w'=>∃ (x':Mv) (m':Ms) (n':Int),e = .returned (.tuple #[mv m' x',.int .i64 n',.int .i64 (NM.pX 2 fr tx xs).1])/\((NM.pX 2 fr tx xs).1=0->n'=((NM.pX 2 fr tx xs).2.1:Int)/\OwnMs w.heap.size w' x' m'/\m'=(NM.pX 2 fr tx xs).2.2)/\SlX x'/\Below w.heap.size w w':=by
 obtain ⟨va,vc,rfl,_⟩:=hv0.shape;have hby:=hv0.bytes;have hxl:=rd_len64 hv0;obtain ⟨w0,hw0,hX,hZ,hb0⟩:=twoM w ({k:=2,fr,tx}:Ms) ({}:Mv) ({}:Ms) ({}:Mv);have HX:=hid hX;have HZ:=hid hZ;have HB:=hid hb0;have HG:=hid (show w.heap.size+1<w0.heap.size from hZ.lt);have HW:=hid (show (w.alloc (.cells #[.int .i64 2,.int .i64 fr,.int .i64 tx,.int .i64 0,.int .i64 0,.int .i64 0,.int .i64 0,.slice none 0 0,.slice none 0 0,.slice none 0 0,.slice none 0 0,.bool false,.slice none 0 0,.slice none 0 0,.slice none 0 0,.slice none 0 0,.slice none 0 0,.bool false] 33)).alloc (.cells zC 33)=w0 from hw0);obtain ⟨R,hR⟩:∃ R,R=NM.pX 2 fr tx xs:=⟨_,rfl⟩
 rw [<- hR];have hrd:=rRead _ xs 3 w0 (hv0.below hb0) (by decide);have hml:=JM.many_length xs (0,0) 3;obtain ⟨hms,hmu⟩:=JM.many_small xs (0,0) hby (Nat.zero_le _) 3;generalize hM:JM.many xs (0,0) 3=M at hrd hml hms hmu;obtain ⟨l,u0,e0⟩:=M;dsimp only at hrd hml hms hmu;obtain ⟨p,n,r,rfl⟩:=list3 hml;have hM':JM.many xs (0,0) (if (2:Int)=1 then 4 else 3)=([p,n,r],u0,e0):=by rw [if_neg (by decide)];exact hM
 have h1u:=CM.decL_used (NM.drop_bytes hby u0);have hC1:=fun v' w' (g:Rd w' v' (xs.drop u0))=>rDecodeCO v' (xs.drop u0) w' g
 generalize hD1:CM.decL (xs.drop u0)=D1 at h1u hC1;obtain ⟨e1,u1,cg⟩:=D1;rw [List.length_drop] at h1u;dsimp only at h1u hC1;have h2u:=NM.upd_used (NM.drop_bytes hby (u0+u1));have hC2:=fun v' w' (g:Rd w' v' (xs.drop (u0+u1)))=>ST.rUpdO v' (xs.drop (u0+u1)) w' g
 generalize hD2:NM.upd (xs.drop (u0+u1))=D2 at h2u hC2;obtain ⟨e2,u2,st⟩:=D2;rw [List.length_drop] at h2u;dsimp only at h2u hC2;have h3u:=NM.used_B _ (NM.drop_bytes hby (u0+u1+u2));have hC3:=fun x m v' w' (h:RdMs w' x m) (g:Rd w' v' (xs.drop (u0+u1+u2)))=>rReadB x m v' (xs.drop (u0+u1+u2)) w' h g
 generalize hD3:NM.pB (xs.drop (u0+u1+u2))=D3 at h3u hC3;obtain ⟨e3,u3,bs⟩:=D3;rw [List.length_drop] at h3u;dsimp only at h3u hC3;have HC3:=hid hC3;have HD3:=hid hD3;have HU:=hid (show u0+u1+u2+u3<=xs.length/\xs.length<=9223372036854775807 from ⟨by omega,hxl⟩);have HR:=hid hR;have HM:=hid hM';have HD1:=hid hD1;have HD2:=hid hD2;have HC1:=hid hC1;have HC2:=hid hC2;have HV:=hid hv0;have HRD:Hid (Calls Tryz.prog 39 #[.slice va xs.length vc,.int .i64 3] w0 _):=hrd;clear hv0 hby hxl hw0 hX hZ hb0 hR hrd hml hms hmu hM hM' h1u hC1 hD1 h2u hC2 hD2 h3u hC3 hD3;dsimp only [mv,mcell];go_enter Tryz.func40,Tryz.ntmps40
 go_upto_region 1 with fail
 rw [HW.out];have x0:=HX.out.cells.1;dsimp only at x0;go_wp2_with fail
 refine HRD.out.mono ?_;rintro e w2 (⟨hne,rfl,hb2⟩ | ⟨rfl,lv,rfl,hoh,hb2⟩)
 ·have HX:=hid (HX.out.below hb2);have HZ:=hid (HZ.out.below hb2);have HB:=hid (bnext HB.out hb2);have HRE:=hid (HR.out.trans (NM.pX_e0 HM.out hne));have HE:=hid hne;have hne':(e0 != 0)=true:=bne_t hne;clear hne hb2 x0 HR HM HD1 HD2 HC1 HC2 HRD HW;obtain ⟨C,hC⟩:∃ C,C=mcell ({k:=2,fr,tx}:Ms) ({}:Mv):=⟨_,rfl⟩
  have hx:w2.heap[w.heap.size]? = some (.cells C 33 (0,0)):=by rw [hC];exact HX.out
  have hsz:C.size=18:=by rw [hC];rfl
  have hsc:=run_storeCells_row w2 (w.heap.size+1) 33 _ C HZ.out (by rw [hC];rfl) (by rw [hC];simp [mcell,Value.oneCell']);have HC:=hid hC;clear hC;go_upto_region 6 with fail
  go_wp2_with (refine wpList_load_row rfl 33 _ rfl w.heap.size rfl 33 C (0,0) _ hx Tryz.underlying33 rfl (by rw [hsz];kernel_rfl) ?_)
  refine msgRet3 (m:=({k:=2,fr,tx}:Ms)) (x:=({}:Mv)) rfl rfl rfl rfl (by rw [HC.out];exact HZ.out.put _ _) rfl ⟨({}:Mv),({k:=2,fr,tx}:Ms),0,?_,?_,⟨⟨_,_,_,rfl⟩,⟨_,_,_,rfl⟩,⟨_,_,_,rfl⟩,⟨_,_,_,rfl⟩,⟨_,_,_,rfl⟩,⟨_,_,_,rfl⟩,⟨_,_,_,rfl⟩,⟨_,_,_,rfl⟩,⟨_,_,_,rfl⟩⟩,?_⟩
  ·first | (rw [HRE.out];done) | (rw [HRE.out];rfl)
  ·rw [HRE.out];intro h;exact absurd h HE.out
  ·exact seen HB.out (by omega) (onlyRow _ _ _)
 have HX:=hid (HX.out.below hb2);have HZ:=hid (HZ.out.below hb2);have HB:=hid (bnext HB.out hb2);have HL:=hid hoh;obtain ⟨hda,hdc,rfl⟩:∃ a c,lv = .slice a 3 c:=by obtain ⟨a,c,h,_⟩:=hoh.rd.shape;exact ⟨a,c,h⟩
 obtain ⟨bx0,ox0,hi0,_,hc0⟩:=atI HL.out.rd 0 _ rfl;have hi0:∀ w0,(Instr.indexAt 43 (.slice hda 3 hdc) (.int .i64 0)).run Tryz.prog w0 = .ok (.pointer (some ⟨bx0,ox0,none⟩)) w0:=hi0;obtain ⟨bx1,ox1,hi1,_,hc1⟩:=atI HL.out.rd 1 _ rfl;have hi1:∀ w0,(Instr.indexAt 43 (.slice hda 3 hdc) (.int .i64 1)).run Tryz.prog w0 = .ok (.pointer (some ⟨bx1,ox1,none⟩)) w0:=hi1;obtain ⟨bx2,ox2,hi2,_,hc2⟩:=atI HL.out.rd 2 _ rfl;have hi2:∀ w0,(Instr.indexAt 43 (.slice hda 3 hdc) (.int .i64 2)).run Tryz.prog w0 = .ok (.pointer (some ⟨bx2,ox2,none⟩)) w0:=hi2;clear hc0 hc1 hc2 hoh x0 HRD HW;go_wp2
 refine wp_region_held_drew (S:=fun w'=>OwnI w0.heap.size w' (.slice hda 3 hdc) [p,n,r]) (by kernel_rfl) (HL.out.below (Below.refl _ _).drew) (fun hS0=>?_);have ha:Below w2.heap.size w2 w2.drew:=(Below.refl _ _).drew;replace hS0:OwnI w0.heap.size w2.drew (.slice hda 3 hdc) [p,n,r]:=HL.out.below ha;generalize w2.drew=wa at ha hS0 ⊢;refine takeJ 0 ?_;refine takeJ 3 ?_;refine takeG 1 (v:=?_) ?_ ?_;rotate_left
 ·(intro w hSw;(try dsimp only at hSw);have hcx:=hi0;go_simp;first | done | with_reducible rfl)
 (try simp only [Act.put,lTA,lZ,lS]);refine takeG 4 (v:=?_) ?_ ?_;rotate_left
 ·(intro w hSw;(try dsimp only at hSw);have hcx:=hi1;go_simp;first | done | with_reducible rfl)
 (try simp only [Act.put,lTA,lZ,lS]);refine takeG 2 (v:=?_) ?_ ?_;rotate_left
 ·(intro w hSw;(try dsimp only at hSw);have hcx:=atI_cell hSw.rd 0 _ rfl hi0;go_simp;first | done | with_reducible rfl)
 (try simp only [Act.put,lTA,lZ,lS]);refine takeG 5 (v:=?_) ?_ ?_;rotate_left
 ·(intro w hSw;(try dsimp only at hSw);have hcx:=atI_cell hSw.rd 1 _ rfl hi1;go_simp;first | done | with_reducible rfl)
 (try simp only [Act.put,lTA,lZ,lS]);refine takeJ 6 ?_;refine takeJ 7 ?_;have HXa:=hid (HX.out.below ha);have x3:=HXa.out.cells.2.2.2.1;dsimp only at x3;have f3:=HXa.out.free 3;have x4:=HXa.out.cells.2.2.2.2.1;dsimp only at x4;have f4:=HXa.out.free 4;obtain ⟨w3,hw3⟩:∃ w3,(wa.setCell ⟨w.heap.size,3,none⟩ (.int .i64 p)).setCell ⟨w.heap.size,4,none⟩ (.int .i64 n)=w3:=⟨_,rfl⟩
 have ho3:Only w.heap.size wa w3:=by rw [<- hw3];exact onlyTwo _ _
 have hS1:OwnI w0.heap.size w3 (.slice hda 3 hdc) [p,n,r]:=OwnG.only hS0 ho3 (by have:=HG.out;omega);refine wpAnyH_ready (rs:=[8]) (by kernel_rfl) (by simp) ?_;refine stepH rfl (fun K hK=>?_) AllReadyH.nil;go_simp
 refine hK.out _ _ hS1 (fun _=>?_);clear hK K;(try simp only [Act.put,lTA,lZ,lS]);refine wpAnyH_done (by kernel_rfl) ?_ _;have HX3:=hid (show MB w3 w.heap.size ({k:=2,fr,tx,p,n}:Ms) ({}:Mv) by rw [<- hw3];exact HXa.out.setAcc p n);have HZ3:=hid ((HZ.out.below ha).only ho3 (by omega));have HB3:=hid (seen (bnext HB.out ha) (Nat.le_refl _) ho3);have HL3:=hid hS1;have HS3:=hid (show w0.heap.size<=w3.heap.size by have:=hb2.size;have:=ha.size;have:=ho3.size;omega);clear x3 x4 f3 f4 hw3 ho3 hS0 hS1 ha hb2 HX HZ HB HL HXa;have x5:=HX3.out.cells.2.2.2.2.2.1;dsimp only at x5;have f5:=HX3.out.free 5;have hc2:=atI_cell HL3.out.rd 2 _ rfl hi2;obtain ⟨w4,hw4⟩:∃ w4,w3.setCell ⟨w.heap.size,5,none⟩ (.int .i64 r)=w4:=⟨_,rfl⟩
 have ho4:Only w.heap.size w3 w4:=by rw [<- hw4];exact Only.set 5 _
 have HX4:=hid (show MB w4 w.heap.size ({k:=2,fr,tx,p,n,r}:Ms) ({}:Mv) by rw [<- hw4];exact HX3.out.setRnd r);have HZ4:=hid (HZ3.out.only ho4 (by omega));have HB4:=hid (seen HB3.out (Nat.le_refl _) ho4);have HS4:=hid (show w0.heap.size<=w4.heap.size by have:=HS3.out;have:=ho4.size;omega);have HL4:=hid (OwnG.only HL3.out ho4 (by have:=HG.out;omega));have HW4:=hid hw4;clear hw4 ho4 HX3 HZ3 HB3 HS3 HL3;go_upto_region 9 with fail
 rw [HW4.out];clear x5 f5 hc2 HW4;obtain ⟨w5,hw5⟩:∃ w5,w5=w4:=⟨_,rfl⟩
 have HX5:=HX4;have HZ5:=HZ4;have HB5:=HB4;have HS5:=HS4;rw [<- hw5] at HX5 HZ5 HB5 HS5;go_upto_region 11 with fail
 rw [<- hw5];clear HX4 HZ4 HB4 HS4 HL4 hw5 hi0 hi1 hi2;obtain ⟨v2,hcut,hrd⟩:=(HV.out.below HB5.out).cutL u0 (by have:=HU.out;omega);have HQ:=hid (HC1.out v2 w5 hrd);clear hrd HC1;go_wp2_with fail
 refine HQ.out.mono ?_;rintro e w6 ⟨v6,rfl,ho6,hb6⟩;obtain ⟨ca,cc,rfl,_⟩:=ho6.shape;have HX6:=hid (HX5.out.below hb6);have HZ6:=hid (HZ5.out.below hb6);have HB6:=hid (bnext HB5.out hb6);have HO1:=hid (ho6.mono HS5.out);have HS6:=hid (show w0.heap.size<=w6.heap.size by have:=HS5.out;have:=hb6.size;omega);clear HX5 HZ5 HB5 HS5 HQ hcut ho6 hb6;by_cases he:e1=0
 case neg=>
  have HRE:=hid (HR.out.trans (NM.pX_e1 HM.out HD1.out he));have HE:=hid he;have hne':(e1 != 0)=true:=bne_t he;clear he HR HM HD1 HD2 HC2;obtain ⟨C,hC⟩:∃ C,C=mcell ({k:=2,fr,tx,p,n,r}:Ms) ({}:Mv):=⟨_,rfl⟩
  have hx:w6.heap[w.heap.size]? = some (.cells C 33 (0,0)):=by rw [hC];exact HX6.out
  have hsz:C.size=18:=by rw [hC];rfl
  have hsc:=run_storeCells_row w6 (w.heap.size+1) 33 _ C HZ6.out (by rw [hC];rfl) (by rw [hC];simp [mcell,Value.oneCell']);have HC:=hid hC;clear hC;go_upto_region 13 with fail
  go_wp2_with (refine wpList_load_row rfl 33 _ rfl w.heap.size rfl 33 C (0,0) _ hx Tryz.underlying33 rfl (by rw [hsz];kernel_rfl) ?_)
  refine msgRet3 (m:=({k:=2,fr,tx,p,n,r}:Ms)) (x:=({}:Mv)) rfl rfl rfl rfl (by rw [HC.out];exact HZ6.out.put _ _) rfl ⟨({}:Mv),({k:=2,fr,tx,p,n,r}:Ms),0,?_,?_,⟨⟨_,_,_,rfl⟩,⟨_,_,_,rfl⟩,⟨_,_,_,rfl⟩,⟨_,_,_,rfl⟩,⟨_,_,_,rfl⟩,⟨_,_,_,rfl⟩,⟨_,_,_,rfl⟩,⟨_,_,_,rfl⟩,⟨_,_,_,rfl⟩⟩,?_⟩
  ·first | (rw [HRE.out];done) | (rw [HRE.out];rfl)
  ·rw [HRE.out];intro h;exact absurd h HE.out
  ·exact seen HB6.out (by omega) (onlyRow _ _ _)
 subst he;have hsum1:(u0:Int)+(u1:Int)<=9223372036854775807:=by have:=HU.out;omega
 obtain ⟨v3,hcut0,hrd⟩:=(HV.out.below HB6.out).cutL (u0+u1) (by have:=HU.out;omega);have hcut:∀ w0:World,(Instr.slice 39 (.slice va xs.length vc) (some (.int .i64 ((u0:Int)+(u1:Int)))) none none).run Tryz.prog w0 = .ok v3 w0:=by
  intro w0;have h:=hcut0 w0;rwa [show ((u0+u1:Nat):Int)=(u0:Int)+(u1:Int) by omega] at h
 clear hcut0;have HQ:=hid (HC2.out v3 w6 hrd);clear hrd HC2;go_wp2_with fail
 refine HQ.out.mono ?_;rintro e w7 ⟨v7,rfl,ho7,hb7⟩;obtain ⟨sa,sc,rfl,_⟩:=ho7.rd.shape;have HX7:=hid (HX6.out.below hb7);have HZ7:=hid (HZ6.out.below hb7);have HB7:=hid (bnext HB6.out hb7);have HO1b:=hid (HO1.out.below hb7);have HO2:=hid (ho7.mono HS6.out);have HS7:=hid (show w0.heap.size<=w7.heap.size by have:=HS6.out;have:=hb7.size;omega);clear HX6 HZ6 HB6 HQ hcut ho7 hb7 HO1 HS6;by_cases he:e2=0
 case neg=>
  have HRE:=hid (HR.out.trans (NM.pX_e2 HM.out HD1.out HD2.out he));have HE:=hid he;have hne':(e2 != 0)=true:=bne_t he;clear he HR HM HD1 HD2;obtain ⟨C,hC⟩:∃ C,C=mcell ({k:=2,fr,tx,p,n,r}:Ms) ({}:Mv):=⟨_,rfl⟩
  have hx:w7.heap[w.heap.size]? = some (.cells C 33 (0,0)):=by rw [hC];exact HX7.out
  have hsz:C.size=18:=by rw [hC];rfl
  have hsc:=run_storeCells_row w7 (w.heap.size+1) 33 _ C HZ7.out (by rw [hC];rfl) (by rw [hC];simp [mcell,Value.oneCell']);have HC:=hid hC;clear hC;go_upto_region 17 with fail
  go_wp2_with (refine wpList_load_row rfl 33 _ rfl w.heap.size rfl 33 C (0,0) _ hx Tryz.underlying33 rfl (by rw [hsz];kernel_rfl) ?_)
  refine msgRet3 (m:=({k:=2,fr,tx,p,n,r}:Ms)) (x:=({}:Mv)) rfl rfl rfl rfl (by rw [HC.out];exact HZ7.out.put _ _) rfl ⟨({}:Mv),({k:=2,fr,tx,p,n,r}:Ms),0,?_,?_,⟨⟨_,_,_,rfl⟩,⟨_,_,_,rfl⟩,⟨_,_,_,rfl⟩,⟨_,_,_,rfl⟩,⟨_,_,_,rfl⟩,⟨_,_,_,rfl⟩,⟨_,_,_,rfl⟩,⟨_,_,_,rfl⟩,⟨_,_,_,rfl⟩⟩,?_⟩
  ·first | (rw [HRE.out];done) | (rw [HRE.out];rfl)
  ·rw [HRE.out];intro h;exact absurd h HE.out
  ·exact seen HB7.out (by omega) (onlyRow _ _ _)
 subst he;have hsum2:(u0:Int)+(u1:Int)+(u2:Int)<=9223372036854775807:=by have:=HU.out;omega
 have x14:=HX7.out.cells.2.2.2.2.2.2.2.2.2.2.2.2.2.2.1;dsimp only at x14;have f14:=HX7.out.free 14;have x15:=HX7.out.cells.2.2.2.2.2.2.2.2.2.2.2.2.2.2.2.1;dsimp only at x15;have f15:=HX7.out.free 15;obtain ⟨w8,hw8⟩:∃ w8,(w7.setCell ⟨w.heap.size,14,none⟩ (.slice ca cg.length cc)).setCell ⟨w.heap.size,15,none⟩ (.slice sa st.length sc)=w8:=⟨_,rfl⟩
 have ho8:Only w.heap.size w7 w8:=by rw [<- hw8];exact onlyTwo _ _
 have HX8:=hid (show MB w8 w.heap.size ({k:=2,fr,tx,p,n,r,cg,st}:Ms) ({cg:=.slice ca cg.length cc,st:=.slice sa st.length sc}:Mv) by rw [<- hw8];exact HX7.out.setCgSt cg st _ _);have HZ8:=hid (HZ7.out.only ho8 (by omega));have HB8:=hid (seen HB7.out (Nat.le_refl _) ho8);have HO3:=hid (HO1b.out.only ho8 (by have:=HG.out;omega));have HO4:=hid (HO2.out.only ho8 (by have:=HG.out;omega));have HS8:=hid (show w0.heap.size<=w8.heap.size by have:=HS7.out;have:=ho8.size;omega);have HW8:=hid hw8;clear hw8 ho8 HX7 HZ7 HB7 HO1b HO2 HS7;go_upto_region 21 with fail
 rw [HW8.out];clear x14 x15 f14 f15 HW8;have x0:=HX8.out.cells.1;dsimp only at x0;obtain ⟨v4,hcut0,hrd⟩:=(HV.out.below HB8.out).cutL (u0+u1+u2) (by have:=HU.out;omega);have hcut:∀ w0:World,(Instr.slice 39 (.slice va xs.length vc) (some (.int .i64 ((u0:Int)+(u1:Int)+(u2:Int)))) none none).run Tryz.prog w0 = .ok v4 w0:=by
  intro w0;have h:=hcut0 w0;rwa [show ((u0+u1+u2:Nat):Int)=(u0:Int)+(u1:Int)+(u2:Int) by omega] at h
 clear hcut0;obtain ⟨C,hC⟩:∃ C,C=mcell ({k:=2,fr,tx,p,n,r,cg,st}:Ms) ({cg:=.slice ca cg.length cc,st:=.slice sa st.length sc}:Mv):=⟨_,rfl⟩
 have hsz:C.size=18:=by rw [hC];rfl
 have HC:=hid hC;have tok:True:=trivial;clear hC;go_wp2
 refine wp_region_held_drew (S:=fun _=>True) (by kernel_rfl) trivial (fun _=>?_);have ha:Below w8.heap.size w8 w8.drew:=(Below.refl _ _).drew;generalize w8.drew=wa at ha ⊢;have HXa:=hid (HX8.out.below ha);have HZa:=hid (HZ8.out.below ha);have HBa:=hid (bnext HB8.out ha);have hx:wa.heap[w.heap.size]? = some (.cells C 33 (0,0)):=by rw [HC.out];exact HXa.out
 have HQ:=hid (show Calls Tryz.prog 94 #[.agg C,v4] wa _ by rw [HC.out];exact HC3.out ({cg:=.slice ca cg.length cc,st:=.slice sa st.length sc}:Mv) ({k:=2,fr,tx,p,n,r,cg,st}:Ms) v4 wa (⟨RdF.nil _,RdF.nil _,RdF.nil _,RdF.nil _,RdF.nil _,RdF.nil _,HO3.out.rd.below ha,HO4.out.rd.below ha,VX.RdV.nil _⟩) (hrd.below ha));refine takeJ 1 ?_;refine takeJ 2 ?_;refine takeG 3 (v:=?_) ?_ ?_;rotate_left
 ·(intro w hSw;(try dsimp only at hSw);have hcx:=hcut;go_simp;first | done | with_reducible rfl)
 (try simp only [Act.put,lTA,lZ,lS]);refine wpAnyH_ready (rs:=[0]) (by kernel_rfl) (by simp) ?_;refine stepH rfl (fun K hK=>?_) AllReadyH.nil;rw [if_pos (by rfl)];refine wp_load_row 33 _ rfl w.heap.size rfl 33 C (0,0) _ hx Tryz.underlying33 rfl (by rw [hsz];kernel_rfl) ?_;refine hK.out _ _ trivial (fun _=>?_);clear hK K;(try simp only [Act.put,lTA,lZ,lS]);refine wpAnyH_ready (rs:=[4]) (by kernel_rfl) (by simp) ?_;refine stepH rfl (fun K hK=>?_) AllReadyH.nil;go_simp
 refine HQ.out.mono ?_;rintro e wb ⟨x',m',rfl,hok,hsl,hb9⟩;go_wp2_with fail
 refine hK.out _ _ trivial (fun _=>?_);clear hK K;(try simp only [Act.put,lTA,lZ,lS]);refine takeJ 5 ?_;refine takeJ 6 ?_;refine takeJ 7 ?_;refine takeJ 8 ?_;have hgb:wb.heap[w.heap.size]? = some (.cells C 33 (0,0)):=below_block hx hb9;obtain ⟨w9,hw9⟩:∃ w9,wb.setRow w.heap.size (mcell m' x')=w9:=⟨_,rfl⟩
 refine wpAnyH_ready (rs:=[9]) (by kernel_rfl) (by simp) ?_;refine stepH rfl (fun K hK=>?_) AllReadyH.nil;rw [if_pos (by rfl)];refine wp_store_row 33 _ _ rfl w.heap.size (mcell m' x') rfl rfl 33 C hgb (by kernel_rfl) (by rw [hsz];rfl) hsl.cells ?_;rw [hw9];refine hK.out _ _ trivial (fun _=>?_);clear hK K;refine takeJ 10 ?_;refine takeJ 11 ?_;refine wpAnyH_done (by kernel_rfl) ?_ _;have ho9:Only w.heap.size wb w9:=by rw [<- hw9];exact onlyRow _ _ _
 have HX9:=hid (show MB w9 w.heap.size m' x' by rw [<- hw9];exact setRow_heap _ _ _ _ _ _ hgb);have HZ9:=hid ((HZa.out.below hb9).only ho9 (by omega));have HB9:=hid (seen (bnext HBa.out hb9) (Nat.le_refl _) ho9);have HO9:=hid ho9;have HA:=hid ha;have Hb9:=hid hb9;have HSL:=hid hsl;have HOK:=hid hok;clear hx hgb ho9 ha hb9 hok hw9 HQ HXa HZa hcut hrd hsl HC hsz;have hsum3:(u0:Int)+(u1:Int)+(u2:Int)+(u3:Int)<=9223372036854775807:=by have:=HU.out;omega
 have HRE:Hid (R.1=e3/\(e3=0->R=(0,u0+u1+u2+u3,NM.addB ({k:=2,fr,tx,p,n,r,cg,st}:Ms) bs))):=hid (by
  have hd3:=HD3.out;by_cases q3:e3=0
  ·subst q3;have h:=HR.out.trans (NM.pX_2 HM.out HD1.out HD2.out (by decide) hd3);exact ⟨by rw [h],fun _=>h⟩
  ·have h:=HR.out.trans (NM.pX_e3 HM.out HD1.out HD2.out (by decide) hd3 q3);exact ⟨by rw [h],fun h0=>absurd h0 q3⟩)
 clear HR HM HD1 HD2 HD3 x0 hsum1 hsum2;obtain ⟨C,hC⟩:∃ C,C=mcell m' x':=⟨_,rfl⟩
 have hx:w9.heap[w.heap.size]? = some (.cells C 33 (0,0)):=by rw [hC];exact HX9.out
 have hsz:C.size=18:=by rw [hC];rfl
 have hsc:=run_storeCells_row w9 (w.heap.size+1) 33 _ C HZ9.out (by rw [hC];rfl) (by rw [hC];exact HSL.out.cells);have HC:=hid hC;clear hC;go_wp2_with (refine wpList_load_row rfl 33 _ rfl w.heap.size rfl 33 C (0,0) _ hx Tryz.underlying33 rfl (by rw [hsz];kernel_rfl) ?_)
 refine msgRet3 (m:=m') (x:=x') rfl rfl rfl rfl (by rw [HC.out];exact HZ9.out.put _ _) rfl ⟨x',m',(u0:Int)+(u1:Int)+(u2:Int)+(u3:Int),?_,?_,HSL.out,?_⟩
 ·rw [HRE.out.1]
 ·rw [HRE.out.1];intro h0;have hre:=HRE.out.2 h0;obtain ⟨nb,hm⟩:=HOK.out h0 (by trivial) (by trivial) (by trivial) (by trivial);rw [hre,hm];have hbb:=HA.out;have hgg:=HG.out;have hss:=HS8.out;have hsa:=hbb.size;have q1:w.heap.size<wa.heap.size:=by omega
  have q2:w.heap.size+1<wa.heap.size:=by omega
  rw [hm] at nb;refine ⟨by show (u0:Int)+(u1:Int)+(u2:Int)+(u3:Int)=((u0+u1+u2+u3:Nat):Int);omega,⟨OwnR.of_nil nb.cf,OwnR.of_nil nb.ct,((nb.bf.only HO9.out q1).only (onlyRow _ _ _) q2).mono (by omega),((nb.bt.only HO9.out q1).only (onlyRow _ _ _) q2).mono (by omega),((nb.ef.only HO9.out q1).only (onlyRow _ _ _) q2).mono (by omega),((nb.et.only HO9.out q1).only (onlyRow _ _ _) q2).mono (by omega),?_,?_,?_⟩,rfl⟩
  ·rw [nb.cg];exact (((((HO3.out.below hbb).below Hb9.out).only HO9.out (by omega)).only (onlyRow _ _ _) (by omega)).mono (by omega))
  ·rw [nb.st];exact (((((HO4.out.below hbb).below Hb9.out).only HO9.out (by omega)).only (onlyRow _ _ _) (by omega)).mono (by omega))
  ·rw [nb.hv];exact VX.OwnV.nil _ _
 ·exact seen HB9.out (by omega) (onlyRow _ _ _)
end Go.Proofs.YtahcehbgfhdbjaaGreatDoor

