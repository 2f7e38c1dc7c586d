/-
  NPg NPh: joined texts, what nothing names left out.
-/
import Derived.Test.YtahcehbgfhdbjaaGreatDoorQUA21
set_option maxHeartbeats 8000000
set_option maxRecDepth 100000
open Go.Lib (hid)
namespace Go.Proofs.YtahcehbgfhdbjaaGreatDoor
section
open Go.RowKit
open NM (Ms)
open VM (Ent)
theorem or2 (w:World) (a b:Int):Calls Tryz.prog 36 #[.slice (some ⟨w.heap.size,0,none⟩) 2 2] (w.alloc (.cells #[.int .i64 a,.int .i64 b] 36)) fun e w'=>e = .returned (.int .i64 (orL [a,b]))/\w.alloc (.cells #[.int .i64 a,.int .i64 b] 36)=w':=
 cOrE _ _ _ (rd2e w a b)
theorem cValState (x:Mv) (m:Ms) (w:World) (hT:Tb w) (h:RdMs w x m) (hE:ST.FitN m.st) :
  Calls Tryz.prog 64 #[mv m x] w fun e w'=>e = .returned (.int .i64 (NM.errF m 8))/\Below w.heap.size w w':=by
 rw [NM.errF_8];obtain ⟨k,fr,tx,p,n,r,d,cf,ct,bf,bt,hb,ef,et,cg,st,hv,mo⟩:=m;obtain ⟨s1,s2,s3,s4,s5,s6,s7,s8,s9⟩:=x;obtain ⟨h1,h2,h3,h4,h5,h6,h7,h8,h9⟩:=h;dsimp only at h1 h2 h3 h4 h5 h6 h7 h8 h9;obtain ⟨a1,c1,rfl,_⟩:=h1.shape;obtain ⟨a2,c2,rfl,_⟩:=h2.shape;obtain ⟨a3,c3,rfl,_⟩:=h3.shape;obtain ⟨a4,c4,rfl,_⟩:=h4.shape;obtain ⟨a5,c5,rfl,_⟩:=h5.shape;obtain ⟨a6,c6,rfl,_⟩:=h6.shape;obtain ⟨a7,c7,rfl,_⟩:=h7.shape;obtain ⟨a8,c8,rfl,_⟩:=h8.shape;obtain ⟨a9,c9,rfl,_⟩:=h9.shape;obtain ⟨C,hC⟩:∃ C,C=mcell ({k,fr,tx,p,n,r,d,cf,ct,bf,bt,hb,ef,et,cg,st,hv,mo}:Ms) (⟨.slice a1 cf.length c1,.slice a2 ct.length c2,.slice a3 bf.length c3,.slice a4 bt.length c4,.slice a5 ef.length c5,.slice a6 et.length c6,.slice a7 cg.length c7,.slice a8 st.length c8,.slice a9 hv.length c9⟩:Mv):=⟨_,rfl⟩
 have b1:=below_fresh w (.cells C 33);have hXC:=heap_alloc_new w (.cells C 33);obtain ⟨w0,hw0⟩:∃ z,w.alloc (.cells C 33)=z:=⟨_,rfl⟩
 rw [hw0] at b1 hXC;have hMC:MB w0 w.heap.size ({k,fr,tx,p,n,r,d,cf,ct,bf,bt,hb,ef,et,cg,st,hv,mo}:Ms) (⟨.slice a1 cf.length c1,.slice a2 ct.length c2,.slice a3 bf.length c3,.slice a4 bt.length c4,.slice a5 ef.length c5,.slice a6 et.length c6,.slice a7 cg.length c7,.slice a8 st.length c8,.slice a9 hv.length c9⟩:Mv):=by unfold MB;rw [<- hC];exact hXC
 have hsc:C.size=18:=by rw [hC];rfl
 have HB:=hid b1;have HX:=hid hMC;have HXC:=hid hXC;have HW:=hid hw0;have HCH:=hid (ST.cValChunk _ st w0 (hT.below b1) hE (h8.below b1));have HST:=hid (ST.gValidate _ st w0 (hT.below b1) hE (h8.below b1));have HOR:=hid or2;have HUN:=hid cUnless;obtain ⟨R,hR⟩:∃ R,R=if k=5 then NM.chk st else if SM.errL (0,0) st≠0 then SM.errL (0,0) st else if (k=1/\d=1)/\0<st.length then 2 else 0:=⟨_,rfl⟩
 dsimp only;rw [<- hR];dsimp only [mv];rw [<- hC];clear h1 h2 h3 h4 h5 h6 h7 h8 h9 hC hXC hMC hw0 b1 hT hE;have hL:(st.length:Int)<=9223372036854775807∨True:=Or.inr trivial;clear hL;generalize SM.errL (0,0) st=E at HST hR;generalize NM.chk st=Q at HCH hR;by_cases k5:k=5
 ·have HR:=hid (hR.trans (if_pos k5));subst k5;clear hR HST HOR HUN;go_enter Tryz.func64,Tryz.ntmps64
  go_upto_region 1 with fail
  rw [HW.out];have xs:=HX.out.cells;dsimp only at xs;go_wp2_with fail
  refine HCH.out.mono ?_;rintro e w1 ⟨rfl,hb⟩;have HB1:=hid (bnext HB.out hb);clear hb HCH xs;go_wp2
  go_ret;rw [HR.out];exact ⟨rfl,HB1.out⟩
 have q5:(k==5)=false:=by simp [k5]
 replace hR:=hR.trans (if_neg k5);clear k5 HCH;by_cases k1:k=1
 ·subst k1;by_cases d1:d=1
  ·subst d1;by_cases hl:st.length=0
   ·have HR:=hid (show R=if E≠0 then E else 0 by rw [hR,if_neg (show ¬ (((1:Int)=1/\(1:Int)=1)/\0<st.length) by omega)]);have ql:((st.length:Int)==0)=true:=by simp [hl]
    clear hR hl;go_enter Tryz.func64,Tryz.ntmps64
    go_upto_region 1 with fail
    rw [HW.out];have xs:=HX.out.cells;dsimp only at xs;go_wp2_with fail
    refine HST.out.mono ?_;rintro e w1 ⟨rfl,hb⟩;have HB1:=hid (bnext HB.out hb);replace HX:=hid (HX.out.below hb);clear hb HST xs;have xs:=HX.out.cells;dsimp only at xs;go_wp2_with (first | (go_at_call 59;refine (HUN.out _ _ _).mono ?_;rintro e w2 ⟨rfl,rfl⟩) | (go_at_call 36;refine (HOR.out _ _ _).mono ?_;rintro e w2 ⟨rfl,rfl⟩))
    go_ret;refine ⟨?_,HB1.out.trans ((below_fresh _ _).mono HB1.out.size)⟩;rw [HR.out];by_cases hE:E=0 <;> simp [orL,hE]
   ·have HR:=hid (show R=if E≠0 then E else 2 by rw [hR,if_pos (show ((1:Int)=1/\(1:Int)=1)/\0<st.length from ⟨⟨rfl,rfl⟩,by omega⟩)]);have ql:((st.length:Int)==0)=false:=by simp [hl]
    clear hR hl;go_enter Tryz.func64,Tryz.ntmps64
    go_upto_region 1 with fail
    rw [HW.out];have xs:=HX.out.cells;dsimp only at xs;go_wp2_with fail
    refine HST.out.mono ?_;rintro e w1 ⟨rfl,hb⟩;have HB1:=hid (bnext HB.out hb);replace HX:=hid (HX.out.below hb);clear hb HST xs;have xs:=HX.out.cells;dsimp only at xs;go_wp2_with (first | (go_at_call 59;refine (HUN.out _ _ _).mono ?_;rintro e w2 ⟨rfl,rfl⟩) | (go_at_call 36;refine (HOR.out _ _ _).mono ?_;rintro e w2 ⟨rfl,rfl⟩))
    go_ret;refine ⟨?_,HB1.out.trans ((below_fresh _ _).mono HB1.out.size)⟩;rw [HR.out];by_cases hE:E=0 <;> simp [orL,hE]
  ·have HR:=hid (show R=if E≠0 then E else 0 by rw [hR,if_neg (show ¬ (((1:Int)=1/\d=1)/\0<st.length) from fun h=>d1 h.1.2)]);have qd:(d==1)=false:=by simp [d1]
   clear hR d1;go_enter Tryz.func64,Tryz.ntmps64
   go_upto_region 1 with fail
   rw [HW.out];have xs:=HX.out.cells;dsimp only at xs;go_wp2_with fail
   refine HST.out.mono ?_;rintro e w1 ⟨rfl,hb⟩;have HB1:=hid (bnext HB.out hb);replace HX:=hid (HX.out.below hb);clear hb HST xs;have xs:=HX.out.cells;dsimp only at xs;go_wp2_with (first | (go_at_call 59;refine (HUN.out _ _ _).mono ?_;rintro e w2 ⟨rfl,rfl⟩) | (go_at_call 36;refine (HOR.out _ _ _).mono ?_;rintro e w2 ⟨rfl,rfl⟩))
   go_ret;refine ⟨?_,HB1.out.trans ((below_fresh _ _).mono HB1.out.size)⟩;rw [HR.out];by_cases hE:E=0 <;> simp [orL,hE]
 ·have HR:=hid (show R=if E≠0 then E else 0 by rw [hR,if_neg (show ¬ ((k=1/\d=1)/\0<st.length) from fun h=>k1 h.1.1)]);have qk:(k==1)=false:=by simp [k1]
  clear hR k1;go_enter Tryz.func64,Tryz.ntmps64
  go_upto_region 1 with fail
  rw [HW.out];have xs:=HX.out.cells;dsimp only at xs;go_wp2_with fail
  refine HST.out.mono ?_;rintro e w1 ⟨rfl,hb⟩;have HB1:=hid (bnext HB.out hb);replace HX:=hid (HX.out.below hb);clear hb HST xs;have xs:=HX.out.cells;dsimp only at xs;go_wp2_with (first | (go_at_call 59;refine (HUN.out _ _ _).mono ?_;rintro e w2 ⟨rfl,rfl⟩) | (go_at_call 36;refine (HOR.out _ _ _).mono ?_;rintro e w2 ⟨rfl,rfl⟩))
  go_ret;refine ⟨?_,HB1.out.trans ((below_fresh _ _).mono HB1.out.size)⟩;rw [HR.out];by_cases hE:E=0 <;> simp [orL,hE]
theorem cValF (x:Mv) (m:Ms) (f:Int) (w:World) (hT:Tb w) (h:RdMs w x m) (hE:ST.FitN m.st) (hf:0<=f/\f<=10) :
  Calls Tryz.prog 22 #[mv m x,.int .i64 f] w fun e w'=>e = .returned (.int .i64 (NM.errF m f))/\Below w.heap.size w w':=by
 have HSV:=hid (fun w' (g:Below w.heap.size w w')=>cValState x m w' (hT.below g) (h.below g) hE);obtain ⟨k,fr,tx,p,n,r,d,cf,ct,bf,bt,hb,ef,et,cg,st,hv,mo⟩:=m;obtain ⟨s1,s2,s3,s4,s5,s6,s7,s8,s9⟩:=x;obtain ⟨h1,h2,h3,h4,h5,h6,h7,h8,h9⟩:=h;dsimp only at h1 h2 h3 h4 h5 h6 h7 h8 h9;obtain ⟨a1,c1,rfl,_⟩:=h1.shape;obtain ⟨a2,c2,rfl,_⟩:=h2.shape;obtain ⟨a3,c3,rfl,_⟩:=h3.shape;obtain ⟨a4,c4,rfl,_⟩:=h4.shape;obtain ⟨a5,c5,rfl,_⟩:=h5.shape;obtain ⟨a6,c6,rfl,_⟩:=h6.shape;obtain ⟨a7,c7,rfl,_⟩:=h7.shape;obtain ⟨a8,c8,rfl,_⟩:=h8.shape;obtain ⟨a9,c9,rfl,_⟩:=h9.shape;obtain ⟨C,hC⟩:∃ C,C=mcell ({k,fr,tx,p,n,r,d,cf,ct,bf,bt,hb,ef,et,cg,st,hv,mo}:Ms) (⟨.slice a1 cf.length c1,.slice a2 ct.length c2,.slice a3 bf.length c3,.slice a4 bt.length c4,.slice a5 ef.length c5,.slice a6 et.length c6,.slice a7 cg.length c7,.slice a8 st.length c8,.slice a9 hv.length c9⟩:Mv):=⟨_,rfl⟩
 have b1:=below_fresh w (.cells C 33);have hXC:=heap_alloc_new w (.cells C 33);obtain ⟨w0,hw0⟩:∃ z,w.alloc (.cells C 33)=z:=⟨_,rfl⟩
 rw [hw0] at b1 hXC;have hMC:MB w0 w.heap.size ({k,fr,tx,p,n,r,d,cf,ct,bf,bt,hb,ef,et,cg,st,hv,mo}:Ms) (⟨.slice a1 cf.length c1,.slice a2 ct.length c2,.slice a3 bf.length c3,.slice a4 bt.length c4,.slice a5 ef.length c5,.slice a6 et.length c6,.slice a7 cg.length c7,.slice a8 st.length c8,.slice a9 hv.length c9⟩:Mv):=by unfold MB;rw [<- hC];exact hXC
 have hsc:C.size=18:=by rw [hC];rfl
 have HB:=hid b1;have HX:=hid hMC;have HXC:=hid hXC;have HW:=hid hw0;have HAC:=hid (cValAcc p n);have HIR:=hid (cInRange r);have HUN:=hid cUnless;have HOR:=hid or2;have HCC:=hid (fun w' (g:Below w0.heap.size w0 w')=>pValidate _ _ cf ct w' ((h1.below b1).below g) ((h2.below b1).below g));have HBC:=hid (fun w' (g:Below w0.heap.size w0 w')=>pValidate _ _ bf bt w' ((h3.below b1).below g) ((h4.below b1).below g));have HBQ:=hid (fun w' (g:Below w0.heap.size w0 w')=>cEqCe _ _ (.slice none 0 0) (.slice none 0 0) bf bt [] [] w' ((h3.below b1).below g) ((h4.below b1).below g) (RdF.nil _) (RdF.nil _));have HEC:=hid (fun w' (g:Below w0.heap.size w0 w')=>pValidate _ _ ef et w' ((h5.below b1).below g) ((h6.below b1).below g));have HCG:=hid (fun w' (g:Below w0.heap.size w0 w')=>gValidate _ cg w' ((h7.below b1).below g));have HHV:=hid (fun w' (g:Below w0.heap.size w0 w')=>VX.wValidate _ hv w' ((h9.below b1).below g));replace HSV:=hid (HSV.out w0 b1);dsimp only [mv] at HSV ⊢;rw [<- hC] at HSV ⊢;have hemp:NM.emp bf bt=(decide (bf = []) && decide (bt = [])):=by unfold NM.emp;rw [Bool.eq_iff_iff];simp
 clear h1 h2 h3 h4 h5 h6 h7 h8 h9 hC hXC hMC hw0 b1 hT hE;have HRF:=hid (Below.refl w0.heap.size w0);rcases fld_cases hf with e | e | e | e | e | e | e | e | e | e | e <;> subst e
 ·rw [NM.errF_0];try dsimp only
  clear HSV HIR HUN HOR HCC HBC HBQ HEC HCG HHV hemp hf;have he:(if (UM.isCl p=true∨JM.isAdm p=true)/\1<=n/\n<=1000000 then 0 else 9)=NM.accE p n:=rfl;rw [he];clear he;go_enter Tryz.func22,Tryz.ntmps22
  go_upto_region 1 with fail
  rw [HW.out];obtain ⟨x0,x1,x2,x3,x4,x5,x6,x7,x8,x9,x10,x11,x12,x13,x14,x15,x16,x17⟩:=HX.out.cells;dsimp only at x0 x1 x2 x3 x4 x5 x6 x7 x8 x9 x10 x11 x12 x13 x14 x15 x16 x17;go_wp2_with fail
  refine (HAC.out _).mono ?_;rintro e w1 ⟨rfl,hb⟩;have HB1:=hid (bnext HB.out hb);clear hb HAC x0 x1 x2 x3 x4 x5 x6 x7 x8 x9 x10 x11 x12 x13 x14 x15 x16 x17;go_wp2
  go_ret;exact ⟨rfl,HB1.out⟩
 ·rw [NM.errF_1];try dsimp only
  clear HSV HAC HOR HCC HBC HBQ HEC HCG HHV hemp hf;have he:(if 1<=r/\r<=1000000 then (0:Int) else 9)=if decide (1<=r/\r<=1000000)=true then 0 else 9:=by simp
  rw [he];clear he;generalize decide (1<=r/\r<=1000000)=B at HIR ⊢;cases B
  all_goals
   go_enter Tryz.func22,Tryz.ntmps22
   go_upto_region 1 with fail
   rw [HW.out];obtain ⟨x0,x1,x2,x3,x4,x5,x6,x7,x8,x9,x10,x11,x12,x13,x14,x15,x16,x17⟩:=HX.out.cells;dsimp only at x0 x1 x2 x3 x4 x5 x6 x7 x8 x9 x10 x11 x12 x13 x14 x15 x16 x17;go_wp2_with (first | (go_at_call 60;refine (HIR.out _).mono ?_;rintro e w1 ⟨rfl,rfl⟩) | (go_at_call 59;refine (HUN.out _ _ _).mono ?_;rintro e w1 ⟨rfl,rfl⟩))
   go_ret;exact ⟨rfl,HB.out⟩
 ·rw [NM.errF_2];try dsimp only
  clear HSV HAC HIR HOR HCC HBC HBQ HEC HCG HHV hemp hf;by_cases d1:1<=d
  ·by_cases d3:d<=3
   ·rw [if_pos ⟨d1,d3⟩];go_enter Tryz.func22,Tryz.ntmps22
    go_upto_region 1 with fail
    rw [HW.out];obtain ⟨x0,x1,x2,x3,x4,x5,x6,x7,x8,x9,x10,x11,x12,x13,x14,x15,x16,x17⟩:=HX.out.cells;dsimp only at x0 x1 x2 x3 x4 x5 x6 x7 x8 x9 x10 x11 x12 x13 x14 x15 x16 x17;go_wp2_with (go_at_call 59;refine (HUN.out _ _ _).mono ?_;rintro e w1 ⟨rfl,rfl⟩)
    go_ret;exact ⟨rfl,HB.out⟩
   ·rw [if_neg (fun h=>d3 h.2)];have hd:decide (d<=3)=false:=decide_eq_false d3;go_enter Tryz.func22,Tryz.ntmps22
    go_upto_region 1 with fail
    rw [HW.out];obtain ⟨x0,x1,x2,x3,x4,x5,x6,x7,x8,x9,x10,x11,x12,x13,x14,x15,x16,x17⟩:=HX.out.cells;dsimp only at x0 x1 x2 x3 x4 x5 x6 x7 x8 x9 x10 x11 x12 x13 x14 x15 x16 x17;go_wp2_with (go_at_call 59;refine (HUN.out _ _ _).mono ?_;rintro e w1 ⟨rfl,rfl⟩)
    go_ret;exact ⟨rfl,HB.out⟩
  ·rw [if_neg (fun h=>d1 h.1)];have d2:d<1:=by omega
   clear d1;go_enter Tryz.func22,Tryz.ntmps22
   go_upto_region 1 with fail
   rw [HW.out];obtain ⟨x0,x1,x2,x3,x4,x5,x6,x7,x8,x9,x10,x11,x12,x13,x14,x15,x16,x17⟩:=HX.out.cells;dsimp only at x0 x1 x2 x3 x4 x5 x6 x7 x8 x9 x10 x11 x12 x13 x14 x15 x16 x17;go_wp2_with (go_at_call 59;refine (HUN.out _ _ _).mono ?_;rintro e w1 ⟨rfl,rfl⟩)
   go_ret;exact ⟨rfl,HB.out⟩
 ·rw [NM.errF_3];try dsimp only
  clear HSV HAC HIR HUN HOR HBC HBQ HEC HCG HHV hemp hf;go_enter Tryz.func22,Tryz.ntmps22
  go_upto_region 1 with fail
  rw [HW.out];obtain ⟨x0,x1,x2,x3,x4,x5,x6,x7,x8,x9,x10,x11,x12,x13,x14,x15,x16,x17⟩:=HX.out.cells;dsimp only at x0 x1 x2 x3 x4 x5 x6 x7 x8 x9 x10 x11 x12 x13 x14 x15 x16 x17;go_wp2_with fail
  refine (HCC.out w0 HRF.out).mono ?_;rintro e w1 ⟨rfl,hb⟩;have HB1:=hid (bnext HB.out hb);clear hb HCC x0 x1 x2 x3 x4 x5 x6 x7 x8 x9 x10 x11 x12 x13 x14 x15 x16 x17;go_wp2
  go_ret;exact ⟨rfl,HB1.out⟩
 ·rw [NM.errF_4];try dsimp only
  clear HSV HAC HIR HCC HEC HCG HHV hf;rw [hemp];clear hemp;generalize (decide (bf = []) && decide (bt = []))=P at HBQ ⊢;generalize CM.errC bf bt=E at HBC ⊢;cases hb
  ·cases P
   ·skip
    have HU1:Hid (∀ w,Calls Tryz.prog 59 #[.bool false,.int .i64 2] w fun e w'=>e = .returned (.int .i64 2)/\w=w'):=fun w=>cUnless false 2 w
    go_enter Tryz.func22,Tryz.ntmps22
    go_upto_region 11 with fail
    rw [HW.out];obtain ⟨x0,x1,x2,x3,x4,x5,x6,x7,x8,x9,x10,x11,x12,x13,x14,x15,x16,x17⟩:=HX.out.cells;dsimp only at x0 x1 x2 x3 x4 x5 x6 x7 x8 x9 x10 x11 x12 x13 x14 x15 x16 x17;refine wp_region_held_drew (S:=fun w'=>Below w0.heap.size w0 w') (by kernel_rfl) ((Below.refl _ _).drew) (fun ha=>?_);replace ha:Below w0.heap.size w0 w0.drew:=(Below.refl _ _).drew;generalize w0.drew=wa at ha ⊢;refine takeJ 0 ?_;refine takeJ 9 ?_;refine takeG 1 (v:=?_) ?_ ?_;rotate_left
    ·(intro w hSw;(try dsimp only at hSw);have hcx:=below_cell hSw x11;go_simp;first | done | with_reducible rfl)
    (try simp only [Act.put,lTA,lZ,lS]);refine takeG 10 (v:=?_) ?_ ?_;rotate_left
    ·(intro w hSw;(try dsimp only at hSw);have hcx:=below_cell hSw x9 ;have hcy:=below_cell hSw x10;go_simp;first | done | with_reducible rfl)
    (try simp only [Act.put,lTA,lZ,lS]);refine takeJ 2 ?_;refine takeJ 3 ?_;refine takeJ 5 ?_;refine takeG 4 (v:=?_) ?_ ?_;rotate_left
    ·(intro w hSw;(try dsimp only at hSw);have hcx:=below_cell hSw x9 ;have hcy:=below_cell hSw x10;go_simp;first | done | with_reducible rfl)
    (try simp only [Act.put,lTA,lZ,lS]);refine wpAnyH_ready (rs:=[6]) (by kernel_rfl) (by simp) ?_;refine stepH rfl (fun K hK=>?_) AllReadyH.nil;go_simp
    refine (HBQ.out wa ha).mono ?_;rintro e wb ⟨rfl,hq⟩;have hb:=bnext ha hq;go_wp2_with fail
    refine hK.out _ _ (hb) (fun _=>?_);clear hK K;(try simp only [Act.put,lTA,lZ,lS]);refine takeJ 7 ?_;refine wpAnyH_ready (rs:=[8]) (by kernel_rfl) (by simp) ?_;refine stepH rfl (fun K hK=>?_) AllReadyH.nil;go_simp
    refine (HU1.out _).mono ?_;rintro e w9 ⟨rfl,rfl⟩;go_wp2_with fail
    refine hK.out _ _ (hb) (fun _=>?_);clear hK K;(try simp only [Act.put,lTA,lZ,lS]);refine wpAnyH_ready (rs:=[11]) (by kernel_rfl) (by simp) ?_;refine stepH rfl (fun K hK=>?_) AllReadyH.nil;go_simp
    refine (HBC.out wb hb).mono ?_;rintro e wc ⟨rfl,hq⟩;have hc:=bnext hb hq;go_wp2_with fail
    refine hK.out _ _ (hc) (fun _=>?_);clear hK K;(try simp only [Act.put,lTA,lZ,lS]);refine wpAnyH_ready (rs:=[12]) (by kernel_rfl) (by simp) ?_;refine stepH rfl (fun K hK=>?_) AllReadyH.nil;go_simp
    have hd:=bnext hc (below_fresh _ (.cells #[.int .i64 2,.int .i64 E] 36));have hrd:=rd2e wc 2 E;refine hK.out _ _ (hd) (fun _=>?_);clear hK K;(try simp only [Act.put,lTA,lZ,lS]);obtain ⟨wd ,hwd ⟩:∃ wd ,(wc).alloc (.cells #[.int .i64 2,.int .i64 E] 36)=wd :=⟨_,rfl⟩
    rw [hwd ] at hd hrd ⊢;clear hwd;refine wpAnyH_ready (rs:=[13]) (by kernel_rfl) (by simp) ?_;refine stepH rfl (fun K hK=>?_) AllReadyH.nil;go_simp
    refine (cOrE _ _ wd hrd).mono ?_;rintro e w9 ⟨rfl,rfl⟩;go_wp2_with fail
    refine hK.out _ _ (hd) (fun _=>?_);clear hK K;(try simp only [Act.put,lTA,lZ,lS]);refine takeJ 14 ?_;refine wpAnyH_done (by kernel_rfl) ?_ _;have HBZ:=hid (bnext HB.out hd);go_wp2
    go_ret;refine ⟨?_,HBZ.out⟩;simp [orL]
   ·skip
    have HU1:Hid (∀ w,Calls Tryz.prog 59 #[.bool true,.int .i64 2] w fun e w'=>e = .returned (.int .i64 0)/\w=w'):=fun w=>cUnless true 2 w
    go_enter Tryz.func22,Tryz.ntmps22
    go_upto_region 11 with fail
    rw [HW.out];obtain ⟨x0,x1,x2,x3,x4,x5,x6,x7,x8,x9,x10,x11,x12,x13,x14,x15,x16,x17⟩:=HX.out.cells;dsimp only at x0 x1 x2 x3 x4 x5 x6 x7 x8 x9 x10 x11 x12 x13 x14 x15 x16 x17;refine wp_region_held_drew (S:=fun w'=>Below w0.heap.size w0 w') (by kernel_rfl) ((Below.refl _ _).drew) (fun ha=>?_);replace ha:Below w0.heap.size w0 w0.drew:=(Below.refl _ _).drew;generalize w0.drew=wa at ha ⊢;refine takeJ 0 ?_;refine takeJ 9 ?_;refine takeG 1 (v:=?_) ?_ ?_;rotate_left
    ·(intro w hSw;(try dsimp only at hSw);have hcx:=below_cell hSw x11;go_simp;first | done | with_reducible rfl)
    (try simp only [Act.put,lTA,lZ,lS]);refine takeG 10 (v:=?_) ?_ ?_;rotate_left
    ·(intro w hSw;(try dsimp only at hSw);have hcx:=below_cell hSw x9 ;have hcy:=below_cell hSw x10;go_simp;first | done | with_reducible rfl)
    (try simp only [Act.put,lTA,lZ,lS]);refine takeJ 2 ?_;refine takeJ 3 ?_;refine takeJ 5 ?_;refine takeG 4 (v:=?_) ?_ ?_;rotate_left
    ·(intro w hSw;(try dsimp only at hSw);have hcx:=below_cell hSw x9 ;have hcy:=below_cell hSw x10;go_simp;first | done | with_reducible rfl)
    (try simp only [Act.put,lTA,lZ,lS]);refine wpAnyH_ready (rs:=[6]) (by kernel_rfl) (by simp) ?_;refine stepH rfl (fun K hK=>?_) AllReadyH.nil;go_simp
    refine (HBQ.out wa ha).mono ?_;rintro e wb ⟨rfl,hq⟩;have hb:=bnext ha hq;go_wp2_with fail
    refine hK.out _ _ (hb) (fun _=>?_);clear hK K;(try simp only [Act.put,lTA,lZ,lS]);refine takeJ 7 ?_;refine wpAnyH_ready (rs:=[8]) (by kernel_rfl) (by simp) ?_;refine stepH rfl (fun K hK=>?_) AllReadyH.nil;go_simp
    refine (HU1.out _).mono ?_;rintro e w9 ⟨rfl,rfl⟩;go_wp2_with fail
    refine hK.out _ _ (hb) (fun _=>?_);clear hK K;(try simp only [Act.put,lTA,lZ,lS]);refine wpAnyH_ready (rs:=[11]) (by kernel_rfl) (by simp) ?_;refine stepH rfl (fun K hK=>?_) AllReadyH.nil;go_simp
    refine (HBC.out wb hb).mono ?_;rintro e wc ⟨rfl,hq⟩;have hc:=bnext hb hq;go_wp2_with fail
    refine hK.out _ _ (hc) (fun _=>?_);clear hK K;(try simp only [Act.put,lTA,lZ,lS]);refine wpAnyH_ready (rs:=[12]) (by kernel_rfl) (by simp) ?_;refine stepH rfl (fun K hK=>?_) AllReadyH.nil;go_simp
    have hd:=bnext hc (below_fresh _ (.cells #[.int .i64 0,.int .i64 E] 36));have hrd:=rd2e wc 0 E;refine hK.out _ _ (hd) (fun _=>?_);clear hK K;(try simp only [Act.put,lTA,lZ,lS]);obtain ⟨wd ,hwd ⟩:∃ wd ,(wc).alloc (.cells #[.int .i64 0,.int .i64 E] 36)=wd :=⟨_,rfl⟩
    rw [hwd ] at hd hrd ⊢;clear hwd;refine wpAnyH_ready (rs:=[13]) (by kernel_rfl) (by simp) ?_;refine stepH rfl (fun K hK=>?_) AllReadyH.nil;go_simp
    refine (cOrE _ _ wd hrd).mono ?_;rintro e w9 ⟨rfl,rfl⟩;go_wp2_with fail
    refine hK.out _ _ (hd) (fun _=>?_);clear hK K;(try simp only [Act.put,lTA,lZ,lS]);refine takeJ 14 ?_;refine wpAnyH_done (by kernel_rfl) ?_ _;have HBZ:=hid (bnext HB.out hd);go_wp2
    go_ret;refine ⟨?_,HBZ.out⟩;by_cases hE:E=0 <;> simp [orL,hE]
  ·skip
   have HU1:Hid (∀ w,Calls Tryz.prog 59 #[.bool true,.int .i64 2] w fun e w'=>e = .returned (.int .i64 0)/\w=w'):=fun w=>cUnless true 2 w
   go_enter Tryz.func22,Tryz.ntmps22
   go_upto_region 11 with fail
   rw [HW.out];obtain ⟨x0,x1,x2,x3,x4,x5,x6,x7,x8,x9,x10,x11,x12,x13,x14,x15,x16,x17⟩:=HX.out.cells;dsimp only at x0 x1 x2 x3 x4 x5 x6 x7 x8 x9 x10 x11 x12 x13 x14 x15 x16 x17;refine wp_region_held_drew (S:=fun w'=>Below w0.heap.size w0 w') (by kernel_rfl) ((Below.refl _ _).drew) (fun ha=>?_);replace ha:Below w0.heap.size w0 w0.drew:=(Below.refl _ _).drew;generalize w0.drew=wa at ha ⊢;refine takeJ 0 ?_;refine takeJ 9 ?_;refine takeG 1 (v:=?_) ?_ ?_;rotate_left
   ·(intro w hSw;(try dsimp only at hSw);have hcx:=below_cell hSw x11;go_simp;first | done | with_reducible rfl)
   (try simp only [Act.put,lTA,lZ,lS]);refine takeG 10 (v:=?_) ?_ ?_;rotate_left
   ·(intro w hSw;(try dsimp only at hSw);have hcx:=below_cell hSw x9 ;have hcy:=below_cell hSw x10;go_simp;first | done | with_reducible rfl)
   (try simp only [Act.put,lTA,lZ,lS]);refine takeJ 2 ?_;refine takeH (i:=3) (v:=undef) rfl (by kernel_rfl) (by kernel_rfl) (by kernel_rfl) (fun _ _ _ h=>h) (Or.inr ⟨by rfl,by rfl⟩) (by assumption) ?_;(try simp only [Act.put,lTA,lZ,lS]);refine takeH (i:=4) (v:=undef) rfl (by kernel_rfl) (by kernel_rfl) (by kernel_rfl) (fun _ _ _ h=>h) (Or.inr ⟨by rfl,by rfl⟩) (by assumption) ?_;(try simp only [Act.put,lTA,lZ,lS]);refine takeH (i:=5) (v:=undef) rfl (by kernel_rfl) (by kernel_rfl) (by kernel_rfl) (fun _ _ _ h=>h) (Or.inr ⟨by rfl,by rfl⟩) (by assumption) ?_;(try simp only [Act.put,lTA,lZ,lS]);refine takeH (i:=6) (v:=undef) rfl (by kernel_rfl) (by kernel_rfl) (by kernel_rfl) (fun _ _ _ h=>h) (Or.inr ⟨by rfl,by rfl⟩) (by assumption) ?_;(try simp only [Act.put,lTA,lZ,lS]);refine takeJ 7 ?_;refine wpAnyH_ready (rs:=[8]) (by kernel_rfl) (by simp) ?_;refine stepH rfl (fun K hK=>?_) AllReadyH.nil;go_simp
   refine (HU1.out _).mono ?_;rintro e w9 ⟨rfl,rfl⟩;go_wp2_with fail
   refine hK.out _ _ (ha) (fun _=>?_);clear hK K;(try simp only [Act.put,lTA,lZ,lS]);refine wpAnyH_ready (rs:=[11]) (by kernel_rfl) (by simp) ?_;refine stepH rfl (fun K hK=>?_) AllReadyH.nil;go_simp
   refine (HBC.out wa ha).mono ?_;rintro e wb ⟨rfl,hq⟩;have hb:=bnext ha hq;go_wp2_with fail
   refine hK.out _ _ (hb) (fun _=>?_);clear hK K;(try simp only [Act.put,lTA,lZ,lS]);refine wpAnyH_ready (rs:=[12]) (by kernel_rfl) (by simp) ?_;refine stepH rfl (fun K hK=>?_) AllReadyH.nil;go_simp
   have hc:=bnext hb (below_fresh _ (.cells #[.int .i64 0,.int .i64 E] 36));have hrd:=rd2e wb 0 E;refine hK.out _ _ (hc) (fun _=>?_);clear hK K;(try simp only [Act.put,lTA,lZ,lS]);obtain ⟨wc ,hwc ⟩:∃ wc ,(wb).alloc (.cells #[.int .i64 0,.int .i64 E] 36)=wc :=⟨_,rfl⟩
   rw [hwc ] at hc hrd ⊢;clear hwc;refine wpAnyH_ready (rs:=[13]) (by kernel_rfl) (by simp) ?_;refine stepH rfl (fun K hK=>?_) AllReadyH.nil;go_simp
   refine (cOrE _ _ wc hrd).mono ?_;rintro e w9 ⟨rfl,rfl⟩;go_wp2_with fail
   refine hK.out _ _ (hc) (fun _=>?_);clear hK K;(try simp only [Act.put,lTA,lZ,lS]);refine takeJ 14 ?_;refine wpAnyH_done (by kernel_rfl) ?_ _;have HBZ:=hid (bnext HB.out hc);go_wp2
   go_ret;refine ⟨?_,HBZ.out⟩;by_cases hE:E=0 <;> simp [orL,hE]
 ·rw [NM.errF_5];try dsimp only
  clear HSV HAC HIR HUN HOR HCC HBC HBQ HEC HCG HHV hemp hf;go_enter Tryz.func22,Tryz.ntmps22
  go_upto_region 1 with fail
  rw [HW.out];obtain ⟨x0,x1,x2,x3,x4,x5,x6,x7,x8,x9,x10,x11,x12,x13,x14,x15,x16,x17⟩:=HX.out.cells;dsimp only at x0 x1 x2 x3 x4 x5 x6 x7 x8 x9 x10 x11 x12 x13 x14 x15 x16 x17;go_wp2
  go_ret;exact ⟨rfl,HB.out⟩
 ·rw [NM.errF_6];try dsimp only
  clear HSV HAC HIR HUN HOR HCC HBC HBQ HCG HHV hemp hf;go_enter Tryz.func22,Tryz.ntmps22
  go_upto_region 1 with fail
  rw [HW.out];obtain ⟨x0,x1,x2,x3,x4,x5,x6,x7,x8,x9,x10,x11,x12,x13,x14,x15,x16,x17⟩:=HX.out.cells;dsimp only at x0 x1 x2 x3 x4 x5 x6 x7 x8 x9 x10 x11 x12 x13 x14 x15 x16 x17;go_wp2_with fail
  refine (HEC.out w0 HRF.out).mono ?_;rintro e w1 ⟨rfl,hb⟩;have HB1:=hid (bnext HB.out hb);clear hb HEC x0 x1 x2 x3 x4 x5 x6 x7 x8 x9 x10 x11 x12 x13 x14 x15 x16 x17;go_wp2
  go_ret;exact ⟨rfl,HB1.out⟩
 ·rw [NM.errF_7];try dsimp only
  clear HSV HAC HIR HUN HOR HCC HBC HBQ HEC HHV hemp hf;go_enter Tryz.func22,Tryz.ntmps22
  go_upto_region 1 with fail
  rw [HW.out];obtain ⟨x0,x1,x2,x3,x4,x5,x6,x7,x8,x9,x10,x11,x12,x13,x14,x15,x16,x17⟩:=HX.out.cells;dsimp only at x0 x1 x2 x3 x4 x5 x6 x7 x8 x9 x10 x11 x12 x13 x14 x15 x16 x17;go_wp2_with fail
  refine (HCG.out w0 HRF.out).mono ?_;rintro e w1 ⟨rfl,hb⟩;have HB1:=hid (bnext HB.out hb);clear hb HCG x0 x1 x2 x3 x4 x5 x6 x7 x8 x9 x10 x11 x12 x13 x14 x15 x16 x17;go_wp2
  go_ret;exact ⟨rfl,HB1.out⟩
 ·skip
  clear HAC HIR HUN HOR HCC HBC HBQ HEC HCG HHV hemp hf;go_enter Tryz.func22,Tryz.ntmps22
  go_upto_region 1 with fail
  rw [HW.out];obtain ⟨x0,x1,x2,x3,x4,x5,x6,x7,x8,x9,x10,x11,x12,x13,x14,x15,x16,x17⟩:=HX.out.cells;dsimp only at x0 x1 x2 x3 x4 x5 x6 x7 x8 x9 x10 x11 x12 x13 x14 x15 x16 x17;go_wp2_with (refine wpList_load_rowG rfl 33 _ rfl w.heap.size rfl 33 C (0,0) _ HXC.out Tryz.underlying33 rfl (by rw [hsc];kernel_rfl) ?_)
  refine HSV.out.mono ?_;rintro e w1 ⟨rfl,hb⟩;have HB1:=hid (bnext HB.out hb);clear hb HSV x0 x1 x2 x3 x4 x5 x6 x7 x8 x9 x10 x11 x12 x13 x14 x15 x16 x17;go_wp2
  go_ret;exact ⟨rfl,HB1.out⟩
 ·rw [NM.errF_9];try dsimp only
  clear HSV HAC HIR HUN HOR HCC HBC HBQ HEC HCG hemp hf;go_enter Tryz.func22,Tryz.ntmps22
  go_upto_region 1 with fail
  rw [HW.out];obtain ⟨x0,x1,x2,x3,x4,x5,x6,x7,x8,x9,x10,x11,x12,x13,x14,x15,x16,x17⟩:=HX.out.cells;dsimp only at x0 x1 x2 x3 x4 x5 x6 x7 x8 x9 x10 x11 x12 x13 x14 x15 x16 x17;go_wp2_with fail
  refine (HHV.out w0 HRF.out).mono ?_;rintro e w1 ⟨rfl,hb⟩;have HB1:=hid (bnext HB.out hb);clear hb HHV x0 x1 x2 x3 x4 x5 x6 x7 x8 x9 x10 x11 x12 x13 x14 x15 x16 x17;go_wp2
  go_ret;exact ⟨rfl,HB1.out⟩
 ·rw [NM.errF_10];try dsimp only
  clear HSV HAC HIR HUN HOR HCC HBC HBQ HEC HCG HHV hemp hf;go_enter Tryz.func22,Tryz.ntmps22
  go_upto_region 1 with fail
  rw [HW.out];obtain ⟨x0,x1,x2,x3,x4,x5,x6,x7,x8,x9,x10,x11,x12,x13,x14,x15,x16,x17⟩:=HX.out.cells;dsimp only at x0 x1 x2 x3 x4 x5 x6 x7 x8 x9 x10 x11 x12 x13 x14 x15 x16 x17;go_wp2
  go_ret;exact ⟨rfl,HB.out⟩
end
section
open Go.RowKit
open NM (Ms)
theorem usd_range {k f:Int} (h:f∈NM.usd k):0<=f/\f<=10:=by
 unfold NM.usd at h;(repeat' split at h) <;> simp only [List.mem_cons,List.mem_nil_iff,or_false] at h <;> omega
theorem usd_len (k:Int):(NM.usd k).length<=7:=by
 unfold NM.usd;(repeat' split) <;> simp
theorem pValidateM (x:Mv) (m:Ms) (w:World) (hT:Tb w) (h:RdMs w x m) (hE:ST.FitN m.st) (hk:NM.I64 m.k) :
  Calls Tryz.prog 9 #[mv m x] w fun e w'=>e = .returned (.int .i64 (NM.errM m))/\Below w.heap.size w w':=by
 obtain ⟨C,hC⟩:∃ C,C=mcell m x:=⟨_,rfl⟩
 have hsc:C.size=18:=by rw [hC];rfl
 have b1:=below_fresh w (.cells C 33);have hXC:=heap_alloc_new w (.cells C 33);obtain ⟨w0,hw0⟩:∃ z,w.alloc (.cells C 33)=z:=⟨_,rfl⟩
 rw [hw0] at b1 hXC;have HX:=hid (show MB w0 w.heap.size m x by unfold MB;rw [<- hC];exact hXC);have HXC:=hid hXC;have HB:=hid b1;have HW:=hid hw0;have HFD:=hid (cFields m.k w0 hk);have HP:=hid cIsProc;have HHO:=hid (fun (v:Value) (us:List Int) w' (g:Below w0.heap.size w0 w') (hv:RdI w' v us)=>(show Calls Tryz.prog 21 #[.agg C,v] w' _ by rw [hC];exact cHasOnly x m v us w' (h.below (bnext b1 g)) hv));have HVF:=hid (fun (f:Int) w' (g:Below w0.heap.size w0 w') (hf:0<=f/\f<=10)=>(show Calls Tryz.prog 22 #[.agg C,.int .i64 f] w' _ by rw [hC];exact cValF x m f w' (hT.below (bnext b1 g)) (h.below (bnext b1 g)) hE hf));obtain ⟨R,hR⟩:∃ R,R=NM.errM m:=⟨_,rfl⟩
 rw [<- hR];rw [NM.errM_fld] at hR;have HUR:=hid (fun (f:Int) (hf:f∈NM.usd m.k)=>usd_range hf);have HUL:=hid (usd_len m.k);show Calls Tryz.prog 9 #[.agg (mcell m x)] w _
 rw [<- hC];generalize NM.usd m.k=us at HFD hR HUR HUL;generalize NM.kn m.k=K at HFD hR;have P1:=HP.out m.fr;have P2:=HP.out m.tx;generalize NM.proc m.fr=A at P1 hR;generalize NM.proc m.tx=B at P2 hR;have HP1:=hid P1;have HP2:=hid P2;clear hT h hE hk b1 hXC hw0 hC HP P1 P2;go_enter Tryz.func9,Tryz.ntmps9
 go_upto_region 1 with fail
 rw [HW.out];obtain ⟨x0,x1,x2,_⟩:=HX.out.cells;go_wp2_with fail
 refine HFD.out.mono ?_;rintro e w1 ⟨v,rfl,hv,hb⟩;replace hv:=hv.rd;have HB1:=hid hb;have HX1:=hid (HX.out.below hb);have HXC1:=below_block HXC.out hb;have HV:=hid hv;clear x0 x1 x2 HFD hb HW;obtain ⟨x0,x1,x2,_⟩:=HX1.out.cells;obtain ⟨va,vc,rfl,_,_⟩:=hv.shape;clear hv;cases K
 ·have HR:=hid (hR.trans (if_pos rfl));clear hR;go_wp2
  go_ret;rw [HR.out];exact ⟨rfl,bnext HB.out HB1.out⟩
 replace hR:=hR.trans (if_neg (by decide));cases A
 ·have HR:=hid (hR.trans (if_pos (.inl rfl)));clear hR;go_wp2_with (go_at_call 20;refine (HP1.out _).mono ?_;rintro e w2 ⟨rfl,rfl⟩)
  go_ret;rw [HR.out];exact ⟨rfl,bnext HB.out HB1.out⟩
 cases B
 ·have HR:=hid (hR.trans (if_pos (.inr rfl)));clear hR;go_wp2_with fail
  refine (HP1.out _).mono ?_;rintro e w2 ⟨rfl,rfl⟩;go_wp2_with fail
  refine (HP2.out _).mono ?_;rintro e w2 ⟨rfl,rfl⟩;go_wp2
  go_ret;rw [HR.out];exact ⟨rfl,bnext HB.out HB1.out⟩
 replace hR:=hR.trans (if_neg (by simp));have HO:=hid (HHO.out _ us w1 HB1.out HV.out);generalize NM.hasO m us=O at HO hR;clear HHO;go_wp2_with fail
 refine (HP1.out _).mono ?_;rintro e w2 ⟨rfl,rfl⟩;go_wp2_with fail
 refine (HP2.out _).mono ?_;rintro e w2 ⟨rfl,rfl⟩;clear HP1 HP2;go_wp2_with (refine wpList_load_rowG rfl 33 _ rfl w.heap.size rfl 33 C (0,0) _ HXC1 Tryz.underlying33 rfl (by rw [hsc];kernel_rfl) ?_)
 refine HO.out.mono ?_;rintro e w2 ⟨rfl,hb⟩;have HB2:=hid (bnext HB1.out hb);have HV2:=hid (HV.out.below hb);clear x0 x1 x2 HXC1 hb HO HB1 HX1 HX;cases O
 ·have HR:=hid (hR.trans (if_pos rfl));clear hR;go_wp2
  go_ret;rw [HR.out];exact ⟨rfl,bnext HB.out HB2.out⟩
 have HR:=hid (hR.trans (if_neg (by decide)));clear hR HV;have hul:=HUL.out;have hul2:(us.length:Int)<=7:=by omega
 go_wp2
 go_loopw [35] (fun i wr=>∃ j:Nat,j<=us.length/\i = .int .i64 j/\Hid (Below w2.heap.size w2 wr)/\Hid (R=NM.errs m (us.drop j))) (fun i _=>us.length - (intOf i).toNat)
 case atStart=>exact ⟨0,Nat.zero_le _,rfl,Below.refl _ _,HR.out⟩
 case round=>
  obtain ⟨j,hj,rfl,hbl,he⟩:=hrel;clear HR;by_cases hlt:j<us.length
  ·have hq:(j:Int)<(us.length:Int):=by omega
   have hk2:=List.getElem?_eq_getElem hlt;have hd:=drop_get hlt;have hfr:=HUR.out _ (List.mem_of_getElem? hk2);generalize us[j]=f at hk2 hd hfr;have e1:=hid (show R=if NM.errF m f≠0 then NM.errF m f else NM.errs m (us.drop (j+1)) by rw [he.out,hd];rfl);obtain ⟨b,o,hi,hbw,c0⟩:=atF (HV2.out.below hbl.out) j f hk2;have hX1:=below_block HXC.out (bnext HB2.out hbl.out);have HQ:=hid (HVF.out f wr (bnext HB2.out hbl.out) hfr);generalize NM.errF m f=E at HQ e1;clear he hk2 hd hfr;go_wp2_with (refine wpList_load_rowG rfl 33 _ rfl w.heap.size rfl 33 C (0,0) _ hX1 Tryz.underlying33 rfl (by rw [hsc];kernel_rfl) ?_)
   refine HQ.out.mono ?_;rintro e w3 ⟨rfl,hb⟩;have HB3:=hid (bnext hbl.out hb);clear hb HQ hX1 c0 hi hbw hbl;by_cases hE:E=0
   ·subst hE;have e2:=hid (e1.out.trans (if_neg (by simp)));clear e1;go_wp2
    go_roundw
    case rel=>exact ⟨j+1,by omega,by go_num,HB3,e2⟩
    case measure=>simp [intOf];omega
   ·have e2:=hid (e1.out.trans (if_pos hE));have hne:(E != 0)=true:=bne_t hE;clear e1 hE;go_wp2
    go_ret;rw [e2.out];exact ⟨rfl,bnext HB.out (bnext HB2.out HB3.out)⟩
  ·have hq:¬ ((j:Int)<(us.length:Int)):=by omega
   have e2:=hid (show R=0 by rw [he.out,List.drop_of_length_le (by omega)];rfl);clear he;go_wp2
   go_ret;rw [e2.out];exact ⟨rfl,bnext HB.out (bnext HB2.out hbl.out)⟩
end
end Go.Proofs.YtahcehbgfhdbjaaGreatDoor

