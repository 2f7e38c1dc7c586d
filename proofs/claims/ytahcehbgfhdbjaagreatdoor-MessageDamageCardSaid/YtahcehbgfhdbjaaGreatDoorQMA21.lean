/-
  NRef2 NRef3: joined texts, what nothing names left out.
-/
import Derived.Test.YtahcehbgfhdbjaaGreatDoorQMA11
import Derived.Test.YtahcehbgfhdbjaaGreatDoorQMA19
set_option maxHeartbeats 8000000
set_option maxRecDepth 100000
open Go.Lib (hid)
namespace Go.Proofs.YtahcehbgfhdbjaaGreatDoor
section
open Go.RowKit
open NM (Ms)
open VM (Ent)
theorem rUnused (x:Mv) (m:Ms) (w:World) (h:RdMs w x m) :
  Calls Tryz.prog 24 #[mv m x] w fun e w'=>e = .returned (.bool (!NM.bad m))/\Below w.heap.size w w':=by
 obtain ⟨k,fr,tx,p,n,r,d,cf,ct,bf,bt,hb,ef,et,cg,st,hv,mo⟩:=m;obtain ⟨s1,s2,s3,s4,s5,s6,s7,s8,s9⟩:=x;obtain ⟨h1,h2,h3,h4,h5,h6,h7,h8,h9⟩:=h;dsimp only at h1 h2 h3 h4 h5 h6 h7 h8 h9;obtain ⟨a1,c1,rfl,_⟩:=h1.shape;obtain ⟨a2,c2,rfl,_⟩:=h2.shape;obtain ⟨a3,c3,rfl,_⟩:=h3.shape;obtain ⟨a4,c4,rfl,_⟩:=h4.shape;obtain ⟨a5,c5,rfl,_⟩:=h5.shape;obtain ⟨a6,c6,rfl,_⟩:=h6.shape;obtain ⟨a7,c7,rfl,_⟩:=h7.shape;obtain ⟨a8,c8,rfl,_⟩:=h8.shape;obtain ⟨a9,c9,rfl,_⟩:=h9.shape;have hb0:=below_fresh w (.cells #[.int .i64 k,.int .i64 fr,.int .i64 tx,.int .i64 p,.int .i64 n,.int .i64 r,.int .i64 d,.slice a1 cf.length c1,.slice a2 ct.length c2,.slice a3 bf.length c3,.slice a4 bt.length c4,.bool hb,.slice a5 ef.length c5,.slice a6 et.length c6,.slice a7 cg.length c7,.slice a8 st.length c8,.slice a9 hv.length c9,.bool mo] 33);obtain ⟨w0,hw0⟩:∃ w0,w.alloc (.cells #[.int .i64 k,.int .i64 fr,.int .i64 tx,.int .i64 p,.int .i64 n,.int .i64 r,.int .i64 d,.slice a1 cf.length c1,.slice a2 ct.length c2,.slice a3 bf.length c3,.slice a4 bt.length c4,.bool hb,.slice a5 ef.length c5,.slice a6 et.length c6,.slice a7 cg.length c7,.slice a8 st.length c8,.slice a9 hv.length c9,.bool mo] 33)=w0:=⟨_,rfl⟩
 have hX:MB w0 w.heap.size ({k,fr,tx,p,n,r,d,cf,ct,bf,bt,hb,ef,et,cg,st,hv,mo}:Ms) (⟨.slice a1 cf.length c1,.slice a2 ct.length c2,.slice a3 bf.length c3,.slice a4 bt.length c4,.slice a5 ef.length c5,.slice a6 et.length c6,.slice a7 cg.length c7,.slice a8 st.length c8,.slice a9 hv.length c9⟩:Mv):=by rw [<- hw0];exact MB.fresh w ({k,fr,tx,p,n,r,d,cf,ct,bf,bt,hb,ef,et,cg,st,hv,mo}:Ms) (⟨.slice a1 cf.length c1,.slice a2 ct.length c2,.slice a3 bf.length c3,.slice a4 bt.length c4,.slice a5 ef.length c5,.slice a6 et.length c6,.slice a7 cg.length c7,.slice a8 st.length c8,.slice a9 hv.length c9⟩:Mv)
 rw [hw0] at hb0;have HX:=hid hX;have HB:=hid hb0;have HW:=hid hw0;replace h1:=h1.below hb0;replace h2:=h2.below hb0;replace h3:=h3.below hb0;replace h4:=h4.below hb0;replace h5:=h5.below hb0;replace h6:=h6.below hb0;replace h7:=h7.below hb0;replace h8:=h8.below hb0;replace h9:=h9.below hb0;obtain ⟨R,hR⟩:∃ R,R = !NM.bad ({k,fr,tx,p,n,r,d,cf,ct,bf,bt,hb,ef,et,cg,st,hv,mo}:Ms):=⟨_,rfl⟩
 rw [<- hR];unfold NM.bad at hR;dsimp only at hR;have HE1:=hid (fun w' (g:Below w0.heap.size w0 w')=>rEmp _ _ bf bt w' (h3.below g) (h4.below g));have HE2:=hid (fun w' (g:Below w0.heap.size w0 w')=>rEmp _ _ ef et w' (h5.below g) (h6.below g));have HE3:=hid (fun w' (g:Below w0.heap.size w0 w')=>rEmp _ _ cf ct w' (h1.below g) (h2.below g));generalize NM.emp bf bt=E1 at hR HE1;generalize NM.emp ef et=E2 at hR HE2;generalize NM.emp cf ct=E3 at hR HE3;have hgm:Tryz.prog.eqGuardType Tryz.prog.depth 23=false:=by kernel_rfl
 clear h1 h2 h3 h4 h5 h6 h7 h8 h9 hb0 hX hw0;dsimp only [mv,mcell];by_cases n1:k=1
 case pos=>
  subst n1;have HRR:=hid hR;clear hR;go_enter Tryz.func24,Tryz.ntmps24
  go_upto_region 1 with fail
  rw [HW.out];have xs:=HX.out.cells;dsimp only at xs;go_wp2_with fail
  refine (rUsed1 w0).mono ?_;rintro e w1 ⟨rfl,hb1⟩;clear xs;have hfr:=below_fresh w1 (.cells #[.bool true,.bool true,.bool true,.bool true,.bool true,.bool false,.bool false,.bool false,.bool false] 106);have hY:=FB.fresh w1 true true true true true false false false false;obtain ⟨w2,hw2⟩:∃ w2,w1.alloc (.cells #[.bool true,.bool true,.bool true,.bool true,.bool true,.bool false,.bool false,.bool false,.bool false] 106)=w2:=⟨_,rfl⟩
  rw [hw2] at hfr hY;have HBW:=hid (bnext hb1 hfr);replace HX:=hid (HX.out.below HBW.out);have HY:=hid hY;have HW2:=hid hw2;clear hfr hY hw2 hb1;go_upto_region 2 with fail
  rw [HW2.out];have xs:=HX.out.cells;dsimp only at xs;obtain ⟨y0,y1,y2,y3,y4,y5,y6,y7,y8⟩:=HY.out.cells;by_cases qhv:0<hv.length
  case pos=>
   have ghv:(0:Int)<(hv.length:Int):=by omega
   have HR:=hid (show R=false by rw [HRR.out];simp [NM.uA,NM.uM,NM.uS,NM.uB,NM.uC,NM.uH,NM.uO,qhv]);clear HRR;go_wp2
   go_ret;rw [HR.out];exact ⟨rfl,bnext HB.out HBW.out⟩
  have ghv:¬ (0:Int)<(hv.length:Int):=by omega
  have Qhv:=hid (eq_false qhv);rcases Bool.eq_false_or_eq_true mo with rfl | rfl
  ·have HR:=hid (show R=false by rw [HRR.out];simp [NM.uA,NM.uM,NM.uS,NM.uB,NM.uC,NM.uH,NM.uO,Qhv.out]);clear HRR;go_wp2
   go_ret;rw [HR.out];exact ⟨rfl,bnext HB.out HBW.out⟩
  rcases Bool.eq_false_or_eq_true hb with rfl | rfl
  ·have HR:=hid (show R=false by rw [HRR.out];simp [NM.uA,NM.uM,NM.uS,NM.uB,NM.uC,NM.uH,NM.uO,Qhv.out]);clear HRR;go_wp2
   go_ret;rw [HR.out];exact ⟨rfl,bnext HB.out HBW.out⟩
  go_wp2_with fail
  refine (HE1.out w2 HBW.out).mono ?_;rintro e w3 ⟨rfl,hb1⟩;clear xs;clear y0 y1 y2 y3 y4 y5 y6 y7 y8;replace HX:=hid (HX.out.below hb1);replace HY:=hid (HY.out.below hb1);replace HBW:=hid (bnext HBW.out hb1);clear hb1;have xs:=HX.out.cells;dsimp only at xs;obtain ⟨y0,y1,y2,y3,y4,y5,y6,y7,y8⟩:=HY.out.cells;rcases Bool.eq_false_or_eq_true E1 with rfl | rfl
  rotate_left
  ·have HR:=hid (show R=false by rw [HRR.out];simp [NM.uA,NM.uM,NM.uS,NM.uB,NM.uC,NM.uH,NM.uO,Qhv.out]);clear HRR;go_wp2
   go_ret;rw [HR.out];exact ⟨rfl,bnext HB.out HBW.out⟩
  go_wp2_with fail
  refine (HE2.out w3 HBW.out).mono ?_;rintro e w4 ⟨rfl,hb1⟩;clear xs;clear y0 y1 y2 y3 y4 y5 y6 y7 y8;replace HX:=hid (HX.out.below hb1);replace HY:=hid (HY.out.below hb1);replace HBW:=hid (bnext HBW.out hb1);clear hb1;have xs:=HX.out.cells;dsimp only at xs;obtain ⟨y0,y1,y2,y3,y4,y5,y6,y7,y8⟩:=HY.out.cells;rcases Bool.eq_false_or_eq_true E2 with rfl | rfl
  rotate_left
  ·have HR:=hid (show R=false by rw [HRR.out];simp [NM.uA,NM.uM,NM.uS,NM.uB,NM.uC,NM.uH,NM.uO,Qhv.out]);clear HRR;go_wp2
   go_ret;rw [HR.out];exact ⟨rfl,bnext HB.out HBW.out⟩
  go_wp2_with fail
  refine (HE3.out w4 HBW.out).mono ?_;rintro e w5 ⟨rfl,hb1⟩;clear xs;clear y0 y1 y2 y3 y4 y5 y6 y7 y8;replace HX:=hid (HX.out.below hb1);replace HY:=hid (HY.out.below hb1);replace HBW:=hid (bnext HBW.out hb1);clear hb1;have xs:=HX.out.cells;dsimp only at xs;obtain ⟨y0,y1,y2,y3,y4,y5,y6,y7,y8⟩:=HY.out.cells;rcases Bool.eq_false_or_eq_true E3 with rfl | rfl
  rotate_left
  ·have HR:=hid (show R=false by rw [HRR.out];simp [NM.uA,NM.uM,NM.uS,NM.uB,NM.uC,NM.uH,NM.uO,Qhv.out]);clear HRR;go_wp2
   go_ret;rw [HR.out];exact ⟨rfl,bnext HB.out HBW.out⟩
  have HR:=hid (show R=true by rw [HRR.out];simp [NM.uA,NM.uM,NM.uS,NM.uB,NM.uC,NM.uH,NM.uO,Qhv.out]);clear HRR;go_wp2
  go_ret;rw [HR.out];exact ⟨rfl,bnext HB.out HBW.out⟩
 by_cases n2:k=2
 case pos=>
  subst n2;have HRR:=hid hR;clear hR;go_enter Tryz.func24,Tryz.ntmps24
  go_upto_region 1 with fail
  rw [HW.out];have xs:=HX.out.cells;dsimp only at xs;go_wp2_with fail
  refine (rUsed2 w0).mono ?_;rintro e w1 ⟨rfl,hb1⟩;clear xs;have hfr:=below_fresh w1 (.cells #[.bool true,.bool true,.bool false,.bool true,.bool true,.bool true,.bool false,.bool false,.bool false] 106);have hY:=FB.fresh w1 true true false true true true false false false;obtain ⟨w2,hw2⟩:∃ w2,w1.alloc (.cells #[.bool true,.bool true,.bool false,.bool true,.bool true,.bool true,.bool false,.bool false,.bool false] 106)=w2:=⟨_,rfl⟩
  rw [hw2] at hfr hY;have HBW:=hid (bnext hb1 hfr);replace HX:=hid (HX.out.below HBW.out);have HY:=hid hY;have HW2:=hid hw2;clear hfr hY hw2 hb1;go_upto_region 2 with fail
  rw [HW2.out];have xs:=HX.out.cells;dsimp only at xs;obtain ⟨y0,y1,y2,y3,y4,y5,y6,y7,y8⟩:=HY.out.cells;by_cases qd:d=0
  case neg=>
   have gd:(d != 0)=true:=bne_t qd;have HR:=hid (show R=false by rw [HRR.out];simp [NM.uA,NM.uM,NM.uS,NM.uB,NM.uC,NM.uH,NM.uO,qd]);clear HRR;go_wp2
   go_ret;rw [HR.out];exact ⟨rfl,bnext HB.out HBW.out⟩
  subst qd;by_cases qhv:0<hv.length
  case pos=>
   have ghv:(0:Int)<(hv.length:Int):=by omega
   have HR:=hid (show R=false by rw [HRR.out];simp [NM.uA,NM.uM,NM.uS,NM.uB,NM.uC,NM.uH,NM.uO,qhv]);clear HRR;go_wp2
   go_ret;rw [HR.out];exact ⟨rfl,bnext HB.out HBW.out⟩
  have ghv:¬ (0:Int)<(hv.length:Int):=by omega
  have Qhv:=hid (eq_false qhv);rcases Bool.eq_false_or_eq_true mo with rfl | rfl
  ·have HR:=hid (show R=false by rw [HRR.out];simp [NM.uA,NM.uM,NM.uS,NM.uB,NM.uC,NM.uH,NM.uO,Qhv.out]);clear HRR;go_wp2
   go_ret;rw [HR.out];exact ⟨rfl,bnext HB.out HBW.out⟩
  go_wp2_with fail
  refine (HE3.out w2 HBW.out).mono ?_;rintro e w3 ⟨rfl,hb1⟩;clear xs;clear y0 y1 y2 y3 y4 y5 y6 y7 y8;replace HX:=hid (HX.out.below hb1);replace HY:=hid (HY.out.below hb1);replace HBW:=hid (bnext HBW.out hb1);clear hb1;have xs:=HX.out.cells;dsimp only at xs;obtain ⟨y0,y1,y2,y3,y4,y5,y6,y7,y8⟩:=HY.out.cells;rcases Bool.eq_false_or_eq_true E3 with rfl | rfl
  rotate_left
  ·have HR:=hid (show R=false by rw [HRR.out];simp [NM.uA,NM.uM,NM.uS,NM.uB,NM.uC,NM.uH,NM.uO,Qhv.out]);clear HRR;go_wp2
   go_ret;rw [HR.out];exact ⟨rfl,bnext HB.out HBW.out⟩
  have HR:=hid (show R=true by rw [HRR.out];simp [NM.uA,NM.uM,NM.uS,NM.uB,NM.uC,NM.uH,NM.uO,Qhv.out]);clear HRR;go_wp2
  go_ret;rw [HR.out];exact ⟨rfl,bnext HB.out HBW.out⟩
 by_cases n4:k=4
 case pos=>
  subst n4;have HRR:=hid hR;clear hR;go_enter Tryz.func24,Tryz.ntmps24
  go_upto_region 1 with fail
  rw [HW.out];have xs:=HX.out.cells;dsimp only at xs;go_wp2_with fail
  refine (rUsed4 w0).mono ?_;rintro e w1 ⟨rfl,hb1⟩;clear xs;have hfr:=below_fresh w1 (.cells #[.bool false,.bool false,.bool false,.bool false,.bool false,.bool false,.bool true,.bool true,.bool false] 106);have hY:=FB.fresh w1 false false false false false false true true false;obtain ⟨w2,hw2⟩:∃ w2,w1.alloc (.cells #[.bool false,.bool false,.bool false,.bool false,.bool false,.bool false,.bool true,.bool true,.bool false] 106)=w2:=⟨_,rfl⟩
  rw [hw2] at hfr hY;have HBW:=hid (bnext hb1 hfr);replace HX:=hid (HX.out.below HBW.out);have HY:=hid hY;have HW2:=hid hw2;clear hfr hY hw2 hb1;go_upto_region 2 with fail
  rw [HW2.out];have xs:=HX.out.cells;dsimp only at xs;obtain ⟨y0,y1,y2,y3,y4,y5,y6,y7,y8⟩:=HY.out.cells;by_cases q1:p=0/\n=0
  case neg=>
   have hneq:∀ w0:World,(binOp .neq 23 (.agg #[.int .i64 p,.int .i64 n]) (.agg #[.int .i64 0,.int .i64 0])).run Tryz.prog w0 = .ok (.bool true) w0:=fun w0=>by rw [neq_acc,decide_eq_false q1];rfl
   have HR:=hid (show R=false by rw [HRR.out];simp [NM.uA,NM.uM,NM.uS,NM.uB,NM.uC,NM.uH,NM.uO,q1]);clear HRR;go_wp2
   go_ret;rw [HR.out];exact ⟨rfl,bnext HB.out HBW.out⟩
  have hneq:∀ w0:World,(binOp .neq 23 (.agg #[.int .i64 p,.int .i64 n]) (.agg #[.int .i64 0,.int .i64 0])).run Tryz.prog w0 = .ok (.bool false) w0:=fun w0=>by rw [neq_acc,decide_eq_true q1];rfl
  obtain ⟨rfl,rfl⟩:=q1;by_cases qr:r=0
  case neg=>
   have gr:(r != 0)=true:=bne_t qr;have HR:=hid (show R=false by rw [HRR.out];simp [NM.uA,NM.uM,NM.uS,NM.uB,NM.uC,NM.uH,NM.uO,qr]);clear HRR;go_wp2
   go_ret;rw [HR.out];exact ⟨rfl,bnext HB.out HBW.out⟩
  subst qr;by_cases qd:d=0
  case neg=>
   have gd:(d != 0)=true:=bne_t qd;have HR:=hid (show R=false by rw [HRR.out];simp [NM.uA,NM.uM,NM.uS,NM.uB,NM.uC,NM.uH,NM.uO,qd]);clear HRR;go_wp2
   go_ret;rw [HR.out];exact ⟨rfl,bnext HB.out HBW.out⟩
  subst qd;by_cases qcg:0<cg.length
  case pos=>
   have gcg:(0:Int)<(cg.length:Int):=by omega
   have HR:=hid (show R=false by rw [HRR.out];simp [NM.uA,NM.uM,NM.uS,NM.uB,NM.uC,NM.uH,NM.uO,qcg]);clear HRR;go_wp2
   go_ret;rw [HR.out];exact ⟨rfl,bnext HB.out HBW.out⟩
  have gcg:¬ (0:Int)<(cg.length:Int):=by omega
  have Qcg:=hid (eq_false qcg);by_cases qst:0<st.length
  case pos=>
   have gst:(0:Int)<(st.length:Int):=by omega
   have HR:=hid (show R=false by rw [HRR.out];simp [NM.uA,NM.uM,NM.uS,NM.uB,NM.uC,NM.uH,NM.uO,Qcg.out,qst]);clear HRR;go_wp2
   go_ret;rw [HR.out];exact ⟨rfl,bnext HB.out HBW.out⟩
  have gst:¬ (0:Int)<(st.length:Int):=by omega
  have Qst:=hid (eq_false qst);rcases Bool.eq_false_or_eq_true mo with rfl | rfl
  ·have HR:=hid (show R=false by rw [HRR.out];simp [NM.uA,NM.uM,NM.uS,NM.uB,NM.uC,NM.uH,NM.uO,Qcg.out,Qst.out]);clear HRR;go_wp2
   go_ret;rw [HR.out];exact ⟨rfl,bnext HB.out HBW.out⟩
  rcases Bool.eq_false_or_eq_true hb with rfl | rfl
  ·have HR:=hid (show R=false by rw [HRR.out];simp [NM.uA,NM.uM,NM.uS,NM.uB,NM.uC,NM.uH,NM.uO,Qcg.out,Qst.out]);clear HRR;go_wp2
   go_ret;rw [HR.out];exact ⟨rfl,bnext HB.out HBW.out⟩
  go_wp2_with fail
  refine (HE1.out w2 HBW.out).mono ?_;rintro e w3 ⟨rfl,hb1⟩;clear xs;clear y0 y1 y2 y3 y4 y5 y6 y7 y8;replace HX:=hid (HX.out.below hb1);replace HY:=hid (HY.out.below hb1);replace HBW:=hid (bnext HBW.out hb1);clear hb1;have xs:=HX.out.cells;dsimp only at xs;obtain ⟨y0,y1,y2,y3,y4,y5,y6,y7,y8⟩:=HY.out.cells;rcases Bool.eq_false_or_eq_true E1 with rfl | rfl
  rotate_left
  ·have HR:=hid (show R=false by rw [HRR.out];simp [NM.uA,NM.uM,NM.uS,NM.uB,NM.uC,NM.uH,NM.uO,Qcg.out,Qst.out]);clear HRR;go_wp2
   go_ret;rw [HR.out];exact ⟨rfl,bnext HB.out HBW.out⟩
  go_wp2_with fail
  refine (HE2.out w3 HBW.out).mono ?_;rintro e w4 ⟨rfl,hb1⟩;clear xs;clear y0 y1 y2 y3 y4 y5 y6 y7 y8;replace HX:=hid (HX.out.below hb1);replace HY:=hid (HY.out.below hb1);replace HBW:=hid (bnext HBW.out hb1);clear hb1;have xs:=HX.out.cells;dsimp only at xs;obtain ⟨y0,y1,y2,y3,y4,y5,y6,y7,y8⟩:=HY.out.cells;rcases Bool.eq_false_or_eq_true E2 with rfl | rfl
  rotate_left
  ·have HR:=hid (show R=false by rw [HRR.out];simp [NM.uA,NM.uM,NM.uS,NM.uB,NM.uC,NM.uH,NM.uO,Qcg.out,Qst.out]);clear HRR;go_wp2
   go_ret;rw [HR.out];exact ⟨rfl,bnext HB.out HBW.out⟩
  have HR:=hid (show R=true by rw [HRR.out];simp [NM.uA,NM.uM,NM.uS,NM.uB,NM.uC,NM.uH,NM.uO,Qcg.out,Qst.out]);clear HRR;go_wp2
  go_ret;rw [HR.out];exact ⟨rfl,bnext HB.out HBW.out⟩
 by_cases n5:k=5
 case pos=>
  subst n5;have HRR:=hid hR;clear hR;go_enter Tryz.func24,Tryz.ntmps24
  go_upto_region 1 with fail
  rw [HW.out];have xs:=HX.out.cells;dsimp only at xs;go_wp2_with fail
  refine (rUsed5 w0).mono ?_;rintro e w1 ⟨rfl,hb1⟩;clear xs;have hfr:=below_fresh w1 (.cells #[.bool false,.bool false,.bool false,.bool false,.bool true,.bool true,.bool true,.bool false,.bool true] 106);have hY:=FB.fresh w1 false false false false true true true false true;obtain ⟨w2,hw2⟩:∃ w2,w1.alloc (.cells #[.bool false,.bool false,.bool false,.bool false,.bool true,.bool true,.bool true,.bool false,.bool true] 106)=w2:=⟨_,rfl⟩
  rw [hw2] at hfr hY;have HBW:=hid (bnext hb1 hfr);replace HX:=hid (HX.out.below HBW.out);have HY:=hid hY;have HW2:=hid hw2;clear hfr hY hw2 hb1;go_upto_region 2 with fail
  rw [HW2.out];have xs:=HX.out.cells;dsimp only at xs;obtain ⟨y0,y1,y2,y3,y4,y5,y6,y7,y8⟩:=HY.out.cells;by_cases q1:p=0/\n=0
  case neg=>
   have hneq:∀ w0:World,(binOp .neq 23 (.agg #[.int .i64 p,.int .i64 n]) (.agg #[.int .i64 0,.int .i64 0])).run Tryz.prog w0 = .ok (.bool true) w0:=fun w0=>by rw [neq_acc,decide_eq_false q1];rfl
   have HR:=hid (show R=false by rw [HRR.out];simp [NM.uA,NM.uM,NM.uS,NM.uB,NM.uC,NM.uH,NM.uO,q1]);clear HRR;go_wp2
   go_ret;rw [HR.out];exact ⟨rfl,bnext HB.out HBW.out⟩
  have hneq:∀ w0:World,(binOp .neq 23 (.agg #[.int .i64 p,.int .i64 n]) (.agg #[.int .i64 0,.int .i64 0])).run Tryz.prog w0 = .ok (.bool false) w0:=fun w0=>by rw [neq_acc,decide_eq_true q1];rfl
  obtain ⟨rfl,rfl⟩:=q1;by_cases qr:r=0
  case neg=>
   have gr:(r != 0)=true:=bne_t qr;have HR:=hid (show R=false by rw [HRR.out];simp [NM.uA,NM.uM,NM.uS,NM.uB,NM.uC,NM.uH,NM.uO,qr]);clear HRR;go_wp2
   go_ret;rw [HR.out];exact ⟨rfl,bnext HB.out HBW.out⟩
  subst qr;by_cases qd:d=0
  case neg=>
   have gd:(d != 0)=true:=bne_t qd;have HR:=hid (show R=false by rw [HRR.out];simp [NM.uA,NM.uM,NM.uS,NM.uB,NM.uC,NM.uH,NM.uO,qd]);clear HRR;go_wp2
   go_ret;rw [HR.out];exact ⟨rfl,bnext HB.out HBW.out⟩
  subst qd;by_cases qcg:0<cg.length
  case pos=>
   have gcg:(0:Int)<(cg.length:Int):=by omega
   have HR:=hid (show R=false by rw [HRR.out];simp [NM.uA,NM.uM,NM.uS,NM.uB,NM.uC,NM.uH,NM.uO,qcg]);clear HRR;go_wp2
   go_ret;rw [HR.out];exact ⟨rfl,bnext HB.out HBW.out⟩
  have gcg:¬ (0:Int)<(cg.length:Int):=by omega
  have Qcg:=hid (eq_false qcg);by_cases qhv:0<hv.length
  case pos=>
   have ghv:(0:Int)<(hv.length:Int):=by omega
   have HR:=hid (show R=false by rw [HRR.out];simp [NM.uA,NM.uM,NM.uS,NM.uB,NM.uC,NM.uH,NM.uO,Qcg.out,qhv]);clear HRR;go_wp2
   go_ret;rw [HR.out];exact ⟨rfl,bnext HB.out HBW.out⟩
  have ghv:¬ (0:Int)<(hv.length:Int):=by omega
  have Qhv:=hid (eq_false qhv);have HR:=hid (show R=true by rw [HRR.out];simp [NM.uA,NM.uM,NM.uS,NM.uB,NM.uC,NM.uH,NM.uO,Qcg.out,Qhv.out]);clear HRR;go_wp2
  go_ret;rw [HR.out];exact ⟨rfl,bnext HB.out HBW.out⟩
 have HRR:=hid hR;clear hR;go_enter Tryz.func24,Tryz.ntmps24
 go_upto_region 1 with fail
 rw [HW.out];have xs:=HX.out.cells;dsimp only at xs;go_wp2_with fail
 refine (rUsedo k n1 n2 n4 n5 w0).mono ?_;rintro e w1 ⟨rfl,hb1⟩;clear xs;have hfr:=below_fresh w1 (.cells #[.bool false,.bool false,.bool false,.bool false,.bool false,.bool false,.bool true,.bool false,.bool false] 106);have hY:=FB.fresh w1 false false false false false false true false false;obtain ⟨w2,hw2⟩:∃ w2,w1.alloc (.cells #[.bool false,.bool false,.bool false,.bool false,.bool false,.bool false,.bool true,.bool false,.bool false] 106)=w2:=⟨_,rfl⟩
 rw [hw2] at hfr hY;have HBW:=hid (bnext hb1 hfr);replace HX:=hid (HX.out.below HBW.out);have HY:=hid hY;have HW2:=hid hw2;clear hfr hY hw2 hb1;go_upto_region 2 with fail
 rw [HW2.out];have xs:=HX.out.cells;dsimp only at xs;obtain ⟨y0,y1,y2,y3,y4,y5,y6,y7,y8⟩:=HY.out.cells;by_cases q1:p=0/\n=0
 case neg=>
  have hneq:∀ w0:World,(binOp .neq 23 (.agg #[.int .i64 p,.int .i64 n]) (.agg #[.int .i64 0,.int .i64 0])).run Tryz.prog w0 = .ok (.bool true) w0:=fun w0=>by rw [neq_acc,decide_eq_false q1];rfl
  have HR:=hid (show R=false by rw [HRR.out];simp [NM.uA,NM.uM,NM.uS,NM.uB,NM.uC,NM.uH,NM.uO,n1,n2,n4,n5,q1]);clear HRR;go_wp2
  go_ret;rw [HR.out];exact ⟨rfl,bnext HB.out HBW.out⟩
 have hneq:∀ w0:World,(binOp .neq 23 (.agg #[.int .i64 p,.int .i64 n]) (.agg #[.int .i64 0,.int .i64 0])).run Tryz.prog w0 = .ok (.bool false) w0:=fun w0=>by rw [neq_acc,decide_eq_true q1];rfl
 obtain ⟨rfl,rfl⟩:=q1;by_cases qr:r=0
 case neg=>
  have gr:(r != 0)=true:=bne_t qr;have HR:=hid (show R=false by rw [HRR.out];simp [NM.uA,NM.uM,NM.uS,NM.uB,NM.uC,NM.uH,NM.uO,n1,n2,n4,n5,qr]);clear HRR;go_wp2
  go_ret;rw [HR.out];exact ⟨rfl,bnext HB.out HBW.out⟩
 subst qr;by_cases qd:d=0
 case neg=>
  have gd:(d != 0)=true:=bne_t qd;have HR:=hid (show R=false by rw [HRR.out];simp [NM.uA,NM.uM,NM.uS,NM.uB,NM.uC,NM.uH,NM.uO,n1,n2,n4,n5,qd]);clear HRR;go_wp2
  go_ret;rw [HR.out];exact ⟨rfl,bnext HB.out HBW.out⟩
 subst qd;by_cases qcg:0<cg.length
 case pos=>
  have gcg:(0:Int)<(cg.length:Int):=by omega
  have HR:=hid (show R=false by rw [HRR.out];simp [NM.uA,NM.uM,NM.uS,NM.uB,NM.uC,NM.uH,NM.uO,n1,n2,n4,n5,qcg]);clear HRR;go_wp2
  go_ret;rw [HR.out];exact ⟨rfl,bnext HB.out HBW.out⟩
 have gcg:¬ (0:Int)<(cg.length:Int):=by omega
 have Qcg:=hid (eq_false qcg);by_cases qst:0<st.length
 case pos=>
  have gst:(0:Int)<(st.length:Int):=by omega
  have HR:=hid (show R=false by rw [HRR.out];simp [NM.uA,NM.uM,NM.uS,NM.uB,NM.uC,NM.uH,NM.uO,n1,n2,n4,n5,Qcg.out,qst]);clear HRR;go_wp2
  go_ret;rw [HR.out];exact ⟨rfl,bnext HB.out HBW.out⟩
 have gst:¬ (0:Int)<(st.length:Int):=by omega
 have Qst:=hid (eq_false qst);by_cases qhv:0<hv.length
 case pos=>
  have ghv:(0:Int)<(hv.length:Int):=by omega
  have HR:=hid (show R=false by rw [HRR.out];simp [NM.uA,NM.uM,NM.uS,NM.uB,NM.uC,NM.uH,NM.uO,n1,n2,n4,n5,Qcg.out,Qst.out,qhv]);clear HRR;go_wp2
  go_ret;rw [HR.out];exact ⟨rfl,bnext HB.out HBW.out⟩
 have ghv:¬ (0:Int)<(hv.length:Int):=by omega
 have Qhv:=hid (eq_false qhv);rcases Bool.eq_false_or_eq_true mo with rfl | rfl
 ·have HR:=hid (show R=false by rw [HRR.out];simp [NM.uA,NM.uM,NM.uS,NM.uB,NM.uC,NM.uH,NM.uO,n1,n2,n4,n5,Qcg.out,Qst.out,Qhv.out]);clear HRR;go_wp2
  go_ret;rw [HR.out];exact ⟨rfl,bnext HB.out HBW.out⟩
 rcases Bool.eq_false_or_eq_true hb with rfl | rfl
 ·have HR:=hid (show R=false by rw [HRR.out];simp [NM.uA,NM.uM,NM.uS,NM.uB,NM.uC,NM.uH,NM.uO,n1,n2,n4,n5,Qcg.out,Qst.out,Qhv.out]);clear HRR;go_wp2
  go_ret;rw [HR.out];exact ⟨rfl,bnext HB.out HBW.out⟩
 go_wp2_with fail
 refine (HE1.out w2 HBW.out).mono ?_;rintro e w3 ⟨rfl,hb1⟩;clear xs;clear y0 y1 y2 y3 y4 y5 y6 y7 y8;replace HX:=hid (HX.out.below hb1);replace HY:=hid (HY.out.below hb1);replace HBW:=hid (bnext HBW.out hb1);clear hb1;have xs:=HX.out.cells;dsimp only at xs;obtain ⟨y0,y1,y2,y3,y4,y5,y6,y7,y8⟩:=HY.out.cells;rcases Bool.eq_false_or_eq_true E1 with rfl | rfl
 rotate_left
 ·have HR:=hid (show R=false by rw [HRR.out];simp [NM.uA,NM.uM,NM.uS,NM.uB,NM.uC,NM.uH,NM.uO,n1,n2,n4,n5,Qcg.out,Qst.out,Qhv.out]);clear HRR;go_wp2
  go_ret;rw [HR.out];exact ⟨rfl,bnext HB.out HBW.out⟩
 go_wp2_with fail
 refine (HE2.out w3 HBW.out).mono ?_;rintro e w4 ⟨rfl,hb1⟩;clear xs;clear y0 y1 y2 y3 y4 y5 y6 y7 y8;replace HX:=hid (HX.out.below hb1);replace HY:=hid (HY.out.below hb1);replace HBW:=hid (bnext HBW.out hb1);clear hb1;have xs:=HX.out.cells;dsimp only at xs;obtain ⟨y0,y1,y2,y3,y4,y5,y6,y7,y8⟩:=HY.out.cells;rcases Bool.eq_false_or_eq_true E2 with rfl | rfl
 rotate_left
 ·have HR:=hid (show R=false by rw [HRR.out];simp [NM.uA,NM.uM,NM.uS,NM.uB,NM.uC,NM.uH,NM.uO,n1,n2,n4,n5,Qcg.out,Qst.out,Qhv.out]);clear HRR;go_wp2
  go_ret;rw [HR.out];exact ⟨rfl,bnext HB.out HBW.out⟩
 have HR:=hid (show R=true by rw [HRR.out];simp [NM.uA,NM.uM,NM.uS,NM.uB,NM.uC,NM.uH,NM.uO,n1,n2,n4,n5,Qcg.out,Qst.out,Qhv.out]);clear HRR;go_wp2
 go_ret;rw [HR.out];exact ⟨rfl,bnext HB.out HBW.out⟩
end
section
open Go.RowKit
open NM (Ms)
open VM (Ent)
theorem rClientB (x:Int) (w:World):Calls Tryz.prog 67 #[.int .i64 x] w fun e w'=>e = .returned (.bool (UM.isCl x))/\Below w.heap.size w w':=by
 refine (rClient x w).mono ?_;rintro e w' ⟨q1,q2⟩;exact ⟨q1,by rw [q2];exact Below.refl _ _⟩
theorem rAdminB (x:Int) (w:World):Calls Tryz.prog 68 #[.int .i64 x] w fun e w'=>e = .returned (.bool (JM.isAdm x))/\Below w.heap.size w w':=by
 refine (rAdmin x w).mono ?_;rintro e w' ⟨q1,q2⟩;exact ⟨q1,by rw [<- q2];exact Below.refl _ _⟩
theorem rProcB (x:Int) (w:World):Calls Tryz.prog 23 #[.int .i64 x] w fun e w'=>e = .returned (.bool (NM.proc x))/\Below w.heap.size w w':=by
 refine (rProc x w).mono ?_;rintro e w' ⟨q1,q2⟩;exact ⟨q1,by rw [<- q2];exact Below.refl _ _⟩
theorem rBases (x:Mv) (m:Ms) (w:World) (h:RdMs w x m) :
  Calls Tryz.prog 29 #[mv m x] w fun e w'=>e = .returned (.int .i64 (NM.errB m))/\Below w.heap.size w w':=by
 obtain ⟨k,fr,tx,p,n,r,d,cf,ct,bf,bt,hb,ef,et,cg,st,hv,mo⟩:=m;obtain ⟨s1,s2,s3,s4,s5,s6,s7,s8,s9⟩:=x;obtain ⟨h1,h2,h3,h4,h5,h6,h7,h8,h9⟩:=h;dsimp only at h1 h2 h3 h4 h5 h6 h7 h8 h9;obtain ⟨a1,c1,rfl,_⟩:=h1.shape;obtain ⟨a2,c2,rfl,_⟩:=h2.shape;obtain ⟨a3,c3,rfl,_⟩:=h3.shape;obtain ⟨a4,c4,rfl,_⟩:=h4.shape;obtain ⟨a5,c5,rfl,_⟩:=h5.shape;obtain ⟨a6,c6,rfl,_⟩:=h6.shape;obtain ⟨a7,c7,rfl,_⟩:=h7.shape;obtain ⟨a8,c8,rfl,_⟩:=h8.shape;obtain ⟨a9,c9,rfl,_⟩:=h9.shape;have hb0:=below_fresh w (.cells #[.int .i64 k,.int .i64 fr,.int .i64 tx,.int .i64 p,.int .i64 n,.int .i64 r,.int .i64 d,.slice a1 cf.length c1,.slice a2 ct.length c2,.slice a3 bf.length c3,.slice a4 bt.length c4,.bool hb,.slice a5 ef.length c5,.slice a6 et.length c6,.slice a7 cg.length c7,.slice a8 st.length c8,.slice a9 hv.length c9,.bool mo] 33);obtain ⟨w0,hw0⟩:∃ w0,w.alloc (.cells #[.int .i64 k,.int .i64 fr,.int .i64 tx,.int .i64 p,.int .i64 n,.int .i64 r,.int .i64 d,.slice a1 cf.length c1,.slice a2 ct.length c2,.slice a3 bf.length c3,.slice a4 bt.length c4,.bool hb,.slice a5 ef.length c5,.slice a6 et.length c6,.slice a7 cg.length c7,.slice a8 st.length c8,.slice a9 hv.length c9,.bool mo] 33)=w0:=⟨_,rfl⟩
 have hX:MB w0 w.heap.size ({k,fr,tx,p,n,r,d,cf,ct,bf,bt,hb,ef,et,cg,st,hv,mo}:Ms) (⟨.slice a1 cf.length c1,.slice a2 ct.length c2,.slice a3 bf.length c3,.slice a4 bt.length c4,.slice a5 ef.length c5,.slice a6 et.length c6,.slice a7 cg.length c7,.slice a8 st.length c8,.slice a9 hv.length c9⟩:Mv):=by rw [<- hw0];exact MB.fresh w ({k,fr,tx,p,n,r,d,cf,ct,bf,bt,hb,ef,et,cg,st,hv,mo}:Ms) (⟨.slice a1 cf.length c1,.slice a2 ct.length c2,.slice a3 bf.length c3,.slice a4 bt.length c4,.slice a5 ef.length c5,.slice a6 et.length c6,.slice a7 cg.length c7,.slice a8 st.length c8,.slice a9 hv.length c9⟩:Mv)
 rw [hw0] at hb0;have HX:=hid hX;have HB:=hid hb0;have HW:=hid hw0;replace h1:=h1.below hb0;replace h2:=h2.below hb0;replace h3:=h3.below hb0;replace h4:=h4.below hb0;replace h5:=h5.below hb0;replace h6:=h6.below hb0;replace h7:=h7.below hb0;replace h8:=h8.below hb0;replace h9:=h9.below hb0;obtain ⟨R,hR⟩:∃ R,R=NM.errB ({k,fr,tx,p,n,r,d,cf,ct,bf,bt,hb,ef,et,cg,st,hv,mo}:Ms):=⟨_,rfl⟩
 rw [<- hR];unfold NM.errB at hR;dsimp only at hR;have HE1:=hid (fun w' (g:Below w0.heap.size w0 w')=>rEmp _ _ bf bt w' (h3.below g) (h4.below g));have HV1:=hid (fun w' (g:Below w0.heap.size w0 w')=>rValidateCert _ _ bf bt w' (h3.below g) (h4.below g));have HV2:=hid (fun w' (g:Below w0.heap.size w0 w')=>rValidateCert _ _ ef et w' (h5.below g) (h6.below g));generalize NM.emp bf bt=E1 at hR HE1;generalize CM.errC bf bt=C1 at hR HV1;generalize CM.errC ef et=C2 at hR HV2;clear h1 h2 h3 h4 h5 h6 h7 h8 h9 hb0 hX hw0;dsimp only [mv,mcell];have HRR:=hid hR;clear hR;go_enter Tryz.func29,Tryz.ntmps29
 go_upto_region 1 with fail
 rw [HW.out];have HBW:=hid (Below.refl w0.heap.size w0);have xs:=HX.out.cells;dsimp only at xs;rcases Bool.eq_false_or_eq_true hb with rfl | rfl
 ·go_wp2_with fail
  refine (HV1.out w0 HBW.out).mono ?_;rintro e w1 ⟨rfl,hb1⟩;clear xs;replace HX:=hid (HX.out.below hb1);replace HBW:=hid (bnext HBW.out hb1);clear hb1;have xs:=HX.out.cells;dsimp only at xs;by_cases q1:C1=0
  case neg=>
   have g1:(C1 != 0)=true:=bne_t q1;have HR:=hid (show R=C1 by rw [HRR.out];simp [q1]);clear HRR;go_wp2_with fail
   refine (HV1.out w1 HBW.out).mono ?_;rintro e w2 ⟨rfl,hb1⟩;clear xs;replace HX:=hid (HX.out.below hb1);replace HBW:=hid (bnext HBW.out hb1);clear hb1;have xs:=HX.out.cells;dsimp only at xs;go_wp2
   go_ret;rw [HR.out];exact ⟨rfl,bnext HB.out HBW.out⟩
  subst q1;have HR:=hid (show R=C2 by rw [HRR.out];simp []);clear HRR;go_wp2_with fail
  refine (HV2.out w1 HBW.out).mono ?_;rintro e w2 ⟨rfl,hb1⟩;clear xs;replace HX:=hid (HX.out.below hb1);replace HBW:=hid (bnext HBW.out hb1);clear hb1;have xs:=HX.out.cells;dsimp only at xs;go_wp2
  go_ret;rw [HR.out];exact ⟨rfl,bnext HB.out HBW.out⟩
 go_wp2_with fail
 refine (HE1.out w0 HBW.out).mono ?_;rintro e w1 ⟨rfl,hb1⟩;clear xs;replace HX:=hid (HX.out.below hb1);replace HBW:=hid (bnext HBW.out hb1);clear hb1;have xs:=HX.out.cells;dsimp only at xs;rcases Bool.eq_false_or_eq_true E1 with rfl | rfl
 ·go_wp2_with fail
  refine (HV1.out w1 HBW.out).mono ?_;rintro e w2 ⟨rfl,hb1⟩;clear xs;replace HX:=hid (HX.out.below hb1);replace HBW:=hid (bnext HBW.out hb1);clear hb1;have xs:=HX.out.cells;dsimp only at xs;by_cases q1:C1=0
  case neg=>
   have g1:(C1 != 0)=true:=bne_t q1;have HR:=hid (show R=C1 by rw [HRR.out];simp [q1]);clear HRR;go_wp2_with fail
   refine (HV1.out w2 HBW.out).mono ?_;rintro e w3 ⟨rfl,hb1⟩;clear xs;replace HX:=hid (HX.out.below hb1);replace HBW:=hid (bnext HBW.out hb1);clear hb1;have xs:=HX.out.cells;dsimp only at xs;go_wp2
   go_ret;rw [HR.out];exact ⟨rfl,bnext HB.out HBW.out⟩
  subst q1;have HR:=hid (show R=C2 by rw [HRR.out];simp []);clear HRR;go_wp2_with fail
  refine (HV2.out w2 HBW.out).mono ?_;rintro e w3 ⟨rfl,hb1⟩;clear xs;replace HX:=hid (HX.out.below hb1);replace HBW:=hid (bnext HBW.out hb1);clear hb1;have xs:=HX.out.cells;dsimp only at xs;go_wp2
  go_ret;rw [HR.out];exact ⟨rfl,bnext HB.out HBW.out⟩
 have HR:=hid (show R=2 by rw [HRR.out];simp []);clear HRR;go_wp2
 go_ret;rw [HR.out];exact ⟨rfl,bnext HB.out HBW.out⟩
end
end Go.Proofs.YtahcehbgfhdbjaaGreatDoor

