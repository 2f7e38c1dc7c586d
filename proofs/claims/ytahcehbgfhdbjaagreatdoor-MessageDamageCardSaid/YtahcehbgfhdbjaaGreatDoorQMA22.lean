/-
  NRef3b: joined texts, what nothing names left out.
-/
import Derived.Test.YtahcehbgfhdbjaaGreatDoorQMA21
set_option maxHeartbeats 8000000
set_option maxRecDepth 100000
open Go.Lib (hid)
namespace Go.Proofs.YtahcehbgfhdbjaaGreatDoor
open Go.RowKit
open NM (Ms)
open VM (Ent)
theorem rExch_a1 (x:Mv) (m:Ms) (w:World) (h:RdMs w x m) (hA:UM.isCl m.p=true) (hk:m.k=1) :
  Calls Tryz.prog 25 #[mv m x] w fun e w'=>e = .returned (.int .i64 (NM.errX m))/\Below w.heap.size w w':=by
 obtain ⟨k,fr,tx,p,n,r,d,cf,ct,bf,bt,hb,ef,et,cg,st,hv,mo⟩:=m;obtain ⟨s1,s2,s3,s4,s5,s6,s7,s8,s9⟩:=x;obtain ⟨h1,h2,h3,h4,h5,h6,h7,h8,h9⟩:=h;dsimp only at h1 h2 h3 h4 h5 h6 h7 h8 h9;obtain ⟨a1,c1,rfl,_⟩:=h1.shape;obtain ⟨a2,c2,rfl,_⟩:=h2.shape;obtain ⟨a3,c3,rfl,_⟩:=h3.shape;obtain ⟨a4,c4,rfl,_⟩:=h4.shape;obtain ⟨a5,c5,rfl,_⟩:=h5.shape;obtain ⟨a6,c6,rfl,_⟩:=h6.shape;obtain ⟨a7,c7,rfl,_⟩:=h7.shape;obtain ⟨a8,c8,rfl,_⟩:=h8.shape;obtain ⟨a9,c9,rfl,_⟩:=h9.shape;have hb0:=below_fresh w (.cells #[.int .i64 k,.int .i64 fr,.int .i64 tx,.int .i64 p,.int .i64 n,.int .i64 r,.int .i64 d,.slice a1 cf.length c1,.slice a2 ct.length c2,.slice a3 bf.length c3,.slice a4 bt.length c4,.bool hb,.slice a5 ef.length c5,.slice a6 et.length c6,.slice a7 cg.length c7,.slice a8 st.length c8,.slice a9 hv.length c9,.bool mo] 33);obtain ⟨w0,hw0⟩:∃ w0,w.alloc (.cells #[.int .i64 k,.int .i64 fr,.int .i64 tx,.int .i64 p,.int .i64 n,.int .i64 r,.int .i64 d,.slice a1 cf.length c1,.slice a2 ct.length c2,.slice a3 bf.length c3,.slice a4 bt.length c4,.bool hb,.slice a5 ef.length c5,.slice a6 et.length c6,.slice a7 cg.length c7,.slice a8 st.length c8,.slice a9 hv.length c9,.bool mo] 33)=w0:=⟨_,rfl⟩
 have hX:MB w0 w.heap.size ({k,fr,tx,p,n,r,d,cf,ct,bf,bt,hb,ef,et,cg,st,hv,mo}:Ms) (⟨.slice a1 cf.length c1,.slice a2 ct.length c2,.slice a3 bf.length c3,.slice a4 bt.length c4,.slice a5 ef.length c5,.slice a6 et.length c6,.slice a7 cg.length c7,.slice a8 st.length c8,.slice a9 hv.length c9⟩:Mv):=by rw [<- hw0];exact MB.fresh w ({k,fr,tx,p,n,r,d,cf,ct,bf,bt,hb,ef,et,cg,st,hv,mo}:Ms) (⟨.slice a1 cf.length c1,.slice a2 ct.length c2,.slice a3 bf.length c3,.slice a4 bt.length c4,.slice a5 ef.length c5,.slice a6 et.length c6,.slice a7 cg.length c7,.slice a8 st.length c8,.slice a9 hv.length c9⟩:Mv)
 rw [hw0] at hb0;have HX:=hid hX;have HB:=hid hb0;have HW:=hid hw0;replace h1:=h1.below hb0;replace h2:=h2.below hb0;replace h3:=h3.below hb0;replace h4:=h4.below hb0;replace h5:=h5.below hb0;replace h6:=h6.below hb0;replace h7:=h7.below hb0;replace h8:=h8.below hb0;replace h9:=h9.below hb0;obtain ⟨R,hR⟩:∃ R,R=NM.errX ({k,fr,tx,p,n,r,d,cf,ct,bf,bt,hb,ef,et,cg,st,hv,mo}:Ms):=⟨_,rfl⟩
 rw [<- hR];unfold NM.errX at hR;dsimp only at hR;dsimp only at hA hk;have HCl:=hid (fun w' (_:Below w0.heap.size w0 w')=>rClientB p w');have HAd:=hid (fun w' (_:Below w0.heap.size w0 w')=>rAdminB p w');have HCg:=hid (fun w' (g:Below w0.heap.size w0 w')=>rValidateC _ cg w' (h7.below g));have HSt:=hid (fun w' (g:Below w0.heap.size w0 w')=>ST.rValidateS _ st w' (h8.below g));have HBa:=hid (fun w' (g:Below w0.heap.size w0 w')=>rBases (⟨.slice a1 cf.length c1,.slice a2 ct.length c2,.slice a3 bf.length c3,.slice a4 bt.length c4,.slice a5 ef.length c5,.slice a6 et.length c6,.slice a7 cg.length c7,.slice a8 st.length c8,.slice a9 hv.length c9⟩:Mv) ({k,fr,tx,p,n,r,d,cf,ct,bf,bt,hb,ef,et,cg,st,hv,mo}:Ms) w' ⟨h1.below g,h2.below g,h3.below g,h4.below g,h5.below g,h6.below g,h7.below g,h8.below g,h9.below g⟩);generalize UM.isCl p=A at hR HCl hA;generalize JM.isAdm p=B at hR HAd;generalize CM.errL (0,0) cg=G1 at hR HCg;generalize SM.errL (0,0) st=G2 at hR HSt;generalize NM.errB ({k,fr,tx,p,n,r,d,cf,ct,bf,bt,hb,ef,et,cg,st,hv,mo}:Ms)=G3 at hR HBa;subst hA;subst hk;clear h1 h2 h3 h4 h5 h6 h7 h8 h9 hb0 hX hw0;dsimp only [mv,mcell];have HRR:=hid hR;clear hR;go_enter Tryz.func25,Tryz.ntmps25
 go_upto_region 1 with fail
 rw [HW.out];have HBW:=hid (Below.refl w0.heap.size w0);have xs:=HX.out.cells;dsimp only at xs;go_wp2_with fail
 refine (HCl.out w0 HBW.out).mono ?_;rintro e w1 ⟨rfl,hb1⟩;clear xs;replace HX:=hid (HX.out.below hb1);replace HBW:=hid (bnext HBW.out hb1);clear hb1;have xs:=HX.out.cells;dsimp only at xs;by_cases q0:n<1
 case pos=>
  have HR:=hid (show R=9 by rw [HRR.out];simp [q0]);clear HRR;go_wp2
  go_ret;rw [HR.out];exact ⟨rfl,bnext HB.out HBW.out⟩
 have Q0:=hid (eq_false q0);by_cases q1:1000000<n
 case pos=>
  have HR:=hid (show R=9 by rw [HRR.out];simp [q1,Q0.out]);clear HRR;go_wp2
  go_ret;rw [HR.out];exact ⟨rfl,bnext HB.out HBW.out⟩
 have Q1:=hid (eq_false q1);by_cases q2:r<1
 case pos=>
  have HR:=hid (show R=9 by rw [HRR.out];simp [q2,Q0.out,Q1.out]);clear HRR;go_wp2
  go_ret;rw [HR.out];exact ⟨rfl,bnext HB.out HBW.out⟩
 have Q2:=hid (eq_false q2);by_cases q3:1000000<r
 case pos=>
  have HR:=hid (show R=9 by rw [HRR.out];simp [q3,Q0.out,Q1.out,Q2.out]);clear HRR;go_wp2
  go_ret;rw [HR.out];exact ⟨rfl,bnext HB.out HBW.out⟩
 have Q3:=hid (eq_false q3);by_cases qa:d<1
 case pos=>
  have HR:=hid (show R=10 by rw [HRR.out];simp [Q0.out,Q1.out,Q2.out,Q3.out,qa]);clear HRR;go_wp2
  go_ret;rw [HR.out];exact ⟨rfl,bnext HB.out HBW.out⟩
 have Qa:=hid (eq_false qa);by_cases qb:3<d
 case pos=>
  have HR:=hid (show R=10 by rw [HRR.out];simp [Q0.out,Q1.out,Q2.out,Q3.out,Qa.out,qb]);clear HRR;go_wp2
  go_ret;rw [HR.out];exact ⟨rfl,bnext HB.out HBW.out⟩
 have Qb:=hid (eq_false qb);go_wp2_with fail
 refine (HCg.out w1 HBW.out).mono ?_;rintro e w2 ⟨rfl,hb1⟩;clear xs;replace HX:=hid (HX.out.below hb1);replace HBW:=hid (bnext HBW.out hb1);clear hb1;have xs:=HX.out.cells;dsimp only at xs;by_cases z1:G1=0
 case neg=>
  have y1:(G1 != 0)=true:=bne_t z1;have HR:=hid (show R=G1 by rw [HRR.out];simp [Q0.out,Q1.out,Q2.out,Q3.out,Qa.out,Qb.out,z1]);clear HRR;go_wp2_with fail
  refine (HCg.out w2 HBW.out).mono ?_;rintro e w3 ⟨rfl,hb1⟩;clear xs;replace HX:=hid (HX.out.below hb1);replace HBW:=hid (bnext HBW.out hb1);clear hb1;have xs:=HX.out.cells;dsimp only at xs;go_wp2
  go_ret;rw [HR.out];exact ⟨rfl,bnext HB.out HBW.out⟩
 subst z1;go_wp2_with fail
 refine (HSt.out w2 HBW.out).mono ?_;rintro e w3 ⟨rfl,hb1⟩;clear xs;replace HX:=hid (HX.out.below hb1);replace HBW:=hid (bnext HBW.out hb1);clear hb1;have xs:=HX.out.cells;dsimp only at xs;by_cases z2:G2=0
 case neg=>
  have y2:(G2 != 0)=true:=bne_t z2;have HR:=hid (show R=G2 by rw [HRR.out];simp [Q0.out,Q1.out,Q2.out,Q3.out,Qa.out,Qb.out,z2]);clear HRR;go_wp2_with fail
  refine (HSt.out w3 HBW.out).mono ?_;rintro e w4 ⟨rfl,hb1⟩;clear xs;replace HX:=hid (HX.out.below hb1);replace HBW:=hid (bnext HBW.out hb1);clear hb1;have xs:=HX.out.cells;dsimp only at xs;go_wp2
  go_ret;rw [HR.out];exact ⟨rfl,bnext HB.out HBW.out⟩
 subst z2;by_cases z3:d=1
 case pos=>
  subst z3;by_cases z4:0<st.length
  case pos=>
   have y4:(0:Int)<(st.length:Int):=by omega
   have HR:=hid (show R=2 by rw [HRR.out];simp [Q0.out,Q1.out,Q2.out,Q3.out,z4]);clear HRR;go_wp2
   go_ret;rw [HR.out];exact ⟨rfl,bnext HB.out HBW.out⟩
  have y4:¬ (0:Int)<(st.length:Int):=by omega
  have HR:=hid (show R=0 by rw [HRR.out];simp [Q0.out,Q1.out,Q2.out,Q3.out,z4]);clear HRR;go_wp2
  go_ret;rw [HR.out];exact ⟨rfl,bnext HB.out HBW.out⟩
 have y3:(d==1)=false:=beq_f z3;have HR:=hid (show R=0 by rw [HRR.out];simp [Q0.out,Q1.out,Q2.out,Q3.out,Qa.out,Qb.out,z3]);clear HRR;go_wp2
 go_ret;rw [HR.out];exact ⟨rfl,bnext HB.out HBW.out⟩
theorem rExch_a2 (x:Mv) (m:Ms) (w:World) (h:RdMs w x m) (hA:UM.isCl m.p=true) (hk:m.k=2) :
  Calls Tryz.prog 25 #[mv m x] w fun e w'=>e = .returned (.int .i64 (NM.errX m))/\Below w.heap.size w w':=by
 obtain ⟨k,fr,tx,p,n,r,d,cf,ct,bf,bt,hb,ef,et,cg,st,hv,mo⟩:=m;obtain ⟨s1,s2,s3,s4,s5,s6,s7,s8,s9⟩:=x;obtain ⟨h1,h2,h3,h4,h5,h6,h7,h8,h9⟩:=h;dsimp only at h1 h2 h3 h4 h5 h6 h7 h8 h9;obtain ⟨a1,c1,rfl,_⟩:=h1.shape;obtain ⟨a2,c2,rfl,_⟩:=h2.shape;obtain ⟨a3,c3,rfl,_⟩:=h3.shape;obtain ⟨a4,c4,rfl,_⟩:=h4.shape;obtain ⟨a5,c5,rfl,_⟩:=h5.shape;obtain ⟨a6,c6,rfl,_⟩:=h6.shape;obtain ⟨a7,c7,rfl,_⟩:=h7.shape;obtain ⟨a8,c8,rfl,_⟩:=h8.shape;obtain ⟨a9,c9,rfl,_⟩:=h9.shape;have hb0:=below_fresh w (.cells #[.int .i64 k,.int .i64 fr,.int .i64 tx,.int .i64 p,.int .i64 n,.int .i64 r,.int .i64 d,.slice a1 cf.length c1,.slice a2 ct.length c2,.slice a3 bf.length c3,.slice a4 bt.length c4,.bool hb,.slice a5 ef.length c5,.slice a6 et.length c6,.slice a7 cg.length c7,.slice a8 st.length c8,.slice a9 hv.length c9,.bool mo] 33);obtain ⟨w0,hw0⟩:∃ w0,w.alloc (.cells #[.int .i64 k,.int .i64 fr,.int .i64 tx,.int .i64 p,.int .i64 n,.int .i64 r,.int .i64 d,.slice a1 cf.length c1,.slice a2 ct.length c2,.slice a3 bf.length c3,.slice a4 bt.length c4,.bool hb,.slice a5 ef.length c5,.slice a6 et.length c6,.slice a7 cg.length c7,.slice a8 st.length c8,.slice a9 hv.length c9,.bool mo] 33)=w0:=⟨_,rfl⟩
 have hX:MB w0 w.heap.size ({k,fr,tx,p,n,r,d,cf,ct,bf,bt,hb,ef,et,cg,st,hv,mo}:Ms) (⟨.slice a1 cf.length c1,.slice a2 ct.length c2,.slice a3 bf.length c3,.slice a4 bt.length c4,.slice a5 ef.length c5,.slice a6 et.length c6,.slice a7 cg.length c7,.slice a8 st.length c8,.slice a9 hv.length c9⟩:Mv):=by rw [<- hw0];exact MB.fresh w ({k,fr,tx,p,n,r,d,cf,ct,bf,bt,hb,ef,et,cg,st,hv,mo}:Ms) (⟨.slice a1 cf.length c1,.slice a2 ct.length c2,.slice a3 bf.length c3,.slice a4 bt.length c4,.slice a5 ef.length c5,.slice a6 et.length c6,.slice a7 cg.length c7,.slice a8 st.length c8,.slice a9 hv.length c9⟩:Mv)
 rw [hw0] at hb0;have HX:=hid hX;have HB:=hid hb0;have HW:=hid hw0;replace h1:=h1.below hb0;replace h2:=h2.below hb0;replace h3:=h3.below hb0;replace h4:=h4.below hb0;replace h5:=h5.below hb0;replace h6:=h6.below hb0;replace h7:=h7.below hb0;replace h8:=h8.below hb0;replace h9:=h9.below hb0;obtain ⟨R,hR⟩:∃ R,R=NM.errX ({k,fr,tx,p,n,r,d,cf,ct,bf,bt,hb,ef,et,cg,st,hv,mo}:Ms):=⟨_,rfl⟩
 rw [<- hR];unfold NM.errX at hR;dsimp only at hR;dsimp only at hA hk;have HCl:=hid (fun w' (_:Below w0.heap.size w0 w')=>rClientB p w');have HAd:=hid (fun w' (_:Below w0.heap.size w0 w')=>rAdminB p w');have HCg:=hid (fun w' (g:Below w0.heap.size w0 w')=>rValidateC _ cg w' (h7.below g));have HSt:=hid (fun w' (g:Below w0.heap.size w0 w')=>ST.rValidateS _ st w' (h8.below g));have HBa:=hid (fun w' (g:Below w0.heap.size w0 w')=>rBases (⟨.slice a1 cf.length c1,.slice a2 ct.length c2,.slice a3 bf.length c3,.slice a4 bt.length c4,.slice a5 ef.length c5,.slice a6 et.length c6,.slice a7 cg.length c7,.slice a8 st.length c8,.slice a9 hv.length c9⟩:Mv) ({k,fr,tx,p,n,r,d,cf,ct,bf,bt,hb,ef,et,cg,st,hv,mo}:Ms) w' ⟨h1.below g,h2.below g,h3.below g,h4.below g,h5.below g,h6.below g,h7.below g,h8.below g,h9.below g⟩);generalize UM.isCl p=A at hR HCl hA;generalize JM.isAdm p=B at hR HAd;generalize CM.errL (0,0) cg=G1 at hR HCg;generalize SM.errL (0,0) st=G2 at hR HSt;generalize NM.errB ({k,fr,tx,p,n,r,d,cf,ct,bf,bt,hb,ef,et,cg,st,hv,mo}:Ms)=G3 at hR HBa;subst hA;subst hk;clear h1 h2 h3 h4 h5 h6 h7 h8 h9 hb0 hX hw0;dsimp only [mv,mcell];have HRR:=hid hR;clear hR;go_enter Tryz.func25,Tryz.ntmps25
 go_upto_region 1 with fail
 rw [HW.out];have HBW:=hid (Below.refl w0.heap.size w0);have xs:=HX.out.cells;dsimp only at xs;go_wp2_with fail
 refine (HCl.out w0 HBW.out).mono ?_;rintro e w1 ⟨rfl,hb1⟩;clear xs;replace HX:=hid (HX.out.below hb1);replace HBW:=hid (bnext HBW.out hb1);clear hb1;have xs:=HX.out.cells;dsimp only at xs;by_cases q0:n<1
 case pos=>
  have HR:=hid (show R=9 by rw [HRR.out];simp [q0]);clear HRR;go_wp2
  go_ret;rw [HR.out];exact ⟨rfl,bnext HB.out HBW.out⟩
 have Q0:=hid (eq_false q0);by_cases q1:1000000<n
 case pos=>
  have HR:=hid (show R=9 by rw [HRR.out];simp [q1,Q0.out]);clear HRR;go_wp2
  go_ret;rw [HR.out];exact ⟨rfl,bnext HB.out HBW.out⟩
 have Q1:=hid (eq_false q1);by_cases q2:r<1
 case pos=>
  have HR:=hid (show R=9 by rw [HRR.out];simp [q2,Q0.out,Q1.out]);clear HRR;go_wp2
  go_ret;rw [HR.out];exact ⟨rfl,bnext HB.out HBW.out⟩
 have Q2:=hid (eq_false q2);by_cases q3:1000000<r
 case pos=>
  have HR:=hid (show R=9 by rw [HRR.out];simp [q3,Q0.out,Q1.out,Q2.out]);clear HRR;go_wp2
  go_ret;rw [HR.out];exact ⟨rfl,bnext HB.out HBW.out⟩
 have Q3:=hid (eq_false q3);go_wp2_with fail
 refine (HCg.out w1 HBW.out).mono ?_;rintro e w2 ⟨rfl,hb1⟩;clear xs;replace HX:=hid (HX.out.below hb1);replace HBW:=hid (bnext HBW.out hb1);clear hb1;have xs:=HX.out.cells;dsimp only at xs;by_cases z1:G1=0
 case neg=>
  have y1:(G1 != 0)=true:=bne_t z1;have HR:=hid (show R=G1 by rw [HRR.out];simp [Q0.out,Q1.out,Q2.out,Q3.out,z1]);clear HRR;go_wp2_with fail
  refine (HCg.out w2 HBW.out).mono ?_;rintro e w3 ⟨rfl,hb1⟩;clear xs;replace HX:=hid (HX.out.below hb1);replace HBW:=hid (bnext HBW.out hb1);clear hb1;have xs:=HX.out.cells;dsimp only at xs;go_wp2
  go_ret;rw [HR.out];exact ⟨rfl,bnext HB.out HBW.out⟩
 subst z1;go_wp2_with fail
 refine (HSt.out w2 HBW.out).mono ?_;rintro e w3 ⟨rfl,hb1⟩;clear xs;replace HX:=hid (HX.out.below hb1);replace HBW:=hid (bnext HBW.out hb1);clear hb1;have xs:=HX.out.cells;dsimp only at xs;by_cases z2:G2=0
 case neg=>
  have y2:(G2 != 0)=true:=bne_t z2;have HR:=hid (show R=G2 by rw [HRR.out];simp [Q0.out,Q1.out,Q2.out,Q3.out,z2]);clear HRR;go_wp2_with fail
  refine (HSt.out w3 HBW.out).mono ?_;rintro e w4 ⟨rfl,hb1⟩;clear xs;replace HX:=hid (HX.out.below hb1);replace HBW:=hid (bnext HBW.out hb1);clear hb1;have xs:=HX.out.cells;dsimp only at xs;go_wp2
  go_ret;rw [HR.out];exact ⟨rfl,bnext HB.out HBW.out⟩
 subst z2;by_cases z3:d=1
 case pos=>
  subst z3;by_cases z4:0<st.length
  case pos=>
   have y4:(0:Int)<(st.length:Int):=by omega
   have HR:=hid (show R=2 by rw [HRR.out];simp [Q0.out,Q1.out,Q2.out,Q3.out,z4]);clear HRR;go_wp2
   go_ret;rw [HR.out];exact ⟨rfl,bnext HB.out HBW.out⟩
  have y4:¬ (0:Int)<(st.length:Int):=by omega
  have HR:=hid (show R=G3 by rw [HRR.out];simp [Q0.out,Q1.out,Q2.out,Q3.out,z4]);clear HRR;go_upto_region 14 with fail
  clear xs;go_wp2_with (refine wpList_load_row rfl 33 _ rfl w.heap.size rfl _ _ _ _ HX.out Tryz.underlying33 rfl (by kernel_rfl) ?_)
  refine (HBa.out w3 HBW.out).mono ?_;rintro e w4 ⟨rfl,hb1⟩;replace HX:=hid (HX.out.below hb1);replace HBW:=hid (bnext HBW.out hb1);clear hb1;have xs:=HX.out.cells;dsimp only at xs;go_wp2
  go_ret;rw [HR.out];exact ⟨rfl,bnext HB.out HBW.out⟩
 have y3:(d==1)=false:=beq_f z3;have HR:=hid (show R=G3 by rw [HRR.out];simp [Q0.out,Q1.out,Q2.out,Q3.out,z3]);clear HRR;go_upto_region 14 with fail
 clear xs;go_wp2_with (refine wpList_load_row rfl 33 _ rfl w.heap.size rfl _ _ _ _ HX.out Tryz.underlying33 rfl (by kernel_rfl) ?_)
 refine (HBa.out w3 HBW.out).mono ?_;rintro e w4 ⟨rfl,hb1⟩;replace HX:=hid (HX.out.below hb1);replace HBW:=hid (bnext HBW.out hb1);clear hb1;have xs:=HX.out.cells;dsimp only at xs;go_wp2
 go_ret;rw [HR.out];exact ⟨rfl,bnext HB.out HBW.out⟩
theorem rExch_ao (x:Mv) (m:Ms) (w:World) (h:RdMs w x m) (hA:UM.isCl m.p=true) (k1:m.k≠1) (k2:m.k≠2) :
  Calls Tryz.prog 25 #[mv m x] w fun e w'=>e = .returned (.int .i64 (NM.errX m))/\Below w.heap.size w w':=by
 obtain ⟨k,fr,tx,p,n,r,d,cf,ct,bf,bt,hb,ef,et,cg,st,hv,mo⟩:=m;obtain ⟨s1,s2,s3,s4,s5,s6,s7,s8,s9⟩:=x;obtain ⟨h1,h2,h3,h4,h5,h6,h7,h8,h9⟩:=h;dsimp only at h1 h2 h3 h4 h5 h6 h7 h8 h9;obtain ⟨a1,c1,rfl,_⟩:=h1.shape;obtain ⟨a2,c2,rfl,_⟩:=h2.shape;obtain ⟨a3,c3,rfl,_⟩:=h3.shape;obtain ⟨a4,c4,rfl,_⟩:=h4.shape;obtain ⟨a5,c5,rfl,_⟩:=h5.shape;obtain ⟨a6,c6,rfl,_⟩:=h6.shape;obtain ⟨a7,c7,rfl,_⟩:=h7.shape;obtain ⟨a8,c8,rfl,_⟩:=h8.shape;obtain ⟨a9,c9,rfl,_⟩:=h9.shape;have hb0:=below_fresh w (.cells #[.int .i64 k,.int .i64 fr,.int .i64 tx,.int .i64 p,.int .i64 n,.int .i64 r,.int .i64 d,.slice a1 cf.length c1,.slice a2 ct.length c2,.slice a3 bf.length c3,.slice a4 bt.length c4,.bool hb,.slice a5 ef.length c5,.slice a6 et.length c6,.slice a7 cg.length c7,.slice a8 st.length c8,.slice a9 hv.length c9,.bool mo] 33);obtain ⟨w0,hw0⟩:∃ w0,w.alloc (.cells #[.int .i64 k,.int .i64 fr,.int .i64 tx,.int .i64 p,.int .i64 n,.int .i64 r,.int .i64 d,.slice a1 cf.length c1,.slice a2 ct.length c2,.slice a3 bf.length c3,.slice a4 bt.length c4,.bool hb,.slice a5 ef.length c5,.slice a6 et.length c6,.slice a7 cg.length c7,.slice a8 st.length c8,.slice a9 hv.length c9,.bool mo] 33)=w0:=⟨_,rfl⟩
 have hX:MB w0 w.heap.size ({k,fr,tx,p,n,r,d,cf,ct,bf,bt,hb,ef,et,cg,st,hv,mo}:Ms) (⟨.slice a1 cf.length c1,.slice a2 ct.length c2,.slice a3 bf.length c3,.slice a4 bt.length c4,.slice a5 ef.length c5,.slice a6 et.length c6,.slice a7 cg.length c7,.slice a8 st.length c8,.slice a9 hv.length c9⟩:Mv):=by rw [<- hw0];exact MB.fresh w ({k,fr,tx,p,n,r,d,cf,ct,bf,bt,hb,ef,et,cg,st,hv,mo}:Ms) (⟨.slice a1 cf.length c1,.slice a2 ct.length c2,.slice a3 bf.length c3,.slice a4 bt.length c4,.slice a5 ef.length c5,.slice a6 et.length c6,.slice a7 cg.length c7,.slice a8 st.length c8,.slice a9 hv.length c9⟩:Mv)
 rw [hw0] at hb0;have HX:=hid hX;have HB:=hid hb0;have HW:=hid hw0;replace h1:=h1.below hb0;replace h2:=h2.below hb0;replace h3:=h3.below hb0;replace h4:=h4.below hb0;replace h5:=h5.below hb0;replace h6:=h6.below hb0;replace h7:=h7.below hb0;replace h8:=h8.below hb0;replace h9:=h9.below hb0;obtain ⟨R,hR⟩:∃ R,R=NM.errX ({k,fr,tx,p,n,r,d,cf,ct,bf,bt,hb,ef,et,cg,st,hv,mo}:Ms):=⟨_,rfl⟩
 rw [<- hR];unfold NM.errX at hR;dsimp only at hR;dsimp only at hA k1 k2;have HCl:=hid (fun w' (_:Below w0.heap.size w0 w')=>rClientB p w');have HAd:=hid (fun w' (_:Below w0.heap.size w0 w')=>rAdminB p w');have HCg:=hid (fun w' (g:Below w0.heap.size w0 w')=>rValidateC _ cg w' (h7.below g));have HSt:=hid (fun w' (g:Below w0.heap.size w0 w')=>ST.rValidateS _ st w' (h8.below g));have HBa:=hid (fun w' (g:Below w0.heap.size w0 w')=>rBases (⟨.slice a1 cf.length c1,.slice a2 ct.length c2,.slice a3 bf.length c3,.slice a4 bt.length c4,.slice a5 ef.length c5,.slice a6 et.length c6,.slice a7 cg.length c7,.slice a8 st.length c8,.slice a9 hv.length c9⟩:Mv) ({k,fr,tx,p,n,r,d,cf,ct,bf,bt,hb,ef,et,cg,st,hv,mo}:Ms) w' ⟨h1.below g,h2.below g,h3.below g,h4.below g,h5.below g,h6.below g,h7.below g,h8.below g,h9.below g⟩);generalize UM.isCl p=A at hR HCl hA;generalize JM.isAdm p=B at hR HAd;generalize CM.errL (0,0) cg=G1 at hR HCg;generalize SM.errL (0,0) st=G2 at hR HSt;generalize NM.errB ({k,fr,tx,p,n,r,d,cf,ct,bf,bt,hb,ef,et,cg,st,hv,mo}:Ms)=G3 at hR HBa;subst hA;have k1f:(k==1)=false:=beq_f k1;have k2f:(k==2)=false:=beq_f k2;clear h1 h2 h3 h4 h5 h6 h7 h8 h9 hb0 hX hw0;dsimp only [mv,mcell];have HRR:=hid hR;clear hR;go_enter Tryz.func25,Tryz.ntmps25
 go_upto_region 1 with fail
 rw [HW.out];have HBW:=hid (Below.refl w0.heap.size w0);have xs:=HX.out.cells;dsimp only at xs;go_wp2_with fail
 refine (HCl.out w0 HBW.out).mono ?_;rintro e w1 ⟨rfl,hb1⟩;clear xs;replace HX:=hid (HX.out.below hb1);replace HBW:=hid (bnext HBW.out hb1);clear hb1;have xs:=HX.out.cells;dsimp only at xs;by_cases q0:n<1
 case pos=>
  have HR:=hid (show R=9 by rw [HRR.out];simp [q0]);clear HRR;go_wp2
  go_ret;rw [HR.out];exact ⟨rfl,bnext HB.out HBW.out⟩
 have Q0:=hid (eq_false q0);by_cases q1:1000000<n
 case pos=>
  have HR:=hid (show R=9 by rw [HRR.out];simp [q1,Q0.out]);clear HRR;go_wp2
  go_ret;rw [HR.out];exact ⟨rfl,bnext HB.out HBW.out⟩
 have Q1:=hid (eq_false q1);by_cases q2:r<1
 case pos=>
  have HR:=hid (show R=9 by rw [HRR.out];simp [q2,Q0.out,Q1.out]);clear HRR;go_wp2
  go_ret;rw [HR.out];exact ⟨rfl,bnext HB.out HBW.out⟩
 have Q2:=hid (eq_false q2);by_cases q3:1000000<r
 case pos=>
  have HR:=hid (show R=9 by rw [HRR.out];simp [q3,Q0.out,Q1.out,Q2.out]);clear HRR;go_wp2
  go_ret;rw [HR.out];exact ⟨rfl,bnext HB.out HBW.out⟩
 have Q3:=hid (eq_false q3);go_wp2_with fail
 refine (HCg.out w1 HBW.out).mono ?_;rintro e w2 ⟨rfl,hb1⟩;clear xs;replace HX:=hid (HX.out.below hb1);replace HBW:=hid (bnext HBW.out hb1);clear hb1;have xs:=HX.out.cells;dsimp only at xs;by_cases z1:G1=0
 case neg=>
  have y1:(G1 != 0)=true:=bne_t z1;have HR:=hid (show R=G1 by rw [HRR.out];simp [Q0.out,Q1.out,Q2.out,Q3.out,k1,z1]);clear HRR;go_wp2_with fail
  refine (HCg.out w2 HBW.out).mono ?_;rintro e w3 ⟨rfl,hb1⟩;clear xs;replace HX:=hid (HX.out.below hb1);replace HBW:=hid (bnext HBW.out hb1);clear hb1;have xs:=HX.out.cells;dsimp only at xs;go_wp2
  go_ret;rw [HR.out];exact ⟨rfl,bnext HB.out HBW.out⟩
 subst z1;go_wp2_with fail
 refine (HSt.out w2 HBW.out).mono ?_;rintro e w3 ⟨rfl,hb1⟩;clear xs;replace HX:=hid (HX.out.below hb1);replace HBW:=hid (bnext HBW.out hb1);clear hb1;have xs:=HX.out.cells;dsimp only at xs;by_cases z2:G2=0
 case neg=>
  have y2:(G2 != 0)=true:=bne_t z2;have HR:=hid (show R=G2 by rw [HRR.out];simp [Q0.out,Q1.out,Q2.out,Q3.out,k1,z2]);clear HRR;go_wp2_with fail
  refine (HSt.out w3 HBW.out).mono ?_;rintro e w4 ⟨rfl,hb1⟩;clear xs;replace HX:=hid (HX.out.below hb1);replace HBW:=hid (bnext HBW.out hb1);clear hb1;have xs:=HX.out.cells;dsimp only at xs;go_wp2
  go_ret;rw [HR.out];exact ⟨rfl,bnext HB.out HBW.out⟩
 subst z2;by_cases z3:d=1
 case pos=>
  subst z3;by_cases z4:0<st.length
  case pos=>
   have y4:(0:Int)<(st.length:Int):=by omega
   have HR:=hid (show R=2 by rw [HRR.out];simp [Q0.out,Q1.out,Q2.out,Q3.out,k1,z4]);clear HRR;go_wp2
   go_ret;rw [HR.out];exact ⟨rfl,bnext HB.out HBW.out⟩
  have y4:¬ (0:Int)<(st.length:Int):=by omega
  have HR:=hid (show R=0 by rw [HRR.out];simp [Q0.out,Q1.out,Q2.out,Q3.out,k1,z4,k2]);clear HRR;go_wp2
  go_ret;rw [HR.out];exact ⟨rfl,bnext HB.out HBW.out⟩
 have y3:(d==1)=false:=beq_f z3;have HR:=hid (show R=0 by rw [HRR.out];simp [Q0.out,Q1.out,Q2.out,Q3.out,k1,z3,k2]);clear HRR;go_wp2
 go_ret;rw [HR.out];exact ⟨rfl,bnext HB.out HBW.out⟩
theorem rExch_b1 (x:Mv) (m:Ms) (w:World) (h:RdMs w x m) (hA:UM.isCl m.p=false) (hB:JM.isAdm m.p=true) (hk:m.k=1) :
  Calls Tryz.prog 25 #[mv m x] w fun e w'=>e = .returned (.int .i64 (NM.errX m))/\Below w.heap.size w w':=by
 obtain ⟨k,fr,tx,p,n,r,d,cf,ct,bf,bt,hb,ef,et,cg,st,hv,mo⟩:=m;obtain ⟨s1,s2,s3,s4,s5,s6,s7,s8,s9⟩:=x;obtain ⟨h1,h2,h3,h4,h5,h6,h7,h8,h9⟩:=h;dsimp only at h1 h2 h3 h4 h5 h6 h7 h8 h9;obtain ⟨a1,c1,rfl,_⟩:=h1.shape;obtain ⟨a2,c2,rfl,_⟩:=h2.shape;obtain ⟨a3,c3,rfl,_⟩:=h3.shape;obtain ⟨a4,c4,rfl,_⟩:=h4.shape;obtain ⟨a5,c5,rfl,_⟩:=h5.shape;obtain ⟨a6,c6,rfl,_⟩:=h6.shape;obtain ⟨a7,c7,rfl,_⟩:=h7.shape;obtain ⟨a8,c8,rfl,_⟩:=h8.shape;obtain ⟨a9,c9,rfl,_⟩:=h9.shape;have hb0:=below_fresh w (.cells #[.int .i64 k,.int .i64 fr,.int .i64 tx,.int .i64 p,.int .i64 n,.int .i64 r,.int .i64 d,.slice a1 cf.length c1,.slice a2 ct.length c2,.slice a3 bf.length c3,.slice a4 bt.length c4,.bool hb,.slice a5 ef.length c5,.slice a6 et.length c6,.slice a7 cg.length c7,.slice a8 st.length c8,.slice a9 hv.length c9,.bool mo] 33);obtain ⟨w0,hw0⟩:∃ w0,w.alloc (.cells #[.int .i64 k,.int .i64 fr,.int .i64 tx,.int .i64 p,.int .i64 n,.int .i64 r,.int .i64 d,.slice a1 cf.length c1,.slice a2 ct.length c2,.slice a3 bf.length c3,.slice a4 bt.length c4,.bool hb,.slice a5 ef.length c5,.slice a6 et.length c6,.slice a7 cg.length c7,.slice a8 st.length c8,.slice a9 hv.length c9,.bool mo] 33)=w0:=⟨_,rfl⟩
 have hX:MB w0 w.heap.size ({k,fr,tx,p,n,r,d,cf,ct,bf,bt,hb,ef,et,cg,st,hv,mo}:Ms) (⟨.slice a1 cf.length c1,.slice a2 ct.length c2,.slice a3 bf.length c3,.slice a4 bt.length c4,.slice a5 ef.length c5,.slice a6 et.length c6,.slice a7 cg.length c7,.slice a8 st.length c8,.slice a9 hv.length c9⟩:Mv):=by rw [<- hw0];exact MB.fresh w ({k,fr,tx,p,n,r,d,cf,ct,bf,bt,hb,ef,et,cg,st,hv,mo}:Ms) (⟨.slice a1 cf.length c1,.slice a2 ct.length c2,.slice a3 bf.length c3,.slice a4 bt.length c4,.slice a5 ef.length c5,.slice a6 et.length c6,.slice a7 cg.length c7,.slice a8 st.length c8,.slice a9 hv.length c9⟩:Mv)
 rw [hw0] at hb0;have HX:=hid hX;have HB:=hid hb0;have HW:=hid hw0;replace h1:=h1.below hb0;replace h2:=h2.below hb0;replace h3:=h3.below hb0;replace h4:=h4.below hb0;replace h5:=h5.below hb0;replace h6:=h6.below hb0;replace h7:=h7.below hb0;replace h8:=h8.below hb0;replace h9:=h9.below hb0;obtain ⟨R,hR⟩:∃ R,R=NM.errX ({k,fr,tx,p,n,r,d,cf,ct,bf,bt,hb,ef,et,cg,st,hv,mo}:Ms):=⟨_,rfl⟩
 rw [<- hR];unfold NM.errX at hR;dsimp only at hR;dsimp only at hA hB hk;have HCl:=hid (fun w' (_:Below w0.heap.size w0 w')=>rClientB p w');have HAd:=hid (fun w' (_:Below w0.heap.size w0 w')=>rAdminB p w');have HCg:=hid (fun w' (g:Below w0.heap.size w0 w')=>rValidateC _ cg w' (h7.below g));have HSt:=hid (fun w' (g:Below w0.heap.size w0 w')=>ST.rValidateS _ st w' (h8.below g));have HBa:=hid (fun w' (g:Below w0.heap.size w0 w')=>rBases (⟨.slice a1 cf.length c1,.slice a2 ct.length c2,.slice a3 bf.length c3,.slice a4 bt.length c4,.slice a5 ef.length c5,.slice a6 et.length c6,.slice a7 cg.length c7,.slice a8 st.length c8,.slice a9 hv.length c9⟩:Mv) ({k,fr,tx,p,n,r,d,cf,ct,bf,bt,hb,ef,et,cg,st,hv,mo}:Ms) w' ⟨h1.below g,h2.below g,h3.below g,h4.below g,h5.below g,h6.below g,h7.below g,h8.below g,h9.below g⟩);generalize UM.isCl p=A at hR HCl hA;generalize JM.isAdm p=B at hR HAd hB;generalize CM.errL (0,0) cg=G1 at hR HCg;generalize SM.errL (0,0) st=G2 at hR HSt;generalize NM.errB ({k,fr,tx,p,n,r,d,cf,ct,bf,bt,hb,ef,et,cg,st,hv,mo}:Ms)=G3 at hR HBa;subst hA hB;subst hk;clear h1 h2 h3 h4 h5 h6 h7 h8 h9 hb0 hX hw0;dsimp only [mv,mcell];have HRR:=hid hR;clear hR;go_enter Tryz.func25,Tryz.ntmps25
 go_upto_region 1 with fail
 rw [HW.out];have HBW:=hid (Below.refl w0.heap.size w0);have xs:=HX.out.cells;dsimp only at xs;go_wp2_with fail
 refine (HCl.out w0 HBW.out).mono ?_;rintro e w1 ⟨rfl,hb1⟩;clear xs;replace HX:=hid (HX.out.below hb1);replace HBW:=hid (bnext HBW.out hb1);clear hb1;have xs:=HX.out.cells;dsimp only at xs;go_wp2_with fail
 refine (HAd.out w1 HBW.out).mono ?_;rintro e w2 ⟨rfl,hb1⟩;clear xs;replace HX:=hid (HX.out.below hb1);replace HBW:=hid (bnext HBW.out hb1);clear hb1;have xs:=HX.out.cells;dsimp only at xs;by_cases q0:n<1
 case pos=>
  have HR:=hid (show R=9 by rw [HRR.out];simp [q0]);clear HRR;go_wp2
  go_ret;rw [HR.out];exact ⟨rfl,bnext HB.out HBW.out⟩
 have Q0:=hid (eq_false q0);by_cases q1:1000000<n
 case pos=>
  have HR:=hid (show R=9 by rw [HRR.out];simp [q1,Q0.out]);clear HRR;go_wp2
  go_ret;rw [HR.out];exact ⟨rfl,bnext HB.out HBW.out⟩
 have Q1:=hid (eq_false q1);by_cases q2:r<1
 case pos=>
  have HR:=hid (show R=9 by rw [HRR.out];simp [q2,Q0.out,Q1.out]);clear HRR;go_wp2
  go_ret;rw [HR.out];exact ⟨rfl,bnext HB.out HBW.out⟩
 have Q2:=hid (eq_false q2);by_cases q3:1000000<r
 case pos=>
  have HR:=hid (show R=9 by rw [HRR.out];simp [q3,Q0.out,Q1.out,Q2.out]);clear HRR;go_wp2
  go_ret;rw [HR.out];exact ⟨rfl,bnext HB.out HBW.out⟩
 have Q3:=hid (eq_false q3);by_cases qa:d<1
 case pos=>
  have HR:=hid (show R=10 by rw [HRR.out];simp [Q0.out,Q1.out,Q2.out,Q3.out,qa]);clear HRR;go_wp2
  go_ret;rw [HR.out];exact ⟨rfl,bnext HB.out HBW.out⟩
 have Qa:=hid (eq_false qa);by_cases qb:3<d
 case pos=>
  have HR:=hid (show R=10 by rw [HRR.out];simp [Q0.out,Q1.out,Q2.out,Q3.out,Qa.out,qb]);clear HRR;go_wp2
  go_ret;rw [HR.out];exact ⟨rfl,bnext HB.out HBW.out⟩
 have Qb:=hid (eq_false qb);go_wp2_with fail
 refine (HCg.out w2 HBW.out).mono ?_;rintro e w3 ⟨rfl,hb1⟩;clear xs;replace HX:=hid (HX.out.below hb1);replace HBW:=hid (bnext HBW.out hb1);clear hb1;have xs:=HX.out.cells;dsimp only at xs;by_cases z1:G1=0
 case neg=>
  have y1:(G1 != 0)=true:=bne_t z1;have HR:=hid (show R=G1 by rw [HRR.out];simp [Q0.out,Q1.out,Q2.out,Q3.out,Qa.out,Qb.out,z1]);clear HRR;go_wp2_with fail
  refine (HCg.out w3 HBW.out).mono ?_;rintro e w4 ⟨rfl,hb1⟩;clear xs;replace HX:=hid (HX.out.below hb1);replace HBW:=hid (bnext HBW.out hb1);clear hb1;have xs:=HX.out.cells;dsimp only at xs;go_wp2
  go_ret;rw [HR.out];exact ⟨rfl,bnext HB.out HBW.out⟩
 subst z1;go_wp2_with fail
 refine (HSt.out w3 HBW.out).mono ?_;rintro e w4 ⟨rfl,hb1⟩;clear xs;replace HX:=hid (HX.out.below hb1);replace HBW:=hid (bnext HBW.out hb1);clear hb1;have xs:=HX.out.cells;dsimp only at xs;by_cases z2:G2=0
 case neg=>
  have y2:(G2 != 0)=true:=bne_t z2;have HR:=hid (show R=G2 by rw [HRR.out];simp [Q0.out,Q1.out,Q2.out,Q3.out,Qa.out,Qb.out,z2]);clear HRR;go_wp2_with fail
  refine (HSt.out w4 HBW.out).mono ?_;rintro e w5 ⟨rfl,hb1⟩;clear xs;replace HX:=hid (HX.out.below hb1);replace HBW:=hid (bnext HBW.out hb1);clear hb1;have xs:=HX.out.cells;dsimp only at xs;go_wp2
  go_ret;rw [HR.out];exact ⟨rfl,bnext HB.out HBW.out⟩
 subst z2;by_cases z3:d=1
 case pos=>
  subst z3;by_cases z4:0<st.length
  case pos=>
   have y4:(0:Int)<(st.length:Int):=by omega
   have HR:=hid (show R=2 by rw [HRR.out];simp [Q0.out,Q1.out,Q2.out,Q3.out,z4]);clear HRR;go_wp2
   go_ret;rw [HR.out];exact ⟨rfl,bnext HB.out HBW.out⟩
  have y4:¬ (0:Int)<(st.length:Int):=by omega
  have HR:=hid (show R=0 by rw [HRR.out];simp [Q0.out,Q1.out,Q2.out,Q3.out,z4]);clear HRR;go_wp2
  go_ret;rw [HR.out];exact ⟨rfl,bnext HB.out HBW.out⟩
 have y3:(d==1)=false:=beq_f z3;have HR:=hid (show R=0 by rw [HRR.out];simp [Q0.out,Q1.out,Q2.out,Q3.out,Qa.out,Qb.out,z3]);clear HRR;go_wp2
 go_ret;rw [HR.out];exact ⟨rfl,bnext HB.out HBW.out⟩
theorem rExch_b2 (x:Mv) (m:Ms) (w:World) (h:RdMs w x m) (hA:UM.isCl m.p=false) (hB:JM.isAdm m.p=true) (hk:m.k=2) :
  Calls Tryz.prog 25 #[mv m x] w fun e w'=>e = .returned (.int .i64 (NM.errX m))/\Below w.heap.size w w':=by
 obtain ⟨k,fr,tx,p,n,r,d,cf,ct,bf,bt,hb,ef,et,cg,st,hv,mo⟩:=m;obtain ⟨s1,s2,s3,s4,s5,s6,s7,s8,s9⟩:=x;obtain ⟨h1,h2,h3,h4,h5,h6,h7,h8,h9⟩:=h;dsimp only at h1 h2 h3 h4 h5 h6 h7 h8 h9;obtain ⟨a1,c1,rfl,_⟩:=h1.shape;obtain ⟨a2,c2,rfl,_⟩:=h2.shape;obtain ⟨a3,c3,rfl,_⟩:=h3.shape;obtain ⟨a4,c4,rfl,_⟩:=h4.shape;obtain ⟨a5,c5,rfl,_⟩:=h5.shape;obtain ⟨a6,c6,rfl,_⟩:=h6.shape;obtain ⟨a7,c7,rfl,_⟩:=h7.shape;obtain ⟨a8,c8,rfl,_⟩:=h8.shape;obtain ⟨a9,c9,rfl,_⟩:=h9.shape;have hb0:=below_fresh w (.cells #[.int .i64 k,.int .i64 fr,.int .i64 tx,.int .i64 p,.int .i64 n,.int .i64 r,.int .i64 d,.slice a1 cf.length c1,.slice a2 ct.length c2,.slice a3 bf.length c3,.slice a4 bt.length c4,.bool hb,.slice a5 ef.length c5,.slice a6 et.length c6,.slice a7 cg.length c7,.slice a8 st.length c8,.slice a9 hv.length c9,.bool mo] 33);obtain ⟨w0,hw0⟩:∃ w0,w.alloc (.cells #[.int .i64 k,.int .i64 fr,.int .i64 tx,.int .i64 p,.int .i64 n,.int .i64 r,.int .i64 d,.slice a1 cf.length c1,.slice a2 ct.length c2,.slice a3 bf.length c3,.slice a4 bt.length c4,.bool hb,.slice a5 ef.length c5,.slice a6 et.length c6,.slice a7 cg.length c7,.slice a8 st.length c8,.slice a9 hv.length c9,.bool mo] 33)=w0:=⟨_,rfl⟩
 have hX:MB w0 w.heap.size ({k,fr,tx,p,n,r,d,cf,ct,bf,bt,hb,ef,et,cg,st,hv,mo}:Ms) (⟨.slice a1 cf.length c1,.slice a2 ct.length c2,.slice a3 bf.length c3,.slice a4 bt.length c4,.slice a5 ef.length c5,.slice a6 et.length c6,.slice a7 cg.length c7,.slice a8 st.length c8,.slice a9 hv.length c9⟩:Mv):=by rw [<- hw0];exact MB.fresh w ({k,fr,tx,p,n,r,d,cf,ct,bf,bt,hb,ef,et,cg,st,hv,mo}:Ms) (⟨.slice a1 cf.length c1,.slice a2 ct.length c2,.slice a3 bf.length c3,.slice a4 bt.length c4,.slice a5 ef.length c5,.slice a6 et.length c6,.slice a7 cg.length c7,.slice a8 st.length c8,.slice a9 hv.length c9⟩:Mv)
 rw [hw0] at hb0;have HX:=hid hX;have HB:=hid hb0;have HW:=hid hw0;replace h1:=h1.below hb0;replace h2:=h2.below hb0;replace h3:=h3.below hb0;replace h4:=h4.below hb0;replace h5:=h5.below hb0;replace h6:=h6.below hb0;replace h7:=h7.below hb0;replace h8:=h8.below hb0;replace h9:=h9.below hb0;obtain ⟨R,hR⟩:∃ R,R=NM.errX ({k,fr,tx,p,n,r,d,cf,ct,bf,bt,hb,ef,et,cg,st,hv,mo}:Ms):=⟨_,rfl⟩
 rw [<- hR];unfold NM.errX at hR;dsimp only at hR;dsimp only at hA hB hk;have HCl:=hid (fun w' (_:Below w0.heap.size w0 w')=>rClientB p w');have HAd:=hid (fun w' (_:Below w0.heap.size w0 w')=>rAdminB p w');have HCg:=hid (fun w' (g:Below w0.heap.size w0 w')=>rValidateC _ cg w' (h7.below g));have HSt:=hid (fun w' (g:Below w0.heap.size w0 w')=>ST.rValidateS _ st w' (h8.below g));have HBa:=hid (fun w' (g:Below w0.heap.size w0 w')=>rBases (⟨.slice a1 cf.length c1,.slice a2 ct.length c2,.slice a3 bf.length c3,.slice a4 bt.length c4,.slice a5 ef.length c5,.slice a6 et.length c6,.slice a7 cg.length c7,.slice a8 st.length c8,.slice a9 hv.length c9⟩:Mv) ({k,fr,tx,p,n,r,d,cf,ct,bf,bt,hb,ef,et,cg,st,hv,mo}:Ms) w' ⟨h1.below g,h2.below g,h3.below g,h4.below g,h5.below g,h6.below g,h7.below g,h8.below g,h9.below g⟩);generalize UM.isCl p=A at hR HCl hA;generalize JM.isAdm p=B at hR HAd hB;generalize CM.errL (0,0) cg=G1 at hR HCg;generalize SM.errL (0,0) st=G2 at hR HSt;generalize NM.errB ({k,fr,tx,p,n,r,d,cf,ct,bf,bt,hb,ef,et,cg,st,hv,mo}:Ms)=G3 at hR HBa;subst hA hB;subst hk;clear h1 h2 h3 h4 h5 h6 h7 h8 h9 hb0 hX hw0;dsimp only [mv,mcell];have HRR:=hid hR;clear hR;go_enter Tryz.func25,Tryz.ntmps25
 go_upto_region 1 with fail
 rw [HW.out];have HBW:=hid (Below.refl w0.heap.size w0);have xs:=HX.out.cells;dsimp only at xs;go_wp2_with fail
 refine (HCl.out w0 HBW.out).mono ?_;rintro e w1 ⟨rfl,hb1⟩;clear xs;replace HX:=hid (HX.out.below hb1);replace HBW:=hid (bnext HBW.out hb1);clear hb1;have xs:=HX.out.cells;dsimp only at xs;go_wp2_with fail
 refine (HAd.out w1 HBW.out).mono ?_;rintro e w2 ⟨rfl,hb1⟩;clear xs;replace HX:=hid (HX.out.below hb1);replace HBW:=hid (bnext HBW.out hb1);clear hb1;have xs:=HX.out.cells;dsimp only at xs;by_cases q0:n<1
 case pos=>
  have HR:=hid (show R=9 by rw [HRR.out];simp [q0]);clear HRR;go_wp2
  go_ret;rw [HR.out];exact ⟨rfl,bnext HB.out HBW.out⟩
 have Q0:=hid (eq_false q0);by_cases q1:1000000<n
 case pos=>
  have HR:=hid (show R=9 by rw [HRR.out];simp [q1,Q0.out]);clear HRR;go_wp2
  go_ret;rw [HR.out];exact ⟨rfl,bnext HB.out HBW.out⟩
 have Q1:=hid (eq_false q1);by_cases q2:r<1
 case pos=>
  have HR:=hid (show R=9 by rw [HRR.out];simp [q2,Q0.out,Q1.out]);clear HRR;go_wp2
  go_ret;rw [HR.out];exact ⟨rfl,bnext HB.out HBW.out⟩
 have Q2:=hid (eq_false q2);by_cases q3:1000000<r
 case pos=>
  have HR:=hid (show R=9 by rw [HRR.out];simp [q3,Q0.out,Q1.out,Q2.out]);clear HRR;go_wp2
  go_ret;rw [HR.out];exact ⟨rfl,bnext HB.out HBW.out⟩
 have Q3:=hid (eq_false q3);go_wp2_with fail
 refine (HCg.out w2 HBW.out).mono ?_;rintro e w3 ⟨rfl,hb1⟩;clear xs;replace HX:=hid (HX.out.below hb1);replace HBW:=hid (bnext HBW.out hb1);clear hb1;have xs:=HX.out.cells;dsimp only at xs;by_cases z1:G1=0
 case neg=>
  have y1:(G1 != 0)=true:=bne_t z1;have HR:=hid (show R=G1 by rw [HRR.out];simp [Q0.out,Q1.out,Q2.out,Q3.out,z1]);clear HRR;go_wp2_with fail
  refine (HCg.out w3 HBW.out).mono ?_;rintro e w4 ⟨rfl,hb1⟩;clear xs;replace HX:=hid (HX.out.below hb1);replace HBW:=hid (bnext HBW.out hb1);clear hb1;have xs:=HX.out.cells;dsimp only at xs;go_wp2
  go_ret;rw [HR.out];exact ⟨rfl,bnext HB.out HBW.out⟩
 subst z1;go_wp2_with fail
 refine (HSt.out w3 HBW.out).mono ?_;rintro e w4 ⟨rfl,hb1⟩;clear xs;replace HX:=hid (HX.out.below hb1);replace HBW:=hid (bnext HBW.out hb1);clear hb1;have xs:=HX.out.cells;dsimp only at xs;by_cases z2:G2=0
 case neg=>
  have y2:(G2 != 0)=true:=bne_t z2;have HR:=hid (show R=G2 by rw [HRR.out];simp [Q0.out,Q1.out,Q2.out,Q3.out,z2]);clear HRR;go_wp2_with fail
  refine (HSt.out w4 HBW.out).mono ?_;rintro e w5 ⟨rfl,hb1⟩;clear xs;replace HX:=hid (HX.out.below hb1);replace HBW:=hid (bnext HBW.out hb1);clear hb1;have xs:=HX.out.cells;dsimp only at xs;go_wp2
  go_ret;rw [HR.out];exact ⟨rfl,bnext HB.out HBW.out⟩
 subst z2;by_cases z3:d=1
 case pos=>
  subst z3;by_cases z4:0<st.length
  case pos=>
   have y4:(0:Int)<(st.length:Int):=by omega
   have HR:=hid (show R=2 by rw [HRR.out];simp [Q0.out,Q1.out,Q2.out,Q3.out,z4]);clear HRR;go_wp2
   go_ret;rw [HR.out];exact ⟨rfl,bnext HB.out HBW.out⟩
  have y4:¬ (0:Int)<(st.length:Int):=by omega
  have HR:=hid (show R=G3 by rw [HRR.out];simp [Q0.out,Q1.out,Q2.out,Q3.out,z4]);clear HRR;go_upto_region 14 with fail
  clear xs;go_wp2_with (refine wpList_load_row rfl 33 _ rfl w.heap.size rfl _ _ _ _ HX.out Tryz.underlying33 rfl (by kernel_rfl) ?_)
  refine (HBa.out w4 HBW.out).mono ?_;rintro e w5 ⟨rfl,hb1⟩;replace HX:=hid (HX.out.below hb1);replace HBW:=hid (bnext HBW.out hb1);clear hb1;have xs:=HX.out.cells;dsimp only at xs;go_wp2
  go_ret;rw [HR.out];exact ⟨rfl,bnext HB.out HBW.out⟩
 have y3:(d==1)=false:=beq_f z3;have HR:=hid (show R=G3 by rw [HRR.out];simp [Q0.out,Q1.out,Q2.out,Q3.out,z3]);clear HRR;go_upto_region 14 with fail
 clear xs;go_wp2_with (refine wpList_load_row rfl 33 _ rfl w.heap.size rfl _ _ _ _ HX.out Tryz.underlying33 rfl (by kernel_rfl) ?_)
 refine (HBa.out w4 HBW.out).mono ?_;rintro e w5 ⟨rfl,hb1⟩;replace HX:=hid (HX.out.below hb1);replace HBW:=hid (bnext HBW.out hb1);clear hb1;have xs:=HX.out.cells;dsimp only at xs;go_wp2
 go_ret;rw [HR.out];exact ⟨rfl,bnext HB.out HBW.out⟩
theorem rExch_bo (x:Mv) (m:Ms) (w:World) (h:RdMs w x m) (hA:UM.isCl m.p=false) (hB:JM.isAdm m.p=true) (k1:m.k≠1) (k2:m.k≠2) :
  Calls Tryz.prog 25 #[mv m x] w fun e w'=>e = .returned (.int .i64 (NM.errX m))/\Below w.heap.size w w':=by
 obtain ⟨k,fr,tx,p,n,r,d,cf,ct,bf,bt,hb,ef,et,cg,st,hv,mo⟩:=m;obtain ⟨s1,s2,s3,s4,s5,s6,s7,s8,s9⟩:=x;obtain ⟨h1,h2,h3,h4,h5,h6,h7,h8,h9⟩:=h;dsimp only at h1 h2 h3 h4 h5 h6 h7 h8 h9;obtain ⟨a1,c1,rfl,_⟩:=h1.shape;obtain ⟨a2,c2,rfl,_⟩:=h2.shape;obtain ⟨a3,c3,rfl,_⟩:=h3.shape;obtain ⟨a4,c4,rfl,_⟩:=h4.shape;obtain ⟨a5,c5,rfl,_⟩:=h5.shape;obtain ⟨a6,c6,rfl,_⟩:=h6.shape;obtain ⟨a7,c7,rfl,_⟩:=h7.shape;obtain ⟨a8,c8,rfl,_⟩:=h8.shape;obtain ⟨a9,c9,rfl,_⟩:=h9.shape;have hb0:=below_fresh w (.cells #[.int .i64 k,.int .i64 fr,.int .i64 tx,.int .i64 p,.int .i64 n,.int .i64 r,.int .i64 d,.slice a1 cf.length c1,.slice a2 ct.length c2,.slice a3 bf.length c3,.slice a4 bt.length c4,.bool hb,.slice a5 ef.length c5,.slice a6 et.length c6,.slice a7 cg.length c7,.slice a8 st.length c8,.slice a9 hv.length c9,.bool mo] 33);obtain ⟨w0,hw0⟩:∃ w0,w.alloc (.cells #[.int .i64 k,.int .i64 fr,.int .i64 tx,.int .i64 p,.int .i64 n,.int .i64 r,.int .i64 d,.slice a1 cf.length c1,.slice a2 ct.length c2,.slice a3 bf.length c3,.slice a4 bt.length c4,.bool hb,.slice a5 ef.length c5,.slice a6 et.length c6,.slice a7 cg.length c7,.slice a8 st.length c8,.slice a9 hv.length c9,.bool mo] 33)=w0:=⟨_,rfl⟩
 have hX:MB w0 w.heap.size ({k,fr,tx,p,n,r,d,cf,ct,bf,bt,hb,ef,et,cg,st,hv,mo}:Ms) (⟨.slice a1 cf.length c1,.slice a2 ct.length c2,.slice a3 bf.length c3,.slice a4 bt.length c4,.slice a5 ef.length c5,.slice a6 et.length c6,.slice a7 cg.length c7,.slice a8 st.length c8,.slice a9 hv.length c9⟩:Mv):=by rw [<- hw0];exact MB.fresh w ({k,fr,tx,p,n,r,d,cf,ct,bf,bt,hb,ef,et,cg,st,hv,mo}:Ms) (⟨.slice a1 cf.length c1,.slice a2 ct.length c2,.slice a3 bf.length c3,.slice a4 bt.length c4,.slice a5 ef.length c5,.slice a6 et.length c6,.slice a7 cg.length c7,.slice a8 st.length c8,.slice a9 hv.length c9⟩:Mv)
 rw [hw0] at hb0;have HX:=hid hX;have HB:=hid hb0;have HW:=hid hw0;replace h1:=h1.below hb0;replace h2:=h2.below hb0;replace h3:=h3.below hb0;replace h4:=h4.below hb0;replace h5:=h5.below hb0;replace h6:=h6.below hb0;replace h7:=h7.below hb0;replace h8:=h8.below hb0;replace h9:=h9.below hb0;obtain ⟨R,hR⟩:∃ R,R=NM.errX ({k,fr,tx,p,n,r,d,cf,ct,bf,bt,hb,ef,et,cg,st,hv,mo}:Ms):=⟨_,rfl⟩
 rw [<- hR];unfold NM.errX at hR;dsimp only at hR;dsimp only at hA hB k1 k2;have HCl:=hid (fun w' (_:Below w0.heap.size w0 w')=>rClientB p w');have HAd:=hid (fun w' (_:Below w0.heap.size w0 w')=>rAdminB p w');have HCg:=hid (fun w' (g:Below w0.heap.size w0 w')=>rValidateC _ cg w' (h7.below g));have HSt:=hid (fun w' (g:Below w0.heap.size w0 w')=>ST.rValidateS _ st w' (h8.below g));have HBa:=hid (fun w' (g:Below w0.heap.size w0 w')=>rBases (⟨.slice a1 cf.length c1,.slice a2 ct.length c2,.slice a3 bf.length c3,.slice a4 bt.length c4,.slice a5 ef.length c5,.slice a6 et.length c6,.slice a7 cg.length c7,.slice a8 st.length c8,.slice a9 hv.length c9⟩:Mv) ({k,fr,tx,p,n,r,d,cf,ct,bf,bt,hb,ef,et,cg,st,hv,mo}:Ms) w' ⟨h1.below g,h2.below g,h3.below g,h4.below g,h5.below g,h6.below g,h7.below g,h8.below g,h9.below g⟩);generalize UM.isCl p=A at hR HCl hA;generalize JM.isAdm p=B at hR HAd hB;generalize CM.errL (0,0) cg=G1 at hR HCg;generalize SM.errL (0,0) st=G2 at hR HSt;generalize NM.errB ({k,fr,tx,p,n,r,d,cf,ct,bf,bt,hb,ef,et,cg,st,hv,mo}:Ms)=G3 at hR HBa;subst hA hB;have k1f:(k==1)=false:=beq_f k1;have k2f:(k==2)=false:=beq_f k2;clear h1 h2 h3 h4 h5 h6 h7 h8 h9 hb0 hX hw0;dsimp only [mv,mcell];have HRR:=hid hR;clear hR;go_enter Tryz.func25,Tryz.ntmps25
 go_upto_region 1 with fail
 rw [HW.out];have HBW:=hid (Below.refl w0.heap.size w0);have xs:=HX.out.cells;dsimp only at xs;go_wp2_with fail
 refine (HCl.out w0 HBW.out).mono ?_;rintro e w1 ⟨rfl,hb1⟩;clear xs;replace HX:=hid (HX.out.below hb1);replace HBW:=hid (bnext HBW.out hb1);clear hb1;have xs:=HX.out.cells;dsimp only at xs;go_wp2_with fail
 refine (HAd.out w1 HBW.out).mono ?_;rintro e w2 ⟨rfl,hb1⟩;clear xs;replace HX:=hid (HX.out.below hb1);replace HBW:=hid (bnext HBW.out hb1);clear hb1;have xs:=HX.out.cells;dsimp only at xs;by_cases q0:n<1
 case pos=>
  have HR:=hid (show R=9 by rw [HRR.out];simp [q0]);clear HRR;go_wp2
  go_ret;rw [HR.out];exact ⟨rfl,bnext HB.out HBW.out⟩
 have Q0:=hid (eq_false q0);by_cases q1:1000000<n
 case pos=>
  have HR:=hid (show R=9 by rw [HRR.out];simp [q1,Q0.out]);clear HRR;go_wp2
  go_ret;rw [HR.out];exact ⟨rfl,bnext HB.out HBW.out⟩
 have Q1:=hid (eq_false q1);by_cases q2:r<1
 case pos=>
  have HR:=hid (show R=9 by rw [HRR.out];simp [q2,Q0.out,Q1.out]);clear HRR;go_wp2
  go_ret;rw [HR.out];exact ⟨rfl,bnext HB.out HBW.out⟩
 have Q2:=hid (eq_false q2);by_cases q3:1000000<r
 case pos=>
  have HR:=hid (show R=9 by rw [HRR.out];simp [q3,Q0.out,Q1.out,Q2.out]);clear HRR;go_wp2
  go_ret;rw [HR.out];exact ⟨rfl,bnext HB.out HBW.out⟩
 have Q3:=hid (eq_false q3);go_wp2_with fail
 refine (HCg.out w2 HBW.out).mono ?_;rintro e w3 ⟨rfl,hb1⟩;clear xs;replace HX:=hid (HX.out.below hb1);replace HBW:=hid (bnext HBW.out hb1);clear hb1;have xs:=HX.out.cells;dsimp only at xs;by_cases z1:G1=0
 case neg=>
  have y1:(G1 != 0)=true:=bne_t z1;have HR:=hid (show R=G1 by rw [HRR.out];simp [Q0.out,Q1.out,Q2.out,Q3.out,k1,z1]);clear HRR;go_wp2_with fail
  refine (HCg.out w3 HBW.out).mono ?_;rintro e w4 ⟨rfl,hb1⟩;clear xs;replace HX:=hid (HX.out.below hb1);replace HBW:=hid (bnext HBW.out hb1);clear hb1;have xs:=HX.out.cells;dsimp only at xs;go_wp2
  go_ret;rw [HR.out];exact ⟨rfl,bnext HB.out HBW.out⟩
 subst z1;go_wp2_with fail
 refine (HSt.out w3 HBW.out).mono ?_;rintro e w4 ⟨rfl,hb1⟩;clear xs;replace HX:=hid (HX.out.below hb1);replace HBW:=hid (bnext HBW.out hb1);clear hb1;have xs:=HX.out.cells;dsimp only at xs;by_cases z2:G2=0
 case neg=>
  have y2:(G2 != 0)=true:=bne_t z2;have HR:=hid (show R=G2 by rw [HRR.out];simp [Q0.out,Q1.out,Q2.out,Q3.out,k1,z2]);clear HRR;go_wp2_with fail
  refine (HSt.out w4 HBW.out).mono ?_;rintro e w5 ⟨rfl,hb1⟩;clear xs;replace HX:=hid (HX.out.below hb1);replace HBW:=hid (bnext HBW.out hb1);clear hb1;have xs:=HX.out.cells;dsimp only at xs;go_wp2
  go_ret;rw [HR.out];exact ⟨rfl,bnext HB.out HBW.out⟩
 subst z2;by_cases z3:d=1
 case pos=>
  subst z3;by_cases z4:0<st.length
  case pos=>
   have y4:(0:Int)<(st.length:Int):=by omega
   have HR:=hid (show R=2 by rw [HRR.out];simp [Q0.out,Q1.out,Q2.out,Q3.out,k1,z4]);clear HRR;go_wp2
   go_ret;rw [HR.out];exact ⟨rfl,bnext HB.out HBW.out⟩
  have y4:¬ (0:Int)<(st.length:Int):=by omega
  have HR:=hid (show R=0 by rw [HRR.out];simp [Q0.out,Q1.out,Q2.out,Q3.out,k1,z4,k2]);clear HRR;go_wp2
  go_ret;rw [HR.out];exact ⟨rfl,bnext HB.out HBW.out⟩
 have y3:(d==1)=false:=beq_f z3;have HR:=hid (show R=0 by rw [HRR.out];simp [Q0.out,Q1.out,Q2.out,Q3.out,k1,z3,k2]);clear HRR;go_wp2
 go_ret;rw [HR.out];exact ⟨rfl,bnext HB.out HBW.out⟩
theorem rExch_c (x:Mv) (m:Ms) (w:World) (h:RdMs w x m) (hA:UM.isCl m.p=false) (hB:JM.isAdm m.p=false) :
  Calls Tryz.prog 25 #[mv m x] w fun e w'=>e = .returned (.int .i64 (NM.errX m))/\Below w.heap.size w w':=by
 obtain ⟨k,fr,tx,p,n,r,d,cf,ct,bf,bt,hb,ef,et,cg,st,hv,mo⟩:=m;obtain ⟨s1,s2,s3,s4,s5,s6,s7,s8,s9⟩:=x;obtain ⟨h1,h2,h3,h4,h5,h6,h7,h8,h9⟩:=h;dsimp only at h1 h2 h3 h4 h5 h6 h7 h8 h9;obtain ⟨a1,c1,rfl,_⟩:=h1.shape;obtain ⟨a2,c2,rfl,_⟩:=h2.shape;obtain ⟨a3,c3,rfl,_⟩:=h3.shape;obtain ⟨a4,c4,rfl,_⟩:=h4.shape;obtain ⟨a5,c5,rfl,_⟩:=h5.shape;obtain ⟨a6,c6,rfl,_⟩:=h6.shape;obtain ⟨a7,c7,rfl,_⟩:=h7.shape;obtain ⟨a8,c8,rfl,_⟩:=h8.shape;obtain ⟨a9,c9,rfl,_⟩:=h9.shape;have hb0:=below_fresh w (.cells #[.int .i64 k,.int .i64 fr,.int .i64 tx,.int .i64 p,.int .i64 n,.int .i64 r,.int .i64 d,.slice a1 cf.length c1,.slice a2 ct.length c2,.slice a3 bf.length c3,.slice a4 bt.length c4,.bool hb,.slice a5 ef.length c5,.slice a6 et.length c6,.slice a7 cg.length c7,.slice a8 st.length c8,.slice a9 hv.length c9,.bool mo] 33);obtain ⟨w0,hw0⟩:∃ w0,w.alloc (.cells #[.int .i64 k,.int .i64 fr,.int .i64 tx,.int .i64 p,.int .i64 n,.int .i64 r,.int .i64 d,.slice a1 cf.length c1,.slice a2 ct.length c2,.slice a3 bf.length c3,.slice a4 bt.length c4,.bool hb,.slice a5 ef.length c5,.slice a6 et.length c6,.slice a7 cg.length c7,.slice a8 st.length c8,.slice a9 hv.length c9,.bool mo] 33)=w0:=⟨_,rfl⟩
 have hX:MB w0 w.heap.size ({k,fr,tx,p,n,r,d,cf,ct,bf,bt,hb,ef,et,cg,st,hv,mo}:Ms) (⟨.slice a1 cf.length c1,.slice a2 ct.length c2,.slice a3 bf.length c3,.slice a4 bt.length c4,.slice a5 ef.length c5,.slice a6 et.length c6,.slice a7 cg.length c7,.slice a8 st.length c8,.slice a9 hv.length c9⟩:Mv):=by rw [<- hw0];exact MB.fresh w ({k,fr,tx,p,n,r,d,cf,ct,bf,bt,hb,ef,et,cg,st,hv,mo}:Ms) (⟨.slice a1 cf.length c1,.slice a2 ct.length c2,.slice a3 bf.length c3,.slice a4 bt.length c4,.slice a5 ef.length c5,.slice a6 et.length c6,.slice a7 cg.length c7,.slice a8 st.length c8,.slice a9 hv.length c9⟩:Mv)
 rw [hw0] at hb0;have HX:=hid hX;have HB:=hid hb0;have HW:=hid hw0;replace h1:=h1.below hb0;replace h2:=h2.below hb0;replace h3:=h3.below hb0;replace h4:=h4.below hb0;replace h5:=h5.below hb0;replace h6:=h6.below hb0;replace h7:=h7.below hb0;replace h8:=h8.below hb0;replace h9:=h9.below hb0;obtain ⟨R,hR⟩:∃ R,R=NM.errX ({k,fr,tx,p,n,r,d,cf,ct,bf,bt,hb,ef,et,cg,st,hv,mo}:Ms):=⟨_,rfl⟩
 rw [<- hR];unfold NM.errX at hR;dsimp only at hR;dsimp only at hA hB;have HCl:=hid (fun w' (_:Below w0.heap.size w0 w')=>rClientB p w');have HAd:=hid (fun w' (_:Below w0.heap.size w0 w')=>rAdminB p w');have HCg:=hid (fun w' (g:Below w0.heap.size w0 w')=>rValidateC _ cg w' (h7.below g));have HSt:=hid (fun w' (g:Below w0.heap.size w0 w')=>ST.rValidateS _ st w' (h8.below g));have HBa:=hid (fun w' (g:Below w0.heap.size w0 w')=>rBases (⟨.slice a1 cf.length c1,.slice a2 ct.length c2,.slice a3 bf.length c3,.slice a4 bt.length c4,.slice a5 ef.length c5,.slice a6 et.length c6,.slice a7 cg.length c7,.slice a8 st.length c8,.slice a9 hv.length c9⟩:Mv) ({k,fr,tx,p,n,r,d,cf,ct,bf,bt,hb,ef,et,cg,st,hv,mo}:Ms) w' ⟨h1.below g,h2.below g,h3.below g,h4.below g,h5.below g,h6.below g,h7.below g,h8.below g,h9.below g⟩);generalize UM.isCl p=A at hR HCl hA;generalize JM.isAdm p=B at hR HAd hB;generalize CM.errL (0,0) cg=G1 at hR HCg;generalize SM.errL (0,0) st=G2 at hR HSt;generalize NM.errB ({k,fr,tx,p,n,r,d,cf,ct,bf,bt,hb,ef,et,cg,st,hv,mo}:Ms)=G3 at hR HBa;subst hA hB;clear h1 h2 h3 h4 h5 h6 h7 h8 h9 hb0 hX hw0;dsimp only [mv,mcell];have HRR:=hid hR;clear hR;go_enter Tryz.func25,Tryz.ntmps25
 go_upto_region 1 with fail
 rw [HW.out];have HBW:=hid (Below.refl w0.heap.size w0);have xs:=HX.out.cells;dsimp only at xs;have HR:=hid (show R=9 by rw [HRR.out];simp []);clear HRR;go_wp2_with fail
 refine (HCl.out w0 HBW.out).mono ?_;rintro e w1 ⟨rfl,hb1⟩;clear xs;replace HX:=hid (HX.out.below hb1);replace HBW:=hid (bnext HBW.out hb1);clear hb1;have xs:=HX.out.cells;dsimp only at xs;go_wp2_with fail
 refine (HAd.out w1 HBW.out).mono ?_;rintro e w2 ⟨rfl,hb1⟩;clear xs;replace HX:=hid (HX.out.below hb1);replace HBW:=hid (bnext HBW.out hb1);clear hb1;have xs:=HX.out.cells;dsimp only at xs;go_wp2
 go_ret;rw [HR.out];exact ⟨rfl,bnext HB.out HBW.out⟩
theorem rExch (x:Mv) (m:Ms) (w:World) (h:RdMs w x m) :
  Calls Tryz.prog 25 #[mv m x] w fun e w'=>e = .returned (.int .i64 (NM.errX m))/\Below w.heap.size w w':=by
 by_cases k1:m.k=1
 ·rcases Bool.eq_false_or_eq_true (UM.isCl m.p) with hA | hA
  ·exact rExch_a1 x m w h hA k1
  ·rcases Bool.eq_false_or_eq_true (JM.isAdm m.p) with hB | hB
   ·exact rExch_b1 x m w h hA hB k1
   ·exact rExch_c x m w h hA hB
 ·by_cases k2:m.k=2
  ·rcases Bool.eq_false_or_eq_true (UM.isCl m.p) with hA | hA
   ·exact rExch_a2 x m w h hA k2
   ·rcases Bool.eq_false_or_eq_true (JM.isAdm m.p) with hB | hB
    ·exact rExch_b2 x m w h hA hB k2
    ·exact rExch_c x m w h hA hB
  ·rcases Bool.eq_false_or_eq_true (UM.isCl m.p) with hA | hA
   ·exact rExch_ao x m w h hA k1 k2
   ·rcases Bool.eq_false_or_eq_true (JM.isAdm m.p) with hB | hB
    ·exact rExch_bo x m w h hA hB k1 k2
    ·exact rExch_c x m w h hA hB
end Go.Proofs.YtahcehbgfhdbjaaGreatDoor

