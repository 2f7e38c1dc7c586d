/-
  NRef4: joined texts, what nothing names left out.
-/
import Derived.Test.YtahcehbgfhdbjaaGreatDoorQUA24
set_option maxHeartbeats 8000000
set_option maxRecDepth 100000
open Go.Lib (hid)
namespace Go.Proofs.YtahcehbgfhdbjaaGreatDoor
open Go.RowKit
open NM (Ms)
open VM (Ent)
theorem rValM (x:Mv) (m:Ms) (w:World) (h:RdMs w x m) :
  Calls Tryz.prog 10 #[mv m x] w fun e w'=>e = .returned (.int .i64 (NM.errM m))/\Below w.heap.size w w':=by
 obtain ⟨k,fr,tx,p,n,r,d,cf,ct,bf,bt,hb,ef,et,cg,st,hv,mo⟩:=m;obtain ⟨s1,s2,s3,s4,s5,s6,s7,s8,s9⟩:=x;obtain ⟨h1,h2,h3,h4,h5,h6,h7,h8,h9⟩:=h;dsimp only at h1 h2 h3 h4 h5 h6 h7 h8 h9;obtain ⟨a1,c1,rfl,_⟩:=h1.shape;obtain ⟨a2,c2,rfl,_⟩:=h2.shape;obtain ⟨a3,c3,rfl,_⟩:=h3.shape;obtain ⟨a4,c4,rfl,_⟩:=h4.shape;obtain ⟨a5,c5,rfl,_⟩:=h5.shape;obtain ⟨a6,c6,rfl,_⟩:=h6.shape;obtain ⟨a7,c7,rfl,_⟩:=h7.shape;obtain ⟨a8,c8,rfl,_⟩:=h8.shape;obtain ⟨a9,c9,rfl,_⟩:=h9.shape;have hb0:=below_fresh w (.cells #[.int .i64 k,.int .i64 fr,.int .i64 tx,.int .i64 p,.int .i64 n,.int .i64 r,.int .i64 d,.slice a1 cf.length c1,.slice a2 ct.length c2,.slice a3 bf.length c3,.slice a4 bt.length c4,.bool hb,.slice a5 ef.length c5,.slice a6 et.length c6,.slice a7 cg.length c7,.slice a8 st.length c8,.slice a9 hv.length c9,.bool mo] 33);obtain ⟨w0,hw0⟩:∃ w0,w.alloc (.cells #[.int .i64 k,.int .i64 fr,.int .i64 tx,.int .i64 p,.int .i64 n,.int .i64 r,.int .i64 d,.slice a1 cf.length c1,.slice a2 ct.length c2,.slice a3 bf.length c3,.slice a4 bt.length c4,.bool hb,.slice a5 ef.length c5,.slice a6 et.length c6,.slice a7 cg.length c7,.slice a8 st.length c8,.slice a9 hv.length c9,.bool mo] 33)=w0:=⟨_,rfl⟩
 have hX:MB w0 w.heap.size ({k,fr,tx,p,n,r,d,cf,ct,bf,bt,hb,ef,et,cg,st,hv,mo}:Ms) (⟨.slice a1 cf.length c1,.slice a2 ct.length c2,.slice a3 bf.length c3,.slice a4 bt.length c4,.slice a5 ef.length c5,.slice a6 et.length c6,.slice a7 cg.length c7,.slice a8 st.length c8,.slice a9 hv.length c9⟩:Mv):=by rw [<- hw0];exact MB.fresh w ({k,fr,tx,p,n,r,d,cf,ct,bf,bt,hb,ef,et,cg,st,hv,mo}:Ms) (⟨.slice a1 cf.length c1,.slice a2 ct.length c2,.slice a3 bf.length c3,.slice a4 bt.length c4,.slice a5 ef.length c5,.slice a6 et.length c6,.slice a7 cg.length c7,.slice a8 st.length c8,.slice a9 hv.length c9⟩:Mv)
 rw [hw0] at hb0;have HX:=hid hX;have HB:=hid hb0;have HW:=hid hw0;replace h1:=h1.below hb0;replace h2:=h2.below hb0;replace h3:=h3.below hb0;replace h4:=h4.below hb0;replace h5:=h5.below hb0;replace h6:=h6.below hb0;replace h7:=h7.below hb0;replace h8:=h8.below hb0;replace h9:=h9.below hb0;obtain ⟨R,hR⟩:∃ R,R=NM.errM ({k,fr,tx,p,n,r,d,cf,ct,bf,bt,hb,ef,et,cg,st,hv,mo}:Ms):=⟨_,rfl⟩
 rw [<- hR];unfold NM.errM at hR;dsimp only at hR;have HP1:=hid (fun w' (_:Below w0.heap.size w0 w')=>rProcB fr w');have HP2:=hid (fun w' (_:Below w0.heap.size w0 w')=>rProcB tx w');have HUn:=hid (fun w' (g:Below w0.heap.size w0 w')=>rUnused (⟨.slice a1 cf.length c1,.slice a2 ct.length c2,.slice a3 bf.length c3,.slice a4 bt.length c4,.slice a5 ef.length c5,.slice a6 et.length c6,.slice a7 cg.length c7,.slice a8 st.length c8,.slice a9 hv.length c9⟩:Mv) ({k,fr,tx,p,n,r,d,cf,ct,bf,bt,hb,ef,et,cg,st,hv,mo}:Ms) w' ⟨h1.below g,h2.below g,h3.below g,h4.below g,h5.below g,h6.below g,h7.below g,h8.below g,h9.below g⟩);have HXc:=hid (fun w' (g:Below w0.heap.size w0 w')=>rExch (⟨.slice a1 cf.length c1,.slice a2 ct.length c2,.slice a3 bf.length c3,.slice a4 bt.length c4,.slice a5 ef.length c5,.slice a6 et.length c6,.slice a7 cg.length c7,.slice a8 st.length c8,.slice a9 hv.length c9⟩:Mv) ({k,fr,tx,p,n,r,d,cf,ct,bf,bt,hb,ef,et,cg,st,hv,mo}:Ms) w' ⟨h1.below g,h2.below g,h3.below g,h4.below g,h5.below g,h6.below g,h7.below g,h8.below g,h9.below g⟩);have HBa:=hid (fun w' (g:Below w0.heap.size w0 w')=>rBases (⟨.slice a1 cf.length c1,.slice a2 ct.length c2,.slice a3 bf.length c3,.slice a4 bt.length c4,.slice a5 ef.length c5,.slice a6 et.length c6,.slice a7 cg.length c7,.slice a8 st.length c8,.slice a9 hv.length c9⟩:Mv) ({k,fr,tx,p,n,r,d,cf,ct,bf,bt,hb,ef,et,cg,st,hv,mo}:Ms) w' ⟨h1.below g,h2.below g,h3.below g,h4.below g,h5.below g,h6.below g,h7.below g,h8.below g,h9.below g⟩)
 have HCe:=hid (fun w' (g:Below w0.heap.size w0 w')=>rValidateCert _ _ cf ct w' (h1.below g) (h2.below g));have HVe:=hid (fun w' (g:Below w0.heap.size w0 w')=>VX.rValidate _ hv w' (h9.below g));have HCh:=hid (fun w' (g:Below w0.heap.size w0 w')=>ST.rChunk _ st w' (h8.below g));generalize NM.proc fr=P1 at hR HP1;generalize NM.proc tx=P2 at hR HP2;generalize NM.bad ({k,fr,tx,p,n,r,d,cf,ct,bf,bt,hb,ef,et,cg,st,hv,mo}:Ms)=U at hR HUn;generalize NM.errX ({k,fr,tx,p,n,r,d,cf,ct,bf,bt,hb,ef,et,cg,st,hv,mo}:Ms)=G1 at hR HXc;generalize NM.errB ({k,fr,tx,p,n,r,d,cf,ct,bf,bt,hb,ef,et,cg,st,hv,mo}:Ms)=G2 at hR HBa;generalize CM.errC cf ct=C at hR HCe;generalize VM.err 0 hv=V at hR HVe;generalize NM.chk st=Q at hR HCh;clear h1 h2 h3 h4 h5 h6 h7 h8 h9 hb0 hX hw0;dsimp only [mv,mcell];have HRR:=hid hR;clear hR;go_enter Tryz.func10,Tryz.ntmps10
 go_upto_region 1 with fail
 rw [HW.out];have HBW:=hid (Below.refl w0.heap.size w0);have xs:=HX.out.cells;dsimp only at xs;by_cases q1:k<1
 case pos=>
  have HR:=hid (show R=10 by rw [HRR.out];simp [q1]);clear HRR;go_wp2
  go_ret;rw [HR.out];exact ⟨rfl,bnext HB.out HBW.out⟩
 have Q1:=hid (eq_false q1);by_cases q2:8<k
 case pos=>
  have HR:=hid (show R=10 by rw [HRR.out];simp [Q1.out,q2]);clear HRR;go_wp2
  go_ret;rw [HR.out];exact ⟨rfl,bnext HB.out HBW.out⟩
 have Q2:=hid (eq_false q2);go_wp2_with fail
 refine (HP1.out w0 HBW.out).mono ?_;rintro e w1 ⟨rfl,hb1⟩;clear xs;replace HX:=hid (HX.out.below hb1);replace HBW:=hid (bnext HBW.out hb1);clear hb1;have xs:=HX.out.cells;dsimp only at xs;rcases Bool.eq_false_or_eq_true P1 with rfl | rfl
 rotate_left
 ·have HR:=hid (show R=9 by rw [HRR.out];simp [Q1.out,Q2.out]);clear HRR;go_wp2
  go_ret;rw [HR.out];exact ⟨rfl,bnext HB.out HBW.out⟩
 go_wp2_with fail
 refine (HP2.out w1 HBW.out).mono ?_;rintro e w2 ⟨rfl,hb1⟩;clear xs;replace HX:=hid (HX.out.below hb1);replace HBW:=hid (bnext HBW.out hb1);clear hb1;have xs:=HX.out.cells;dsimp only at xs;rcases Bool.eq_false_or_eq_true P2 with rfl | rfl
 rotate_left
 ·have HR:=hid (show R=9 by rw [HRR.out];simp [Q1.out,Q2.out]);clear HRR;go_wp2
  go_ret;rw [HR.out];exact ⟨rfl,bnext HB.out HBW.out⟩
 go_upto_region 5 with fail
 clear xs;go_wp2_with (refine wpList_load_row rfl 33 _ rfl w.heap.size rfl _ _ _ _ HX.out Tryz.underlying33 rfl (by kernel_rfl) ?_)
 refine (HUn.out w2 HBW.out).mono ?_;rintro e w3 ⟨rfl,hb1⟩;replace HX:=hid (HX.out.below hb1);replace HBW:=hid (bnext HBW.out hb1);clear hb1;have xs:=HX.out.cells;dsimp only at xs;rcases Bool.eq_false_or_eq_true U with rfl | rfl
 ·have HR:=hid (show R=2 by rw [HRR.out];simp [Q1.out,Q2.out]);clear HRR;go_wp2
  go_ret;rw [HR.out];exact ⟨rfl,bnext HB.out HBW.out⟩
 by_cases k1:k=1
 case pos=>
  subst k1;have HR:=hid (show R=G1 by rw [HRR.out];simp []);clear HRR;go_upto_region 8 with fail
  clear xs;go_wp2_with (refine wpList_load_row rfl 33 _ rfl w.heap.size rfl _ _ _ _ HX.out Tryz.underlying33 rfl (by kernel_rfl) ?_)
  refine (HXc.out w3 HBW.out).mono ?_;rintro e w4 ⟨rfl,hb1⟩;replace HX:=hid (HX.out.below hb1);replace HBW:=hid (bnext HBW.out hb1);clear hb1;have xs:=HX.out.cells;dsimp only at xs;go_wp2
  go_ret;rw [HR.out];exact ⟨rfl,bnext HB.out HBW.out⟩
 have k1f:(k==1)=false:=beq_f k1;by_cases k2:k=2
 case pos=>
  subst k2;have HR:=hid (show R=G1 by rw [HRR.out];simp []);clear HRR;go_upto_region 8 with fail
  clear xs;go_wp2_with (refine wpList_load_row rfl 33 _ rfl w.heap.size rfl _ _ _ _ HX.out Tryz.underlying33 rfl (by kernel_rfl) ?_)
  refine (HXc.out w3 HBW.out).mono ?_;rintro e w4 ⟨rfl,hb1⟩;replace HX:=hid (HX.out.below hb1);replace HBW:=hid (bnext HBW.out hb1);clear hb1;have xs:=HX.out.cells;dsimp only at xs;go_wp2
  go_ret;rw [HR.out];exact ⟨rfl,bnext HB.out HBW.out⟩
 have k2f:(k==2)=false:=beq_f k2;go_wp2_with fail
 refine (HCe.out w3 HBW.out).mono ?_;rintro e w4 ⟨rfl,hb1⟩;clear xs;replace HX:=hid (HX.out.below hb1);replace HBW:=hid (bnext HBW.out hb1);clear hb1;have xs:=HX.out.cells;dsimp only at xs;by_cases z1:C=0
 case neg=>
  have y1:(C != 0)=true:=bne_t z1;have HR:=hid (show R=C by rw [HRR.out];simp [Q1.out,Q2.out,k1,k2,z1]);clear HRR;go_wp2_with fail
  refine (HCe.out w4 HBW.out).mono ?_;rintro e w5 ⟨rfl,hb1⟩;clear xs;replace HX:=hid (HX.out.below hb1);replace HBW:=hid (bnext HBW.out hb1);clear hb1;have xs:=HX.out.cells;dsimp only at xs;go_wp2
  go_ret;rw [HR.out];exact ⟨rfl,bnext HB.out HBW.out⟩
 subst z1;by_cases k4:k=4
 case pos=>
  subst k4;have HR:=hid (show R=V by rw [HRR.out];simp []);clear HRR;go_wp2_with fail
  refine (HVe.out w4 HBW.out).mono ?_;rintro e w5 ⟨rfl,hb1⟩;clear xs;replace HX:=hid (HX.out.below hb1);replace HBW:=hid (bnext HBW.out hb1);clear hb1;have xs:=HX.out.cells;dsimp only at xs;go_wp2
  go_ret;rw [HR.out];exact ⟨rfl,bnext HB.out HBW.out⟩
 have k4f:(k==4)=false:=beq_f k4;by_cases k5:k=5
 case pos=>
  subst k5;go_wp2_with fail
  refine (HCh.out w4 HBW.out).mono ?_;rintro e w5 ⟨rfl,hb1⟩;clear xs;replace HX:=hid (HX.out.below hb1);replace HBW:=hid (bnext HBW.out hb1);clear hb1;have xs:=HX.out.cells;dsimp only at xs;by_cases z2:Q=0
  case neg=>
   have y2:(Q != 0)=true:=bne_t z2;have HR:=hid (show R=Q by rw [HRR.out];simp [z2]);clear HRR;go_wp2_with fail
   refine (HCh.out w5 HBW.out).mono ?_;rintro e w6 ⟨rfl,hb1⟩;clear xs;replace HX:=hid (HX.out.below hb1);replace HBW:=hid (bnext HBW.out hb1);clear hb1;have xs:=HX.out.cells;dsimp only at xs;go_wp2
   go_ret;rw [HR.out];exact ⟨rfl,bnext HB.out HBW.out⟩
  subst z2;have HR:=hid (show R=G2 by rw [HRR.out];simp []);clear HRR;go_upto_region 16 with fail
  clear xs;go_wp2_with (refine wpList_load_row rfl 33 _ rfl w.heap.size rfl _ _ _ _ HX.out Tryz.underlying33 rfl (by kernel_rfl) ?_)
  refine (HBa.out w5 HBW.out).mono ?_;rintro e w6 ⟨rfl,hb1⟩;replace HX:=hid (HX.out.below hb1);replace HBW:=hid (bnext HBW.out hb1);clear hb1;have xs:=HX.out.cells;dsimp only at xs;go_wp2
  go_ret;rw [HR.out];exact ⟨rfl,bnext HB.out HBW.out⟩
 have k5f:(k==5)=false:=beq_f k5;have HR:=hid (show R=0 by rw [HRR.out];simp [Q1.out,Q2.out,k1,k2,k4,k5]);clear HRR;go_wp2
 go_ret;rw [HR.out];exact ⟨rfl,bnext HB.out HBW.out⟩
end Go.Proofs.YtahcehbgfhdbjaaGreatDoor

