/-
  NPj NLaw2 SSom NSrc: joined texts, what nothing names left out.
-/
import Derived.Test.YtahcehbgfhdbjaaGreatDoorQMA25
import Derived.Laws.EntriesVeiled
set_option maxHeartbeats 8000000
set_option maxRecDepth 100000
open Go.Lib (hid)
namespace Go.Proofs.YtahcehbgfhdbjaaGreatDoor
section
open Go.RowKit
open NM (Ms)
open VM (Ent)
open WM (enc dec Bytes)
structure EncOk (m:Ms) (f:Int):Prop where
 e0:f=0->JM.small m.p/\JM.small m.n
 e1:f=1->JM.small m.r
 e2:f=2->JM.small m.d
 e3:f=3->CM.Ok m.cf/\CM.Ok m.ct
 e4:f=4->CM.Ok m.bf/\CM.Ok m.bt
 e6:f=6->CM.Ok m.ef/\CM.Ok m.et
 e7:f=7->CM.Ok m.cg
 e8:f=8->(∀ g∈m.st,SM.errF g=0)/\m.st.length<=48/\SM.Fit m.st
 e9:f=9->NM.FitH m.hv
theorem certs_ok {f t:List CM.Fp} (h:CM.errC f t=0):CM.Ok f/\CM.Ok t:=⟨(CM.errC_ok h).1,(CM.errC_ok h).2.1⟩
theorem encOk_all {m:Ms} (h:NM.errM m=0) (hf:SM.Fit m.st) (hh:m.k=4->NM.FitH m.hv) {f:Int} (hm:f∈NM.usd m.k):EncOk m f:=by
 obtain ⟨⟨k1,k8⟩,_,_,hb,hX,hR⟩:=NM.errM_ok h;by_cases c1:m.k=1∨m.k=2
 ·obtain ⟨x1,x2,x3,x4,x5,x6,x7⟩:=NM.errX_ok (hX c1);have hq:m.k=2∨f≠4/\f≠6:=by
   rcases c1 with c | c
   ·right
    rw [c,show NM.usd 1 = [0,1,2,7,8] from rfl] at hm;simp only [List.mem_cons,List.mem_nil_iff,or_false] at hm;omega
   ·exact .inl c
  have hd:f=2->m.k=1:=by
   intro hf2;rcases c1 with c | c
   ·exact c
   ·rw [c,show NM.usd 2 = [0,1,7,8,5,4,6] from rfl] at hm;simp only [List.mem_cons,List.mem_nil_iff,or_false] at hm;omega
  have h39:f≠3/\f≠9:=by
   rcases c1 with c | c
   ·rw [c,show NM.usd 1 = [0,1,2,7,8] from rfl] at hm;simp only [List.mem_cons,List.mem_nil_iff,or_false] at hm;omega
   ·rw [c,show NM.usd 2 = [0,1,7,8,5,4,6] from rfl] at hm;simp only [List.mem_cons,List.mem_nil_iff,or_false] at hm;omega
  refine ⟨fun _=>⟨x1,x2⟩,fun _=>x3,fun e=>x4 (hd e),fun e=>absurd e h39.1,fun e=>?_,fun e=>?_,fun _=>x5,fun _=>⟨x6.all,x6.all48,hf⟩,fun e=>absurd e h39.2⟩
  ·rcases hq with q | q
   ·exact certs_ok (NM.errB_ok (x7 q)).2.1
   ·exact absurd e q.1
  ·rcases hq with q | q
   ·exact certs_ok (NM.errB_ok (x7 q)).2.2
   ·exact absurd e q.2
 ·obtain ⟨z1,z2,z3⟩:=hR c1;by_cases c5:m.k=5
  ·obtain ⟨v1,v2⟩:=z3 c5;obtain ⟨v3,v4⟩:=NM.chk_ok v1;obtain ⟨_,y2,y3⟩:=NM.errB_ok v2;rw [c5,show NM.usd 5 = [3,8,10,5,4,6] from rfl] at hm;simp only [List.mem_cons,List.mem_nil_iff,or_false] at hm;exact ⟨fun e=>by omega,fun e=>by omega,fun e=>by omega,fun _=>certs_ok z1,fun _=>certs_ok y2,fun _=>certs_ok y3,fun e=>by omega,fun _=>⟨v4,by omega,hf⟩,fun e=>by omega⟩
  ·have h4:f=3∨(f=9/\m.k=4):=by
    by_cases c4:m.k=4
    ·rw [c4,show NM.usd 4 = [3,9] from rfl] at hm;simp only [List.mem_cons,List.mem_nil_iff,or_false] at hm;omega
    ·have hu:NM.usd m.k = [3]:=by
      unfold NM.usd;rw [if_neg (by omega),if_neg (by omega),if_neg c4,if_neg c5,if_pos (by omega)]
     rw [hu] at hm;simp only [List.mem_cons,List.mem_nil_iff,or_false] at hm;exact .inl hm
   exact ⟨fun e=>by omega,fun e=>by omega,fun e=>by omega,fun _=>certs_ok z1,fun e=>by omega,fun e=>by omega,fun e=>by omega,fun e=>by omega,fun e=>hh (by omega)⟩
theorem encF_le {m:Ms} {f:Int} (h:EncOk m f):(NM.encF m f).length<=100000:=by
 unfold NM.encF;by_cases e:f=0
 ·rw [if_pos e];have:=JM.encN_len [m.p,m.n] (by intro x hx;simp only [List.mem_cons,List.mem_nil_iff,or_false] at hx;rcases hx with rfl | rfl;exact (h.e0 e).1;exact (h.e0 e).2);simp only [List.length_cons,List.length_nil] at this;omega
 rw [if_neg e];by_cases e:f=1
 ·rw [if_pos e];have:=JM.encN_len [m.r] (by intro x hx;simp only [List.mem_cons,List.mem_nil_iff,or_false] at hx;subst hx;exact h.e1 e);simp only [List.length_cons,List.length_nil] at this;omega
 rw [if_neg e];by_cases e:f=2
 ·rw [if_pos e];have:=JM.encN_len [m.d] (by intro x hx;simp only [List.mem_cons,List.mem_nil_iff,or_false] at hx;subst hx;exact h.e2 e);simp only [List.length_cons,List.length_nil] at this;omega
 rw [if_neg e];by_cases e:f=3
 ·rw [if_pos e];have h1:=encL_le (h.e3 e).1;have h2:=encL_le (h.e3 e).2;unfold CM.encC2;rw [List.length_append];omega
 rw [if_neg e];by_cases e:f=4
 ·rw [if_pos e];have h1:=encL_le (h.e4 e).1;have h2:=encL_le (h.e4 e).2;split
  ·unfold CM.encC2;rw [List.length_append];omega
  ·exact Nat.zero_le _
 rw [if_neg e];by_cases e:f=5
 ·rw [if_pos e];exact Nat.le_of_ble_eq_true rfl
 rw [if_neg e];by_cases e:f=6
 ·rw [if_pos e];have h1:=encL_le (h.e6 e).1;have h2:=encL_le (h.e6 e).2;unfold CM.encC2;rw [List.length_append];omega
 rw [if_neg e];by_cases e:f=7
 ·rw [if_pos e];have h1:=encL_le (h.e7 e);omega
 rw [if_neg e];by_cases e:f=8
 ·rw [if_pos e];obtain ⟨a1,a2,a3⟩:=h.e8 e;have h1:=SM.flat_len a1 a3;have h2:=WM.enc_len10 m.st.length (by omega);unfold SM.encL;rw [List.length_append];omega
 rw [if_neg e];by_cases e:f=9
 ·rw [if_pos e];obtain ⟨a1,a2⟩:=h.e9 e;have h1:=JM.encN_len (NM.flatE m.hv) (fun x hx=>by
   obtain ⟨e,he,hxe⟩:=List.mem_flatMap.1 hx;simp only [List.mem_cons,List.mem_nil_iff,or_false] at hxe;rcases hxe with rfl | rfl
   ·exact (a2 e he).1
   ·exact (a2 e he).2)
  rw [NM.flatE_len] at h1;have h2:=WM.enc_len10 m.hv.length (by omega);unfold NM.encH;rw [List.length_append];omega
 rw [if_neg e];exact Nat.le_of_ble_eq_true rfl
theorem num_enc (w:World) (l:List Int) (hs:∀ x∈l,JM.small x) (hl:l.length<=3) :
  Calls Tryz.prog 52 #[.slice none 0 0,.slice (some ⟨w.heap.size,0,none⟩) l.length l.length] (w.alloc (.cells (cellsOf encI l).toArray 3)) fun e w'=>∃ v',e = .returned v'/\Rd w' v' (JM.encN l)/\Below w.heap.size w w':=by
 have h:=cAppendNumbers (.slice none 0 0) _ [] l (w.alloc (.cells (cellsOf encI l).toArray 3)) (Rd.nil _) (ownG_fresh hlI 3 w l (by unfold maxLen;omega)).rd hs (by omega) (by simp);rw [List.nil_append] at h;refine h.mono ?_;rintro e w' ⟨v',rfl,ho,hb⟩;exact ⟨v',rfl,ho.rd,bnext (below_fresh w _) hb⟩
theorem cEncF (x:Mv) (m:Ms) (f:Int) (w:World) (h:RdMs w x m) (hf:0<=f/\f<=10) (ok:EncOk m f) :
  Calls Tryz.prog 53 #[mv m x,.int .i64 f] w fun e w'=>∃ v',e = .returned v'/\Rd w' v' (NM.encF m f)/\Below w.heap.size w w':=by
 obtain ⟨k,fr,tx,p,n,r,d,cf,ct,bf,bt,hb,ef,et,cg,st,hv,mo⟩:=m;obtain ⟨s1,s2,s3,s4,s5,s6,s7,s8,s9⟩:=x;obtain ⟨h1,h2,h3,h4,h5,h6,h7,h8,h9⟩:=h;dsimp only at h1 h2 h3 h4 h5 h6 h7 h8 h9;obtain ⟨a1,c1,rfl,_⟩:=h1.shape;obtain ⟨a2,c2,rfl,_⟩:=h2.shape;obtain ⟨a3,c3,rfl,_⟩:=h3.shape;obtain ⟨a4,c4,rfl,_⟩:=h4.shape;obtain ⟨a5,c5,rfl,_⟩:=h5.shape;obtain ⟨a6,c6,rfl,_⟩:=h6.shape;obtain ⟨a7,c7,rfl,_⟩:=h7.shape;obtain ⟨a8,c8,rfl,_⟩:=h8.shape;obtain ⟨a9,c9,rfl,_⟩:=h9.shape;obtain ⟨C,hC⟩:∃ C,C=mcell ({k,fr,tx,p,n,r,d,cf,ct,bf,bt,hb,ef,et,cg,st,hv,mo}:Ms) (⟨.slice a1 cf.length c1,.slice a2 ct.length c2,.slice a3 bf.length c3,.slice a4 bt.length c4,.slice a5 ef.length c5,.slice a6 et.length c6,.slice a7 cg.length c7,.slice a8 st.length c8,.slice a9 hv.length c9⟩:Mv):=⟨_,rfl⟩
 have b1:=below_fresh w (.cells C 33);have hXC:=heap_alloc_new w (.cells C 33);obtain ⟨w0,hw0⟩:∃ z,w.alloc (.cells C 33)=z:=⟨_,rfl⟩
 rw [hw0] at b1 hXC;have hMC:MB w0 w.heap.size ({k,fr,tx,p,n,r,d,cf,ct,bf,bt,hb,ef,et,cg,st,hv,mo}:Ms) (⟨.slice a1 cf.length c1,.slice a2 ct.length c2,.slice a3 bf.length c3,.slice a4 bt.length c4,.slice a5 ef.length c5,.slice a6 et.length c6,.slice a7 cg.length c7,.slice a8 st.length c8,.slice a9 hv.length c9⟩:Mv):=by unfold MB;rw [<- hC];exact hXC
 have hsc:C.size=18:=by rw [hC];rfl
 have HB:=hid b1;have HX:=hid hMC;have HXC:=hid hXC;have HW:=hid hw0;replace h1:=h1.below b1;replace h2:=h2.below b1;replace h3:=h3.below b1;replace h4:=h4.below b1;replace h5:=h5.below b1;replace h6:=h6.below b1;replace h7:=h7.below b1;replace h8:=h8.below b1;replace h9:=h9.below b1;dsimp only [mv];rw [<- hC];clear hC hXC hMC hw0 b1 HXC hsc;obtain ⟨Z,hZ⟩:∃ Z,Z=NM.encF ({k,fr,tx,p,n,r,d,cf,ct,bf,bt,hb,ef,et,cg,st,hv,mo}:Ms) f:=⟨_,rfl⟩
 rw [<- hZ];unfold NM.encF at hZ;dsimp only at hZ;rcases fld_cases hf with e | e | e | e | e | e | e | e | e | e | e <;> subst e
 ·have HZ:=hid (show Z=JM.encN [p,n] from hZ);have HN:=hid (num_enc w0 [p,n] (by intro y hy;simp only [List.mem_cons,List.mem_nil_iff,or_false] at hy;rcases hy with rfl | rfl;exact (ok.e0 rfl).1;exact (ok.e0 rfl).2) (by simp));clear hZ hf ok h1 h2 h3 h4 h5 h6 h7 h8 h9;go_enter Tryz.func53,Tryz.ntmps53
  go_upto_region 1 with fail
  rw [HW.out];have xs:=HX.out.cells;dsimp only at xs;go_wp2_with fail
  refine HN.out.mono ?_;rintro e w1 ⟨v1,rfl,ho,hb⟩;have HB1:=hid (bnext HB.out hb);have HO1:=hid ho;clear hb ho HN xs;go_wp2
  go_ret;exact ⟨_,rfl,by rw [HZ.out];exact HO1.out,HB1.out⟩
 ·have HZ:=hid (show Z=JM.encN [r] from hZ);have HN:=hid (num_enc w0 [r] (by intro y hy;simp only [List.mem_cons,List.mem_nil_iff,or_false] at hy;subst hy;exact ok.e1 rfl) (by simp));clear hZ hf ok h1 h2 h3 h4 h5 h6 h7 h8 h9;go_enter Tryz.func53,Tryz.ntmps53
  go_upto_region 1 with fail
  rw [HW.out];have xs:=HX.out.cells;dsimp only at xs;go_wp2_with fail
  refine HN.out.mono ?_;rintro e w1 ⟨v1,rfl,ho,hb⟩;have HB1:=hid (bnext HB.out hb);have HO1:=hid ho;clear hb ho HN xs;go_wp2
  go_ret;exact ⟨_,rfl,by rw [HZ.out];exact HO1.out,HB1.out⟩
 ·have HZ:=hid (show Z=JM.encN [d] from hZ);have HN:=hid (num_enc w0 [d] (by intro y hy;simp only [List.mem_cons,List.mem_nil_iff,or_false] at hy;subst hy;exact ok.e2 rfl) (by simp));clear hZ hf ok h1 h2 h3 h4 h5 h6 h7 h8 h9;go_enter Tryz.func53,Tryz.ntmps53
  go_upto_region 1 with fail
  rw [HW.out];have xs:=HX.out.cells;dsimp only at xs;go_wp2_with fail
  refine HN.out.mono ?_;rintro e w1 ⟨v1,rfl,ho,hb⟩;have HB1:=hid (bnext HB.out hb);have HO1:=hid ho;clear hb ho HN xs;go_wp2
  go_ret;exact ⟨_,rfl,by rw [HZ.out];exact HO1.out,HB1.out⟩
 ·have HZ:=hid (show Z=CM.encC2 cf ct from hZ);have hap:=pAppend (.slice none 0 0) [] _ _ cf ct w0 (Rd.nil _) h1 h2 (ok.e3 rfl).1 (ok.e3 rfl).2 (by simp);rw [List.nil_append] at hap;have HN:=hid hap;clear hap hZ hf ok h1 h2 h3 h4 h5 h6 h7 h8 h9;go_enter Tryz.func53,Tryz.ntmps53
  go_upto_region 1 with fail
  rw [HW.out];have xs:=HX.out.cells;dsimp only at xs;go_wp2_with fail
  refine HN.out.mono ?_;rintro e w1 ⟨v1,rfl,ho,hb⟩;have HB1:=hid (bnext HB.out hb);have HO1:=hid ho;clear hb ho HN xs;go_wp2
  go_ret;exact ⟨_,rfl,by rw [HZ.out];exact HO1.out,HB1.out⟩
 ·have HZ:=hid (show Z=if hb=true then CM.encC2 bf bt else [] from hZ);have hap:=pAppend (.slice none 0 0) [] _ _ bf bt w0 (Rd.nil _) h3 h4 (ok.e4 rfl).1 (ok.e4 rfl).2 (by simp);rw [List.nil_append] at hap;have HN:=hid hap;clear hap hZ hf ok h1 h2 h3 h4 h5 h6 h7 h8 h9;cases hb
  ·skip
   go_enter Tryz.func53,Tryz.ntmps53
   go_upto_region 1 with fail
   rw [HW.out];have xs:=HX.out.cells;dsimp only at xs;go_wp2
   go_ret;exact ⟨_,rfl,by rw [HZ.out];exact Rd.nil _,HB.out⟩
  ·skip
   go_enter Tryz.func53,Tryz.ntmps53
   go_upto_region 1 with fail
   rw [HW.out];have xs:=HX.out.cells;dsimp only at xs;go_wp2_with fail
   refine HN.out.mono ?_;rintro e w1 ⟨v1,rfl,ho,hb⟩;have HB1:=hid (bnext HB.out hb);have HO1:=hid ho;clear hb ho HN xs;go_wp2
   go_ret;exact ⟨_,rfl,by rw [HZ.out];exact HO1.out,HB1.out⟩
 ·have HZ:=hid (show Z = [bit hb] from hZ);have hap:=wAppendBool (.slice none 0 0) [] hb w0 (Rd.nil _) (by simp);rw [List.nil_append] at hap;have HN:=hid hap;clear hap hZ hf ok h1 h2 h3 h4 h5 h6 h7 h8 h9;go_enter Tryz.func53,Tryz.ntmps53
  go_upto_region 1 with fail
  rw [HW.out];have xs:=HX.out.cells;dsimp only at xs;go_wp2_with fail
  refine HN.out.mono ?_;rintro e w1 ⟨v1,rfl,ho,hb⟩;have HB1:=hid (bnext HB.out hb);have HO1:=hid ho;clear hb ho HN xs;go_wp2
  go_ret;exact ⟨_,rfl,by rw [HZ.out];exact HO1.out.rd,HB1.out⟩
 ·have HZ:=hid (show Z=CM.encC2 ef et from hZ);have hap:=pAppend (.slice none 0 0) [] _ _ ef et w0 (Rd.nil _) h5 h6 (ok.e6 rfl).1 (ok.e6 rfl).2 (by simp);rw [List.nil_append] at hap;have HN:=hid hap;clear hap hZ hf ok h1 h2 h3 h4 h5 h6 h7 h8 h9;go_enter Tryz.func53,Tryz.ntmps53
  go_upto_region 1 with fail
  rw [HW.out];have xs:=HX.out.cells;dsimp only at xs;go_wp2_with fail
  refine HN.out.mono ?_;rintro e w1 ⟨v1,rfl,ho,hb⟩;have HB1:=hid (bnext HB.out hb);have HO1:=hid ho;clear hb ho HN xs;go_wp2
  go_ret;exact ⟨_,rfl,by rw [HZ.out];exact HO1.out,HB1.out⟩
 ·have HZ:=hid (show Z=CM.encL cg from hZ);have hap:=gAppendC (.slice none 0 0) [] _ cg w0 (Rd.nil _) h7 (ok.e7 rfl) (by simp);rw [List.nil_append] at hap;have HN:=hid hap;clear hap hZ hf ok h1 h2 h3 h4 h5 h6 h7 h8 h9;go_enter Tryz.func53,Tryz.ntmps53
  go_upto_region 1 with fail
  rw [HW.out];have xs:=HX.out.cells;dsimp only at xs;go_wp2_with fail
  refine HN.out.mono ?_;rintro e w1 ⟨v1,rfl,ho,hb⟩;have HB1:=hid (bnext HB.out hb);have HO1:=hid ho;clear hb ho HN xs;go_wp2
  go_ret;exact ⟨_,rfl,by rw [HZ.out];exact HO1.out.rd,HB1.out⟩
 ·have HZ:=hid (show Z=SM.encL st from hZ);have HN:=hid (ST.cEncUpd _ st w0 h8 (ok.e8 rfl).1 (ok.e8 rfl).2.1 (ok.e8 rfl).2.2);clear hZ hf ok h1 h2 h3 h4 h5 h6 h7 h8 h9;go_enter Tryz.func53,Tryz.ntmps53
  go_upto_region 1 with fail
  rw [HW.out];have xs:=HX.out.cells;dsimp only at xs;go_wp2_with fail
  refine HN.out.mono ?_;rintro e w1 ⟨v1,rfl,ho,hb⟩;have HB1:=hid (bnext HB.out hb);have HO1:=hid ho;clear hb ho HN xs;go_wp2
  go_ret;exact ⟨_,rfl,by rw [HZ.out];exact HO1.out.rd,HB1.out⟩
 ·have HZ:=hid (show Z=NM.encH hv from hZ);have HN:=hid (cEncVec _ hv w0 h9 (ok.e9 rfl));clear hZ hf ok h1 h2 h3 h4 h5 h6 h7 h8 h9;go_enter Tryz.func53,Tryz.ntmps53
  go_upto_region 1 with fail
  rw [HW.out];have xs:=HX.out.cells;dsimp only at xs;go_wp2_with fail
  refine HN.out.mono ?_;rintro e w1 ⟨v1,rfl,ho,hb⟩;have HB1:=hid (bnext HB.out hb);have HO1:=hid ho;clear hb ho HN xs;go_wp2
  go_ret;exact ⟨_,rfl,by rw [HZ.out];exact HO1.out.rd,HB1.out⟩
 ·have HZ:=hid (show Z = [bit mo] from hZ);have hap:=wAppendBool (.slice none 0 0) [] mo w0 (Rd.nil _) (by simp);rw [List.nil_append] at hap;have HN:=hid hap;clear hap hZ hf ok h1 h2 h3 h4 h5 h6 h7 h8 h9;go_enter Tryz.func53,Tryz.ntmps53
  go_upto_region 1 with fail
  rw [HW.out];have xs:=HX.out.cells;dsimp only at xs;go_wp2_with fail
  refine HN.out.mono ?_;rintro e w1 ⟨v1,rfl,ho,hb⟩;have HB1:=hid (bnext HB.out hb);have HO1:=hid ho;clear hb ho HN xs;go_wp2
  go_ret;exact ⟨_,rfl,by rw [HZ.out];exact HO1.out.rd,HB1.out⟩
theorem pAppendM (v:Value) (bs:List Int) (x:Mv) (m:Ms) (w:World) (hv:Rd w v bs) (h:RdMs w x m) (he:NM.errM m=0) (hE:ST.FitE m.st) (hh:m.k=4->NM.FitH m.hv) (hbs:bs.length<=1000) :
  Calls Tryz.prog 18 #[v,mv m x] w fun e w'=>∃ v',e = .returned v'/\Rd w' v' (bs++NM.encM m)/\Below w.heap.size w w':=by
 obtain ⟨C,hC⟩:∃ C,C=mcell m x:=⟨_,rfl⟩
 have hsc:C.size=18:=by rw [hC];rfl
 have b1:=below_fresh w (.cells C 33);have hXC:=heap_alloc_new w (.cells C 33);obtain ⟨w0,hw0⟩:∃ z,w.alloc (.cells C 33)=z:=⟨_,rfl⟩
 rw [hw0] at b1 hXC;have HX:=hid (show MB w0 w.heap.size m x by unfold MB;rw [<- hC];exact hXC);have HXC:=hid hXC;have HB:=hid b1;have HW:=hid hw0;obtain ⟨⟨k1,k8⟩,sf,stx,_⟩:=NM.errM_ok he;have hkn:NM.kn m.k=true:=decide_eq_true ⟨k1,k8⟩;have hsm:∀ y ∈ [m.k,m.fr,m.tx],JM.small y:=by
  intro y hy;simp only [List.mem_cons,List.mem_nil_iff,or_false] at hy;rcases hy with rfl | rfl | rfl
  ·unfold JM.small;omega
  ·exact sf
  ·exact stx
 have hb2:=below_fresh w0 (.cells #[.int .i64 m.k,.int .i64 m.fr,.int .i64 m.tx] 3);have hri:RdI (w0.alloc (.cells #[.int .i64 m.k,.int .i64 m.fr,.int .i64 m.tx] 3)) (.slice (some ⟨w0.heap.size,0,none⟩) 3 3) [m.k,m.fr,m.tx]:=(ownG_fresh hlI 3 w0 [m.k,m.fr,m.tx] (by unfold maxLen;simp)).rd;obtain ⟨w1,hw1⟩:∃ z,w0.alloc (.cells #[.int .i64 m.k,.int .i64 m.fr,.int .i64 m.tx] 3)=z:=⟨_,rfl⟩
 rw [hw1] at hb2 hri;have hA:=cAppendNumbers v _ bs [m.k,m.fr,m.tx] w1 (hv.below (bnext b1 hb2)) hri hsm (by simp) (by omega);have HA:=hid hA;have HW1:=hid hw1;have HB1:=hid hb2;have HF:=hid (fun w'=>cFields m.k w' (show NM.I64 m.k from WalkArith.wf_i64 (by omega)));have HEN:=hid (fun (f:Int) w' (g:Below w0.heap.size w0 w') (hm:f∈NM.usd m.k)=>(show Calls Tryz.prog 53 #[.agg C,.int .i64 f] w' fun e w''=>∃ v',e = .returned v'/\Rd w'' v' (NM.encF m f)/\Below w'.heap.size w' w'' by
  rw [hC];exact cEncF x m f w' (h.below (bnext b1 g)) (usd_range hm) (encOk_all he hE.i hh hm)))
 have hle:=JM.encN_len [m.k,m.fr,m.tx] hsm;have hfl:∀ j,((NM.usd m.k).take j).length<=7:=fun j=>by rw [List.length_take];have:=usd_len m.k;omega
 have hfm:∀ l:List Int,(∀ f∈l,f∈NM.usd m.k)->(l.flatMap (NM.encF m)).length<=l.length*100000:=by
  intro l;induction l with
  | nil=>intro _;simp
  | cons f l ih=>
   intro hl;rw [List.flatMap_cons,List.length_append,List.length_cons];have i1:=ih (fun g hg=>hl g (by simp [hg]));have i2:=encF_le (encOk_all he hE.i hh (hl f (by simp)));omega
 have HLE:=hid (show ∀ j,(bs++JM.encN [m.k,m.fr,m.tx]++((NM.usd m.k).take j).flatMap (NM.encF m)).length<=1100000 from fun j=>by
  have h1:=hfm ((NM.usd m.k).take j) (fun f hf=>List.mem_of_mem_take hf);have h2:=hfl j;rw [List.length_append,List.length_append];simp only [List.length_cons,List.length_nil] at hle;omega)
 have HLF:=hid (fun (f:Int) (hm:f∈NM.usd m.k)=>encF_le (encOk_all he hE.i hh hm));have hul:=usd_len m.k;have hfin:bs++NM.encM m=bs++JM.encN [m.k,m.fr,m.tx]++(NM.usd m.k).flatMap (NM.encF m):=by rw [NM.encM_fld hkn,List.append_assoc]
 rw [hfin];show Calls Tryz.prog 18 #[v,.agg (mcell m x)] w _
 rw [<- hC];obtain ⟨va,vc,rfl,_⟩:=hv.shape;generalize NM.usd m.k=us at HF HEN HLE HLF hul ⊢;have HUL:=hid hul;clear hv h he hE hh hbs hC b1 hXC hw0 k1 k8 sf stx hkn hsm hb2 hri hw1 hA hle hfl hfm hfin hul;go_enter Tryz.func18,Tryz.ntmps18
 go_upto_region 1 with fail
 rw [HW.out];obtain ⟨x0,x1,x2,_⟩:=HX.out.cells;go_wp2_with fail
 rw [HW1.out];refine HA.out.mono ?_;rintro e w2 ⟨v2,rfl,ho2,hb⟩;have HO2:=hid (ho2.mono HB1.out.size);have HB2:=hid (bnext HB1.out hb);have HX2:=hid (HX.out.below HB2.out);clear x0 x1 x2 hb ho2 HA HW HW1 HB1;obtain ⟨x0,x1,x2,_⟩:=HX2.out.cells;go_wp2_with fail
 refine (HF.out w2).mono ?_;rintro e w3 ⟨v3,rfl,hv3,hb⟩;have HO3:=hid (HO2.out.below hb);have HB3:=hid (bnext HB2.out hb);have HV3:=hid (hv3.mono (Nat.zero_le _));obtain ⟨ua,uc,rfl,_,_⟩:=hv3.rd.shape;clear x0 x1 x2 hb hv3 HF HX2 HO2 HB2;have hul:=HUL.out;have hul2:(us.length:Int)<=7:=by omega
 go_wp2
 go_loopw [5,27] (fun u i wr=>∃ j:Nat,j<=us.length/\i = .int .i64 j/\Hid (Own w0.heap.size wr u (bs++JM.encN [m.k,m.fr,m.tx]++(us.take j).flatMap (NM.encF m)))/\Hid (Below w0.heap.size w0 wr)/\Hid (OwnG encI 55 1 0 wr (.slice ua us.length uc) us)) (fun _ i _=>us.length - (intOf i).toNat)
 case atStart=>exact ⟨0,Nat.zero_le _,rfl,(by show Own _ _ _ _;rw [List.take_zero];simpa using HO3.out),HB3,HV3⟩
 case round=>
  obtain ⟨j,hj,rfl,ho,hbl,hb3⟩:=hrel;clear HO3 HB3 HV3;by_cases hlt:j<us.length
  ·have hq:(j:Int)<(us.length:Int):=by omega
   have hk2:=List.getElem?_eq_getElem hlt;have hmem:=List.mem_of_getElem? hk2;have hl1:=HLE.out j;generalize us[j]=f at hk2 hmem;have hl2:=HLF.out f hmem;have hsn:bs++JM.encN [m.k,m.fr,m.tx]++(us.take (j+1)).flatMap (NM.encF m)=(bs++JM.encN [m.k,m.fr,m.tx]++(us.take j).flatMap (NM.encF m))++NM.encF m f:=by
    rw [List.take_add_one,hk2];simp [List.flatMap_append]
   obtain ⟨b,o,hi,hbw,c0⟩:=atF hb3.out.rd j f hk2;have hX1:=below_block HXC.out hbl.out;have HQ:=hid (HEN.out f wr hbl.out hmem);have HSN:=hid hsn;have hoo:=ho.out;generalize NM.encF m f=Z at HQ HSN hl2;generalize (bs++JM.encN [m.k,m.fr,m.tx]++(us.take j).flatMap (NM.encF m))=E at hoo HSN hl1;have HOO:=hid hoo;clear hk2 hmem hsn ho hoo;go_wp2_with (refine wpList_load_rowG rfl 33 _ rfl w.heap.size rfl 33 C (0,0) _ hX1 Tryz.underlying33 rfl (by rw [hsc];kernel_rfl) ?_)
   refine HQ.out.mono ?_;rintro e w4 ⟨v4,rfl,hr4,hb⟩;have hoe:=HOO.out.below hb;have HB4:=hid (bnext hbl.out hb);have HV5:=hid (hb3.out.below hb);have hs2:=HB4.out.size;have hl1':E.length<=35184372088832:=by omega
   have hl2':Z.length<=35184372088832:=by omega
   clear hb HQ hX1 c0 hi hbw hbl hb3 HOO hl1 hl2;go_wp2_with (at_builtin;refine wp_appSK rfl _ _ rfl rfl hoe rfl hr4 hl1' hl2' hs2 ?_)
   intro v5 w5 ho5 hbb hk5;have HO5:=hid (show Own w0.heap.size w5 v5 (bs++JM.encN [m.k,m.fr,m.tx]++(us.take (j+1)).flatMap (NM.encF m)) by rw [HSN.out];exact ho5);have HB6:=hid (HB4.out.trans hbb);have HV7:=hid (ownG_keep HV5.out hk5 (by decide));clear hoe hr4 ho5 hbb hk5 HB4 HV5 hs2 HSN;go_wp2
   go_roundw
   case rel=>exact ⟨j+1,by omega,by go_num,HO5,HB6,HV7⟩
   case measure=>simp [intOf];omega
  ·have hq:¬ ((j:Int)<(us.length:Int)):=by omega
   obtain rfl:j=us.length:=by omega
   rw [List.take_length] at ho;go_wp2
   go_ret;have hz:=ho.out.rd;rw [List.append_assoc] at hz;refine ⟨_,rfl,?_,bnext HB.out hbl.out⟩;first
    | exact hz
    | (rw [List.append_assoc];exact hz)
end
section
open Go.RowKit
open NM (Ms)
open VM (Ent)
end
end Go.Proofs.YtahcehbgfhdbjaaGreatDoor
namespace Go.Proofs.YtahcehbgfhdbjaaGreatDoor.ST
open Go.RowKit Go.Joins
open UM (Ef)
open SM (Fp)
end Go.Proofs.YtahcehbgfhdbjaaGreatDoor.ST
namespace Go.Proofs.YtahcehbgfhdbjaaGreatDoor
open Go.RowKit
open JM (Chg)
open CM (Fp)
open VM (Ent)
def RdFs (ws w:World) (v:Value) (fs:List Fp):Prop:=∃ qs,RdQ w v qs/\Tel ws qs fs
theorem RdFs.of {ws w:World} {v:Value} {fs:List Fp} (h:RdF ws v fs) (hb:Below ws.heap.size ws w):RdFs ws w v fs:=by
 obtain ⟨qs,h1,h2⟩:=h;exact ⟨qs,h1.below hb,h2⟩
theorem RdFs.below {ws w w':World} {v:Value} {fs:List Fp} (h:RdFs ws w v fs) (hb:Below w.heap.size w w'):RdFs ws w' v fs:=by
 obtain ⟨qs,h1,h2⟩:=h;exact ⟨qs,h1.below hb,h2⟩
theorem RdFs.shape {ws w:World} {v:Value} {fs:List Fp} (h:RdFs ws w v fs):∃ a c,v = .slice a fs.length c/\c<=9223372036854775807/\fs.length<=c:=by
 obtain ⟨qs,h1,h2⟩:=h;have:=h1.shape;rwa [h2.len] at this
theorem RdFs.at_ {ws w:World} {a:Option Addr} {n c:Nat} {fs:List Fp} (h:RdFs ws w (.slice a n c) fs) (k:Nat) (x m:Int) (cs:List Chg) (hk:fs[k]? = some (x,m,cs)) :
  ∃ b o ad l cp,(∀ w0,(Instr.indexAt 25 (.slice a n c) (.int .i64 (k:Int))).run Tryz.prog w0 = .ok (.pointer (some ⟨b,o,none⟩)) w0)/\b<w.heap.size /\
   w.cell? ⟨b,o,none⟩=some (.int .i64 x)/\w.cell? ⟨b,o+1,none⟩=some (.int .i64 m)/\w.cell? ⟨b,o+2,none⟩=some (.slice ad l cp)/\RdC ws (.slice ad l cp) cs:=by
 obtain ⟨qs,h1,h2⟩:=h;obtain ⟨⟨x',m',ad,l,cp⟩,h3,h4,h5,h6⟩:=h2.get hk;simp only at h4 h5;subst h4 h5;obtain ⟨b,o,hi,hb,c0,c1,c2⟩:=atQ h1 k _ _ _ _ _ h3;exact ⟨b,o,ad,l,cp,hi,hb,c0,c1,c2,h6⟩
theorem OwnF.src {ws w:World} {base:Nat} {v:Value} {fs:List Fp} (h:OwnF ws base w v fs):RdFs ws w v fs:=by
 obtain ⟨qs,h1,h2⟩:=h;exact ⟨qs,h1.rd,h2⟩
theorem OwnF.only {ws w w':World} {base g:Nat} {v:Value} {fs:List Fp} (h:OwnF ws base w v fs) (ho:Only g w w') (hg:g<base):OwnF ws base w' v fs:=by
 obtain ⟨qs,h1,h2⟩:=h;exact ⟨qs,OwnG.only h1 ho hg,h2⟩
theorem OwnF.mono {ws w:World} {base b2:Nat} {v:Value} {fs:List Fp} (h:OwnF ws base w v fs) (hle:b2<=base):OwnF ws b2 w v fs:=by
 obtain ⟨qs,h1,h2⟩:=h;exact ⟨qs,h1.mono hle,h2⟩
theorem rRestrictS (ws:World) (va vb:Value) (fs:List Fp) (vs:List Ent) (w:World) (h:RdFs ws w va fs) (hb:VX.RdV w vb vs) (hl:fs.length<=1000) :
  Calls Tryz.prog 97 #[va,vb] w fun e w'=>∃ v',e = .returned v'/\OwnF ws w.heap.size w' v' (CM.rs fs (VM.cnt vs))/\Below w.heap.size w w':=by
 obtain ⟨ad,cp,rfl,hc,_⟩:=h.shape;have H:=hid h;have HL:=hid hl;have HG:=hid (fun x w' (hh:Below w.heap.size w w')=>VX.rCount vb vs x w' (hb.below hh));clear h hl hb;go_enter Tryz.func97,Tryz.ntmps97
 go_wp2
 go_loopw [5,6] (fun u i wr=>∃ k:Nat,k<=fs.length/\i = .int .i64 k/\Hid (OwnF ws w.heap.size wr u (CM.rs (fs.take k) (VM.cnt vs)))/\Hid (Below w.heap.size w wr)) (fun _ i _=>fs.length - (intOf i).toNat)
 case atStart=>exact ⟨0,Nat.zero_le _,rfl,OwnF.nil _ _ _,Below.refl _ _⟩
 case round=>
  obtain ⟨k,hk,rfl,ho,hbl⟩:=hrel;by_cases hlt:k<fs.length
  ·have hq:(k:Int)<(fs.length:Int):=by omega
   have hk2:=List.getElem?_eq_getElem hlt;generalize fs[k]=f at hk2;have hnext:=rs_snoc (fs.take k) f (VM.cnt vs);rw [<- take_snocF hk2] at hnext;obtain ⟨x,m,cs⟩:=f;simp only at hnext;obtain ⟨b,o,da,dl,dc,hi,hbw,c0,c1,c2,hrd⟩:=H.out.at_ k x m cs hk2;have HT1:=hid (show Tell1 ws (x,m,da,dl,dc) (x,m,cs) from ⟨rfl,rfl,hrd⟩);have c0:=below_cell hbl.out c0;have c1:=below_cell hbl.out c1;have c2:=below_cell hbl.out c2;have hbw:b<wr.heap.size:=Nat.lt_of_lt_of_le hbw hbl.out.size;obtain ⟨uq,hu1,hu2,hu3⟩:=ho.out.out;have hlu:uq.length<=1073741824:=by
    have h1:=CM.rs_len (fs.take k) (VM.cnt vs);rw [List.length_take] at h1;have:=HL.out;omega
   have HTU:=hid hu2;have HBX:=hid hbl.out;have hG:=fun p:Later wr=>Calls.later_same (HG.out x p.val (bnext HBX.out p.h))
   generalize VM.cnt vs x=N at hnext hG;have HGC:=hid hG;have k0:∀ p:Later wr,p.val.cell? ⟨b,o,none⟩=some (.int .i64 x):=fun p=>below_cell p.h c0
   have k1:∀ p:Later wr,p.val.cell? ⟨b,o+1,none⟩=some (.int .i64 m):=fun p=>below_cell p.h c1
   have HNX:=hid hnext;clear hu2 hu3 hnext hG hk2 hrd ho hbl;by_cases hm:m<=N
   ·have HNX2:=hid (HNX.out.trans (by rw [if_pos hm]));clear HNX;go_wp2
    refine wp_region_later (by kernel_rfl) (by kernel_rfl) ?_;repeat (go_big_quiet_step (first | (go_at_call 99;with_reducible exact HGC.out _)))
    refine wpQuiet_nil ?_;rintro _ ⟨p',rfl⟩;have hh:=p'.h;obtain ⟨w2,hw2⟩:∃ w2,w2=p'.val:=⟨_,rfl⟩
    rw [<- hw2] at hh ⊢;clear hw2 k0 k1 HGC;have hu2:=hu1.below hh;have HB2:=hid (bnext HBX.out hh);have c0:=below_cell hh c0;have c1:=below_cell hh c1;have c2:=below_cell hh c2;have hbw:b<w2.heap.size:=Nat.lt_of_lt_of_le hbw hh.size;have hsz:=HB2.out.size;clear hu1 hh HBX;go_wp2_with (at_builtin;refine wp_appG1' proE (x,m,da,dl,dc) _ rfl rfl _ _ rfl rfl hu2 rfl hlu hsz ?_)
    intro v3 w3 ho3 hb3 _;have HO3:=hid (show OwnF ws w.heap.size w3 v3 (CM.rs (fs.take (k+1)) (VM.cnt vs)) by rw [HNX2.out];exact OwnF.snoc ho3 HTU.out HT1.out);have HB3:=hid (HB2.out.trans hb3);clear ho3 hb3 hu2 HTU HT1 c0 c1 c2 HB2 hsz HNX2;go_wp2
    go_roundw
    case rel=>exact ⟨k+1,by omega,by go_num,HO3,HB3⟩
    case measure=>simp [intOf];omega
   ·have HNX2:=hid (HNX.out.trans (by rw [if_neg hm,List.append_nil]));have hm':decide (m<=N)=false:=decide_eq_false hm;clear HNX;go_wp2
    refine wp_region_later (by kernel_rfl) (by kernel_rfl) ?_;repeat (go_big_quiet_step (first | (go_at_call 99;with_reducible exact HGC.out _)))
    refine wpQuiet_nil ?_;rintro _ ⟨p',rfl⟩;have HO3:=hid (show OwnF ws w.heap.size p'.val _ (CM.rs (fs.take (k+1)) (VM.cnt vs)) by rw [HNX2.out];exact ⟨uq,hu1.below p'.h,HTU.out⟩);have HB3:=hid (bnext HBX.out p'.h);generalize p'.val=w3 at HO3 HB3 ⊢;clear k0 k1 HGC HNX2 hu1 HTU HBX c0 c1 c2;go_wp2
    go_roundw
    case rel=>exact ⟨k+1,by omega,by go_num,HO3,HB3⟩
    case measure=>simp [intOf];omega
  ·have hq:¬ ((k:Int)<(fs.length:Int)):=by omega
   obtain rfl:k=fs.length:=by omega
   rw [List.take_length] at ho;have HR3:=hid ho.out;clear ho;go_wp2
   go_ret;exact ⟨_,rfl,HR3.out,hbl.out⟩
theorem kPartS (ws:World) (v:Value) (fs:List Fp) (n:Int) (w:World) (h:RdFs ws w v fs) (hl:fs.length<=1000) :
  Calls Tryz.prog 44 #[v,.int .i64 n] w fun e w'=>∃ u g,e = .returned u/\OwnF ws w.heap.size w' u (CM.rs fs g)/\Below w.heap.size w w':=by
 obtain ⟨ad,cp,rfl,hcp,_⟩:=h.shape;have ho0:=ownG_empty hlE 110 w;have hb0:=below_fresh w (.cells #[] 110);have H:=hid h;clear h;go_enter Tryz.func44,Tryz.ntmps44
 go_wp2
 obtain ⟨w0,hw0⟩:∃ w0,w.alloc (.cells #[] 110)=w0:=⟨_,rfl⟩
 rw [hw0] at ho0 hb0 ⊢;clear hw0;go_loopw [5,6] (fun u i wr=>∃ (j:Nat) (vs:List Ent),j<=3/\i = .int .i64 j/\vs.length<=j/\Hid (OwnE w.heap.size wr u vs)/\Hid (Below w.heap.size w wr)) (fun _ i _=>3 - (intOf i).toNat)
 case atStart=>exact ⟨0,[],by decide,rfl,Nat.le_refl _,ho0,hb0⟩
 case round=>
  obtain ⟨j,vs,hj,rfl,hvl,ho,hbl⟩:=hrel;clear ho0 hb0;by_cases hlt:j<3
  ·have hq:(j:Int)<3:=by omega
   have hD:=fun w=>kDigit n 4 j w (by decide) (by decide) (by omega)
   generalize dg n 4 j=d at hD;have HD:=hid hD;clear hD;by_cases hd:0<d
   ·have hdi:(0:Int)<(d:Int):=by omega
    go_wp2_with fail
    refine (HD.out _).mono ?_;rintro e w1 ⟨rfl,rfl⟩;go_wp2_with fail
    refine (HD.out _).mono ?_;rintro e w1 ⟨rfl,rfl⟩;have hs:=hbl.out.size;have ho1:=ho.out;have hvl2:vs.length<=1073741824:=by omega
    have HBL:=hid hbl.out;clear ho hbl HD;go_wp2_with (at_builtin;refine wp_appG1' entE (201+(j:Int),(d:Int)) _ rfl rfl _ _ rfl rfl ho1 rfl hvl2 hs ?_)
    intro v3 w3 ho3 hb3 _;have HO3:=hid ho3;have HB3:=hid (HBL.out.trans hb3);have hl3:(vs ++ [((201:Int)+(j:Int),(d:Int))]).length<=j+1:=by rw [List.length_append];simp;omega
    have HL3:=hid hl3;clear ho1 ho3 hb3 HBL hs hl3;go_wp2
    go_roundw
    case rel=>exact ⟨j+1,_,by omega,by go_num,HL3.out,HO3,HB3⟩
    case measure=>simp [intOf];omega
   ·have hdi:¬ (0:Int)<(d:Int):=by omega
    go_wp2_with fail
    refine (HD.out _).mono ?_;rintro e w1 ⟨rfl,rfl⟩;clear HD;go_wp2
    go_roundw
    case rel=>exact ⟨j+1,vs,by omega,by go_num,by omega,ho,hbl⟩
    case measure=>simp [intOf];omega
  ·have hq:¬ (j:Int)<3:=by omega
   have HR:=hid (rRestrictS ws _ _ fs vs wr (H.out.below hbl.out) ho.out.rdV hl);clear ho;go_wp2_with fail
   refine HR.out.mono ?_;rintro e w2 ⟨v2,rfl,hr2,hb2⟩;have HR2:=hid (hr2.mono hbl.out.size);clear hr2 HR;go_wp2
   go_ret;exact ⟨_,_,rfl,HR2.out,bnext hbl.out hb2⟩
theorem kCertS (ws:World) (v:Value) (p:List Fp) (n:Int) (w:World) (h:RdFs ws w v p) (hok:CM.Ok p) :
  Calls Tryz.prog 46 #[v,.int .i64 n] w fun e w'=>∃ a b g k,e = .returned (cev a b)/\OwnF ws w.heap.size w' a (CM.rs (CM.rs p g) k)/\OwnF ws w.heap.size w' b (CM.rs p g)/\Below w.heap.size w w':=by
 have h9:=hok.nine;have hb0:=below_fresh w (.cells #[.slice none 0 0,.slice none 0 0] 27);have hP0:=XB.fresh w (.slice none 0 0) (.slice none 0 0);obtain ⟨w0,hw0⟩:∃ w0,w.alloc (.cells #[.slice none 0 0,.slice none 0 0] 27)=w0:=⟨_,rfl⟩
 rw [hw0] at hb0 hP0;obtain ⟨ad,cp,rfl,_,_⟩:=h.shape;have H1:=hid (kPartS ws _ p n w0 (h.below hb0) (by omega));have HP0:=hid hP0;have HG:=hid (show w.heap.size<w0.heap.size from (Array.getElem?_eq_some_iff.1 hP0).1);have HB0:=hid hb0;have HW:=hid hw0;have H9:=hid h9;clear h hok hb0 hP0 hw0 h9;go_enter Tryz.func46,Tryz.ntmps46
 go_wp2_with fail
 rw [HW.out];refine H1.out.mono ?_;rintro e w1 ⟨u,g,rfl,hr1,hb1⟩;have HP1:=hid (HP0.out.below hb1);have HB1:=hid (bnext HB0.out hb1);have HR1:=hid hr1;have HS1:=hid (show w0.heap.size<=w1.heap.size from hb1.size);obtain ⟨ua,uc,rfl,_,_⟩:=hr1.shape;clear hr1 hb1 H1 HP0 HB0 HW;have HI:=hid (fun w'=>kIndex n 1099511627776 w' (by decide) (by decide));have hxr:=ix_range (n:=n) (show (1:Int)<=1099511627776 by decide);generalize ix n 1099511627776=y at HI hxr;have hq0:(0:Int)<=y:=hxr.1;have hq1:y<1099511627776:=hxr.2;clear hxr;go_wp2_with fail
 refine (HI.out w1).mono ?_;rintro e w2 ⟨rfl,rfl⟩;have HK:=hid (fun m=>kPartS ws (.slice ua (CM.rs p g).length uc) (CM.rs p g) m w1 HR1.out.src (by have:=CM.rs_len p g;have:=H9.out;omega));clear HI;go_wp2_with fail
 refine (HK.out _).mono ?_;rintro e w3 ⟨u3,k,rfl,hr3,hb3⟩;have HP3:=hid (HP1.out.below hb3);have HB3:=hid (bnext HB1.out hb3);have HR3:=hid (HR1.out.below hb3);have HS3:=hid hr3;obtain ⟨va,vc,rfl,_,_⟩:=hr3.shape;clear hr3 hb3 HK HP1 HB1 HR1;obtain ⟨o0,o1,g0,g1⟩:=HP3.out.cells;go_wp2
 refine certRet rfl rfl (HP3.out.put _ _) rfl ⟨_,_,g,k,rfl,?_,?_,?_⟩
 ·exact (HS3.out.only (only2 _ _) (by have:=HG.out;have:=HS1.out;omega)).mono (by have:=HG.out;have:=HS1.out;omega)
 ·exact (HR3.out.only (only2 _ _) HG.out).mono (by have:=HG.out;omega)
 ·exact seen HB3.out (Nat.le_refl _) (only2 _ _)
end Go.Proofs.YtahcehbgfhdbjaaGreatDoor
namespace Go.Proofs.YtahcehbgfhdbjaaGreatDoor.ST
open Go.RowKit Go.Joins
open UM (Ef)
open SM (Fp)
open VM (Ent)
def RdFs (ws w:World) (v:Value) (fs:List Fp):Prop:=∃ qs,RdUp w v qs/\Tel ws qs fs
theorem RdFs.of {ws w:World} {v:Value} {fs:List Fp} (h:RdF ws v fs) (hb:Below ws.heap.size ws w):RdFs ws w v fs:=by
 obtain ⟨qs,h1,h2⟩:=h;exact ⟨qs,h1.below hb,h2⟩
theorem RdFs.shape {ws w:World} {v:Value} {fs:List Fp} (h:RdFs ws w v fs):∃ a c,v = .slice a fs.length c/\c<=9223372036854775807/\fs.length<=c:=by
 obtain ⟨qs,h1,h2⟩:=h;have:=h1.shape;rwa [h2.len] at this
theorem RdFs.at_ {ws w:World} {a:Option Addr} {n c:Nat} {fs:List Fp} (h:RdFs ws w (.slice a n c) fs) (k:Nat) (x m t:Int) (es:List Ef) (hk:fs[k]? = some (x,m,t,es)) :
  ∃ b o ad l cp,(∀ w0,(Instr.indexAt 29 (.slice a n c) (.int .i64 (k:Int))).run Tryz.prog w0 = .ok (.pointer (some ⟨b,o,none⟩)) w0)/\b<w.heap.size /\
   w.cell? ⟨b,o,none⟩=some (.int .i64 x)/\w.cell? ⟨b,o+1,none⟩=some (.int .i64 m)/\w.cell? ⟨b,o+2,none⟩=some (.int .i64 t)/\w.cell? ⟨b,o+3,none⟩=some (.slice ad l cp)/\RdEf ws (.slice ad l cp) es:=by
 obtain ⟨qs,h1,h2⟩:=h;obtain ⟨⟨x',m',t',ad,l,cp⟩,h3,h4,h5,h6,h7⟩:=h2.get hk;simp only at h4 h5 h6;subst h4 h5 h6;obtain ⟨b,o,hi,hb,c0,c1,c2,c3⟩:=atUp h1 k _ _ _ _ _ _ h3;exact ⟨b,o,ad,l,cp,hi,hb,c0,c1,c2,c3,h7⟩
theorem OwnF.only {ws w w':World} {base g:Nat} {v:Value} {fs:List Fp} (h:OwnF ws base w v fs) (ho:Only g w w') (hg:g<base):OwnF ws base w' v fs:=by
 obtain ⟨qs,h1,h2⟩:=h;exact ⟨qs,OwnG.only h1 ho hg,h2⟩
theorem OwnF.mono {ws w:World} {base b2:Nat} {v:Value} {fs:List Fp} (h:OwnF ws base w v fs) (hle:b2<=base):OwnF ws b2 w v fs:=by
 obtain ⟨qs,h1,h2⟩:=h;exact ⟨qs,h1.mono hle,h2⟩
theorem rBeyondS (ws:World) (va vb:Value) (fs:List Fp) (vs:List Ent) (n:Int) (w:World) (h:RdFs ws w va fs) (hb:VX.RdV w vb vs) (hl:fs.length<=1000) :
  Calls Tryz.prog 48 #[va,vb,.int .i64 n] w fun e w'=>∃ v',e = .returned (.tuple #[v',.bool (SM.bey fs (VM.cnt vs) n).2])/\OwnF ws w.heap.size w' v' (SM.bey fs (VM.cnt vs) n).1/\Below w.heap.size w w':=by
 obtain ⟨ad,cp,rfl,hc,_⟩:=h.shape;have H:=hid h;have HL:=hid hl;have HG:=hid (fun x w' (hh:Below w.heap.size w w')=>VX.rCount vb vs x w' (hb.below hh));clear h hl hb;go_enter Tryz.func48,Tryz.ntmps48
 go_wp2
 go_loopw [8,9] (fun u i wr=>∃ k:Nat,k<=fs.length/\i = .int .i64 k/\Hid ((SM.beyAll (fs.take k) (VM.cnt vs)).length<=n.toNat)/\Hid (OwnF ws w.heap.size wr u (SM.beyAll (fs.take k) (VM.cnt vs)))/\Hid (Below w.heap.size w wr)) (fun _ i _=>fs.length - (intOf i).toNat)
 case atStart=>exact ⟨0,Nat.zero_le _,rfl,Nat.zero_le _,OwnF.nil _ _ _,Below.refl _ _⟩
 case round=>
  obtain ⟨k,hk,rfl,hn,ho,hbl⟩:=hrel;by_cases hlt:k<fs.length
  ·have hq:(k:Int)<(fs.length:Int):=by omega
   have hk2:=List.getElem?_eq_getElem hlt;generalize fs[k]=f at hk2;have hnext:=SM.beyAll_snoc (fs.take k) f (VM.cnt vs);rw [<- take_snocF hk2] at hnext;have hhit:=SM.bey_hit (g:=VM.cnt vs) (n:=n) hk2;obtain ⟨x,m,t,cs⟩:=f;simp only at hnext hhit;obtain ⟨b,o,da,dl,dc,hi,hbw,c0,c1,c2,c3,hrd⟩:=H.out.at_ k x m t cs hk2;have HT1:=hid (show Tell1 ws (x,m,t,da,dl,dc) (x,m,t,cs) from ⟨rfl,rfl,rfl,hrd⟩);have c0:=below_cell hbl.out c0;have c1:=below_cell hbl.out c1;have c2:=below_cell hbl.out c2;have c3:=below_cell hbl.out c3;have k0:∀ p:Later wr,p.val.cell? ⟨b,o,none⟩=some (.int .i64 x):=fun p=>below_cell p.h c0
   have k1:∀ p:Later wr,p.val.cell? ⟨b,o+1,none⟩=some (.int .i64 m):=fun p=>below_cell p.h c1
   have hG:∀ p:Later wr,Calls Tryz.prog 99 #[vb,.int .i64 x] p.val fun e w''=>e = .returned (.int .i64 (VM.cnt vs x)) /\ ∃ q:Later wr,w''=q.val:=fun p=>by
    refine (HG.out x p.val (bnext hbl.out p.h)).mono ?_;rintro e w'' ⟨rfl,rfl⟩;exact ⟨rfl,p,rfl⟩
   obtain ⟨U,hU⟩:∃ U,U=SM.beyAll (fs.take k) (VM.cnt vs):=⟨_,rfl⟩
   rw [<- hU] at hn ho hnext hhit;obtain ⟨N,hN⟩:∃ N,N=VM.cnt vs x:=⟨_,rfl⟩
   rw [<- hN] at hG hnext hhit;have HGC:=hid hG;have HNX:=hid hnext;have HHT:=hid hhit;obtain ⟨uq,hu1,hu2,hu3⟩:=ho.out.out;have hlu:uq.length<=1073741824:=by
    have h1:U.length<=(fs.take k).length:=by rw [hU];exact List.length_filter_le _ _
    rw [List.length_take] at h1;have:=HL.out;omega
   obtain ⟨au,cu,rfl,hcu,hcu2⟩:=hu1.rd.shape;have HTU:=hid hu2;have HU1:=hid hu1;have HUL:=hid hu3;have HBL:=hid hbl.out;have HN1:=hid hn.out;clear hnext hhit hG hk2 hrd ho hbl hU hN hn hu1 hu2 hu3;go_wp2
   by_cases hm:N<m
   ·have hm':¬ m<=N:=by omega
    refine wp_region_later (by kernel_rfl) (by kernel_rfl) ?_;repeat (go_big_quiet_step (first | (go_at_call 99;with_reducible exact HGC.out _)))
    refine wpQuiet_nil ?_;rintro _ ⟨p',rfl⟩;have hu2:=HU1.out.below p'.h;have HB2:=hid (bnext HBL.out p'.h);have c0:=k0 p';have c1:=k1 p';have c2:=below_cell p'.h c2;have c3:=below_cell p'.h c3;generalize p'.val=w2 at hu2 HB2 c0 c1 c2 c3 ⊢;clear k0 k1 HGC HU1 HBL;by_cases hz:n<=(uq.length:Int)
    ·have HF:=hid (HHT.out hm (by have:=HN1.out;have:=HUL.out;omega));have HR:=hid (show OwnF ws w.heap.size w2 (.slice au uq.length cu) U from ⟨uq,hu2,HTU.out⟩);clear HHT HNX hu2;go_wp2
     go_ret2;rw [HF.out];exact ⟨_,rfl,HR.out,HB2.out⟩
    ·have HNX2:=hid (HNX.out.trans (by rw [if_pos hm]));have hsz:=HB2.out.size;have HN2:=hid (show (U ++ [(x,m,t,cs)]).length<=n.toNat by rw [List.length_append,List.length_singleton];have:=HUL.out;omega);clear HHT HNX;go_wp2_with (at_builtin;refine wp_appG1' setE (x,m,t,da,dl,dc) _ rfl rfl _ _ rfl rfl hu2 rfl hlu hsz ?_)
     intro v3 w3 ho3 hb3 _;have HO3:=hid (show OwnF ws w.heap.size w3 v3 (SM.beyAll (fs.take (k+1)) (VM.cnt vs)) by rw [HNX2.out];exact OwnF.snoc ho3 HTU.out HT1.out);have HB3:=hid (HB2.out.trans hb3);have HN3:=hid (show (SM.beyAll (fs.take (k+1)) (VM.cnt vs)).length<=n.toNat by rw [HNX2.out];exact HN2.out);clear ho3 hb3 hu2 HTU HT1 c0 c1 c2 c3 HB2 hsz HNX2 HN2;go_wp2
     go_roundw
     case rel=>exact ⟨k+1,by omega,by go_num,HN3,HO3,HB3⟩
     case measure=>simp [intOf];omega
   ·have hm':m<=N:=by omega
    have HNX2:=hid (HNX.out.trans (by rw [if_neg hm,List.append_nil]));clear HNX HHT;refine wp_region_later (by kernel_rfl) (by kernel_rfl) ?_;repeat (go_big_quiet_step (first | (go_at_call 99;with_reducible exact HGC.out _)))
    refine wpQuiet_nil ?_;rintro _ ⟨p',rfl⟩;have HO3:=hid (show OwnF ws w.heap.size p'.val (.slice au uq.length cu) (SM.beyAll (fs.take (k+1)) (VM.cnt vs)) by rw [HNX2.out];exact ⟨uq,HU1.out.below p'.h,HTU.out⟩);have HB3:=hid (bnext HBL.out p'.h);have HN3:=hid (show (SM.beyAll (fs.take (k+1)) (VM.cnt vs)).length<=n.toNat by rw [HNX2.out];exact HN1.out);generalize p'.val=w3 at HO3 HB3 ⊢;clear k0 k1 HGC HNX2 HU1 HTU HBL;go_wp2
    go_roundw
    case rel=>exact ⟨k+1,by omega,by go_num,HN3,HO3,HB3⟩
    case measure=>simp [intOf];omega
  ·have hq:¬ ((k:Int)<(fs.length:Int)):=by omega
   obtain rfl:k=fs.length:=by omega
   rw [List.take_length] at ho hn;have HF:=hid (SM.bey_end hn.out);have HR:=hid ho.out;go_wp2
   go_ret2;rw [HF.out];exact ⟨_,rfl,HR.out,hbl.out⟩
theorem kSomeS (ws:World) (v:Value) (fs:List Fp) (n:Int) (w:World) (h:RdFs ws w v fs) (hv:∀ x∈fs,SM.errF x=0) (hl:fs.length<=1000) :
  Calls Tryz.prog 45 #[v,.int .i64 n] w fun e w'=>∃ u,e = .returned u/\OwnF ws w.heap.size w' u (SM.rs fs (fun a=>(dg n 9 (a - 101).toNat:Int)))/\Below w.heap.size w w':=by
 obtain ⟨ad,cp,rfl,hc,_⟩:=h.shape;obtain ⟨g,hg⟩:∃ g:Int->Int,g=fun a=>(dg n 9 (a - 101).toNat:Int):=⟨_,rfl⟩
 rw [<- hg];have HGE:=hid hg;have H:=hid h;have HL:=hid hl;have HV:=hid hv;clear h hl hv hg;go_enter Tryz.func45,Tryz.ntmps45
 go_wp2
 go_loopw [5,6] (fun u i wr=>∃ k:Nat,k<=fs.length/\i = .int .i64 k/\Hid (OwnF ws w.heap.size wr u (SM.rs (fs.take k) g))/\Hid (Below w.heap.size w wr)) (fun _ i _=>fs.length - (intOf i).toNat)
 case atStart=>exact ⟨0,Nat.zero_le _,rfl,OwnF.nil _ _ _,Below.refl _ _⟩
 case round=>
  obtain ⟨k,hk,rfl,ho,hbl⟩:=hrel;by_cases hlt:k<fs.length
  ·have hq:(k:Int)<(fs.length:Int):=by omega
   have hk2:=List.getElem?_eq_getElem hlt;generalize fs[k]=f at hk2;have hnext:=SM.rs_snoc (fs.take k) f g;rw [<- take_snocF hk2] at hnext;have hef:=SM.errF_num (HV.out f (List.mem_of_getElem? hk2));obtain ⟨x,m,t,cs⟩:=f;simp only at hnext hef;obtain ⟨b,o,da,dl,dc,hi,hbw,c0,c1,c2,c3,hrd⟩:=H.out.at_ k x m t cs hk2;have HT1:=hid (show Tell1 ws (x,m,t,da,dl,dc) (x,m,t,cs) from ⟨rfl,rfl,rfl,hrd⟩);have c0:=below_cell hbl.out c0;have c1:=below_cell hbl.out c1;have c2:=below_cell hbl.out c2;have c3:=below_cell hbl.out c3;have k0:∀ p:Later wr,p.val.cell? ⟨b,o,none⟩=some (.int .i64 x):=fun p=>below_cell p.h c0
   have k1:∀ p:Later wr,p.val.cell? ⟨b,o+1,none⟩=some (.int .i64 m):=fun p=>below_cell p.h c1
   have hw1:IntKind.i64.wrap (x - 101)=x - 101:=IntWalk.i64_in _ (by omega);have hG:∀ p:Later wr,Calls Tryz.prog 43 #[.int .i64 n,.int .i64 9,.int .i64 (x - 101)] p.val fun e w''=>e = .returned (.int .i64 (g x)) /\ ∃ q:Later wr,w''=q.val:=fun p=>by
    have hd:=kDigit n 9 (x - 101).toNat p.val (by decide) (by decide) (by omega);rw [show (((x - 101).toNat:Nat):Int)=x - 101 by omega] at hd;refine hd.mono ?_;rintro e w'' ⟨rfl,rfl⟩;exact ⟨by rw [HGE.out],p,rfl⟩
   obtain ⟨U,hU⟩:∃ U,U=SM.rs (fs.take k) g:=⟨_,rfl⟩
   rw [<- hU] at ho hnext;obtain ⟨N,hN⟩:∃ N,N=g x:=⟨_,rfl⟩
   rw [<- hN] at hG hnext;have HGC:=hid hG;have HNX:=hid hnext;obtain ⟨uq,hu1,hu2,hu3⟩:=ho.out.out;have hlu:uq.length<=1073741824:=by
    have h1:U.length<=(fs.take k).length:=by rw [hU];exact SM.rs_len _ _
    rw [List.length_take] at h1;have:=HL.out;omega
   obtain ⟨au,cu,rfl,hcu,hcu2⟩:=hu1.rd.shape;have HTU:=hid hu2;have HU1:=hid hu1;have HBL:=hid hbl.out;clear hnext hG hk2 hrd ho hbl hU hN hu1 hu2 hu3 hef;go_wp2
   by_cases hm:m<=N
   ·refine wp_region_later (by kernel_rfl) (by kernel_rfl) ?_;repeat (go_big_quiet_step (first | (go_at_call 43;with_reducible exact HGC.out _)))
    refine wpQuiet_nil ?_;rintro _ ⟨p',rfl⟩;have hu2:=HU1.out.below p'.h;have HB2:=hid (bnext HBL.out p'.h);have c0:=k0 p';have c1:=k1 p';have c2:=below_cell p'.h c2;have c3:=below_cell p'.h c3;generalize p'.val=w2 at hu2 HB2 c0 c1 c2 c3 ⊢;clear k0 k1 HGC HU1 HBL;have HNX2:=hid (HNX.out.trans (by rw [if_pos hm]));have hsz:=HB2.out.size;clear HNX;go_wp2_with (at_builtin;refine wp_appG1' upE (x,m,t,da,dl,dc) _ rfl rfl _ _ rfl rfl hu2 rfl hlu hsz ?_)
    intro v3 w3 ho3 hb3 _;have HO3:=hid (show OwnF ws w.heap.size w3 v3 (SM.rs (fs.take (k+1)) g) by rw [HNX2.out];exact OwnF.snoc ho3 HTU.out HT1.out);have HB3:=hid (HB2.out.trans hb3);clear ho3 hb3 hu2 HTU HT1 c0 c1 c2 c3 HB2 hsz HNX2;go_wp2
    go_roundw
    case rel=>exact ⟨k+1,by omega,by go_num,HO3,HB3⟩
    case measure=>simp [intOf];omega
   ·have HNX2:=hid (HNX.out.trans (by rw [if_neg hm,List.append_nil]));clear HNX;refine wp_region_later (by kernel_rfl) (by kernel_rfl) ?_;repeat (go_big_quiet_step (first | (go_at_call 43;with_reducible exact HGC.out _)))
    refine wpQuiet_nil ?_;rintro _ ⟨p',rfl⟩;have HO3:=hid (show OwnF ws w.heap.size p'.val (.slice au uq.length cu) (SM.rs (fs.take (k+1)) g) by rw [HNX2.out];exact ⟨uq,HU1.out.below p'.h,HTU.out⟩);have HB3:=hid (bnext HBL.out p'.h);generalize p'.val=w3 at HO3 HB3 ⊢;clear k0 k1 HGC HNX2 HU1 HTU HBL;go_wp2
    go_roundw
    case rel=>exact ⟨k+1,by omega,by go_num,HO3,HB3⟩
    case measure=>simp [intOf];omega
  ·have hq:¬ ((k:Int)<(fs.length:Int)):=by omega
   obtain rfl:k=fs.length:=by omega
   rw [List.take_length] at ho;have HR:=hid ho.out;go_wp2
   go_ret;exact ⟨_,rfl,HR.out,hbl.out⟩
end Go.Proofs.YtahcehbgfhdbjaaGreatDoor.ST

