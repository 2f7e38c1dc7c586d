/-
  NChk NPe YFol YVal YCfg: joined texts, what nothing names left out.
-/
import Derived.Test.YtahcehbgfhdbjaaGreatDoorQMA9
set_option maxHeartbeats 8000000
set_option maxRecDepth 100000
open Go.Lib (hid)
namespace Go.Proofs.YtahcehbgfhdbjaaGreatDoor.ST
open Go.RowKit Go.Joins
open UM (Ef)
open SM (Fp)
theorem chR_step (pr:Int×Int) (f:Fp) (l:List Fp):NM.chR pr (f :: l)=if UM.errU f.1 f.2.1 f.2.2.1 f.2.2.2≠0 then UM.errU f.1 f.2.1 f.2.2.1 f.2.2.2 else if 0<=UM.cmpU pr.1 pr.2 f.1 f.2.1 then 7 else NM.chR (f.1,f.2.1) l:=rfl
theorem rChunk (v:Value) (fs:List Fp) (w:World) (h:RdF w v fs) :
  Calls Tryz.prog 28 #[v] w fun e w'=>e = .returned (.int .i64 (NM.chk fs))/\Below w.heap.size w w':=by
 obtain ⟨ad,c,rfl,hc,hl⟩:=h.shape;obtain ⟨R,hR⟩:∃ R,R=NM.chk fs:=⟨_,rfl⟩
 rw [<- hR];unfold NM.chk at hR;by_cases h4:4<fs.length
 ·have hq4:(4:Int)<(fs.length:Int):=by omega
  have HR:=hid (hR.trans (if_pos h4));clear h hR h4;go_enter Tryz.func28,Tryz.ntmps28
  go_wp2
  go_ret;rw [HR.out];exact ⟨rfl,Below.refl _ _⟩
 have hq4:¬ (4:Int)<(fs.length:Int):=by omega
 have H:=hid h;have HR:=hid (hR.trans (if_neg h4));clear h hR h4;go_enter Tryz.func28,Tryz.ntmps28
 go_wp2
 go_loopw [3] (fun i wr=>∃ (k:Nat),k<=fs.length/\i = .int .i64 k/\Below w.heap.size w wr/\Hid (R=NM.chR (pre fs k) (fs.drop k))) (fun i _=>fs.length - (intOf i).toNat)
 case atStart=>exact ⟨0,Nat.zero_le _,rfl,Below.refl _ _,HR.out⟩
 case round=>
  obtain ⟨k,hk,rfl,hbl,he⟩:=hrel;clear HR;by_cases hlt:k<fs.length
  ·have hq:(k:Int)<(fs.length:Int):=by omega
   have hd:=hid (drop_get hlt);have hk2:=List.getElem?_eq_getElem hlt;have hp:=hid (pre_succ hk2);generalize fs[k]=f at hd hk2 hp;obtain ⟨x,m,t,cs⟩:=f;obtain ⟨b,o,da,dl,dc,hi,hb,c0,c1,c2,c3,hrd⟩:=(H.out.below hbl).at_ k x m t cs hk2;have e1:=hid (he.out.trans ((congrArg (NM.chR (pre fs k)) hd.out).trans (chR_step _ _ _)));have e2:Hid (R=if UM.errU x m t cs≠0 then UM.errU x m t cs else if 0<=UM.cmpU (pre fs k).1 (pre fs k).2 x m then 7 else NM.chR (x,m) (fs.drop (k+1))):=e1.out;have hp':Hid (pre fs (k+1)=(x,m)):=hp.out;have HN:=hid (fun h=>SM.errF_num (f:=(x,m,t,cs)) h);have HV:=hid (rValU x m t (.slice da dl dc) cs _ hrd);clear hk2 he hd e1 hp hrd;by_cases hE:UM.errU x m t cs=0
   ·obtain ⟨n1,n2,n3,n4⟩:=HN.out hE;simp only at n1 n2 n3 n4;rw [hE] at HV;have e3:=hid (e2.out.trans (if_neg (by rw [hE];simp)));clear e2 hE HN;go_wp2_with fail
    refine HV.out.mono ?_;rintro e w1 ⟨rfl,hb1⟩;have d0:=below_cell hb1 c0;have d1:=below_cell hb1 c1;have d2:=below_cell hb1 c2;have d3:=below_cell hb1 c3;have HB1:=hid (bnext hbl hb1);clear c0 c1 c2 c3 HV hb1 hbl;by_cases h0:k=0
    ·subst h0;have hq0:(0:Int)<(fs.length:Int):=hq;have e4:=hid (e3.out.trans (if_neg (by show ¬ 0<=UM.cmpU 0 0 x m;unfold UM.cmpU;rw [if_pos (by omega)];decide)));clear e3 hi hq;go_wp2
     go_quiet (fail)
     go_wp2
     go_roundw
     case rel=>exact ⟨0+1,by omega,by go_num,HB1.out.trans (below_drewN _ _ _),by rw [hp'.out];exact e4⟩
     case measure=>simp [intOf];omega
    ·have hk1:(0:Int)<(k:Int):=by omega
     have hk2:0<k:=by omega
     have hkl:k - 1<fs.length:=by omega
     have hg2:=List.getElem?_eq_getElem hkl;have hpk:pre fs k=(fs[k - 1].1,fs[k - 1].2.1):=by simp [pre,h0,List.getD,List.getElem?_eq_getElem hkl]
     generalize fs[k - 1]=g at hg2 hpk;obtain ⟨y,n,u,ds⟩:=g;simp only at hpk;rw [hpk] at e3;obtain ⟨b2,o2,ea,el,ec,hi2,hb2,f0,f1,f2,f3,hrd2⟩:=(H.out.below HB1.out).at_ (k - 1) y n u ds hg2;rw [show ((k - 1:Nat):Int)=(k:Int) - 1 by omega] at hi2;have hC:=fun p:Later w1=>rCompareL y n u ea el ec x m t da dl dc p
     simp only at e3;clear hg2 hpk hrd2;have k0:∀ p:Later w1,p.val.cell? ⟨b,o,none⟩=some (.int .i64 x):=fun p=>below_cell p.h d0
     have k1:∀ p:Later w1,p.val.cell? ⟨b,o+1,none⟩=some (.int .i64 m):=fun p=>below_cell p.h d1
     have k2:∀ p:Later w1,p.val.cell? ⟨b,o+2,none⟩=some (.int .i64 t):=fun p=>below_cell p.h d2
     have k3:∀ p:Later w1,p.val.cell? ⟨b,o+3,none⟩=some (.slice da dl dc):=fun p=>below_cell p.h d3
     have j0:∀ p:Later w1,p.val.cell? ⟨b2,o2,none⟩=some (.int .i64 y):=fun p=>below_cell p.h f0
     have j1:∀ p:Later w1,p.val.cell? ⟨b2,o2+1,none⟩=some (.int .i64 n):=fun p=>below_cell p.h f1
     have j2:∀ p:Later w1,p.val.cell? ⟨b2,o2+2,none⟩=some (.int .i64 u):=fun p=>below_cell p.h f2
     have j3:∀ p:Later w1,p.val.cell? ⟨b2,o2+3,none⟩=some (.slice ea el ec):=fun p=>below_cell p.h f3
     generalize UM.cmpU y n x m=C at hC e3;have HC:=hid hC;by_cases hcl:0<=C
     ·have e4:=hid (e3.out.trans (if_pos hcl));clear e3 hC d0 d1 d2 d3 f0 f1 f2 f3;go_wp2
      refine wp_region_later (by kernel_rfl) (by kernel_rfl) ?_;repeat (go_big_quiet_step (first | (go_at_call 75;with_reducible exact HC.out _)))
      refine wpQuiet_nil ?_;rintro _ ⟨p,rfl⟩;have HB2:=hid (bnext HB1.out p.h);generalize p.val=w2 at HB2 ⊢;go_wp2
      go_ret;rw [e4.out];exact ⟨rfl,HB2.out⟩
     ·have e4:=hid (e3.out.trans (if_neg hcl));clear e3 hC;go_wp2
      refine wp_region_later (by kernel_rfl) (by kernel_rfl) ?_;repeat (go_big_quiet_step (first | (go_at_call 75;with_reducible exact HC.out _)))
      refine wpQuiet_nil ?_;rintro _ ⟨p,rfl⟩;have HB2:=hid (bnext HB1.out p.h);generalize p.val=w2 at HB2 ⊢;clear k0 k1 k2 k3 j0 j1 j2 j3 HC;go_wp2
      go_roundw
      case rel=>exact ⟨k+1,by omega,by go_num,HB2.out,by rw [hp'.out];exact e4⟩
      case measure=>simp [intOf];omega
   ·have hne:(UM.errU x m t cs != 0)=true:=bne_t hE;have e3:=hid (e2.out.trans (if_pos hE));generalize UM.errU x m t cs=E at HV hne e3;clear e2 hE HN;go_wp2_with fail
    refine HV.out.mono ?_;rintro e w1 ⟨rfl,hb1⟩;have HB1:=hid (bnext hbl hb1);clear c0 c1 c2 c3 HV hb1 hbl;go_wp2
    go_ret;rw [e3.out];exact ⟨rfl,HB1.out⟩
  ·have hq:¬ ((k:Int)<(fs.length:Int)):=by omega
   have e2:=hid (show R=0 by rw [he.out,List.drop_of_length_le (by omega)];rfl);clear he;go_wp2
   go_ret;rw [e2.out];exact ⟨rfl,hbl⟩
end Go.Proofs.YtahcehbgfhdbjaaGreatDoor.ST
namespace Go.Proofs.YtahcehbgfhdbjaaGreatDoor.ST
open Go.RowKit Go.Joins
open UM (Ef)
open SM (Fp)
theorem cmp_swap (x m y n:Int):UM.cmpU x m y n<=0 ↔ 0<=UM.cmpU y n x m:=by
 unfold UM.cmpU;(repeat' split) <;> omega
theorem uCompareL {w:World} (x m t:Int) (ua:Option Addr) (ul uc:Nat) (y n u:Int) (va:Option Addr) (vl vc:Nat) (p:Later w) :
  Calls Tryz.prog 123 #[uv x m t (.slice ua ul uc),uv y n u (.slice va vl vc)] p.val fun e w''=>e = .returned (.int .i64 (UM.cmpU x m y n)) /\ ∃ q:Later w,w''=q.val:=
 Calls.later (uCompare x m t _ y n u _ p.val ⟨_,_,_,rfl⟩ ⟨_,_,_,rfl⟩)
theorem cValChunk (v:Value) (fs:List Fp) (w:World) (hT:Tb w) (hfit:FitN fs) (h:RdF w v fs) :
  Calls Tryz.prog 116 #[v] w fun e w'=>e = .returned (.int .i64 (NM.chk fs))/\Below w.heap.size w w':=by
 obtain ⟨ad,c,rfl,hc,hl⟩:=h.shape;obtain ⟨R,hR⟩:∃ R,R=NM.chk fs:=⟨_,rfl⟩
 rw [<- hR];unfold NM.chk at hR;by_cases h4:4<fs.length
 ·have hq4:(4:Int)<(fs.length:Int):=by omega
  have HR:=hid (hR.trans (if_pos h4));clear h hR h4;go_enter Tryz.func116,Tryz.ntmps116
  go_wp2
  go_ret;rw [HR.out];exact ⟨rfl,Below.refl _ _⟩
 have hq4:¬ (4:Int)<(fs.length:Int):=by omega
 have hl9:fs.length<=1000000:=by omega
 have H:=hid h;have HT:=hid hT;have HF:=hid hfit;have HR:=hid (hR.trans (if_neg h4));clear h hR h4 hT hfit;go_enter Tryz.func116,Tryz.ntmps116
 go_wp2
 go_loopw [11] (fun i wr=>∃ (k:Nat),k<=fs.length/\i = .int .i64 k/\Hid (Below w.heap.size w wr)/\Hid (R=NM.chR (pre fs k) (fs.drop k))) (fun i _=>fs.length - (intOf i).toNat)
 case atStart=>exact ⟨0,Nat.zero_le _,rfl,Below.refl _ _,HR.out⟩
 case round=>
  obtain ⟨k,hk,rfl,hbl,he⟩:=hrel;clear HR;by_cases hlt:k<fs.length
  ·have hq:(k:Int)<(fs.length:Int):=by omega
   have hd:=hid (drop_get hlt);have hk2:=List.getElem?_eq_getElem hlt;have hp:=hid (pre_succ hk2);have hmem:=List.mem_of_getElem? hk2;have hfe:=HF.out _ hmem;clear hmem;generalize fs[k]=f at hd hk2 hp hfe;obtain ⟨x,m,t,cs⟩:=f;obtain ⟨b,o,da,dl,dc,hi,hb,c0,c1,c2,c3,hrd⟩:=(H.out.below hbl.out).atS k x m t cs hk2;have e1:=hid (he.out.trans ((congrArg (NM.chR (pre fs k)) hd.out).trans (chR_step _ _ _)));have e2:Hid (R=if UM.errU x m t cs≠0 then UM.errU x m t cs else if 0<=UM.cmpU (pre fs k).1 (pre fs k).2 x m then 7 else NM.chR (x,m) (fs.drop (k+1))):=e1.out;have hp':Hid (pre fs (k+1)=(x,m)):=hp.out;have HN:=hid (fun h=>SM.errF_num (f:=(x,m,t,cs)) h);have hbx:=below_fresh wr (.cells #[.int .i64 x,.int .i64 m,.int .i64 t,.slice da dl dc] 96);have hox:=heap_alloc_new wr (.cells #[.int .i64 x,.int .i64 m,.int .i64 t,.slice da dl dc] 96);obtain ⟨wx,hwx⟩:∃ z,wr.alloc (.cells #[.int .i64 x,.int .i64 m,.int .i64 t,.slice da dl dc] 96)=z:=⟨_,rfl⟩
   rw [hwx] at hbx hox;obtain ⟨G,hG⟩:∃ G,G=wr.heap.size:=⟨_,rfl⟩
   rw [<- hG] at hox;have HGG:=hid hG;have HWX:=hid hwx;have HBX:=hid (bnext hbl.out hbx);have HOX:=hid hox;have HV:=hid (cVal x m t (.slice da dl dc) cs wx (tbz HT.out HBX.out) (hrd.below hbx) hfe);clear hk2 he hd e1 hp hrd hfe hwx hox hbx hG;have hcell:∀ w':World,Below wx.heap.size wx w'->w'.cell? ⟨G,0,none⟩=some (.int .i64 x)/\w'.cell? ⟨G,1,none⟩=some (.int .i64 m)/\w'.cell? ⟨G,2,none⟩=some (.int .i64 t)/\w'.cell? ⟨G,3,none⟩=some (.slice da dl dc):=by
    intro w' hw';have:=below_block HOX.out hw';refine ⟨?_,?_,?_,?_⟩ <;> simp [World.cell?,this]
   have HCE:=hid hcell;clear hcell;by_cases hE:UM.errU x m t cs=0
   ·obtain ⟨n1,n2,n3,n4⟩:=HN.out hE;simp only at n1 n2 n3 n4;rw [hE] at HV;have e3:=hid (e2.out.trans (if_neg (by rw [hE];simp)));clear e2 hE HN;go_upto_region 6 with fail
    rw [HWX.out,<- HGG.out];clear c0 c1 c2 c3;obtain ⟨q0,q1,q2,q3⟩:=HCE.out wx (Below.refl _ _);go_wp2_with fail
    refine HV.out.mono ?_;rintro e w1 ⟨rfl,hb1⟩;clear q0 q1 q2 q3;obtain ⟨q0,q1,q2,q3⟩:=HCE.out w1 hb1;have HB1:=hid (bnext HBX.out hb1);have HBW:=hid hb1;clear HV hb1;by_cases h0:k=0
    ·subst h0;have hq0:(0:Int)<(fs.length:Int):=hq;have e4:=hid (e3.out.trans (if_neg (by show ¬ 0<=UM.cmpU 0 0 x m;unfold UM.cmpU;rw [if_pos (by omega)];decide)));clear e3 hi hq;go_wp2
     go_quiet (fail)
     go_wp2
     go_roundw
     case rel=>exact ⟨0+1,by omega,by go_num,hid (HB1.out.trans (below_drewN _ _ _)),by rw [hp'.out];exact e4⟩
     case measure=>simp [intOf];omega
    ·have hk1:(0:Int)<(k:Int):=by omega
     have hk2:0<k:=by omega
     have hkl:k - 1<fs.length:=by omega
     have hg2:=List.getElem?_eq_getElem hkl;have hpk:pre fs k=(fs[k - 1].1,fs[k - 1].2.1):=by simp [pre,h0,List.getD,List.getElem?_eq_getElem hkl]
     generalize fs[k - 1]=g at hg2 hpk;obtain ⟨y,n,u,ds⟩:=g;simp only at hpk;rw [hpk] at e3;obtain ⟨b2,o2,ea,el,ec,hi2,hb2,f0,f1,f2,f3,hrd2⟩:=(H.out.below HB1.out).atS (k - 1) y n u ds hg2;rw [show ((k - 1:Nat):Int)=(k:Int) - 1 by omega] at hi2;have hC:=fun p:Later w1=>uCompareL x m t da dl dc y n u ea el ec p
     simp only at e3;clear hg2 hpk hrd2;have k0:∀ p:Later w1,p.val.cell? ⟨G,0,none⟩=some (.int .i64 x):=fun p=>below_cell p.h q0
     have k1:∀ p:Later w1,p.val.cell? ⟨G,1,none⟩=some (.int .i64 m):=fun p=>below_cell p.h q1
     have k2:∀ p:Later w1,p.val.cell? ⟨G,2,none⟩=some (.int .i64 t):=fun p=>below_cell p.h q2
     have k3:∀ p:Later w1,p.val.cell? ⟨G,3,none⟩=some (.slice da dl dc):=fun p=>below_cell p.h q3
     have j0:∀ p:Later w1,p.val.cell? ⟨b2,o2,none⟩=some (.int .i64 y):=fun p=>below_cell p.h f0
     have j1:∀ p:Later w1,p.val.cell? ⟨b2,o2+1,none⟩=some (.int .i64 n):=fun p=>below_cell p.h f1
     have j2:∀ p:Later w1,p.val.cell? ⟨b2,o2+2,none⟩=some (.int .i64 u):=fun p=>below_cell p.h f2
     have j3:∀ p:Later w1,p.val.cell? ⟨b2,o2+3,none⟩=some (.slice ea el ec):=fun p=>below_cell p.h f3
     have hsw:=cmp_swap x m y n;generalize UM.cmpU x m y n=C at hC hsw;have HC:=hid hC;by_cases hcl:C<=0
     ·have e4:=hid (e3.out.trans (if_pos (hsw.1 hcl)));clear e3 hC hsw q0 q1 q2 q3 f0 f1 f2 f3;go_wp2
      refine wp_region_later (by kernel_rfl) (by kernel_rfl) ?_;repeat (go_big_quiet_step (first | (go_at_call 123;with_reducible exact HC.out _)))
      refine wpQuiet_nil ?_;rintro _ ⟨p,rfl⟩;have HB2:=hid (bnext HB1.out p.h);generalize p.val=w2 at HB2 ⊢;go_wp2
      go_ret;rw [e4.out];exact ⟨rfl,HB2.out⟩
     ·have e4:=hid (e3.out.trans (if_neg (fun h=>hcl (hsw.2 h))));have hcl2:decide (C<=0)=false:=decide_eq_false hcl;clear e3 hC hsw q0 q1 q2 q3 f0 f1 f2 f3;go_wp2
      refine wp_region_later (by kernel_rfl) (by kernel_rfl) ?_;repeat (go_big_quiet_step (first | (go_at_call 123;with_reducible exact HC.out _)))
      refine wpQuiet_nil ?_;rintro _ ⟨p,rfl⟩;have HB2:=hid (bnext HB1.out p.h);generalize p.val=w2 at HB2 ⊢;clear k0 k1 k2 k3 j0 j1 j2 j3 HC;go_wp2
      go_roundw
      case rel=>exact ⟨k+1,by omega,by go_num,HB2,by rw [hp'.out];exact e4⟩
      case measure=>simp [intOf];omega
   ·have hne:(UM.errU x m t cs != 0)=true:=bne_t hE;have e3:=hid (e2.out.trans (if_pos hE));generalize UM.errU x m t cs=E at HV hne e3;clear e2 hE HN;go_upto_region 6 with fail
    rw [HWX.out,<- HGG.out];clear c0 c1 c2 c3;obtain ⟨q0,q1,q2,q3⟩:=HCE.out wx (Below.refl _ _);go_wp2_with fail
    refine HV.out.mono ?_;rintro e w1 ⟨rfl,hb1⟩;have HB1:=hid (bnext HBX.out hb1);clear q0 q1 q2 q3 HV hb1 hbl;go_wp2
    go_ret;rw [e3.out];exact ⟨rfl,HB1.out⟩
  ·have hq:¬ ((k:Int)<(fs.length:Int)):=by omega
   have e2:=hid (show R=0 by rw [he.out,List.drop_of_length_le (by omega)];rfl);clear he;go_wp2
   go_ret;rw [e2.out];exact ⟨rfl,hbl.out⟩
end Go.Proofs.YtahcehbgfhdbjaaGreatDoor.ST
namespace Go.Proofs.YtahcehbgfhdbjaaGreatDoor.ST
open Go.RowKit
open UM (Ef)
open SM (Fp)
theorem pre_take {fs:List Fp} {k:Nat} (hk:k<=fs.length):pre (fs.take k) (fs.take k).length=pre fs k:=by
 rw [List.length_take,Nat.min_eq_left hk];unfold pre;by_cases h:k=0
 ·rw [if_pos h,if_pos h]
 ·rw [if_neg h,if_neg h];have:(fs.take k).getD (k - 1) (0,0,0,[])=fs.getD (k - 1) (0,0,0,[]):=by simp [List.getD,show k - 1<k by omega]
  rw [this]
def folS (fs:List Fp) (x m:Int):Bool:=decide (m<=1∨((pre fs fs.length).1=x/\(pre fs fs.length).2=m - 1))
theorem sFollows (v:Value) (fs:List Fp) (x m t:Int) (da:Option Addr) (dl dc:Nat) (w:World) (h:RdF w v fs) (hm:1<=m/\m<=100) (hx:x≠0) :
  Calls Tryz.prog 163 #[(.agg #[.func (.func 164) #[] #[],.func (.func 165) #[] #[],.func (.func 147) #[] #[],.func (.func 123) #[] #[],.func (.func 78) #[] #[],.func (.func 166) #[] #[],.func (.func 136) #[] #[],.func (.func 131) #[] #[],.int .i64 48]),v,uv x m t (.slice da dl dc)] w fun e w'=>e = .returned (.bool (folS fs x m))/\Below w.heap.size w w':=by
 obtain ⟨va,vc,rfl,hvc,_⟩:=h.shape;obtain ⟨w2,HX⟩:=kbox w x m t (.slice da dl dc);have HW:=hid HX.eq;have HB:=hid HX.below;have HK:=hid HX.k;have HP:=hid HX.e;have H2:=hid (h.below HX.below);obtain ⟨hm1,hm2⟩:=hm;obtain ⟨K,hK⟩:∃ K,w.heap.size=K:=⟨_,rfl⟩
 rw [hK] at HK HP;have HKE:=hid hK;clear HX h hK;obtain ⟨R,hR⟩:∃ R,R=folS fs x m:=⟨_,rfl⟩
 rw [<- hR];have HR:=hid hR;clear hR;have HN:=hid (cNumb x m t da dl dc w2);obtain ⟨_,k1,_⟩:=HK.out.cells;obtain ⟨p0,p1,p2,p3,_⟩:=HP.out.cells;go_enter Tryz.func163,Tryz.ntmps163
 go_upto_region 1 with fail
 rw [HW.out,HKE.out];have HB0:=hid (show Below K w w2 by rw [<- HKE.out];exact HB.out);clear HW HB;go_wp2_with fail
 refine HN.out.mono ?_;rintro e w3 ⟨rfl,hb3⟩;have HB3:=hid (HB0.out.trans (hb3.mono (Nat.le_of_lt HK.out.lt)));have HK3:=hid (HK.out.below hb3);have HP3:=hid (HP.out.below hb3);have H3:=hid (H2.out.below hb3);clear k1 p0 p1 p2 p3 HN HK HP H2 hb3;by_cases h1:m<=1
 ·have e:=hid (show R=true by rw [HR.out];exact decide_eq_true (.inl h1));go_wp2
  go_ret;rw [e.out,HKE.out];exact ⟨rfl,HB3.out⟩
 ·by_cases h0:fs.length=0
  ·have e:=hid (show R=false by
    rw [HR.out];refine decide_eq_false ?_;rintro (h | ⟨h,_⟩)
    ·exact h1 h
    ·rw [h0,show pre fs 0=(0,0) from rfl] at h;exact hx h.symm)
   have hz:((fs.length:Int)==0)=true:=beq_t (by omega);go_wp2
   go_ret;rw [e.out,HKE.out];exact ⟨rfl,HB3.out⟩
  ·have hlt:fs.length - 1<fs.length:=by omega
   have hg:=List.getElem?_eq_getElem hlt;have hpk:pre fs fs.length=(fs[fs.length - 1].1,fs[fs.length - 1].2.1):=by simp [pre,h0,List.getD,hg]
   generalize fs[fs.length - 1]=g at hg hpk;obtain ⟨y,n,u,ds⟩:=g;simp only at hpk;have HR2:=hid (show R=decide (y=x/\n=m - 1) by
    rw [HR.out];unfold folS;rw [hpk];exact decide_eq_decide.2 ⟨fun h=>h.resolve_left h1,.inr⟩)
   obtain ⟨b,o,ea,el,ec,hi,hb,c0,c1,c2,c3,_⟩:=H3.out.atS (fs.length - 1) y n u ds hg;rw [show ((fs.length - 1:Nat):Int)=(fs.length:Int) - 1 by omega] at hi;have hz:((fs.length:Int)==0)=false:=beq_f (by omega);have hpos:(0:Int)<(fs.length:Int):=by omega
   obtain ⟨w4,HX4⟩:=eone w3 y n u (.slice ea el ec);have HW4:=hid HX4.eq;have HL4:=hid HX4.e;have HB4:=hid (HB3.out.trans (HX4.below.mono (Nat.le_of_lt HK3.out.lt)));have HK4:=hid (HK3.out.below HX4.below);have HP4:=hid (HP3.out.below HX4.below);have HA1:=hid (fun p:Later w4=>Calls.later (cAuth y n u ea el ec p.val));have HA2:=hid (fun p:Later w4=>Calls.later (cAuth x m t da dl dc p.val));have HN1:=hid (fun p:Later w4=>Calls.later (cNumb y n u ea el ec p.val));have HN2:=hid (fun p:Later w4=>Calls.later (cNumb x m t da dl dc p.val));obtain ⟨L,hL⟩:∃ L,w3.heap.size=L:=⟨_,rfl⟩
   rw [hL] at HL4;have HLE:=hid hL;clear hg hpk HR HX4 HK3 HP3 H3 HB3 hL;go_upto_region 6 with fail
   rw [HW4.out,HLE.out];clear c0 c1 c2 c3 hi hb HW4 HLE;obtain ⟨j0,j1,_⟩:=HK4.out.later;obtain ⟨z0,z1,z2,z3⟩:=lat_e HP4.out;obtain ⟨y0,y1,y2,y3⟩:=lat_e HL4.out;have hw1:IntKind.i64.wrap (m - 1)=m - 1:=IntWalk.i64_in _ (by omega);by_cases hyx:y=x
   ·have q1:(y==x)=true:=beq_t hyx;by_cases hnm:n=m - 1
    ·have q2:(n==m - 1)=true:=beq_t hnm;have e:=hid (show R=true by rw [HR2.out];exact decide_eq_true ⟨hyx,hnm⟩);clear hyx hnm HR2;refine wp_region_later (by kernel_rfl) (by kernel_rfl) ?_;repeat (go_big_quiet_step (first | (go_at_call 164;with_reducible exact HA1.out _) | (go_at_call 164;with_reducible exact HA2.out _) | (go_at_call 165;with_reducible exact HN1.out _) | (go_at_call 165;with_reducible exact HN2.out _)))
     refine wpQuiet_nil ?_;rintro _ ⟨p,rfl⟩;have HB5:=hid (HB4.out.trans (p.h.mono (Nat.le_of_lt HK4.out.lt)));generalize p.val=w5 at HB5 ⊢;go_wp2
     go_ret;rw [e.out,HKE.out];exact ⟨rfl,HB5.out⟩
    ·have q2:(n==m - 1)=false:=beq_f hnm;have e:=hid (show R=false by rw [HR2.out];exact decide_eq_false (fun h=>hnm h.2));clear hyx hnm HR2;refine wp_region_later (by kernel_rfl) (by kernel_rfl) ?_;repeat (go_big_quiet_step (first | (go_at_call 164;with_reducible exact HA1.out _) | (go_at_call 164;with_reducible exact HA2.out _) | (go_at_call 165;with_reducible exact HN1.out _) | (go_at_call 165;with_reducible exact HN2.out _)))
     refine wpQuiet_nil ?_;rintro _ ⟨p,rfl⟩;have HB5:=hid (HB4.out.trans (p.h.mono (Nat.le_of_lt HK4.out.lt)));generalize p.val=w5 at HB5 ⊢;go_wp2
     go_ret;rw [e.out,HKE.out];exact ⟨rfl,HB5.out⟩
   ·have q1:(y==x)=false:=beq_f hyx;have e:=hid (show R=false by rw [HR2.out];exact decide_eq_false (fun h=>hyx h.1));clear hyx HR2;refine wp_region_later (by kernel_rfl) (by kernel_rfl) ?_;repeat (go_big_quiet_step (first | (go_at_call 164;with_reducible exact HA1.out _) | (go_at_call 164;with_reducible exact HA2.out _)))
    refine wpQuiet_nil ?_;rintro _ ⟨p,rfl⟩;have HB5:=hid (HB4.out.trans (p.h.mono (Nat.le_of_lt HK4.out.lt)));generalize p.val=w5 at HB5 ⊢;go_wp2
    go_ret;rw [e.out,HKE.out];exact ⟨rfl,HB5.out⟩
end Go.Proofs.YtahcehbgfhdbjaaGreatDoor.ST
namespace Go.Proofs.YtahcehbgfhdbjaaGreatDoor.ST
open Go.RowKit
open UM (Ef)
open SM (Fp)
theorem sValidate (v:Value) (fs:List Fp) (w:World) (hT:Tb w) (hfit:FitN fs) (h:RdF w v fs) :
  Calls Tryz.prog 148 #[(.agg #[.func (.func 164) #[] #[],.func (.func 165) #[] #[],.func (.func 147) #[] #[],.func (.func 123) #[] #[],.func (.func 78) #[] #[],.func (.func 166) #[] #[],.func (.func 136) #[] #[],.func (.func 131) #[] #[],.int .i64 48]),v] w fun e w'=>e = .returned (.int .i64 (SM.errL (0,0) fs))/\Below w.heap.size w w':=by
 obtain ⟨ad,c,rfl,hc,hl⟩:=h.shape;obtain ⟨R,hR⟩:∃ R,R=SM.errL (0,0) fs:=⟨_,rfl⟩
 rw [<- hR];have H:=hid h;have HR:=hid hR;have HTB:=hid hT;have HFT:=hid hfit;obtain ⟨w0,HX⟩:=kone w;have HW:=hid HX.eq;have HB0:=hid HX.below;have HK0:=hid HX.k;obtain ⟨K,hK⟩:∃ K,w.heap.size=K:=⟨_,rfl⟩
 rw [hK] at HK0;have HKE:=hid hK;clear h hR HX hK hT hfit;go_enter Tryz.func148,Tryz.ntmps148
 go_upto_region 1 with fail
 rw [HW.out,HKE.out];clear HW;go_wp2
 go_loopw [10] (fun i wr=>∃ (k:Nat),k<=fs.length/\i = .int .i64 k/\Hid (Below w.heap.size w wr)/\Hid (KB wr K)/\Hid (R=SM.errL (pre fs k) (fs.drop k))) (fun i _=>fs.length - (intOf i).toNat)
 case atStart=>exact ⟨0,Nat.zero_le _,rfl,HB0.out,HK0.out,HR.out⟩
 case round=>
  obtain ⟨k,hk,rfl,hbl,hkb,he⟩:=hrel;clear HR HB0 HK0;by_cases hlt:k<fs.length
  ·have hq:(k:Int)<(fs.length:Int):=by omega
   have hd:=hid (drop_get hlt);have hk2:=List.getElem?_eq_getElem hlt;have hp:=hid (pre_succ hk2);generalize fs[k]=f at hd hk2 hp;obtain ⟨x,m,t,cs⟩:=f;obtain ⟨b,o,da,dl,dc,hi,hb,c0,c1,c2,c3,hrd⟩:=(H.out.below hbl.out).atS k x m t cs hk2;have e1:=hid (he.out.trans ((congrArg (SM.errL (pre fs k)) hd.out).trans (errL_step _ _ _)));have e2:Hid (R=if UM.errU x m t cs≠0 then UM.errU x m t cs else if UM.cmpU x m (pre fs k).1 (pre fs k).2<=0 then 7 else if 1<m/\¬ ((pre fs k).1=x/\(pre fs k).2=m - 1) then 8 else SM.errL (x,m) (fs.drop (k+1))):=e1.out;have hp':Hid (pre fs (k+1)=(x,m)):=hp.out;have HN:=hid (fun h=>SM.errF_num (f:=(x,m,t,cs)) h);obtain ⟨wx,HX⟩:=eone wr x m t (.slice da dl dc);have HWX:=hid HX.eq;have HBX:=hid (bnext hbl.out HX.below);have HKX:=hid (hkb.out.below HX.below);have HPX:=hid HX.e;have HV:=hid (cVal x m t (.slice da dl dc) cs wx (HTB.out.below HBX.out) (hrd.below HX.below) (HFT.out _ (List.mem_of_getElem? hk2)));obtain ⟨B,hB⟩:∃ B,wr.heap.size=B:=⟨_,rfl⟩
   rw [hB] at HPX;have HBE:=hid hB;clear hk2 he hd e1 hp hrd HX hB hbl hkb;go_upto_region 4 with fail
   rw [HWX.out,HBE.out];clear c0 c1 c2 c3 hi hb HWX;obtain ⟨p0,p1,p2,p3,_⟩:=HPX.out.cells;obtain ⟨_,_,j2,_⟩:=HKX.out.cells;by_cases hE:UM.errU x m t cs=0
   ·obtain ⟨n1,n2,n3,n4⟩:=HN.out hE;simp only at n1 n2 n3 n4;rw [hE] at HV;have e3:=hid (e2.out.trans (if_neg (by rw [hE];simp)));clear e2 hE HN;go_wp2_with fail
    refine HV.out.mono ?_;rintro e w1 ⟨rfl,hb1⟩;have HP1:=hid (HPX.out.below hb1);have HK1:=hid (HKX.out.below hb1);have HB1:=hid (bnext HBX.out hb1);clear p0 p1 p2 p3 j2 HV hb1 HBX HKX HPX;have hFT:∀ w2,Below w.heap.size w w2 -> ∃ v2,(∀ w0:World,(Instr.slice 28 (.slice ad fs.length c) none (some (.int .i64 (k:Int))) none).run Tryz.prog w0 = .ok v2 w0)/\RdF w2 v2 (fs.take k):=fun w2 hb=>(H.out.below hb).cut0S k (by omega)
    obtain ⟨v2,hcut,hr1⟩:=hFT w1 HB1.out;have HFO:=hid (fun w' (hb:Below w1.heap.size w1 w')=>sFollows v2 (fs.take k) x m t da dl dc w' (hr1.below hb) ⟨n3,by omega⟩ (by omega));obtain ⟨z0,z1,z2,z3⟩:=lat_e HP1.out;obtain ⟨l0,l1,l2,l3,l4,l5,l6,l7,l8⟩:=HK1.out.later;clear hFT hr1;by_cases h0:k=0
    ·have hkd:decide ((0:Int)<(k:Int))=false:=decide_eq_false (by omega);have hkn:decide (0<k)=false:=decide_eq_false (by omega);have hpk:pre fs k=(0,0):=by rw [h0];rfl
     have e4:=hid (e3.out.trans (if_neg (by rw [hpk];show ¬ UM.cmpU x m 0 0<=0;have:=(@SM.cmpP_pos x m 0 0).2 (by omega);omega)));have hfo:=pre_take (show k<=fs.length by omega);clear e3 h0 hpk;by_cases hG:1<m/\¬ ((pre fs k).1=x/\(pre fs k).2=m - 1)
     ·have e5:=hid (e4.out.trans (if_pos hG));have hff:folS (fs.take k) x m=false:=by unfold folS;rw [hfo];exact decide_eq_false (fun h=>h.elim (fun h=>by omega) (fun h=>hG.2 h))
      rw [hff] at HFO;clear e4 hG hfo hff;go_wp2
      refine wp_region_later (by kernel_rfl) (by kernel_rfl) ?_;repeat (go_big_quiet_step (fail))
      refine wpQuiet_nil ?_;rintro _ ⟨p,rfl⟩;have HB2:=hid (bnext HB1.out p.h);have HK2:=hid (HK1.out.below p.h);have HP2:=hid (HP1.out.below p.h);have HFO2:=hid (fun q:Later p.val=>Calls.later (HFO.out q.val (bnext p.h q.h)));clear z0 z1 z2 z3 l0 l1 l2 l3 l4 l5 l6 l7 l8 HFO HK1 HP1 HB1;generalize p.val=w2 at HB2 HK2 HP2 HFO2 ⊢;obtain ⟨z0,z1,z2,z3⟩:=lat_e HP2.out;obtain ⟨l0,l1,l2,l3,l4,l5,l6,l7,l8⟩:=HK2.out.later;go_wp2
      refine wp_region_later (by kernel_rfl) (by kernel_rfl) ?_;repeat (go_big_quiet_step (first | (go_at_call 163;with_reducible exact HFO2.out _)))
      refine wpQuiet_nil ?_;rintro _ ⟨p',rfl⟩;have HB3:=hid (bnext HB2.out p'.h);have HK3:=hid (HK2.out.below p'.h);generalize p'.val=w3 at HB3 HK3 ⊢;clear z0 z1 z2 z3 l0 l1 l2 l3 l4 l5 l6 l7 l8 HFO2 HK2 HP2 HB2;go_wp2
      go_ret;rw [e5.out];exact ⟨rfl,HB3.out⟩
     ·have e5:=hid (e4.out.trans (if_neg hG));have hff:folS (fs.take k) x m=true:=by
       unfold folS;rw [hfo];by_cases hm:m<=1
       ·exact decide_eq_true (.inl hm)
       ·refine decide_eq_true (.inr ?_);by_cases hH:(pre fs k).1=x/\(pre fs k).2=m - 1
        ·exact hH
        ·exact absurd ⟨by omega,hH⟩ hG
      rw [hff] at HFO;clear e4 hG hfo hff;go_wp2
      refine wp_region_later (by kernel_rfl) (by kernel_rfl) ?_;repeat (go_big_quiet_step (fail))
      refine wpQuiet_nil ?_;rintro _ ⟨p,rfl⟩;have HB2:=hid (bnext HB1.out p.h);have HK2:=hid (HK1.out.below p.h);have HP2:=hid (HP1.out.below p.h);have HFO2:=hid (fun q:Later p.val=>Calls.later (HFO.out q.val (bnext p.h q.h)));clear z0 z1 z2 z3 l0 l1 l2 l3 l4 l5 l6 l7 l8 HFO HK1 HP1 HB1;generalize p.val=w2 at HB2 HK2 HP2 HFO2 ⊢;obtain ⟨z0,z1,z2,z3⟩:=lat_e HP2.out;obtain ⟨l0,l1,l2,l3,l4,l5,l6,l7,l8⟩:=HK2.out.later;go_wp2
      refine wp_region_later (by kernel_rfl) (by kernel_rfl) ?_;repeat (go_big_quiet_step (first | (go_at_call 163;with_reducible exact HFO2.out _)))
      refine wpQuiet_nil ?_;rintro _ ⟨p',rfl⟩;have HB3:=hid (bnext HB2.out p'.h);have HK3:=hid (HK2.out.below p'.h);generalize p'.val=w3 at HB3 HK3 ⊢;clear z0 z1 z2 z3 l0 l1 l2 l3 l4 l5 l6 l7 l8 HFO2 HK2 HP2 HB2;go_wp2
      go_roundw
      case rel=>exact ⟨k+1,by omega,by go_num,HB3.out,HK3.out,by rw [hp'.out];exact e5.out⟩
      case measure=>simp [intOf];omega
    ·have hkd:(0:Int)<(k:Int):=by omega
     have hkn:0<k:=by omega
     have hkl:k - 1<fs.length:=by omega
     have hg2:=List.getElem?_eq_getElem hkl;have hpk:pre fs k=(fs[k - 1].1,fs[k - 1].2.1):=by simp [pre,h0,List.getD,List.getElem?_eq_getElem hkl]
     generalize fs[k - 1]=g at hg2 hpk;obtain ⟨y,n,u,ds⟩:=g;simp only at hpk;obtain ⟨b2,o2,ea,el,ec,hi2,hb2,f0,f1,f2,f3,hrd2⟩:=(H.out.below HB1.out).atS (k - 1) y n u ds hg2;rw [show ((k - 1:Nat):Int)=(k:Int) - 1 by omega] at hi2;have hC:=fun p:Later w1=>Calls.later (pCmp x m t da dl dc y n u ea el ec p.val)
     have hcc:UM.cmpU x m (pre fs k).1 (pre fs k).2=UM.cmpU x m y n:=by rw [hpk]
     rw [hcc] at e3;have y0:∀ p:Later w1,p.val.cell? ⟨b2,o2,none⟩=some (.int .i64 y):=fun p=>below_cell p.h f0
     have y1:∀ p:Later w1,p.val.cell? ⟨b2,o2+1,none⟩=some (.int .i64 n):=fun p=>below_cell p.h f1
     have y2:∀ p:Later w1,p.val.cell? ⟨b2,o2+2,none⟩=some (.int .i64 u):=fun p=>below_cell p.h f2
     have y3:∀ p:Later w1,p.val.cell? ⟨b2,o2+3,none⟩=some (.slice ea el ec):=fun p=>below_cell p.h f3
     have hfo:=pre_take (show k<=fs.length by omega);clear hg2 hrd2 hcc h0 hpk f0 f1 f2 f3;by_cases hcl:UM.cmpU x m y n<=0
     ·have e4:=hid (e3.out.trans (if_pos hcl));generalize UM.cmpU x m y n=C at hC hcl;have HC:=hid hC;clear e3 hC hfo;go_wp2
      refine wp_region_later (by kernel_rfl) (by kernel_rfl) ?_;repeat (go_big_quiet_step (first | (go_at_call 123;with_reducible exact HC.out _)))
      refine wpQuiet_nil ?_;rintro _ ⟨p,rfl⟩;have HB2:=hid (bnext HB1.out p.h);generalize p.val=w2 at HB2 ⊢;go_wp2
      go_ret;rw [e4.out];exact ⟨rfl,HB2.out⟩
     ·have e4:=hid (e3.out.trans (if_neg hcl));generalize UM.cmpU x m y n=C at hC hcl;have HC:=hid hC;clear e3 hC;by_cases hG:1<m/\¬ ((pre fs k).1=x/\(pre fs k).2=m - 1)
      ·have e5:=hid (e4.out.trans (if_pos hG));have hff:folS (fs.take k) x m=false:=by unfold folS;rw [hfo];exact decide_eq_false (fun h=>h.elim (fun h=>by omega) (fun h=>hG.2 h))
       rw [hff] at HFO;clear e4 hG hfo hff;go_wp2
       refine wp_region_later (by kernel_rfl) (by kernel_rfl) ?_;repeat (go_big_quiet_step (first | (go_at_call 123;with_reducible exact HC.out _)))
       refine wpQuiet_nil ?_;rintro _ ⟨p,rfl⟩;have HB2:=hid (bnext HB1.out p.h);have HK2:=hid (HK1.out.below p.h);have HP2:=hid (HP1.out.below p.h);have HFO2:=hid (fun q:Later p.val=>Calls.later (HFO.out q.val (bnext p.h q.h)));clear z0 z1 z2 z3 l0 l1 l2 l3 l4 l5 l6 l7 l8 HFO HK1 HP1 HB1;generalize p.val=w2 at HB2 HK2 HP2 HFO2 ⊢;obtain ⟨z0,z1,z2,z3⟩:=lat_e HP2.out;obtain ⟨l0,l1,l2,l3,l4,l5,l6,l7,l8⟩:=HK2.out.later;go_wp2
       refine wp_region_later (by kernel_rfl) (by kernel_rfl) ?_;repeat (go_big_quiet_step (first | (go_at_call 163;with_reducible exact HFO2.out _)))
       refine wpQuiet_nil ?_;rintro _ ⟨p',rfl⟩;have HB3:=hid (bnext HB2.out p'.h);have HK3:=hid (HK2.out.below p'.h);generalize p'.val=w3 at HB3 HK3 ⊢;clear z0 z1 z2 z3 l0 l1 l2 l3 l4 l5 l6 l7 l8 HFO2 HK2 HP2 HB2;go_wp2
       go_ret;rw [e5.out];exact ⟨rfl,HB3.out⟩
      ·have e5:=hid (e4.out.trans (if_neg hG));have hff:folS (fs.take k) x m=true:=by
        unfold folS;rw [hfo];by_cases hm:m<=1
        ·exact decide_eq_true (.inl hm)
        ·refine decide_eq_true (.inr ?_);by_cases hH:(pre fs k).1=x/\(pre fs k).2=m - 1
         ·exact hH
         ·exact absurd ⟨by omega,hH⟩ hG
       rw [hff] at HFO;clear e4 hG hfo hff;go_wp2
       refine wp_region_later (by kernel_rfl) (by kernel_rfl) ?_;repeat (go_big_quiet_step (first | (go_at_call 123;with_reducible exact HC.out _)))
       refine wpQuiet_nil ?_;rintro _ ⟨p,rfl⟩;have HB2:=hid (bnext HB1.out p.h);have HK2:=hid (HK1.out.below p.h);have HP2:=hid (HP1.out.below p.h);have HFO2:=hid (fun q:Later p.val=>Calls.later (HFO.out q.val (bnext p.h q.h)));clear z0 z1 z2 z3 l0 l1 l2 l3 l4 l5 l6 l7 l8 HFO HK1 HP1 HB1;generalize p.val=w2 at HB2 HK2 HP2 HFO2 ⊢;obtain ⟨z0,z1,z2,z3⟩:=lat_e HP2.out;obtain ⟨l0,l1,l2,l3,l4,l5,l6,l7,l8⟩:=HK2.out.later;go_wp2
       refine wp_region_later (by kernel_rfl) (by kernel_rfl) ?_;repeat (go_big_quiet_step (first | (go_at_call 163;with_reducible exact HFO2.out _)))
       refine wpQuiet_nil ?_;rintro _ ⟨p',rfl⟩;have HB3:=hid (bnext HB2.out p'.h);have HK3:=hid (HK2.out.below p'.h);generalize p'.val=w3 at HB3 HK3 ⊢;clear z0 z1 z2 z3 l0 l1 l2 l3 l4 l5 l6 l7 l8 HFO2 HK2 HP2 HB2;go_wp2
       go_roundw
       case rel=>exact ⟨k+1,by omega,by go_num,HB3.out,HK3.out,by rw [hp'.out];exact e5.out⟩
       case measure=>simp [intOf];omega
   ·have e3:=hid (e2.out.trans (if_pos hE));have hne:(UM.errU x m t cs != 0)=true:=bne_t hE;generalize UM.errU x m t cs=E at HV e3 hne;clear e2 hE HN;go_wp2_with fail
    refine HV.out.mono ?_;rintro e w1 ⟨rfl,hb1⟩;go_wp2
    go_ret;rw [e3.out];exact ⟨rfl,bnext HBX.out hb1⟩
  ·have hq:¬ ((k:Int)<(fs.length:Int)):=by omega
   have e2:=hid (show R=0 by rw [he.out,List.drop_of_length_le (by omega)];rfl);clear he;go_wp2
   go_ret;rw [e2.out];exact ⟨rfl,hbl.out⟩
end Go.Proofs.YtahcehbgfhdbjaaGreatDoor.ST
namespace Go.Proofs.YtahcehbgfhdbjaaGreatDoor.ST
open Go.RowKit
open UM (Ef)
open SM (Fp)
open VM (Ent)
theorem gValidate (v:Value) (fs:List Fp) (w:World) (hT:Tb w) (hfit:FitN fs) (h:RdF w v fs) :
  Calls Tryz.prog 117 #[v] w fun e w'=>e = .returned (.int .i64 (SM.errL (0,0) fs))/\Below w.heap.size w w':=by
 have HE:=hid (cElements w);have HS:=hid (fun w' (hb:Below w.heap.size w w')=>sValidate v fs w' (hT.below hb) hfit (h.below hb));obtain ⟨va,vc,rfl,_,_⟩:=h.shape;clear h;go_enter Tryz.func117,Tryz.ntmps117
 go_wp2_with fail
 refine HE.out.mono ?_;rintro e w1 ⟨rfl,hb1⟩;have HS1:=hid (HS.out w1 hb1);have HB1:=hid hb1;clear HS HE hb1;go_wp2_with fail
 refine HS1.out.mono ?_;rintro e w2 ⟨rfl,hb2⟩;have HB2:=hid (bnext HB1.out hb2);go_wp2
 go_ret;exact ⟨rfl,HB2.out⟩
end Go.Proofs.YtahcehbgfhdbjaaGreatDoor.ST

