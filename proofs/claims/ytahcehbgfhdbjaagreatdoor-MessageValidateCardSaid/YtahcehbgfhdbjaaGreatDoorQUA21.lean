/-
  YVal YCfg: joined texts, what nothing names left out.
-/
import Derived.Test.YtahcehbgfhdbjaaGreatDoorQUA20
set_option maxHeartbeats 8000000
set_option maxRecDepth 100000
open Go.Lib (hid)
namespace Go.Proofs.YtahcehbgfhdbjaaGreatDoor.ST
open Go.RowKit
open UM (Ef)
open SM (Fp)
theorem sValidate (v:Value) (fs:List Fp) (w:World) (hT:Tb w) (hfit:FitN fs) (h:RdF w v fs) :
  Calls Tryz.prog 148 #[(.agg #[.func (.func 164) #[] #[],.func (.func 165) #[] #[],.func (.func 147) #[] #[],.func (.func 123) #[] #[],.func (.func 78) #[] #[],.func (.func 166) #[] #[],.func (.func 136) #[] #[],.func (.func 131) #[] #[],.int .i64 48]),v] w fun e w'=>e = .returned (.int .i64 (SM.errL (0,0) fs))/\Below w.heap.size w w':=by
 obtain ⟨ad,c,rfl,hc,hl⟩:=h.shape;obtain ⟨R,hR⟩:∃ R,R=SM.errL (0,0) fs:=⟨_,rfl⟩
 rw [<- hR];have H:=hid h;have HR:=hid hR;have HTB:=hid hT;have HFT:=hid hfit;obtain ⟨w0,HX⟩:=kone w;have HW:=hid HX.eq;have HB0:=hid HX.below;have HK0:=hid HX.k;obtain ⟨K,hK⟩:∃ K,w.heap.size=K:=⟨_,rfl⟩
 rw [hK] at HK0;have HKE:=hid hK;clear h hR HX hK hT hfit;go_enter Tryz.func148,Tryz.ntmps148
 go_upto_region 1 with fail
 rw [HW.out,HKE.out];clear HW;go_wp2
 go_loopw [10] (fun i wr=>∃ (k:Nat),k<=fs.length/\i = .int .i64 k/\Hid (Below w.heap.size w wr)/\Hid (KB wr K)/\Hid (R=SM.errL (pre fs k) (fs.drop k))) (fun i _=>fs.length - (intOf i).toNat)
 case atStart=>exact ⟨0,Nat.zero_le _,rfl,HB0.out,HK0.out,HR.out⟩
 case round=>
  obtain ⟨k,hk,rfl,hbl,hkb,he⟩:=hrel;clear HR HB0 HK0;by_cases hlt:k<fs.length
  ·have hq:(k:Int)<(fs.length:Int):=by omega
   have hd:=hid (drop_get hlt);have hk2:=List.getElem?_eq_getElem hlt;have hp:=hid (pre_succ hk2);generalize fs[k]=f at hd hk2 hp;obtain ⟨x,m,t,cs⟩:=f;obtain ⟨b,o,da,dl,dc,hi,hb,c0,c1,c2,c3,hrd⟩:=(H.out.below hbl.out).atS k x m t cs hk2;have e1:=hid (he.out.trans ((congrArg (SM.errL (pre fs k)) hd.out).trans (errL_step _ _ _)));have e2:Hid (R=if UM.errU x m t cs≠0 then UM.errU x m t cs else if UM.cmpU x m (pre fs k).1 (pre fs k).2<=0 then 7 else if 1<m/\¬ ((pre fs k).1=x/\(pre fs k).2=m - 1) then 8 else SM.errL (x,m) (fs.drop (k+1))):=e1.out;have hp':Hid (pre fs (k+1)=(x,m)):=hp.out;have HN:=hid (fun h=>SM.errF_num (f:=(x,m,t,cs)) h);obtain ⟨wx,HX⟩:=eone wr x m t (.slice da dl dc);have HWX:=hid HX.eq;have HBX:=hid (bnext hbl.out HX.below);have HKX:=hid (hkb.out.below HX.below);have HPX:=hid HX.e;have HV:=hid (cVal x m t (.slice da dl dc) cs wx (HTB.out.below HBX.out) (hrd.below HX.below) (HFT.out _ (List.mem_of_getElem? hk2)));obtain ⟨B,hB⟩:∃ B,wr.heap.size=B:=⟨_,rfl⟩
   rw [hB] at HPX;have HBE:=hid hB;clear hk2 he hd e1 hp hrd HX hB hbl hkb;go_upto_region 4 with fail
   rw [HWX.out,HBE.out];clear c0 c1 c2 c3 hi hb HWX;obtain ⟨p0,p1,p2,p3,_⟩:=HPX.out.cells;obtain ⟨_,_,j2,_⟩:=HKX.out.cells;by_cases hE:UM.errU x m t cs=0
   ·obtain ⟨n1,n2,n3,n4⟩:=HN.out hE;simp only at n1 n2 n3 n4;rw [hE] at HV;have e3:=hid (e2.out.trans (if_neg (by rw [hE];simp)));clear e2 hE HN;go_wp2_with fail
    refine HV.out.mono ?_;rintro e w1 ⟨rfl,hb1⟩;have HP1:=hid (HPX.out.below hb1);have HK1:=hid (HKX.out.below hb1);have HB1:=hid (bnext HBX.out hb1);clear p0 p1 p2 p3 j2 HV hb1 HBX HKX HPX;have hFT:∀ w2,Below w.heap.size w w2 -> ∃ v2,(∀ w0:World,(Instr.slice 28 (.slice ad fs.length c) none (some (.int .i64 (k:Int))) none).run Tryz.prog w0 = .ok v2 w0)/\RdF w2 v2 (fs.take k):=fun w2 hb=>(H.out.below hb).cut0S k (by omega)
    obtain ⟨v2,hcut,hr1⟩:=hFT w1 HB1.out;have HFO:=hid (fun w' (hb:Below w1.heap.size w1 w')=>sFollows v2 (fs.take k) x m t da dl dc w' (hr1.below hb) ⟨n3,by omega⟩ (by omega));obtain ⟨z0,z1,z2,z3⟩:=lat_e HP1.out;obtain ⟨l0,l1,l2,l3,l4,l5,l6,l7,l8⟩:=HK1.out.later;clear hFT hr1;by_cases h0:k=0
    ·have hkd:decide ((0:Int)<(k:Int))=false:=decide_eq_false (by omega);have hkn:decide (0<k)=false:=decide_eq_false (by omega);have hpk:pre fs k=(0,0):=by rw [h0];rfl
     have e4:=hid (e3.out.trans (if_neg (by rw [hpk];show ¬ UM.cmpU x m 0 0<=0;have:=(@SM.cmpP_pos x m 0 0).2 (by omega);omega)));have hfo:=pre_take (show k<=fs.length by omega);clear e3 h0 hpk;by_cases hG:1<m/\¬ ((pre fs k).1=x/\(pre fs k).2=m - 1)
     ·have e5:=hid (e4.out.trans (if_pos hG));have hff:folS (fs.take k) x m=false:=by unfold folS;rw [hfo];exact decide_eq_false (fun h=>h.elim (fun h=>by omega) (fun h=>hG.2 h))
      rw [hff] at HFO;clear e4 hG hfo hff;go_wp2
      refine wp_region_later (by kernel_rfl) (by kernel_rfl) ?_;repeat (go_big_quiet_step (fail))
      refine wpQuiet_nil ?_;rintro _ ⟨p,rfl⟩;have HB2:=hid (bnext HB1.out p.h);have HK2:=hid (HK1.out.below p.h);have HP2:=hid (HP1.out.below p.h);have HFO2:=hid (fun q:Later p.val=>Calls.later (HFO.out q.val (bnext p.h q.h)));clear z0 z1 z2 z3 l0 l1 l2 l3 l4 l5 l6 l7 l8 HFO HK1 HP1 HB1;generalize p.val=w2 at HB2 HK2 HP2 HFO2 ⊢;obtain ⟨z0,z1,z2,z3⟩:=lat_e HP2.out;obtain ⟨l0,l1,l2,l3,l4,l5,l6,l7,l8⟩:=HK2.out.later;go_wp2
      refine wp_region_later (by kernel_rfl) (by kernel_rfl) ?_;repeat (go_big_quiet_step (first | (go_at_call 163;with_reducible exact HFO2.out _)))
      refine wpQuiet_nil ?_;rintro _ ⟨p',rfl⟩;have HB3:=hid (bnext HB2.out p'.h);have HK3:=hid (HK2.out.below p'.h);generalize p'.val=w3 at HB3 HK3 ⊢;clear z0 z1 z2 z3 l0 l1 l2 l3 l4 l5 l6 l7 l8 HFO2 HK2 HP2 HB2;go_wp2
      go_ret;rw [e5.out];exact ⟨rfl,HB3.out⟩
     ·have e5:=hid (e4.out.trans (if_neg hG));have hff:folS (fs.take k) x m=true:=by
       unfold folS;rw [hfo];by_cases hm:m<=1
       ·exact decide_eq_true (.inl hm)
       ·refine decide_eq_true (.inr ?_);by_cases hH:(pre fs k).1=x/\(pre fs k).2=m - 1
        ·exact hH
        ·exact absurd ⟨by omega,hH⟩ hG
      rw [hff] at HFO;clear e4 hG hfo hff;go_wp2
      refine wp_region_later (by kernel_rfl) (by kernel_rfl) ?_;repeat (go_big_quiet_step (fail))
      refine wpQuiet_nil ?_;rintro _ ⟨p,rfl⟩;have HB2:=hid (bnext HB1.out p.h);have HK2:=hid (HK1.out.below p.h);have HP2:=hid (HP1.out.below p.h);have HFO2:=hid (fun q:Later p.val=>Calls.later (HFO.out q.val (bnext p.h q.h)));clear z0 z1 z2 z3 l0 l1 l2 l3 l4 l5 l6 l7 l8 HFO HK1 HP1 HB1;generalize p.val=w2 at HB2 HK2 HP2 HFO2 ⊢;obtain ⟨z0,z1,z2,z3⟩:=lat_e HP2.out;obtain ⟨l0,l1,l2,l3,l4,l5,l6,l7,l8⟩:=HK2.out.later;go_wp2
      refine wp_region_later (by kernel_rfl) (by kernel_rfl) ?_;repeat (go_big_quiet_step (first | (go_at_call 163;with_reducible exact HFO2.out _)))
      refine wpQuiet_nil ?_;rintro _ ⟨p',rfl⟩;have HB3:=hid (bnext HB2.out p'.h);have HK3:=hid (HK2.out.below p'.h);generalize p'.val=w3 at HB3 HK3 ⊢;clear z0 z1 z2 z3 l0 l1 l2 l3 l4 l5 l6 l7 l8 HFO2 HK2 HP2 HB2;go_wp2
      go_roundw
      case rel=>exact ⟨k+1,by omega,by go_num,HB3.out,HK3.out,by rw [hp'.out];exact e5.out⟩
      case measure=>simp [intOf];omega
    ·have hkd:(0:Int)<(k:Int):=by omega
     have hkn:0<k:=by omega
     have hkl:k - 1<fs.length:=by omega
     have hg2:=List.getElem?_eq_getElem hkl;have hpk:pre fs k=(fs[k - 1].1,fs[k - 1].2.1):=by simp [pre,h0,List.getD,List.getElem?_eq_getElem hkl]
     generalize fs[k - 1]=g at hg2 hpk;obtain ⟨y,n,u,ds⟩:=g;simp only at hpk;obtain ⟨b2,o2,ea,el,ec,hi2,hb2,f0,f1,f2,f3,hrd2⟩:=(H.out.below HB1.out).atS (k - 1) y n u ds hg2;rw [show ((k - 1:Nat):Int)=(k:Int) - 1 by omega] at hi2;have hC:=fun p:Later w1=>Calls.later (pCmp x m t da dl dc y n u ea el ec p.val)
     have hcc:UM.cmpU x m (pre fs k).1 (pre fs k).2=UM.cmpU x m y n:=by rw [hpk]
     rw [hcc] at e3;have y0:∀ p:Later w1,p.val.cell? ⟨b2,o2,none⟩=some (.int .i64 y):=fun p=>below_cell p.h f0
     have y1:∀ p:Later w1,p.val.cell? ⟨b2,o2+1,none⟩=some (.int .i64 n):=fun p=>below_cell p.h f1
     have y2:∀ p:Later w1,p.val.cell? ⟨b2,o2+2,none⟩=some (.int .i64 u):=fun p=>below_cell p.h f2
     have y3:∀ p:Later w1,p.val.cell? ⟨b2,o2+3,none⟩=some (.slice ea el ec):=fun p=>below_cell p.h f3
     have hfo:=pre_take (show k<=fs.length by omega);clear hg2 hrd2 hcc h0 hpk f0 f1 f2 f3;by_cases hcl:UM.cmpU x m y n<=0
     ·have e4:=hid (e3.out.trans (if_pos hcl));generalize UM.cmpU x m y n=C at hC hcl;have HC:=hid hC;clear e3 hC hfo;go_wp2
      refine wp_region_later (by kernel_rfl) (by kernel_rfl) ?_;repeat (go_big_quiet_step (first | (go_at_call 123;with_reducible exact HC.out _)))
      refine wpQuiet_nil ?_;rintro _ ⟨p,rfl⟩;have HB2:=hid (bnext HB1.out p.h);generalize p.val=w2 at HB2 ⊢;go_wp2
      go_ret;rw [e4.out];exact ⟨rfl,HB2.out⟩
     ·have e4:=hid (e3.out.trans (if_neg hcl));generalize UM.cmpU x m y n=C at hC hcl;have HC:=hid hC;clear e3 hC;by_cases hG:1<m/\¬ ((pre fs k).1=x/\(pre fs k).2=m - 1)
      ·have e5:=hid (e4.out.trans (if_pos hG));have hff:folS (fs.take k) x m=false:=by unfold folS;rw [hfo];exact decide_eq_false (fun h=>h.elim (fun h=>by omega) (fun h=>hG.2 h))
       rw [hff] at HFO;clear e4 hG hfo hff;go_wp2
       refine wp_region_later (by kernel_rfl) (by kernel_rfl) ?_;repeat (go_big_quiet_step (first | (go_at_call 123;with_reducible exact HC.out _)))
       refine wpQuiet_nil ?_;rintro _ ⟨p,rfl⟩;have HB2:=hid (bnext HB1.out p.h);have HK2:=hid (HK1.out.below p.h);have HP2:=hid (HP1.out.below p.h);have HFO2:=hid (fun q:Later p.val=>Calls.later (HFO.out q.val (bnext p.h q.h)));clear z0 z1 z2 z3 l0 l1 l2 l3 l4 l5 l6 l7 l8 HFO HK1 HP1 HB1;generalize p.val=w2 at HB2 HK2 HP2 HFO2 ⊢;obtain ⟨z0,z1,z2,z3⟩:=lat_e HP2.out;obtain ⟨l0,l1,l2,l3,l4,l5,l6,l7,l8⟩:=HK2.out.later;go_wp2
       refine wp_region_later (by kernel_rfl) (by kernel_rfl) ?_;repeat (go_big_quiet_step (first | (go_at_call 163;with_reducible exact HFO2.out _)))
       refine wpQuiet_nil ?_;rintro _ ⟨p',rfl⟩;have HB3:=hid (bnext HB2.out p'.h);have HK3:=hid (HK2.out.below p'.h);generalize p'.val=w3 at HB3 HK3 ⊢;clear z0 z1 z2 z3 l0 l1 l2 l3 l4 l5 l6 l7 l8 HFO2 HK2 HP2 HB2;go_wp2
       go_ret;rw [e5.out];exact ⟨rfl,HB3.out⟩
      ·have e5:=hid (e4.out.trans (if_neg hG));have hff:folS (fs.take k) x m=true:=by
        unfold folS;rw [hfo];by_cases hm:m<=1
        ·exact decide_eq_true (.inl hm)
        ·refine decide_eq_true (.inr ?_);by_cases hH:(pre fs k).1=x/\(pre fs k).2=m - 1
         ·exact hH
         ·exact absurd ⟨by omega,hH⟩ hG
       rw [hff] at HFO;clear e4 hG hfo hff;go_wp2
       refine wp_region_later (by kernel_rfl) (by kernel_rfl) ?_;repeat (go_big_quiet_step (first | (go_at_call 123;with_reducible exact HC.out _)))
       refine wpQuiet_nil ?_;rintro _ ⟨p,rfl⟩;have HB2:=hid (bnext HB1.out p.h);have HK2:=hid (HK1.out.below p.h);have HP2:=hid (HP1.out.below p.h);have HFO2:=hid (fun q:Later p.val=>Calls.later (HFO.out q.val (bnext p.h q.h)));clear z0 z1 z2 z3 l0 l1 l2 l3 l4 l5 l6 l7 l8 HFO HK1 HP1 HB1;generalize p.val=w2 at HB2 HK2 HP2 HFO2 ⊢;obtain ⟨z0,z1,z2,z3⟩:=lat_e HP2.out;obtain ⟨l0,l1,l2,l3,l4,l5,l6,l7,l8⟩:=HK2.out.later;go_wp2
       refine wp_region_later (by kernel_rfl) (by kernel_rfl) ?_;repeat (go_big_quiet_step (first | (go_at_call 163;with_reducible exact HFO2.out _)))
       refine wpQuiet_nil ?_;rintro _ ⟨p',rfl⟩;have HB3:=hid (bnext HB2.out p'.h);have HK3:=hid (HK2.out.below p'.h);generalize p'.val=w3 at HB3 HK3 ⊢;clear z0 z1 z2 z3 l0 l1 l2 l3 l4 l5 l6 l7 l8 HFO2 HK2 HP2 HB2;go_wp2
       go_roundw
       case rel=>exact ⟨k+1,by omega,by go_num,HB3.out,HK3.out,by rw [hp'.out];exact e5.out⟩
       case measure=>simp [intOf];omega
   ·have e3:=hid (e2.out.trans (if_pos hE));have hne:(UM.errU x m t cs != 0)=true:=bne_t hE;generalize UM.errU x m t cs=E at HV e3 hne;clear e2 hE HN;go_wp2_with fail
    refine HV.out.mono ?_;rintro e w1 ⟨rfl,hb1⟩;go_wp2
    go_ret;rw [e3.out];exact ⟨rfl,bnext HBX.out hb1⟩
  ·have hq:¬ ((k:Int)<(fs.length:Int)):=by omega
   have e2:=hid (show R=0 by rw [he.out,List.drop_of_length_le (by omega)];rfl);clear he;go_wp2
   go_ret;rw [e2.out];exact ⟨rfl,hbl.out⟩
end Go.Proofs.YtahcehbgfhdbjaaGreatDoor.ST
namespace Go.Proofs.YtahcehbgfhdbjaaGreatDoor.ST
open Go.RowKit
open UM (Ef)
open SM (Fp)
open VM (Ent)
theorem gValidate (v:Value) (fs:List Fp) (w:World) (hT:Tb w) (hfit:FitN fs) (h:RdF w v fs) :
  Calls Tryz.prog 117 #[v] w fun e w'=>e = .returned (.int .i64 (SM.errL (0,0) fs))/\Below w.heap.size w w':=by
 have HE:=hid (cElements w);have HS:=hid (fun w' (hb:Below w.heap.size w w')=>sValidate v fs w' (hT.below hb) hfit (h.below hb));obtain ⟨va,vc,rfl,_,_⟩:=h.shape;clear h;go_enter Tryz.func117,Tryz.ntmps117
 go_wp2_with fail
 refine HE.out.mono ?_;rintro e w1 ⟨rfl,hb1⟩;have HS1:=hid (HS.out w1 hb1);have HB1:=hid hb1;clear HS HE hb1;go_wp2_with fail
 refine HS1.out.mono ?_;rintro e w2 ⟨rfl,hb2⟩;have HB2:=hid (bnext HB1.out hb2);go_wp2
 go_ret;exact ⟨rfl,HB2.out⟩
end Go.Proofs.YtahcehbgfhdbjaaGreatDoor.ST

