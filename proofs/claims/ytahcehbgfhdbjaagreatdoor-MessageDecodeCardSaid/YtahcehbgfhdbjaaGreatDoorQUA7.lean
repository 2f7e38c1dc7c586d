/-
  SValR SUn UCmp SEq SRes SFind SMath4 SMath5 SAdd UVl: joined texts, what nothing names left out.
-/
import Derived.Test.YtahcehbgfhdbjaaGreatDoorQUA6
import Derived.StillTailTactics
set_option maxHeartbeats 4000000
set_option maxRecDepth 100000
open Go.Lib (hid)
namespace Go.Proofs.YtahcehbgfhdbjaaGreatDoor.ST
open Go.RowKit Go.Joins
open UM (Ef)
open SM (Fp)
theorem errL_step (pr:Int×Int) (f:Fp) (r:List Fp):SM.errL pr (f :: r) =
  if SM.errF f≠0 then SM.errF f else if UM.cmpU f.1 f.2.1 pr.1 pr.2<=0 then 7 else if 1<f.2.1/\¬ (pr.1=f.1/\pr.2=f.2.1 - 1) then 8 else SM.errL (f.1,f.2.1) r:=by
 rw [SM.errL]
def pre (fs:List Fp) (k:Nat):Int×Int:=if k=0 then (0,0) else ((fs.getD (k - 1) (0,0,0,[])).1,(fs.getD (k - 1) (0,0,0,[])).2.1)
theorem pre_succ {fs:List Fp} {k:Nat} {f:Fp} (h:fs[k]? = some f):pre fs (k+1)=(f.1,f.2.1):=by simp [pre,List.getD,h]
theorem rValidateS (v:Value) (fs:List Fp) (w:World) (h:RdF w v fs) :
  Calls Tryz.prog 72 #[v] w fun e w'=>e = .returned (.int .i64 (SM.errL (0,0) fs))/\Below w.heap.size w w':=by
 obtain ⟨ad,c,rfl,hc,hl⟩:=h.shape;obtain ⟨R,hR⟩:∃ R,R=SM.errL (0,0) fs:=⟨_,rfl⟩
 rw [<- hR];have H:=hid h;have HR:=hid hR;clear h hR;go_enter Tryz.func72,Tryz.ntmps72
 go_wp2
 go_loopw [3] (fun i wr=>∃ (k:Nat),k<=fs.length/\i = .int .i64 k/\Below w.heap.size w wr/\Hid (R=SM.errL (pre fs k) (fs.drop k))) (fun i _=>fs.length - (intOf i).toNat)
 case atStart=>exact ⟨0,Nat.zero_le _,rfl,Below.refl _ _,HR.out⟩
 case round=>
  obtain ⟨k,hk,rfl,hbl,he⟩:=hrel;clear HR;by_cases hlt:k<fs.length
  ·have hq:(k:Int)<(fs.length:Int):=by omega
   have hd:=hid (drop_get hlt);have hk2:=List.getElem?_eq_getElem hlt;have hp:=hid (pre_succ hk2);generalize fs[k]=f at hd hk2 hp;obtain ⟨x,m,t,cs⟩:=f;obtain ⟨b,o,da,dl,dc,hi,hb,c0,c1,c2,c3,hrd⟩:=(H.out.below hbl).at_ k x m t cs hk2;have e1:=hid (he.out.trans ((congrArg (SM.errL (pre fs k)) hd.out).trans (errL_step _ _ _)));have e2:Hid (R=if UM.errU x m t cs≠0 then UM.errU x m t cs else if UM.cmpU x m (pre fs k).1 (pre fs k).2<=0 then 7 else if 1<m/\¬ ((pre fs k).1=x/\(pre fs k).2=m - 1) then 8 else SM.errL (x,m) (fs.drop (k+1))):=e1.out;have hp':Hid (pre fs (k+1)=(x,m)):=hp.out;have HN:=hid (fun h=>SM.errF_num (f:=(x,m,t,cs)) h);have HV:=hid (rValU x m t (.slice da dl dc) cs _ hrd);clear hk2 he hd e1 hp hrd;by_cases hE:UM.errU x m t cs=0
   ·obtain ⟨n1,n2,n3,n4⟩:=HN.out hE;simp only at n1 n2 n3 n4;rw [hE] at HV;have e3:=hid (e2.out.trans (if_neg (by rw [hE];simp)));clear e2 hE HN;go_wp2_with fail
    refine HV.out.mono ?_;rintro e w1 ⟨rfl,hb1⟩;have d0:=below_cell hb1 c0;have d1:=below_cell hb1 c1;have d2:=below_cell hb1 c2;have d3:=below_cell hb1 c3;have HB1:=hid (bnext hbl hb1);clear c0 c1 c2 c3 HV hb1 hbl;by_cases h0:k=0
    ·subst h0;have hi0:∀ w0:World,(Instr.indexAt 29 (.slice ad fs.length c) (.int .i64 0)).run Tryz.prog w0 = .ok (.pointer (some ⟨b,o,none⟩)) w0:=hi;have hq0:(0:Int)<(fs.length:Int):=hq;have e4:=hid (e3.out.trans (if_neg (by show ¬ UM.cmpU x m 0 0<=0;have:=(@SM.cmpP_pos x m 0 0).2 (by omega);omega)));clear e3 hi hq;by_cases hm:1<m
     ·have e5:=hid (e4.out.trans (if_pos ⟨hm,by show ¬ ((0:Int)=x/\_);omega⟩));clear e4;go_wp2
      go_quiet (fail)
      go_wp2
      go_quiet (fail)
      go_wp2
      go_ret;rw [e5.out];exact ⟨rfl,(HB1.out.trans (below_drewN _ _ _)).trans (below_drewN _ _ _)⟩
     ·have e5:=hid (e4.out.trans (if_neg (fun h=>hm h.1)));have hm':decide (1<m)=false:=decide_eq_false hm;clear e4;go_wp2
      go_quiet (fail)
      go_wp2
      go_quiet (fail)
      go_wp2
      go_roundw
      case rel=>exact ⟨0+1,by omega,by go_num,HB1.out.trans (below_drewN _ _ _),by rw [hp'.out];exact e5⟩
      case measure=>simp [intOf];omega
    ·have hk1:(0:Int)<(k:Int):=by omega
     have hk2:0<k:=by omega
     have hk0:((k:Int)==0)=false:=beq_f (by omega);have hkl:k - 1<fs.length:=by omega
     have hg2:=List.getElem?_eq_getElem hkl;have hpk:pre fs k=(fs[k - 1].1,fs[k - 1].2.1):=by simp [pre,h0,List.getD,List.getElem?_eq_getElem hkl]
     generalize fs[k - 1]=g at hg2 hpk;obtain ⟨y,n,u,ds⟩:=g;simp only at hpk;rw [hpk] at e3;obtain ⟨b2,o2,ea,el,ec,hi2,hb2,f0,f1,f2,f3,hrd2⟩:=(H.out.below HB1.out).at_ (k - 1) y n u ds hg2;rw [show ((k - 1:Nat):Int)=(k:Int) - 1 by omega] at hi2;have hC:=fun p:Later w1=>rCompareL y n u ea el ec x m t da dl dc p
     have hcn:=SM.cmpU_neg y n x m;simp only at e3;clear hg2 hpk hrd2;have k0:∀ p:Later w1,p.val.cell? ⟨b,o,none⟩=some (.int .i64 x):=fun p=>below_cell p.h d0
     have k1:∀ p:Later w1,p.val.cell? ⟨b,o+1,none⟩=some (.int .i64 m):=fun p=>below_cell p.h d1
     have k2:∀ p:Later w1,p.val.cell? ⟨b,o+2,none⟩=some (.int .i64 t):=fun p=>below_cell p.h d2
     have k3:∀ p:Later w1,p.val.cell? ⟨b,o+3,none⟩=some (.slice da dl dc):=fun p=>below_cell p.h d3
     have j0:∀ p:Later w1,p.val.cell? ⟨b2,o2,none⟩=some (.int .i64 y):=fun p=>below_cell p.h f0
     have j1:∀ p:Later w1,p.val.cell? ⟨b2,o2+1,none⟩=some (.int .i64 n):=fun p=>below_cell p.h f1
     have j2:∀ p:Later w1,p.val.cell? ⟨b2,o2+2,none⟩=some (.int .i64 u):=fun p=>below_cell p.h f2
     have j3:∀ p:Later w1,p.val.cell? ⟨b2,o2+3,none⟩=some (.slice ea el ec):=fun p=>below_cell p.h f3
     by_cases hcl:UM.cmpU x m y n<=0
     ·have e4:=hid (e3.out.trans (if_pos hcl));have hge:0<=UM.cmpU y n x m:=by omega
      generalize UM.cmpU y n x m=C at hC hge;have HC:=hid hC;clear e3 hcl hcn hC d0 d1 d2 d3 f0 f1 f2 f3;go_wp2
      refine wp_region_later (by kernel_rfl) (by kernel_rfl) ?_;repeat (go_big_quiet_step (first | (go_at_call 75;with_reducible exact HC.out _)))
      refine wpQuiet_nil ?_;rintro _ ⟨p,rfl⟩;have HB2:=hid (bnext HB1.out p.h);generalize p.val=w2 at HB2 ⊢;go_wp2
      go_ret;rw [e4.out];exact ⟨rfl,HB2.out⟩
     ·have e4:=hid (e3.out.trans (if_neg hcl));have hge:¬ 0<=UM.cmpU y n x m:=by omega
      generalize UM.cmpU y n x m=C at hC hge;have HC:=hid hC;clear e3 hcl hcn hC;go_wp2
      refine wp_region_later (by kernel_rfl) (by kernel_rfl) ?_;repeat (go_big_quiet_step (first | (go_at_call 75;with_reducible exact HC.out _)))
      refine wpQuiet_nil ?_;rintro _ ⟨p,rfl⟩;have HB2:=hid (bnext HB1.out p.h);have x0:=below_cell p.h d0;have x1:=below_cell p.h d1;have y0:=below_cell p.h f0;have y1:=below_cell p.h f1;clear k0 k1 k2 k3 j0 j1 j2 j3 d0 d1 d2 d3 f0 f1 f2 f3 HC HB1;obtain ⟨w2,hw2⟩:∃ w2,w2=p.val:=⟨_,rfl⟩
      rw [<- hw2] at HB2 x0 x1 y0 y1 ⊢;clear hw2;have hw1:IntKind.i64.wrap (m - 1)=m - 1:=IntWalk.i64_in _ (by omega);by_cases hm:1<m
      ·by_cases hyx:y=x
       ·have q1:(y != x)=false:=bne_f hyx;by_cases hnm:n=m - 1
        ·have q2:(n != m - 1)=false:=bne_f hnm;have e5:=hid (e4.out.trans (if_neg (fun h=>h.2 ⟨hyx,hnm⟩)));clear e4 hyx hnm;go_wp2
         go_quiet (fail)
         go_wp2
         go_roundw
         case rel=>exact ⟨k+1,by omega,by go_num,HB2.out.trans (below_drewN _ _ _),by rw [hp'.out];exact e5⟩
         case measure=>simp [intOf];omega
        ·have q2:(n != m - 1)=true:=bne_t hnm;have e5:=hid (e4.out.trans (if_pos ⟨hm,fun h=>hnm h.2⟩));clear e4 hyx hnm;go_wp2
         go_quiet (fail)
         go_wp2
         go_ret;rw [e5.out];exact ⟨rfl,HB2.out.trans (below_drewN _ _ _)⟩
       ·have q1:(y != x)=true:=bne_t hyx;have e5:=hid (e4.out.trans (if_pos ⟨hm,fun h=>hyx h.1⟩));clear e4 hyx;go_wp2
        go_quiet (fail)
        go_wp2
        go_ret;rw [e5.out];exact ⟨rfl,HB2.out.trans (below_drewN _ _ _)⟩
      ·have e5:=hid (e4.out.trans (if_neg (fun h=>hm h.1)));have hm':decide (1<m)=false:=decide_eq_false hm;clear e4;go_wp2
       go_quiet (fail)
       go_wp2
       go_roundw
       case rel=>exact ⟨k+1,by omega,by go_num,HB2.out.trans (below_drewN _ _ _),by rw [hp'.out];exact e5⟩
       case measure=>simp [intOf];omega
   ·have e3:=hid (e2.out.trans (if_pos hE));have hne:(UM.errU x m t cs != 0)=true:=bne_t hE;generalize UM.errU x m t cs=E at HV e3 hne;clear e2 hE HN;go_wp2_with fail
    refine HV.out.mono ?_;rintro e w1 ⟨rfl,hb1⟩;go_wp2
    go_ret;rw [e3.out];exact ⟨rfl,bnext hbl hb1⟩
  ·have hq:¬ ((k:Int)<(fs.length:Int)):=by omega
   have e2:=hid (show R=0 by rw [he.out,List.drop_of_length_le (by omega)];rfl);clear he;go_wp2
   go_ret;rw [e2.out];exact ⟨rfl,hbl⟩
end Go.Proofs.YtahcehbgfhdbjaaGreatDoor.ST
namespace Go.Proofs.YtahcehbgfhdbjaaGreatDoor.ST
open Go.RowKit Go.Joins
open UM (Ef)
open SM (Fp)
end Go.Proofs.YtahcehbgfhdbjaaGreatDoor.ST
namespace Go.Proofs.YtahcehbgfhdbjaaGreatDoor
open Go.RowKit
open UM (Ef)
namespace UM
theorem cmpU_or (c q d r:Int):(if cmpI c d≠0 then cmpI c d else cmpI q r)=cmpU c q d r:=by
 unfold cmpI cmpU;(repeat' split) <;> omega
theorem cmpU_zeroC {c q d r:Int}:cmpU c q d r=0 ↔ c=d/\q=r:=by
 unfold cmpU;(repeat' split) <;> omega
end UM
structure Box2 (w w1:World) (c q t d r y:Int) (u v:Value):Prop where
 eq:(w.alloc (.cells #[.int .i64 c,.int .i64 q,.int .i64 t,u] 96)).alloc (.cells #[.int .i64 d,.int .i64 r,.int .i64 y,v] 96)=w1
 a:OU w1 w.heap.size c q t u
 b:OU w1 (w.heap.size+1) d r y v
 below:Below w.heap.size w w1
theorem box2 (w:World) (c q t d r y:Int) (u v:Value):∃ w1,Box2 w w1 c q t d r y u v:=by
 have b1:=below_fresh w (.cells #[.int .i64 c,.int .i64 q,.int .i64 t,u] 96);have o1:=OU.fresh w c q t u;have z1:=World.size_alloc w (.cells #[.int .i64 c,.int .i64 q,.int .i64 t,u] 96);have b2:=below_fresh (w.alloc (.cells #[.int .i64 c,.int .i64 q,.int .i64 t,u] 96)) (.cells #[.int .i64 d,.int .i64 r,.int .i64 y,v] 96);have o2:=OU.fresh (w.alloc (.cells #[.int .i64 c,.int .i64 q,.int .i64 t,u] 96)) d r y v;rw [z1] at o2;exact ⟨_,rfl,o1.below b2,o2,bnext b1 b2⟩
theorem uCompare (c q t:Int) (u:Value) (d r y:Int) (v:Value) (w:World) (hu:∃ a l k,u = .slice a l k) (hv:∃ a l k,v = .slice a l k) :
  Calls Tryz.prog 123 #[uv c q t u,uv d r y v] w fun e w'=>e = .returned (.int .i64 (UM.cmpU c q d r))/\Below w.heap.size w w':=by
 obtain ⟨ua,ul,uc,rfl⟩:=hu;obtain ⟨va,vl,vc,rfl⟩:=hv;obtain ⟨w1,H⟩:=box2 w c q t d r y (.slice ua ul uc) (.slice va vl vc);have HW:=hid H.eq;have HB:=hid H.below;obtain ⟨p0,p1,p2,p3,_⟩:=H.a.cells;obtain ⟨q0,q1,q2,q3,_⟩:=H.b.cells;have H1:=hid (cCmp c d);have H2:=hid (cCmp q r);have e:=hid (UM.cmpU_or c q d r);generalize cmpI c d=X at H1 e;generalize cmpI q r=Y at H2 e;generalize UM.cmpU c q d r=R at e;clear H;go_enter Tryz.func123,Tryz.ntmps123
 go_upto_region 1 with fail
 rw [HW.out];refine wp_region_still_tail 10 (by kernel_rfl) (by kernel_rfl) ?_;simp only [List.take_succ_cons,List.take_zero,List.drop_succ_cons,List.drop_zero];iterate 4 still_step
 still_call (H1.out _)
 iterate 4 still_step
 still_call (H2.out _)
 refine wpStill_nil ?_;change wpList _ _ _ _ _ w1.drew
 have HB2:=hid (HB.out.drew);clear p0 p1 p2 p3 q0 q1 q2 q3;generalize w1.drew=w2 at HB2 ⊢;have hb3:=below_fresh w2 (.cells #[.int .i64 X,.int .i64 Y] 3);go_wp2_with fail
 refine (cOr w2.heap.size X Y _ (by simp [World.cell?_alloc_new]) (by simp [World.cell?_alloc_new])).mono ?_;rintro e w4 ⟨rfl,rfl⟩;rw [e.out];go_wp2
 go_ret;exact ⟨rfl,bnext HB2.out hb3⟩
theorem uEqualS (va vb:Value) (xs ys:List Ef) (w:World) (ha:RdEf w va xs) (hb:RdEf w vb ys) :
  Calls Tryz.prog 124 #[va,vb] w fun e w'=>e = .returned (.bool (decide (xs=ys)))/\Below w.heap.size w w':=by
 obtain ⟨ad,c,rfl,hc,hl⟩:=ha.shape;obtain ⟨bd,d,rfl,hd,hld⟩:=hb.shape;have HA:=hid ha;have HB:=hid hb;clear ha hb;by_cases hlen:xs.length=ys.length
 ·obtain ⟨R,hR⟩:∃ R,R=decide (xs=ys):=⟨_,rfl⟩
  rw [<- hR];have HR:=hid hR;clear hR;have HL:=hid hlen;have hq0:((xs.length:Int) != (ys.length:Int))=false:=by simp;omega
  rw [<- hlen] at hq0 ⊢;clear hlen;have hm:Tryz.prog.eqGuardType Tryz.prog.depth 138=false:=by kernel_rfl
  go_enter Tryz.func124,Tryz.ntmps124
  go_wp2
  go_loopw [13] (fun i wr=>∃ k:Nat,k<=xs.length/\i = .int .i64 k/\Below w.heap.size w wr/\Hid (R=decide (xs.drop k=ys.drop k))) (fun i _=>xs.length - (intOf i).toNat)
  case atStart=>exact ⟨0,Nat.zero_le _,rfl,Below.refl _ _,HR.out⟩
  case round=>
   obtain ⟨k,hk,rfl,hbl,he⟩:=hrel;by_cases hlt:k<xs.length
   ·have hlt2:k<ys.length:=by rw [<- HL.out];exact hlt
    have hatx:=List.getElem?_eq_getElem hlt;have haty:=List.getElem?_eq_getElem hlt2;have hdx:=hid (drop_get hlt);have hdy:=hid (drop_get hlt2);generalize xs[k]=y at hdx hatx;obtain ⟨k',o',f',n',s'⟩:=y;generalize ys[k]=z at hdy haty;obtain ⟨kz,oz,fz,nz,sz⟩:=z;obtain ⟨b,o,hi,hb,d0,d1,d2,d3,d4⟩:=atEf (HA.out.below hbl) k _ _ _ _ _ hatx;obtain ⟨bb,oo,hi2,hb2,f0,f1,f2,f3,f4⟩:=atEf (HB.out.below hbl) k _ _ _ _ _ haty;rw [<- HL.out] at hi2;have hq:(k:Int)<(xs.length:Int):=by omega
    clear HR hatx haty;have hBB:∃ B,B=decide ((k',o',f',n',s')=(kz,oz,fz,nz,sz)):=⟨_,rfl⟩
    obtain ⟨B,hB⟩:=hBB;have hneq:=fun w'=>neq_ev k' o' f' n' s' kz oz fz nz sz w'
    rw [<- hB] at hneq;have e0:=hid (show R=(B && decide (xs.drop (k+1)=ys.drop (k+1))) by
     rw [he.out,hdx.out,hdy.out,hB];rw [<- Bool.decide_and];exact decide_eq_decide.2 List.cons_eq_cons)
    clear he hdx hdy hB;cases B
    ·have e2:=hid (e0.out.trans (Bool.false_and _));clear e0;go_wp2
     go_quiet (fail)
     go_wp2
     go_ret;rw [e2.out];exact ⟨rfl,hbl.trans (below_drewN _ _ _)⟩
    ·have e2:=hid (e0.out.trans (Bool.true_and _));clear e0;go_wp2
     go_quiet (fail)
     go_wp2
     go_roundw
     case rel=>exact ⟨k+1,by omega,by go_num,hbl.trans (below_drewN _ _ _),e2⟩
     case measure=>simp [intOf];omega
   ·have hq:¬ ((k:Int)<(xs.length:Int)):=by omega
    have e2:=hid (show R=true by rw [he.out,List.drop_of_length_le (by omega),List.drop_of_length_le (by rw [<- HL.out];omega)];rfl);clear he HR;go_wp2
    go_ret;rw [e2.out];exact ⟨rfl,hbl⟩
 ·have e2:=hid (show decide (xs=ys)=false from decide_eq_false fun h=>hlen (by rw [h]));have hq0:((xs.length:Int) != (ys.length:Int))=true:=by simp;omega
  clear hlen HA HB;go_enter Tryz.func124,Tryz.ntmps124
  go_wp2
  go_ret;rw [e2.out];exact ⟨rfl,Below.refl _ _⟩
theorem uEqual (c q t:Int) (u:Value) (es:List Ef) (d r y:Int) (v:Value) (fs:List Ef) (w:World) (hx:RdEf w u es) (hy:RdEf w v fs) :
  Calls Tryz.prog 78 #[uv c q t u,uv d r y v] w fun e w'=>e = .returned (.bool (UM.eqU c q t es d r y fs))/\Below w.heap.size w w':=by
 obtain ⟨ua,uc,rfl,_,_⟩:=hx.shape;obtain ⟨va,vc,rfl,_,_⟩:=hy.shape;obtain ⟨w1,H⟩:=box2 w c q t d r y (.slice ua es.length uc) (.slice va fs.length vc);have HW:=hid H.eq;have HB:=hid H.below;have HX:=hid H.a;have HY:=hid H.b;have HC:=hid (uCompare c q t (.slice ua es.length uc) d r y (.slice va fs.length vc) w1 ⟨_,_,_,rfl⟩ ⟨_,_,_,rfl⟩);have HS:=hid (fun w' (hb:Below w1.heap.size w1 w')=>uEqualS _ _ es fs w' ((hx.below HB.out).below hb) ((hy.below HB.out).below hb));obtain ⟨p0,p1,p2,p3,_⟩:=H.a.cells;obtain ⟨q0,q1,q2,q3,_⟩:=H.b.cells;obtain ⟨R,hR⟩:∃ R,R=UM.eqU c q t es d r y fs:=⟨_,rfl⟩
 rw [<- hR];unfold UM.eqU at hR;have hz:=@UM.cmpU_zeroC c q d r;generalize UM.cmpU c q d r=X at HC hz;clear H hx hy;by_cases hX:X=0
 case neg=>
  have e:=hid (show R=false by rw [hR];exact decide_eq_false (fun h=>hX (hz.2 ⟨h.1,h.2.1⟩)));have hne:(X==0)=false:=beq_f hX;clear hR hz hX HS HX HY;go_enter Tryz.func78,Tryz.ntmps78
  go_upto_region 1 with fail
  rw [HW.out];clear HW;go_wp2_with fail
  refine HC.out.mono ?_;rintro e w2 ⟨rfl,hb2⟩;have HB2:=hid (bnext HB.out hb2);clear p0 p1 p2 p3 q0 q1 q2 q3 hb2;go_wp2
  go_ret;rw [e.out];exact ⟨rfl,HB2.out⟩
 have hX2:=hz.1 hX;subst hX;clear hz;by_cases ht:t=y
 case neg=>
  have e:=hid (show R=false by rw [hR];exact decide_eq_false (fun h=>ht h.2.2.1));have hne:(t==y)=false:=beq_f ht;clear hR ht hX2 HS;go_enter Tryz.func78,Tryz.ntmps78
  go_upto_region 1 with fail
  rw [HW.out];clear HW;go_wp2_with fail
  refine HC.out.mono ?_;rintro e w2 ⟨rfl,hb2⟩;have HB2:=hid (bnext HB.out hb2);clear p0 p1 p2 p3 q0 q1 q2 q3;obtain ⟨p0,p1,p2,p3,_⟩:=(HX.out.below hb2).cells;obtain ⟨q0,q1,q2,q3,_⟩:=(HY.out.below hb2).cells;clear hb2;go_wp2
  go_ret;rw [e.out];exact ⟨rfl,HB2.out⟩
 have e:=hid (show R=decide (es=fs) by rw [hR];exact decide_eq_decide.2 ⟨fun h=>h.2.2.2,fun h=>⟨hX2.1,hX2.2,ht,h⟩⟩);have hne:(t==y)=true:=beq_t ht;rw [<- e.out] at HS;clear hR ht hX2;go_enter Tryz.func78,Tryz.ntmps78
 go_upto_region 1 with fail
 rw [HW.out];clear HW;go_wp2_with fail
 refine HC.out.mono ?_;rintro e w2 ⟨rfl,hb2⟩;have HB2:=hid (bnext HB.out hb2);have HE:=hid (HS.out _ hb2);clear p0 p1 p2 p3 q0 q1 q2 q3;obtain ⟨p0,p1,p2,p3,_⟩:=(HX.out.below hb2).cells;obtain ⟨q0,q1,q2,q3,_⟩:=(HY.out.below hb2).cells;clear hb2 HS;go_wp2_with fail
 refine HE.out.mono ?_;rintro e w3 ⟨rfl,hb3⟩;go_wp2
 go_ret;exact ⟨rfl,bnext HB2.out hb3⟩
end Go.Proofs.YtahcehbgfhdbjaaGreatDoor
namespace Go.Proofs.YtahcehbgfhdbjaaGreatDoor.ST
open Go.RowKit Go.Joins
open UM (Ef)
open SM (Fp)
theorem eq_drop {xs ys:List Fp} {k:Nat} {f g:Fp} (h1:xs.drop k=f :: xs.drop (k+1)) (h2:ys.drop k=g :: ys.drop (k+1)) :
  decide (xs.drop k=ys.drop k)=(UM.eqU f.1 f.2.1 f.2.2.1 f.2.2.2 g.1 g.2.1 g.2.2.1 g.2.2.2 && decide (xs.drop (k+1)=ys.drop (k+1))):=by
 obtain ⟨x,m,t,cs⟩:=f;obtain ⟨y,n,u,ds⟩:=g;rw [h1,h2];unfold UM.eqU;rw [<- Bool.decide_and];refine decide_eq_decide.2 ?_;rw [List.cons_eq_cons];simp
theorem rEqualState (va vb:Value) (xs ys:List Fp) (w:World) (ha:RdF w va xs) (hb:RdF w vb ys) :
  Calls Tryz.prog 33 #[va,vb] w fun e w'=>e = .returned (.bool (decide (xs=ys)))/\Below w.heap.size w w':=by
 obtain ⟨aa,ac,rfl,hac,_⟩:=ha.shape;obtain ⟨ba,bc,rfl,hbc,_⟩:=hb.shape;have HA:=hid ha;have HB:=hid hb;clear ha hb;by_cases hlen:xs.length=ys.length
 ·obtain ⟨R,hR⟩:∃ R,R=decide (xs=ys):=⟨_,rfl⟩
  rw [<- hR];have HR:=hid hR;clear hR;have HL:=hid hlen;have hq0:((xs.length:Int) != (ys.length:Int))=false:=by simp;omega
  rw [<- hlen] at hq0 ⊢;clear hlen;go_enter Tryz.func33,Tryz.ntmps33
  go_wp2
  go_loopw [5] (fun i wr=>∃ k:Nat,k<=xs.length/\i = .int .i64 k/\Below w.heap.size w wr/\Hid (R=decide (xs.drop k=ys.drop k))) (fun i _=>xs.length - (intOf i).toNat)
  case atStart=>exact ⟨0,Nat.zero_le _,rfl,Below.refl _ _,HR.out⟩
  case round=>
   obtain ⟨k,hk,rfl,hbl,he⟩:=hrel;clear HR;by_cases hlt:k<xs.length
   ·have hlt2:k<ys.length:=by rw [<- HL.out];exact hlt
    have hq:(k:Int)<(xs.length:Int):=by omega
    have hatx:=List.getElem?_eq_getElem hlt;have haty:=List.getElem?_eq_getElem hlt2;have hdx:=drop_get hlt;have hdy:=drop_get hlt2;generalize xs[k]=f at hdx hatx;generalize ys[k]=g at hdy haty;have e1:=hid (he.out.trans (eq_drop hdx hdy));obtain ⟨x,m,t,cs⟩:=f;obtain ⟨y,n,u,ds⟩:=g;obtain ⟨b,o,da,dl,dc,hi,hb,c0,c1,c2,c3,hrd⟩:=(HA.out.below hbl).at_ k x m t cs hatx;obtain ⟨b2,o2,ea,el,ec,hi2,hb2,f0,f1,f2,f3,hrd2⟩:=(HB.out.below hbl).at_ k y n u ds haty;rw [<- HL.out] at hi2;have k0:∀ p:Later wr,p.val.cell? ⟨b,o,none⟩=some (.int .i64 x):=fun p=>below_cell p.h c0
    have k1:∀ p:Later wr,p.val.cell? ⟨b,o+1,none⟩=some (.int .i64 m):=fun p=>below_cell p.h c1
    have k2:∀ p:Later wr,p.val.cell? ⟨b,o+2,none⟩=some (.int .i64 t):=fun p=>below_cell p.h c2
    have k3:∀ p:Later wr,p.val.cell? ⟨b,o+3,none⟩=some (.slice da dl dc):=fun p=>below_cell p.h c3
    have j0:∀ p:Later wr,p.val.cell? ⟨b2,o2,none⟩=some (.int .i64 y):=fun p=>below_cell p.h f0
    have j1:∀ p:Later wr,p.val.cell? ⟨b2,o2+1,none⟩=some (.int .i64 n):=fun p=>below_cell p.h f1
    have j2:∀ p:Later wr,p.val.cell? ⟨b2,o2+2,none⟩=some (.int .i64 u):=fun p=>below_cell p.h f2
    have j3:∀ p:Later wr,p.val.cell? ⟨b2,o2+3,none⟩=some (.slice ea el ec):=fun p=>below_cell p.h f3
    have hE:=fun p:Later wr=>Calls.later (rEqU x m t (.slice da dl dc) cs y n u (.slice ea el ec) ds p.val (hrd.below p.h) (hrd2.below p.h))
    simp only at e1;generalize UM.eqU x m t cs y n u ds=D at hE e1;have HE:=hid hE;clear hatx haty hdx hdy he hrd hrd2 c0 c1 c2 c3 f0 f1 f2 f3 hE hb hb2;cases D
    ·have e2:=hid (e1.out.trans (Bool.false_and _));clear e1;go_wp2
     refine wp_region_later (by kernel_rfl) (by kernel_rfl) ?_;repeat (go_big_quiet_step (first | (go_at_call 81;with_reducible exact HE.out _)))
     refine wpQuiet_nil ?_;rintro _ ⟨p',rfl⟩;have HB2:=hid (bnext hbl p'.h);generalize p'.val=w2 at HB2 ⊢;go_wp2
     go_ret;rw [e2.out];exact ⟨rfl,HB2.out⟩
    ·have e2:=hid (e1.out.trans (Bool.true_and _));clear e1;go_wp2
     refine wp_region_later (by kernel_rfl) (by kernel_rfl) ?_;repeat (go_big_quiet_step (first | (go_at_call 81;with_reducible exact HE.out _)))
     refine wpQuiet_nil ?_;rintro _ ⟨p',rfl⟩;have HB2:=hid (bnext hbl p'.h);generalize p'.val=w2 at HB2 ⊢;clear k0 k1 k2 k3 j0 j1 j2 j3 HE hbl;go_wp2
     go_roundw
     case rel=>exact ⟨k+1,by omega,by go_num,HB2.out,e2⟩
     case measure=>simp [intOf];omega
   ·have hq:¬ ((k:Int)<(xs.length:Int)):=by omega
    have e2:=hid (show R=true by rw [he.out,List.drop_of_length_le (by omega),List.drop_of_length_le (by rw [<- HL.out];omega)];rfl);clear he;go_wp2
    go_ret;rw [e2.out];exact ⟨rfl,hbl⟩
 ·have e2:=hid (show decide (xs=ys)=false from decide_eq_false fun h=>hlen (by rw [h]));have hq0:((xs.length:Int) != (ys.length:Int))=true:=by simp;omega
  clear hlen HA HB;go_enter Tryz.func33,Tryz.ntmps33
  go_wp2
  go_ret;rw [e2.out];exact ⟨rfl,Below.refl _ _⟩
theorem gEqualFunc (va vb:Value) (xs ys:List Fp) (w:World) (ha:RdF w va xs) (hb:RdF w vb ys) :
  Calls Tryz.prog 77 #[va,vb,.func (.func 78) #[] #[]] w fun e w'=>e = .returned (.bool (decide (xs=ys)))/\Below w.heap.size w w':=by
 obtain ⟨aa,ac,rfl,hac,_⟩:=ha.shape;obtain ⟨ba,bc,rfl,hbc,_⟩:=hb.shape;have HA:=hid ha;have HB:=hid hb;clear ha hb;by_cases hlen:xs.length=ys.length
 ·obtain ⟨R,hR⟩:∃ R,R=decide (xs=ys):=⟨_,rfl⟩
  rw [<- hR];have HR:=hid hR;clear hR;have HL:=hid hlen;have hq0:((xs.length:Int) != (ys.length:Int))=false:=by simp;omega
  rw [<- hlen] at hq0 ⊢;clear hlen;go_enter Tryz.func77,Tryz.ntmps77
  go_wp2
  go_loopw [17] (fun i wr=>∃ k:Nat,k<=xs.length/\i = .int .i64 k/\Below w.heap.size w wr/\Hid (R=decide (xs.drop k=ys.drop k))) (fun i _=>xs.length - (intOf i).toNat)
  case atStart=>exact ⟨0,Nat.zero_le _,rfl,Below.refl _ _,HR.out⟩
  case round=>
   obtain ⟨k,hk,rfl,hbl,he⟩:=hrel;clear HR;by_cases hlt:k<xs.length
   ·have hlt2:k<ys.length:=by rw [<- HL.out];exact hlt
    have hq:(k:Int)<(xs.length:Int):=by omega
    have hatx:=List.getElem?_eq_getElem hlt;have haty:=List.getElem?_eq_getElem hlt2;have hdx:=drop_get hlt;have hdy:=drop_get hlt2;generalize xs[k]=f at hdx hatx;generalize ys[k]=g at hdy haty;have e1:=hid (he.out.trans (eq_drop hdx hdy));obtain ⟨x,m,t,cs⟩:=f;obtain ⟨y,n,u,ds⟩:=g;obtain ⟨b,o,da,dl,dc,hi,hb,c0,c1,c2,c3,hrd⟩:=(HA.out.below hbl).at_ k x m t cs hatx;have hbx:=below_fresh wr (.cells #[.int .i64 x,.int .i64 m,.int .i64 t,.slice da dl dc] 96);have hpx:=UBox.fresh wr x m t (.slice da dl dc);obtain ⟨wx,hwx⟩:∃ wx,wr.alloc (.cells #[.int .i64 x,.int .i64 m,.int .i64 t,.slice da dl dc] 96)=wx:=⟨_,rfl⟩
    rw [hwx] at hbx hpx;have hsx:wx.heap.size=wr.heap.size+1:=by rw [<- hwx];exact World.size_alloc _ _
    obtain ⟨b2,o2,ea,el,ec,hi2,hb2,f0,f1,f2,f3,hrd2⟩:=(HB.out.below hbl).at_ k y n u ds haty;rw [<- HL.out] at hi2;have hby:=below_fresh wx (.cells #[.int .i64 y,.int .i64 n,.int .i64 u,.slice ea el ec] 96);have hpy:=UBox.fresh wx y n u (.slice ea el ec);rw [hsx] at hpy;obtain ⟨wy,hwy⟩:∃ wy,wx.alloc (.cells #[.int .i64 y,.int .i64 n,.int .i64 u,.slice ea el ec] 96)=wy:=⟨_,rfl⟩
    rw [hwy] at hby hpy;have hE:=uEqual x m t (.slice da dl dc) cs y n u (.slice ea el ec) ds wy ((hrd.below hbx).below hby) ((hrd2.below hbx).below hby);have hpx2:=hpx.below hby;have HBY:=hid (bnext (bnext hbl hbx) hby);have HWX:=hid hwx;have HWY:=hid hwy;simp only at e1;generalize UM.eqU x m t cs y n u ds=D at hE e1;have HE:=hid hE;obtain ⟨p0,p1,p2,p3⟩:=hpx2;obtain ⟨q0,q1,q2,q3⟩:=hpy;clear hatx haty hdx hdy he hrd hrd2 hE hbx hpx hby hwx hwy hsx;cases D
    ·have e2:=hid (e1.out.trans (Bool.false_and _));clear e1;go_wp2_with fail
     rw [HWX.out,HWY.out];refine HE.out.mono ?_;rintro e w2 ⟨rfl,hb2⟩;go_wp2
     go_ret;rw [e2.out];exact ⟨rfl,bnext HBY.out hb2⟩
    ·have e2:=hid (e1.out.trans (Bool.true_and _));clear e1;go_wp2_with fail
     rw [HWX.out,HWY.out];refine HE.out.mono ?_;rintro e w2 ⟨rfl,hb2⟩;have HB2:=hid (bnext HBY.out hb2);clear p0 p1 p2 p3 q0 q1 q2 q3 c0 c1 c2 c3 f0 f1 f2 f3 hi hi2 HE HBY HWX HWY hbl hb2;go_wp2
     go_roundw
     case rel=>exact ⟨k+1,by omega,by go_num,HB2.out,e2⟩
     case measure=>simp [intOf];omega
   ·have hq:¬ ((k:Int)<(xs.length:Int)):=by omega
    have e2:=hid (show R=true by rw [he.out,List.drop_of_length_le (by omega),List.drop_of_length_le (by rw [<- HL.out];omega)];rfl);clear he;go_wp2
    go_ret;rw [e2.out];exact ⟨rfl,hbl⟩
 ·have e2:=hid (show decide (xs=ys)=false from decide_eq_false fun h=>hlen (by rw [h]));have hq0:((xs.length:Int) != (ys.length:Int))=true:=by simp;omega
  clear hlen HA HB;go_enter Tryz.func77,Tryz.ntmps77
  go_wp2
  go_ret;rw [e2.out];exact ⟨rfl,Below.refl _ _⟩
end Go.Proofs.YtahcehbgfhdbjaaGreatDoor.ST
namespace Go.Proofs.YtahcehbgfhdbjaaGreatDoor.ST
open Go.RowKit Go.Joins
open UM (Ef)
open SM (Fp)
open VM (Ent)
end Go.Proofs.YtahcehbgfhdbjaaGreatDoor.ST
namespace Go.Proofs.YtahcehbgfhdbjaaGreatDoor.ST
open Go.RowKit Go.Joins
open UM (Ef)
open SM (Fp)
def AtF (fs:List Fp) (x m:Int) (i:Nat):Prop:=i<=fs.length/\(∀ k f,fs[k]? = some f->k<i->UM.cmpU f.1 f.2.1 x m<0)/\(∀ k f,fs[k]? = some f->i<=k->0<=UM.cmpU f.1 f.2.1 x m)
def fndF (fs:List Fp) (x m:Int) (i:Nat):Bool:=match fs[i]? with | some f=>decide (UM.cmpU f.1 f.2.1 x m=0) | none=>false
end Go.Proofs.YtahcehbgfhdbjaaGreatDoor.ST
namespace Go.Proofs.YtahcehbgfhdbjaaGreatDoor.SM
open UM (Ef)
end Go.Proofs.YtahcehbgfhdbjaaGreatDoor.SM
namespace Go.Proofs.YtahcehbgfhdbjaaGreatDoor.SM
open UM (Ef)
end Go.Proofs.YtahcehbgfhdbjaaGreatDoor.SM
namespace Go.Proofs.YtahcehbgfhdbjaaGreatDoor.ST
open Go.RowKit Go.Joins
open UM (Ef)
open SM (Fp)
end Go.Proofs.YtahcehbgfhdbjaaGreatDoor.ST
namespace Go.Proofs.YtahcehbgfhdbjaaGreatDoor
open Go.RowKit
open UM (Ef)
theorem cVal (c q t:Int) (v:Value) (es:List Ef) (w:World) (hT:Tb w) (h:RdEf w v es) (hfe:∀ e∈es,NmFit e) :
  Calls Tryz.prog 147 #[uv c q t v] w fun e w'=>e = .returned (.int .i64 (UM.errU c q t es))/\Below w.heap.size w w':=by
 obtain ⟨ad,cp,rfl,hcp,_⟩:=h.shape;obtain ⟨R,hR⟩:∃ R,R=UM.errU c q t es:=⟨_,rfl⟩
 rw [<- hR];unfold UM.errU at hR;have HX:=hid h;have HCL:=hid (fun wx=>cIsClient c wx);have HCO:=hid (fun wx (hb:Below w.heap.size w wx)=>cCommutes c q t _ es wx (h.below hb));obtain ⟨C,hC⟩:∃ C,C=UM.isCl c:=⟨_,rfl⟩
 rw [<- hC] at hR HCL;obtain ⟨M,hM⟩:∃ M,M=UM.com es:=⟨_,rfl⟩
 rw [<- hM] at hR HCO;have hx:=heap_alloc_new w (.cells #[.int .i64 c,.int .i64 q,.int .i64 t,.slice ad es.length cp] 96);have hb:=below_fresh w (.cells #[.int .i64 c,.int .i64 q,.int .i64 t,.slice ad es.length cp] 96);obtain ⟨w1,hw1⟩:∃ z,w.alloc (.cells #[.int .i64 c,.int .i64 q,.int .i64 t,.slice ad es.length cp] 96)=z:=⟨_,rfl⟩
 rw [hw1] at hx hb;have HW:=hid hw1;have HB:=hid hb;have HU:=hid hx;have hlen:es.length<=9223372036854775807:=by omega
 have HT:=hid hT;have HFE:=hid hfe;clear hw1 hb hx hC hM h hT hfe;go_enter Tryz.func147,Tryz.ntmps147
 go_upto_region 1 with fail
 rw [HW.out];clear HW;obtain ⟨c0,c1,c2,c3⟩:=ubox HU.out;by_cases hr:C=false∨q<1∨8<q∨t<0∨1000<t
 ·have HR1:=hid (hR.trans (if_pos hr));clear hR HCO HX HU;cases C with
  | false=>
   clear hr;go_wp2_with fail
   refine (HCL.out w1).mono ?_;rintro e w2 ⟨rfl,rfl⟩;go_wp2
   go_ret;exact ⟨by rw [HR1.out];rfl,HB.out⟩
  | true=>
   have hr2:q<1∨8<q∨t<0∨1000<t:=by
    rcases hr with h | h
    ·cases h
    ·exact h
   clear hr;go_wp2_with fail
   refine (HCL.out w1).mono ?_;rintro e w2 ⟨rfl,rfl⟩;clear HCL;by_cases g1:q<1
   ·go_wp2
    go_ret;exact ⟨by rw [HR1.out];rfl,HB.out⟩
   by_cases g2:8<q
   ·go_wp2
    go_ret;exact ⟨by rw [HR1.out];rfl,HB.out⟩
   by_cases g3:t<0
   ·go_wp2
    go_ret;exact ⟨by rw [HR1.out];rfl,HB.out⟩
   have g4:1000<t:=by omega
   go_wp2
   go_ret;exact ⟨by rw [HR1.out];rfl,HB.out⟩
 rw [if_neg hr] at hR;have hCt:C=true:=by cases C with | true=>rfl | false=>exact absurd (Or.inl rfl) hr
 subst hCt;have g1:¬ q<1:=fun h=>hr (by simp [h])
 have g2:¬ 8<q:=fun h=>hr (by simp [h])
 have g3:¬ t<0:=fun h=>hr (by simp [h])
 have g4:¬ 1000<t:=fun h=>hr (by simp [h])
 clear hr;have HR:=hid hR;clear hR;go_wp2_with fail
 refine (HCL.out w1).mono ?_;rintro e w2 ⟨rfl,rfl⟩;clear HCL;have HB0:=HB;by_cases h0:es = []
 ·have HR1:=hid (HR.out.trans (if_pos h0));have hz:((es.length:Int)==0)=true:=by rw [h0];rfl
  clear HR HX HU HCO h0;go_wp2
  go_ret;exact ⟨by rw [HR1.out];rfl,HB.out⟩
 have hR:=HR.out;rw [if_neg h0] at hR;have hz:((es.length:Int)==0)=false:=beq_f (by have:=List.length_pos_iff.2 h0;omega);clear HR;by_cases h4:4<es.length
 ·have HR1:=hid (hR.trans (if_pos h4));have h4':(4:Int)<(es.length:Int):=by omega
  clear hR HX HU HCO h0 h4;go_wp2
  go_ret;exact ⟨by rw [HR1.out];rfl,HB.out⟩
 rw [if_neg h4] at hR;have h4':¬ (4:Int)<(es.length:Int):=by omega
 have HR:=hid hR;clear hR h0;go_wp2
 clear hz h4' c0 c1 c2 c3 g1 g2 g3 g4;go_loopw [45] (fun i wr=>∃ k:Nat,k<=es.length/\i = .int .i64 k/\Hid (UM.errL es=UM.errL (es.drop k))/\Hid (Below w2.heap.size w2 wr)) (fun i _=>es.length - (intOf i).toNat)
 case atStart=>exact ⟨0,Nat.zero_le _,rfl,hid rfl,hid (Below.refl _ _)⟩
 case round=>
  obtain ⟨k,hk,rfl,hc,hbw⟩:=hrel;obtain ⟨c0,c1,c2,c3⟩:=ubox (below_block HU.out hbw.out);have HBW:=hid (bnext HB.out hbw.out);by_cases hlt:k<es.length
  ·have hq:(k:Int)<(es.length:Int):=by omega
   have hat:=List.getElem?_eq_getElem hlt;have hdx:=drop_get hlt;generalize es[k]=e at hat hdx;have HDX:=hid (show UM.errL es=if UM.errE e≠0 then UM.errE e else UM.errL (es.drop (k+1)) by rw [hc.out,hdx];rfl);obtain ⟨k',o',f',n',s'⟩:=e;obtain ⟨b,p,hi,hbb,d0,d1,d2,d3,d4⟩:=atEf (HX.out.below HBW.out) k _ _ _ _ _ hat
   have hfit:=HFE.out _ (List.mem_of_getElem? hat);have bx:=below_fresh wr (.cells #[.int .i64 k',.string o',.string f',.int .i64 n',.string s'] 138);have HBX:=hid bx;have HV:=hid (cValEff k' o' f' n' s' (wr.alloc (.cells #[.int .i64 k',.string o',.string f',.int .i64 n',.string s'] 138)) hfit ((HT.out.below HBW.out).below bx));obtain ⟨y0,y1,y2,y3,y4,_⟩:=(OE.fresh wr (.int .i64 k') (.string o') (.string f') (.int .i64 n') (.string s')).cells;generalize UM.errE (k',o',f',n',s')=ec at HV HDX;clear hat hdx hc hfit bx;by_cases hec0:ec=0
   ·subst hec0;have HD2:=hid (HDX.out.trans (if_neg (fun h=>h rfl)));clear HDX;go_wp2_with fail
    refine HV.out.mono ?_;rintro e w3 ⟨rfl,hb1⟩;have HB1:=hid (bnext (bnext hbw.out HBX.out) hb1);clear hb1 HV d0 d1 d2 d3 d4 hi hbb hbw c0 c1 c2 c3 y0 y1 y2 y3 y4 HBX;go_wp2
    go_roundw
    case rel=>exact ⟨k+1,by omega,by go_num,HD2,HB1⟩
    case measure=>simp [intOf];omega
   ·have HD2:=hid (HDX.out.trans (if_pos hec0));have HR1:=hid (show R=ec by rw [HR.out,if_pos (by rw [HD2.out];exact hec0),HD2.out]);have hne:(ec != 0)=true:=bne_t hec0;clear HDX HD2 hec0 HR HCO;go_wp2_with fail
    refine HV.out.mono ?_;rintro e w3 ⟨rfl,hb1⟩;have HB1:=hid (bnext (bnext HBW.out HBX.out) hb1);clear hb1 HV d0 d1 d2 d3 d4 hi hbb hbw c0 c1 c2 c3 HBW y0 y1 y2 y3 y4 HBX;go_wp2
    go_ret;exact ⟨by rw [HR1.out];rfl,HB1.out⟩
  have hq:¬ ((k:Int)<(es.length:Int)):=by omega
  have hR:=HR.out;rw [if_neg (by rw [hc.out,List.drop_of_length_le (by omega)];simp [UM.errL])] at hR;have HC1:=hid (HCO.out wr HBW.out);have HC2:=hid (fun wx (hb:Below wr.heap.size wr wx)=>HCO.out wx (bnext HBW.out hb));have HUW:=hid (fun wx (hb:Below wr.heap.size wr wx)=>ubox (below_block (below_block HU.out hbw.out) hb));clear HR HCO HU HX hc hbw;obtain ⟨c0,c1,c2,c3⟩:=HUW.out wr (Below.refl _ _);cases M with
  | false=>
   by_cases h1:1<es.length
   ·have HR1:=hid (hR.trans (if_pos (Or.inl ⟨rfl,h1⟩)));have h1':(1:Int)<(es.length:Int):=by omega
    clear hR HC2 h1;go_wp2_with fail
    refine HC1.out.mono ?_;rintro e w3 ⟨rfl,hb1⟩;have HB1:=hid (bnext HBW.out hb1);obtain ⟨d0,d1,d2,d3⟩:=HUW.out w3 hb1;clear hb1 c0 c1 c2 c3 HC1 HUW;go_wp2
    go_ret;exact ⟨by rw [HR1.out];rfl,HB1.out⟩
   ·have HR1:=hid (hR.trans (if_neg (by rintro (⟨_,h⟩ | ⟨h,_⟩);exact h1 h;cases h)));have h1':¬ (1:Int)<(es.length:Int):=by omega
    clear hR HC2 h1;go_wp2_with fail
    refine HC1.out.mono ?_;rintro e w3 ⟨rfl,hb1⟩;have HB1:=hid (bnext HBW.out hb1);obtain ⟨d0,d1,d2,d3⟩:=HUW.out w3 hb1;clear hb1 c0 c1 c2 c3 HC1 HUW;go_wp2
    go_ret;exact ⟨by rw [HR1.out];rfl,HB1.out⟩
  | true=>
   by_cases h1:t=0
   ·have HR1:=hid (hR.trans (if_neg (by rintro (⟨h,_⟩ | ⟨_,h⟩);cases h;exact h h1)));have h1':(t != 0)=false:=by simp [h1]
    clear hR HC2 h1;go_wp2_with fail
    refine HC1.out.mono ?_;rintro e w3 ⟨rfl,hb1⟩;have HB1:=hid (bnext HBW.out hb1);obtain ⟨d0,d1,d2,d3⟩:=HUW.out w3 hb1;clear hb1 c0 c1 c2 c3 HC1 HUW;go_wp2
    go_ret;exact ⟨by rw [HR1.out];rfl,HB1.out⟩
   ·have HR1:=hid (hR.trans (if_pos (Or.inr ⟨rfl,h1⟩)));have h1':(t != 0)=true:=bne_t h1;clear hR HC2 h1;go_wp2_with fail
    refine HC1.out.mono ?_;rintro e w3 ⟨rfl,hb1⟩;have HB1:=hid (bnext HBW.out hb1);obtain ⟨d0,d1,d2,d3⟩:=HUW.out w3 hb1;clear hb1 c0 c1 c2 c3 HC1 HUW;go_wp2
    go_ret;exact ⟨by rw [HR1.out];rfl,HB1.out⟩
end Go.Proofs.YtahcehbgfhdbjaaGreatDoor

