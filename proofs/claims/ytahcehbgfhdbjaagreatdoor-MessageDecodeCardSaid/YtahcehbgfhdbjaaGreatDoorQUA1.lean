/-
  HMath HBase HRef HDec HVal HKit HCon: joined texts, what nothing names left out.
-/
import Derived.Test.YtahcehbgfhdbjaaGreatDoorQUKK
import Derived.Test.YtahcehbgfhdbjaaGreatDoorQUKJ
import Derived.Deep.RegionLaw
import Derived.Laws.AppendOwn
set_option maxHeartbeats 4000000
set_option maxRecDepth 100000
open Go.Lib (hid)
namespace Go.Proofs.YtahcehbgfhdbjaaGreatDoor
section
open JM (Chg)
open CM (Fp)
namespace CM
def incl (a b:List Fp):Bool:=b.all fun f=>a.any fun g=>eqP g.1 g.2.1 g.2.2 f.1 f.2.1 f.2.2
theorem eqP_iff {f g:Fp}:eqP g.1 g.2.1 g.2.2 f.1 f.2.1 f.2.2=true ↔ g=f:=by
 obtain ⟨x,m,cs⟩:=f;obtain ⟨y,n,ds⟩:=g;unfold eqP;rw [decide_eq_true_iff];simp
theorem incl_cons (a b:List Fp):incl a b=cons a b:=by
 rw [Bool.eq_iff_iff,cons_iff];unfold incl;rw [List.all_eq_true];constructor
 ·intro h f hf;obtain ⟨g,hg,he⟩:=List.any_eq_true.1 (h f hf);rw [<- eqP_iff.1 he];exact hg
 ·intro h f hf;exact List.any_eq_true.2 ⟨f,h f hf,eqP_iff.2 rfl⟩
def errC (f t:List Fp):Int:=if errL (0,0) f≠0 then errL (0,0) f else if errL (0,0) t≠0 then errL (0,0) t else if cons t f=true then 0 else 2
theorem errC_ok {f t:List Fp} (h:errC f t=0):Ok f/\Ok t/\cons t f=true:=by
 unfold errC at h;split at h
 ·rename_i h1;exact absurd h h1
 ·rename_i h1
  split at h
  ·rename_i h2;exact absurd h h2
  ·rename_i h2
   split at h
   ·rename_i h3;exact ⟨by unfold Ok;omega,by unfold Ok;omega,h3⟩
   ·omega
def newr (a b:List Fp):Bool:=conk a b && !conk b a
structure Gd (f t f' t':List Fp):Prop where
 e1:errC f t=0
 e2:errC f' t'=0
 a1:Agr f f'
 a2:Agr f t'
 a3:Agr t f'
 a4:Agr t t'
def latF (fa ta fb tb:List Fp):List Fp:=if newr tb ta=true then fb else fa
def latT (ta tb:List Fp):List Fp:=if newr tb ta=true then tb else ta
def strt (fc tc te:List Fp):List Fp:=if (conk tc te && conk te fc)=true then te else fc
theorem rest_used {xs:List Int} (hb:WM.Bytes xs):∀ (n:Nat) (U:List Fp) (u:Nat),u<=xs.length->(rest xs n U u).2.1<=xs.length:=by
 intro n;induction n with
 | zero=>intro U u h;exact h
 | succ n ih=>
  intro U u h;rw [rest_succ];split
  ·exact Nat.zero_le _
  ·have:=JM.decP_used (xs.drop u) (fun c hc=>hb c (List.mem_of_mem_drop hc));rw [List.length_drop] at this;exact ih _ _ (by omega)
theorem decL_used {xs:List Int} (hb:WM.Bytes xs):(decL xs).2.1<=xs.length:=by
 rcases dec_num hb with ⟨e,he,hd⟩ | ⟨N,hN,hd,hl⟩
 ·unfold decL;rw [hd,if_pos (by exact he)];exact Nat.zero_le _
 ·unfold decL;rw [hd,if_neg (by simp)];split
  ·exact Nat.zero_le _
  ·unfold finL;split
   ·exact Nat.zero_le _
   ·split
    ·exact Nat.zero_le _
    ·exact rest_used hb _ _ _ (by simpa using hl)
def encC2 (f t:List Fp):List Int:=encL f++encL t
def decC (xs:List Int):Int×Nat×List Fp×List Fp:=
 if (decL xs).1≠0 then ((decL xs).1,0,[],[])
 else if (decL (xs.drop (decL xs).2.1)).1≠0 then ((decL (xs.drop (decL xs).2.1)).1,0,[],[])
 else if errC (decL xs).2.2 (decL (xs.drop (decL xs).2.1)).2.2≠0 then (errC (decL xs).2.2 (decL (xs.drop (decL xs).2.1)).2.2,0,[],[])
 else (0,(decL xs).2.1+(decL (xs.drop (decL xs).2.1)).2.1,(decL xs).2.2,(decL (xs.drop (decL xs).2.1)).2.2)
theorem decC_enc {f t:List Fp} (h:errC f t=0) (tail:List Int):decC (encC2 f t++tail)=(0,(encC2 f t).length,f,t):=by
 obtain ⟨hf,ht,hc⟩:=errC_ok h;have e1:decL (encC2 f t++tail)=(0,(encL f).length,f):=by rw [show encC2 f t++tail=encL f++(encL t++tail) by unfold encC2;rw [List.append_assoc]];exact decL_enc hf _
 have e2:(encC2 f t++tail).drop (encL f).length=encL t++tail:=by unfold encC2;rw [List.append_assoc,List.drop_left]
 have e3:=decL_enc ht tail;unfold decC;simp only [e1,e2,e3];rw [if_neg (by simp),if_neg (by simp),if_neg (by simp [h])];unfold encC2;rw [List.length_append]
end CM
end
section
open Go.RowKit
open JM (Chg)
open CM (Fp)
abbrev SV:=Option Addr×Nat×Nat
def svV (s:SV):Value:=.slice s.1 s.2.1 s.2.2
def encL {β:Type} (p:SV×β):List Value:=[svV p.1]
def RdLs {β:Type} (R:World->Value->β->Prop) (w:World) (v:Value) (ls:List β):Prop:=∃ ps:List (SV×β),RdG encL 1 w v ps/\(∀ p∈ps,R w (svV p.1) p.2)/\ps.map (·.2)=ls
def OwnLs {β:Type} (R:World->Value->β->Prop) (e:TypeId) (base:Nat) (w:World) (v:Value) (ls:List β):Prop:=∃ ps:List (SV×β),OwnG encL e 1 base w v ps/\(∀ p∈ps,R w (svV p.1) p.2)/\ps.map (·.2)=ls
section
variable {β:Type} {R S:World->Value->β->Prop} {e:TypeId} {base:Nat} {w w':World} {v:Value} {ls:List β}
end
abbrev cev (a b:Value):Value:=.agg #[a,b]
def XB (w:World) (g:Nat) (a b:Value):Prop:=w.heap[g]? = some (.cells #[a,b] 27 (0,0))
theorem XB.cells {w:World} {g:Nat} {a b:Value} (h:XB w g a b):w.cell? ⟨g,0,none⟩=some a/\w.cell? ⟨g,1,none⟩=some b/\w.frozen? ⟨g,0,none⟩=false/\w.frozen? ⟨g,1,none⟩=false:=by
 unfold XB at h;refine ⟨?_,?_,?_,?_⟩ <;> simp [World.cell?,World.frozen?,h]
theorem XB.fresh (w:World) (a b:Value):XB (w.alloc (.cells #[a,b] 27)) w.heap.size a b:=heap_alloc_new w _
theorem XB.below {w w':World} {g:Nat} {a b:Value} (h:XB w g a b) (hb:Below w.heap.size w w'):XB w' g a b:=below_block h hb
theorem XB.put {w:World} {g:Nat} {a b:Value} (h:XB w g a b) (a' b':Value):XB ((w.setCell ⟨g,0,none⟩ a').setCell ⟨g,1,none⟩ b') g a' b':=by
 have h1:(w.setCell ⟨g,0,none⟩ a').heap[g]? = some (.cells #[a',b] 27 (0,0)):=heap_setCell_same w g 0 _ _ _ h;exact heap_setCell_same _ g 1 _ _ _ h1
theorem only2 {w:World} {g:Nat} (a b:Value):Only g w ((w.setCell ⟨g,0,none⟩ a).setCell ⟨g,1,none⟩ b):=(Only.set 0 a).trans (Only.set 1 b)
end
section
open Go.RowKit
open JM (Chg)
open CM (Fp)
theorem rIncludes (va vb:Value) (xs ys:List Fp) (w:World) (ha:RdF w va xs) (hb:RdF w vb ys) :
  Calls Tryz.prog 73 #[va,vb] w fun e w'=>e = .returned (.bool (CM.incl xs ys))/\Below w.heap.size w w':=by
 obtain ⟨aa,ac,rfl,hac,_⟩:=ha.shape;obtain ⟨ba,bc,rfl,hbc,_⟩:=hb.shape;obtain ⟨R,hR⟩:∃ R,R=CM.incl xs ys:=⟨_,rfl⟩
 rw [<- hR];have HA:=hid ha;have HB:=hid hb;have HR:=hid hR;clear ha hb hR;go_enter Tryz.func73,Tryz.ntmps73
 go_wp2
 go_loopw [5] (fun i wr=>∃ k:Nat,k<=ys.length/\i = .int .i64 k/\Hid (Below w.heap.size w wr)/\Hid (R=CM.incl xs (ys.drop k))) (fun i _=>ys.length - (intOf i).toNat)
 case atStart=>exact ⟨0,Nat.zero_le _,rfl,Below.refl _ _,HR.out⟩
 case round=>
  obtain ⟨k,hk,rfl,hbl,he⟩:=hrel;clear HR;by_cases hlt:k<ys.length
  ·have hq:(k:Int)<(ys.length:Int):=by omega
   have hd:=drop_get hlt;have hk2:=List.getElem?_eq_getElem hlt;generalize ys[k]=f at hd hk2;obtain ⟨x,m,cs⟩:=f;have e1:Hid (R=((xs.any fun g=>eqP g.1 g.2.1 g.2.2 x m cs) && CM.incl xs (ys.drop (k+1)))):=by show R=_;rw [he.out,hd];rfl
   obtain ⟨b,o,da,dl,dc,hi,hbw,c0,c1,c2,hrd⟩:=HB.out.at_ k x m cs hk2;have HRD:=hid hrd;have C0:=hid c0;have C1:=hid c1;have C2:=hid c2;clear hd hk2 he c0 c1 c2 hrd;go_wp2
   obtain ⟨wo,hwo⟩:∃ wo,wo=wr:=⟨_,rfl⟩
   rw [<- hwo] at hbl ⊢;clear hwo;go_loopw [6,7] (fun f i wr=>∃ (j:Nat) (D:Bool),j<=xs.length/\f = .bool D/\i = .int .i64 j/\Hid (Below w.heap.size w wr)/\Hid (R=((D || (xs.drop j).any fun g=>eqP g.1 g.2.1 g.2.2 x m cs) && CM.incl xs (ys.drop (k+1))))) (fun _ i _=>xs.length - (intOf i).toNat)
   case atStart=>exact ⟨0,false,Nat.zero_le _,rfl,rfl,hbl.out,e1.out⟩
   case round=>
    clear hbl e1;obtain ⟨j,D,hj,rfl,rfl,hbl,he⟩:=hrel;by_cases hlt2:j<xs.length
    ·have hq2:(j:Int)<(xs.length:Int):=by omega
     have hd:=drop_get hlt2;have hk2:=List.getElem?_eq_getElem hlt2;generalize xs[j]=g at hd hk2;obtain ⟨y,n,ds⟩:=g;have e1:Hid (R=(((D || eqP y n ds x m cs) || (xs.drop (j+1)).any fun g=>eqP g.1 g.2.1 g.2.2 x m cs) && CM.incl xs (ys.drop (k+1)))):=by
      show R=_
      rw [he.out,hd,List.any_cons,Bool.or_assoc]
     obtain ⟨b2,o2,ea,el,ec,hi2,hbw2,f0,f1,f2,hrd2⟩:=HA.out.at_ j y n ds hk2;have HE:=hid (fun p:Later wr=>Calls.later (rEqual y n (.slice ea el ec) ds x m (.slice da dl dc) cs p.val ((hrd2.below hbl.out).below p.h) ((HRD.out.below hbl.out).below p.h)));have k0:∀ p:Later wr,p.val.cell? ⟨b,o,none⟩=some (.int .i64 x):=fun p=>below_cell p.h (below_cell hbl.out C0.out)
     have k1:∀ p:Later wr,p.val.cell? ⟨b,o+1,none⟩=some (.int .i64 m):=fun p=>below_cell p.h (below_cell hbl.out C1.out)
     have k2:∀ p:Later wr,p.val.cell? ⟨b,o+2,none⟩=some (.slice da dl dc):=fun p=>below_cell p.h (below_cell hbl.out C2.out)
     have j0:∀ p:Later wr,p.val.cell? ⟨b2,o2,none⟩=some (.int .i64 y):=fun p=>below_cell p.h (below_cell hbl.out f0)
     have j1:∀ p:Later wr,p.val.cell? ⟨b2,o2+1,none⟩=some (.int .i64 n):=fun p=>below_cell p.h (below_cell hbl.out f1)
     have j2:∀ p:Later wr,p.val.cell? ⟨b2,o2+2,none⟩=some (.slice ea el ec):=fun p=>below_cell p.h (below_cell hbl.out f2)
     generalize eqP y n ds x m cs=Q at HE e1;have HBL:=hid hbl.out;clear f0 f1 f2 hrd2 hk2 hd he hbl;cases D
     ·go_wp2
      refine wp_region_later (by kernel_rfl) (by kernel_rfl) ?_;repeat (go_big_quiet_step (first | (go_at_call 80;with_reducible exact HE.out _)))
      refine wpQuiet_nil ?_;rintro _ ⟨p',rfl⟩;have HB2:=hid (bnext HBL.out p'.h);generalize p'.val=w2 at HB2 ⊢;clear k0 k1 k2 j0 j1 j2 HE HBL;go_wp2
      go_roundw
      case rel=>exact ⟨j+1,Q,by omega,rfl,by go_num,HB2,by show _=_;rw [e1.out];rfl⟩
      case measure=>simp [intOf];omega
     ·go_wp2
      refine wp_region_later (by kernel_rfl) (by kernel_rfl) ?_;repeat (go_big_quiet_step (fail))
      refine wpQuiet_nil ?_;rintro _ ⟨p',rfl⟩;have HB2:=hid (bnext HBL.out p'.h);generalize p'.val=w2 at HB2 ⊢;clear k0 k1 k2 j0 j1 j2 HE HBL;go_wp2
      go_roundw
      case rel=>exact ⟨j+1,true,by omega,rfl,by go_num,HB2,by show _=_;rw [e1.out];rfl⟩
      case measure=>simp [intOf];omega
    ·have hq2:¬ ((j:Int)<(xs.length:Int)):=by omega
     have e2:=hid (show R=(D && CM.incl xs (ys.drop (k+1))) by rw [he.out,List.drop_of_length_le (by omega),List.any_nil,Bool.or_false]);clear he HRD C0 C1 C2 hi hbw;cases D
     ·have e3:=hid (e2.out.trans (Bool.false_and _));clear e2;go_wp2
      go_ret;rw [e3.out];exact ⟨rfl,hbl.out⟩
     ·have e3:=hid (e2.out.trans (Bool.true_and _));clear e2;go_wp2
      go_roundw
      case rel=>exact ⟨k+1,by omega,by go_num,hbl,e3⟩
      case measure=>simp [intOf];omega
  ·have hq:¬ ((k:Int)<(ys.length:Int)):=by omega
   have e2:=hid (show R=true by rw [he.out,List.drop_of_length_le (by omega)];rfl);clear he;go_wp2
   go_ret;rw [e2.out];exact ⟨rfl,hbl.out⟩
theorem rValidateCert (a b:Value) (f t:List Fp) (w:World) (ha:RdF w a f) (hb:RdF w b t) :
  Calls Tryz.prog 26 #[cev a b] w fun e w'=>e = .returned (.int .i64 (CM.errC f t))/\Below w.heap.size w w':=by
 obtain ⟨R,hR⟩:∃ R,R=CM.errC f t:=⟨_,rfl⟩
 rw [<- hR];unfold CM.errC at hR;rw [<- CM.incl_cons] at hR;obtain ⟨aa,ac,rfl,hac,_⟩:=ha.shape;obtain ⟨ba,bc,rfl,hbc,_⟩:=hb.shape;have hb0:=below_fresh w (.cells #[.slice aa f.length ac,.slice ba t.length bc] 27);have hX0:=XB.fresh w (.slice aa f.length ac) (.slice ba t.length bc);obtain ⟨w0,hw0⟩:∃ w0,w.alloc (.cells #[.slice aa f.length ac,.slice ba t.length bc] 27)=w0:=⟨_,rfl⟩
 rw [hw0] at hb0 hX0;have HX:=hid hX0;have HB0:=hid hb0;have HF:=hid (fun w' (h:Below w0.heap.size w0 w')=>rValidateC _ f w' ((ha.below hb0).below h));have HT:=hid (fun w' (h:Below w0.heap.size w0 w')=>rValidateC _ t w' ((hb.below hb0).below h));have HI:=hid (fun w' (h:Below w0.heap.size w0 w')=>rIncludes _ _ t f w' ((hb.below hb0).below h) ((ha.below hb0).below h));have HW:=hid hw0;generalize CM.errL (0,0) f=E1 at HF hR;generalize CM.errL (0,0) t=E2 at HT hR;generalize CM.incl t f=I at HI hR;obtain ⟨c0,c1,_⟩:=hX0.cells;have HR:=hid hR;clear hR ha hb hb0 hX0 hw0;by_cases h1:E1=0
 case neg=>
  have e:=hid (show R=E1 by rw [HR.out,if_pos h1]);have hne:(E1 != 0)=true:=bne_t h1;clear HR h1;go_enter Tryz.func26,Tryz.ntmps26
  go_upto_region 1 with fail
  rw [HW.out];go_wp2_with fail
  refine (HF.out w0 (Below.refl _ _)).mono ?_;rintro e w1 ⟨rfl,hb1⟩;have d0:=below_cell hb1 c0;have d1:=below_cell hb1 c1;have HF1:=hid (HF.out w1 hb1);have HB1:=hid (bnext HB0.out hb1);clear HF hb1 c0 c1;go_wp2_with fail
  refine HF1.out.mono ?_;rintro e w2 ⟨rfl,hb2⟩;have HB2:=hid (bnext HB1.out hb2);go_wp2
  go_ret;rw [e.out];exact ⟨rfl,HB2.out⟩
 subst h1;by_cases h2:E2=0
 case neg=>
  have e:=hid (show R=E2 by rw [HR.out,if_neg (by simp),if_pos h2]);have hne:(E2 != 0)=true:=bne_t h2;clear HR h2;go_enter Tryz.func26,Tryz.ntmps26
  go_upto_region 1 with fail
  rw [HW.out];go_wp2_with fail
  refine (HF.out w0 (Below.refl _ _)).mono ?_;rintro e w1 ⟨rfl,hb1⟩;have d0:=below_cell hb1 c0;have d1:=below_cell hb1 c1;have HT1:=hid (fun w2 (h:Below w1.heap.size w1 w2)=>HT.out w2 (bnext hb1 h));have HB1:=hid (bnext HB0.out hb1);clear HF HT hb1 c0 c1;go_wp2_with fail
  refine (HT1.out w1 (Below.refl _ _)).mono ?_;rintro e w2 ⟨rfl,hb2⟩;have g0:=below_cell hb2 d0;have g1:=below_cell hb2 d1;have HT2:=hid (HT1.out w2 hb2);have HB2:=hid (bnext HB1.out hb2);clear HT1 hb2 d0 d1;go_wp2_with fail
  refine HT2.out.mono ?_;rintro e w3 ⟨rfl,hb3⟩;have HB3:=hid (bnext HB2.out hb3);go_wp2
  go_ret;rw [e.out];exact ⟨rfl,HB3.out⟩
 subst h2;have e:=hid (show R=if I=true then 0 else 2 by rw [HR.out,if_neg (by simp),if_neg (by simp)]);clear HR;go_enter Tryz.func26,Tryz.ntmps26
 go_upto_region 1 with fail
 rw [HW.out];go_wp2_with fail
 refine (HF.out w0 (Below.refl _ _)).mono ?_;rintro e w1 ⟨rfl,hb1⟩;have d0:=below_cell hb1 c0;have d1:=below_cell hb1 c1;have HT1:=hid (HT.out w1 hb1);have HI1:=hid (fun w2 (h:Below w1.heap.size w1 w2)=>HI.out w2 (bnext hb1 h));have HB1:=hid (bnext HB0.out hb1);clear HF HT HI hb1 c0 c1;go_wp2_with fail
 refine HT1.out.mono ?_;rintro e w2 ⟨rfl,hb2⟩;have g0:=below_cell hb2 d0;have g1:=below_cell hb2 d1;have HI2:=hid (HI1.out w2 hb2);have HB2:=hid (bnext HB1.out hb2);clear HT1 HI1 hb2 d0 d1;go_wp2_with fail
 refine HI2.out.mono ?_;rintro e w3 ⟨rfl,hb3⟩;have HB3:=hid (bnext HB2.out hb3);clear g0 g1 hb3 HI2;cases I
 ·go_wp2
  go_ret;rw [‹Hid (R=_)›.out];exact ⟨rfl,HB3.out⟩
 ·go_wp2
  go_ret;rw [‹Hid (R=_)›.out];exact ⟨rfl,HB3.out⟩
theorem twoX (w:World) (a b c d:Value) :
  ∃ w0,(w.alloc (.cells #[a,b] 27)).alloc (.cells #[c,d] 27)=w0/\XB w0 w.heap.size a b/\XB w0 (w.heap.size+1) c d/\Below w.heap.size w w0:=by
 have b0:=below_fresh w (.cells #[a,b] 27);have x0:=XB.fresh w a b;have s0:=World.size_alloc w (.cells #[a,b] 27);generalize w.alloc (.cells #[a,b] 27)=w1 at b0 x0 s0;have b1:=below_fresh w1 (.cells #[c,d] 27);have x1:=XB.fresh w1 c d;rw [s0] at x1;exact ⟨_,rfl,x0.below b1,x1,bnext b0 b1⟩
theorem rEqualCert (a b c d:Value) (f t f' t':List Fp) (w:World) (ha:RdF w a f) (hb:RdF w b t) (hc:RdF w c f') (hd:RdF w d t') :
  Calls Tryz.prog 31 #[cev a b,cev c d] w fun e w'=>e = .returned (.bool (decide (f=f') && decide (t=t')))/\Below w.heap.size w w':=by
 obtain ⟨aa,ac,rfl,hac,_⟩:=ha.shape;obtain ⟨ba,bc,rfl,hbc,_⟩:=hb.shape;obtain ⟨ca,cc,rfl,hcc,_⟩:=hc.shape;obtain ⟨da,dc,rfl,hdc,_⟩:=hd.shape;obtain ⟨w0,hw0,hX,hY,hb0⟩:=twoX w (.slice aa f.length ac) (.slice ba t.length bc) (.slice ca f'.length cc) (.slice da t'.length dc);have HB0:=hid hb0;have HW:=hid hw0;replace ha:=ha.below hb0;replace hb:=hb.below hb0;replace hc:=hc.below hb0;replace hd:=hd.below hb0;obtain ⟨x0,x1,_⟩:=hX.cells;obtain ⟨y0,y1,_⟩:=hY.cells;have H1:=hid (fun w' (h:Below w0.heap.size w0 w')=>rEqualConfig _ _ f f' w' (ha.below h) (hc.below h));have H2:=hid (fun w' (h:Below w0.heap.size w0 w')=>rEqualConfig _ _ t t' w' (hb.below h) (hd.below h));generalize decide (f=f')=P at H1;generalize decide (t=t')=Q at H2;clear ha hb hc hd hX hY hb0 hw0;cases P
 ·go_enter Tryz.func31,Tryz.ntmps31
  go_upto_region 1 with fail
  rw [HW.out];go_wp2_with fail
  refine (H1.out w0 (Below.refl _ _)).mono ?_;rintro e w1 ⟨rfl,hb1⟩;have HB1:=hid (bnext HB0.out hb1);go_wp2
  go_ret;exact ⟨rfl,HB1.out⟩
 ·go_enter Tryz.func31,Tryz.ntmps31
  go_upto_region 1 with fail
  rw [HW.out];go_wp2_with fail
  refine (H1.out w0 (Below.refl _ _)).mono ?_;rintro e w1 ⟨rfl,hb1⟩;have z0:=below_cell hb1 x0;have z1:=below_cell hb1 x1;have z2:=below_cell hb1 y0;have z3:=below_cell hb1 y1;have HB1:=hid (bnext HB0.out hb1);have HC2:=hid (H2.out w1 hb1);clear H1 H2 hb1 x0 x1 y0 y1;go_wp2_with fail
  refine HC2.out.mono ?_;rintro e w2 ⟨rfl,hb2⟩;have HB2:=hid (bnext HB1.out hb2);go_wp2
  go_ret;exact ⟨rfl,HB2.out⟩
theorem certRet {fn:Func} {p:Tmp} {R:Ending->World->Prop} {a:Act} {w:World} {g:Nat} {x y:Value} (h:fn.results = #[.cell p 27]) (hp:a.tmps.getD p undef = .pointer (some ⟨g,0,none⟩)) (hg:XB w g x y)
  (hd:a.defers = []) (hR:R (.returned (cev x y)) w):bodyPost Tryz.prog fn R .ret a w:=
 bodyPost_ret (results_cell_row (P:=Tryz.prog) h a.tmps w g 27 _ _ _ hp hg Tryz.underlying27 rfl (by kernel_rfl)) hd hR
end
section
open Go.RowKit
open JM (Chg)
open CM (Fp)
open WM (Bytes)
theorem encL_le {fs:List Fp} (h:CM.Ok fs):(CM.encL fs).length<=10000:=by
 unfold CM.encL;rw [List.length_append];have:=h.nine;have:=WM.enc_len10 fs.length (by omega);have:=CM.flat_len h.all;omega
theorem rd_len64 {w:World} {v:Value} {xs:List Int} (h:Rd w v xs):xs.length<=9223372036854775807:=by
 obtain ⟨_,n',_,hv,h1,h2,h3,_⟩:=h;unfold maxLen at h3;omega
theorem certRet3 {fn:Func} {p u q:Tmp} {R:Ending->World->Prop} {a:Act} {w:World} {g:Nat} {x y:Value} {n er:Int} (h:fn.results = #[.cell p 27,.tmp u,.tmp q]) (hp:a.tmps.getD p undef = .pointer (some ⟨g,0,none⟩))
  (h3:a.tmps.getD u undef = .int .i64 n) (h4:a.tmps.getD q undef = .int .i64 er) (hg:XB w g x y) (hd:a.defers = []) (hR:R (.returned (.tuple #[cev x y,.int .i64 n,.int .i64 er])) w):bodyPost Tryz.prog fn R .ret a w:=by
 have:=results_cell_tmp_tmp (P:=Tryz.prog) (fn:=fn) h a.tmps w g 27 _ _ _ hp hg Tryz.underlying27 rfl (by kernel_rfl);rw [h3,h4] at this;exact bodyPost_ret this hd hR
end
section
open Go.RowKit
open JM (Chg)
open CM (Fp)
def CM.AllOk (ls:List (List Fp)):Prop:=(∀ f∈ls,CM.Ok f) /\ ∀ (i k:Nat) (x y:List Fp),k<i->ls[i]? = some x->ls[k]? = some y->CM.Agr x y
def CM.UpTo (ls:List (List Fp)) (n:Nat):Prop:=(∀ (k:Nat) (x:List Fp),k<n->ls[k]? = some x->CM.Ok x) /\ ∀ (i k:Nat) (x y:List Fp),i<n->k<i->ls[i]? = some x->ls[k]? = some y->CM.Agr x y
def Says (e:Ending) (P:Prop):Prop:=∃ R:Bool,e = .returned (.bool R)/\(R=true->P)
abbrev Fc:=List Fp×List Fp
def encCt (p:(SV×SV)×Fc):List Value:=[svV p.1.1,svV p.1.2]
def RdCt (w:World) (v:Value) (cs:List Fc):Prop:=∃ ps:List ((SV×SV)×Fc),RdG encCt 2 w v ps/\(∀ p∈ps,RdF w (svV p.1.1) p.2.1/\RdF w (svV p.1.2) p.2.2)/\ps.map (·.2)=cs
end
section
open Go.RowKit
open JM (Chg)
open CM (Fp)
section
variable {α:Type} {P:Program} {t e:TypeId} {size bytes:Nat} {enc:α->List Value}
variable {w:World} {ops:Array Oper} {o:Oper} {a:Act} {K:Act->World->Prop} {Q:Exit->Act->World->Prop} {F:Prop} {base:Nat} {v:Value} {ys:List α}
end
def fl (c:Fc):List (List Fp):=[c.1,c.2]
end
section
open Go.RowKit
open JM (Chg)
open CM (Fp)
structure Gd (f t f' t':List Fp):Prop where
 e1:CM.errC f t=0
 e2:CM.errC f' t'=0
 a1:CM.Agr f f'
 a2:CM.Agr f t'
 a3:CM.Agr t f'
 a4:CM.Agr t t'
def Lz:List Chg:=[(2,1,0,0,0,0,0)]
def Fz:Fp:=(201,1,Lz)
end
end Go.Proofs.YtahcehbgfhdbjaaGreatDoor

