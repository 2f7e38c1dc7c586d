/-
  Set SKit NLaw3 NProg NVars UVars: joined texts, what nothing names left out.
-/
import Derived.Lib.SmallJoins
import Derived.Test.YtahcehbgfhdbjaaGreatDoorQMA28
import Derived.Test.YtahcehbgfhdbjaaGreatDoorRows
import Derived.PinnedBridge
import Derived.Lib.LaidU8T
import Derived.MakeChecks
import Derived.Lay
import Derived.HandedShaped
import Derived.LaidLaws
import Derived.SizedLaws
set_option maxHeartbeats 8000000
set_option maxRecDepth 100000
open Go.Lib (hid)
namespace Go.Proofs.YtahcehbgfhdbjaaGreatDoor
open Go.RowKit Go.Joins
open WM (Bytes)
theorem Own.form {base:Nat} {w:World} {v:Value} {xs:List Int} (h:Own base w v xs) (hp:0<xs.length) :
  ∃ g c,v = .slice (some ⟨g,0,none⟩) xs.length c/\base<=g/\g<w.heap.size/\c<=9223372036854775807:=by
 obtain ⟨⟨hl,h⟩,hb⟩:=h;rcases h with ⟨rfl,h0⟩ | ⟨g,cap,cur,rfl,hg,hh,hn,hm,hs,ht⟩
 ·omega
 ·unfold maxLen at hm;have:=(Array.getElem?_eq_some_iff.1 hh).1;exact ⟨g,cap,rfl,hg,this,by omega⟩
theorem Own.put {base g c k:Nat} {w:World} {xs:List Int} {y:Int} (h:Own base w (.slice (some ⟨g,0,none⟩) xs.length c) xs) (hk:k<xs.length) (hy:WM.isByte y) :
  w.cell? ⟨g,k,none⟩=some (.int .u8 (xs.getD k 0))/\w.frozen? ⟨g,k,none⟩=false /\
   Own base (w.setCell ⟨g,k,none⟩ (.int .u8 y)) (.slice (some ⟨g,0,none⟩) xs.length c) (xs.set k y)/\Below base w (w.setCell ⟨g,k,none⟩ (.int .u8 y)):=by
 obtain ⟨⟨hl,h⟩,hb⟩:=h;rcases h with ⟨hv,_⟩ | ⟨g',cap,cur,hv,hg,hh,hn,hm,hs,ht⟩
 ·cases hv
 ·cases hv
  have hc:cur[k]? = some (.int .u8 (xs.getD k 0)):=by
   have e:(cur.toList.take (xs.length*1))[k]? = (xs.map (Value.int .u8))[k]?:=by rw [ht]
   rw [List.getElem?_take_of_lt (by omega),Array.getElem?_toList] at e;rw [e];simp [List.getD,List.getElem?_eq_getElem hk]
  refine ⟨?_,unfrozen_of_block hh k,⟨⟨by simp,.inr ⟨g,c,_,by simp,hg,block_setCell hh _,?_,hm,by simpa using hs,?_⟩⟩,?_⟩,(Below.refl _ w).setCell hg _⟩
  ·rw [cell_of_block hh];exact hc
  ·simpa using hn
  ·rw [Array.toList_setIfInBounds,List.length_set,List.take_set,ht,List.map_set]
  ·intro q hq;exact (List.mem_or_eq_of_mem_set hq).elim (hb q) (fun e=>e ▸ hy)
end Go.Proofs.YtahcehbgfhdbjaaGreatDoor
namespace Go.Proofs.YtahcehbgfhdbjaaGreatDoor.ST
open Go.RowKit
open UM (Ef)
open SM (Fp)
def Nxt (pr:Int×Int) (q:Up):Prop:=(q.1=pr.1/\q.2.1=pr.2+1)∨(pr.1<q.1/\q.2.1=1)
def Chn:Int×Int->List Up->Prop
 | _,[]=>True
 | pr,q :: r=>Nxt pr q/\Chn (q.1,q.2.1) r
def endK:Int×Int->List Up->Int×Int
 | pr,[]=>pr
 | _,q :: r=>endK (q.1,q.2.1) r
theorem Chn.snoc {q:Up}:∀ {qs:List Up} {pr:Int×Int},Chn pr qs->Nxt (endK pr qs) q->Chn pr (qs ++ [q])
 | [],_,_,k=>⟨k,trivial⟩
 | _ :: _,_,h,k=>⟨h.1,Chn.snoc h.2 k⟩
theorem endK_snoc {q:Up}:∀ {qs:List Up} {pr:Int×Int},endK pr (qs ++ [q])=(q.1,q.2.1)
 | [],_=>rfl
 | _ :: qs,_=>endK_snoc (qs:=qs)
def EndAt (e:Int×Int) (j i:Nat):Prop:=(i=0/\e.1<101+(j:Int))∨(0<i/\e=(101+(j:Int),(i:Int)))
def GoodL (base:Nat) (w:World) (qs:List Up) (j i:Nat):Prop:=(∀ q∈qs,GoodU base w q)/\Chn (0,0) qs/\EndAt (endK (0,0) qs) j i
theorem GoodL.below {base:Nat} {w w':World} {qs:List Up} {j i:Nat} (h:GoodL base w qs j i) (hb:Below w.heap.size w w'):GoodL base w' qs j i:=⟨fun q hq=>(h.1 q hq).below hb,h.2⟩
theorem GoodL.keep {base:Nat} {w w':World} {qs:List Up} {j i:Nat} (h:GoodL base w qs j i) (hk:KeepsX 96 w w'):GoodL base w' qs j i:=⟨fun q hq=>(h.1 q hq).keep hk,h.2⟩
theorem GoodL.snoc {base:Nat} {w:World} {qs:List Up} {j i:Nat} {r:Int×Option Addr×Nat×Nat} (h:GoodL base w qs j i) (k:GoodU base w (101+(j:Int),(i:Int)+1,r)):GoodL base w (qs ++ [(101+(j:Int),(i:Int)+1,r)]) j (i+1):=by
 obtain ⟨h1,h2,h3⟩:=h;refine ⟨fun q hq=>?_,h2.snoc ?_,.inr ⟨by omega,by rw [endK_snoc];simp⟩⟩
 ·rcases List.mem_append.1 hq with hq | hq
  ·exact h1 q hq
  ·rw [List.mem_singleton] at hq;subst hq;exact k
 ·unfold Nxt;rcases h3 with ⟨rfl,h3⟩ | ⟨_,h3⟩
  ·exact .inr ⟨h3,by simp⟩
  ·rw [h3];exact .inl ⟨rfl,rfl⟩
theorem GoodL.next {base:Nat} {w:World} {qs:List Up} {j i:Nat} (h:GoodL base w qs j i):GoodL base w qs (j+1) 0:=by
 obtain ⟨h1,h2,h3⟩:=h;refine ⟨h1,h2,.inl ⟨rfl,?_⟩⟩;rcases h3 with ⟨_,h3⟩ | ⟨_,h3⟩
 ·omega
 ·rw [h3];simp only;omega
theorem good_ok {base:Nat} {w:World}:∀ {qs:List Up} {pr:Int×Int},(∀ q∈qs,GoodU base w q)->Chn pr qs -> ∃ fs,Tel w qs fs/\SM.errL pr fs=0/\SM.Fit fs
 | [],_,_,_=>⟨[],trivial,rfl,fun f hf=>by cases hf⟩
 | q :: qs,pr,h,hc=>by
  obtain ⟨fs,h1,h2,h6⟩:=good_ok (fun q hq=>h q (List.mem_cons_of_mem _ hq)) hc.2;obtain ⟨es,h3,h4,h5⟩:=h q (by simp);have hn:=hc.1;unfold Nxt at hn;refine ⟨(q.1,q.2.1,q.2.2.1,es) :: fs,⟨⟨rfl,rfl,rfl,h3.rd⟩,h1⟩,SM.errL_mk h4 ?_ (fun h5=>?_) h2,fun f hf=>?_⟩
  ·rw [SM.cmpP_pos];simp only;omega
  ·simp only at h5 ⊢;omega
  ·rcases List.mem_cons.1 hf with rfl | hf
   ·exact h5
   ·exact h6 f hf
theorem kUpdatesV (v:Value) (l:List Int) (w:World) (h:RdI w v l) (hl:l.length<=4611686018427387904) :
  Calls Tryz.prog 17 #[v] w fun e w'=>∃ u fs,e = .returned u/\RdF w' u fs/\SM.Ok fs/\SM.Fit fs/\Below w.heap.size w w':=by
 obtain ⟨ad,cp,rfl,hcp,_⟩:=h.shape;have HV:=hid h;have hl9:l.length<=9223372036854775807:=by omega
 clear h hl;go_enter Tryz.func17,Tryz.ntmps17
 go_wp2
 go_loopw [3,4] (fun u a wr=>∃ (j:Nat) (qs:List Up),j<=3/\a = .int .i64 j/\qs.length<=24*j/\Hid (OwnUp w.heap.size wr u qs)/\Hid (GoodL w.heap.size wr qs j 0)/\Hid (Below w.heap.size w wr)) (fun _ a _=>3 - (intOf a).toNat)
 case atStart=>exact ⟨0,[],by decide,rfl,by decide,OwnG.nil hlUp _ _ _,⟨(fun q hq=>by cases hq),trivial,.inl ⟨rfl,(by decide:(0:Int)<101+((0:Nat):Int))⟩⟩,Below.refl _ _⟩
 case round=>
  obtain ⟨j,qs,hj,rfl,hql,ho,hgd,hb⟩:=hrel;by_cases hj3:j<3
  ·have hqj:(j:Int)<3:=by omega
   go_wp2
   obtain ⟨wo,rfl⟩:∃ wo,wo=wr:=⟨wr,rfl⟩
   go_loopw [3,5,6] (fun u s a wr=>∃ (i sq:Nat) (qs:List Up),i<=24/\i<=l.length/\sq<=8/\s = .int .i64 sq/\a = .int .i64 i/\qs.length<=24*j+i/\Hid (OwnUp w.heap.size wr u qs)/\Hid (GoodL w.heap.size wr qs j sq)/\Hid (Below w.heap.size w wr)) (fun _ _ a _=>24 - (intOf a).toNat)
   case atStart=>exact ⟨0,0,qs,by decide,Nat.zero_le _,by decide,rfl,rfl,by omega,ho.out,hgd.out,hb.out⟩
   case round=>
    clear ho hgd hb hql;obtain ⟨i,sq,qs,hi,hil,hsq,rfl,rfl,hql,ho,hgd,hb⟩:=hrel;by_cases hi1:i<l.length
    case neg=>
     have hq1:¬ (i:Int)<(l.length:Int):=by omega
     go_wp2
     go_roundw
     case rel=>exact ⟨j+1,qs,by omega,by go_num,by omega,ho,hid hgd.out.next,hb⟩
     case measure=>simp [intOf];omega
    by_cases hi2:i<24
    case neg=>
     have hq1:(i:Int)<(l.length:Int):=by omega
     have hq2:¬ (i:Int)<24:=by omega
     go_wp2
     go_roundw
     case rel=>exact ⟨j+1,qs,by omega,by go_num,by omega,ho,hid hgd.out.next,hb⟩
     case measure=>simp [intOf];omega
    have hq1:(i:Int)<(l.length:Int):=by omega
    have hq2:(i:Int)<24:=by omega
    have hat:=List.getElem?_eq_getElem hi1;generalize l[i]=X at hat
    obtain ⟨b,o,hix,hbb,hc⟩:=atI (HV.out.below hb.out) i X hat
    have HD:=hid (fun w'=>kDigit X 3 0 w' (by decide) (by decide) (by decide));have HI:=hid (fun w'=>kIndex X 1099511627776 w' (by decide) (by decide));have hir:=ix_range (n:=X) (show (1:Int)<=1099511627776 by decide);generalize dg X 3 0=d at HD;generalize ix X 1099511627776=J at HI hir;clear hat hbb;go_wp2_with fail
    refine (HD.out _).mono ?_;rintro e w2 ⟨rfl,rfl⟩;clear HD;by_cases hd:d=j
    case neg=>
     have hd':((d:Int)==(j:Int))=false:=by simp;omega
     clear hc hix HI;go_wp2
     go_roundw
     case rel=>exact ⟨i+1,sq,qs,by omega,by omega,hsq,rfl,by go_num,by omega,ho,hgd,hb⟩
     case measure=>simp [intOf];omega
    have hd':((d:Int)==(j:Int))=true:=by simp [hd]
    by_cases hs8:sq<8
    case neg=>
     have hs':¬ (sq:Int)<8:=by omega
     clear hc hix HI;go_wp2
     go_roundw
     case rel=>exact ⟨i+1,sq,qs,by omega,by omega,hsq,rfl,by go_num,by omega,ho,hgd,hb⟩
     case measure=>simp [intOf];omega
    have hs':(sq:Int)<8:=by omega
    have hY:0<=J.tdiv 3/\J.tdiv 3<=J:=by
     rw [Int.tdiv_eq_ediv_of_nonneg hir.1];exact ⟨Int.ediv_nonneg hir.1 (by omega),Int.ediv_le_self _ hir.1⟩
    obtain ⟨Y,hYd⟩:∃ Y,J.tdiv 3=Y:=⟨_,rfl⟩
    rw [hYd] at hY;have hYw:IntKind.i64.wrap Y=Y:=IntWalk.i64_in _ (by omega);have HU:=hid (fun w'=>kUpdate (101+(j:Int)) ((sq:Int)+1) Y w' (decide_eq_true (by omega)) (by omega));clear hY hir hd;go_wp2_with fail
    refine (HI.out _).mono ?_;rintro e w2 ⟨rfl,rfl⟩;clear HI;go_wp2_with fail
    refine (HU.out _).mono ?_;rintro e w2 ⟨t,sv,es,rfl,hoe,herr,h64,hb2⟩;obtain ⟨ea,ec,rfl,_,_⟩:=hoe.rd.shape;have hsz:=hb.out.size;have HO2:=hid (ho.out.below hb2);have HG2:=hid (hgd.out.below hb2);have HE2:=hid (show GoodU w.heap.size w2 (101+(j:Int),(sq:Int)+1,t,ea,es.length,ec) from ⟨es,hoe.mono hsz,herr,h64⟩);have HB2:=hid (bnext hb.out hb2);have hsz2:=HB2.out.size;have hlq:qs.length<=1073741824:=by omega
    clear hoe herr h64 hb2 ho hgd hb HU hc hix hsz;go_wp2_with (at_builtin;refine wp_appG1 upE (101+(j:Int),(sq:Int)+1,t,ea,es.length,ec) rfl _ _ rfl rfl HO2.out rfl hlq hsz2 ?_;intro v6 w6 ho6 hb6 hk6 _)
    have HO6:=hid ho6;have HB6:=hid (HB2.out.trans hb6);have HG6:=hid ((HG2.out.snoc HE2.out).keep hk6);clear ho6 hb6 hk6 HO2 HG2 HE2 HB2;go_roundw
    case rel=>exact ⟨i+1,sq+1,qs ++ [(101+(j:Int),(sq:Int)+1,t,ea,es.length,ec)],by omega,by omega,by omega,by go_num,by go_num,by rw [List.length_append];simp;omega,HO6,HG6,HB6⟩
    case measure=>simp [intOf];omega
  ·have hqj:¬ (j:Int)<3:=by omega
   go_wp2
   go_ret;obtain ⟨fs,f1,f2,f3⟩:=good_ok hgd.out.1 hgd.out.2.1;exact ⟨_,rfl,fs,⟨qs,ho.out.rd,f1⟩,f2,f3,hb.out⟩
end Go.Proofs.YtahcehbgfhdbjaaGreatDoor.ST
namespace Go.Proofs.YtahcehbgfhdbjaaGreatDoor
section
open Go.RowKit
open NM (Ms)
open VM (Ent)
namespace NM
theorem sencL_le {fs:List SM.Fp} (h:∀ f∈fs,SM.errF f=0) (hf:SM.Fit fs) (hl:fs.length<=48):(SM.encL fs).length<=50000:=by
 unfold SM.encL;rw [List.length_append];have:=WM.enc_len10 fs.length (by omega);have:=SM.flat_len h hf;omega
theorem ok_nil_cert {f t:List CM.Fp} (h:CM.errC f t=0):(CM.encC2 f t).length<=20000:=by
 unfold CM.encC2;rw [List.length_append];have:=encL_le (CM.errC_ok h).1;have:=encL_le (CM.errC_ok h).2.1;omega
theorem encB_le {m:Ms} (h:errB m=0):(encB m).length<=50000:=by
 have h2:CM.errC m.bf m.bt=0/\CM.errC m.ef m.et=0:=by
  unfold errB at h;split at h
  ·cases h
  ·split at h
   ·rename_i h3;exact absurd h h3
   ·rename_i h3;exact ⟨by omega,h⟩
 have k1:=ok_nil_cert h2.1;have k2:=ok_nil_cert h2.2;unfold encB;rw [List.length_append,List.length_append];split
 ·simp only [List.length_singleton];omega
 ·simp only [List.length_singleton,List.length_nil];omega
theorem encM_le {m:Ms} (h:errM m=0) (hf:SM.Fit m.st) (hh:m.k=4->FitH m.hv):0<(encM m).length/\(encM m).length<=300000:=by
 obtain ⟨⟨k1,k8⟩,sf,st,hb,hX,hR⟩:=errM_ok h;have a1:=WM.enc_len10 m.k.toNat (by omega)
 have a0:=WM.enc_pos m.k.toNat
 have a2:=JM.encN_len [m.fr,m.tx] (by intro x hx;simp only [List.mem_cons,List.mem_nil_iff,or_false] at hx;rcases hx with rfl | rfl <;> assumption);unfold encM;simp only [List.length_append];simp only [List.length_cons,List.length_nil] at a2;refine ⟨by omega,?_⟩;by_cases e1:m.k=1
 ·obtain ⟨x1,x2,x3,x4,x5,x6,_⟩:=errX_ok (hX (.inl e1));have b1:=JM.encN_len [m.p,m.n,m.r,m.d] (by intro x hx;simp only [List.mem_cons,List.mem_nil_iff,or_false] at hx;rcases hx with rfl | rfl | rfl | rfl <;> first | assumption | exact x4 e1);have b2:=encL_le x5;have b3:=sencL_le x6.all hf x6.all48;rw [if_pos e1];simp only [List.length_append,List.length_cons,List.length_nil] at b1 ⊢;omega
 rw [if_neg e1];by_cases e2:m.k=2
 ·obtain ⟨x1,x2,x3,_,x5,x6,x7⟩:=errX_ok (hX (.inr e2));have b1:=JM.encN_len [m.p,m.n,m.r] (by intro x hx;simp only [List.mem_cons,List.mem_nil_iff,or_false] at hx;rcases hx with rfl | rfl | rfl <;> assumption);have b2:=encL_le x5;have b3:=sencL_le x6.all hf x6.all48;have b4:=encB_le (x7 e2);rw [if_pos e2];simp only [List.length_append,List.length_cons,List.length_nil] at b1 ⊢;omega
 rw [if_neg e2];obtain ⟨r1,r4,r5⟩:=hR (by omega);have c1:=ok_nil_cert r1;by_cases e4:m.k=4
 ·obtain ⟨f1,f2⟩:=hh e4;have b1:=JM.encN_len (flatE m.hv) (fun x hx=>by
   obtain ⟨e,he,hxe⟩:=List.mem_flatMap.1 hx;simp only [List.mem_cons,List.mem_nil_iff,or_false] at hxe;rcases hxe with rfl | rfl
   ·exact (f2 e he).1
   ·exact (f2 e he).2)
  have b2:=WM.enc_len10 m.hv.length (by omega);rw [flatE_len] at b1;rw [if_pos e4];unfold encH;simp only [List.length_append];omega
 rw [if_neg e4];by_cases e5:m.k=5
 ·obtain ⟨g1,g2⟩:=r5 e5;obtain ⟨q1,q2⟩:=chk_ok g1;have b3:=sencL_le q2 hf (by omega);have b4:=encB_le g2;rw [if_pos e5];simp only [List.length_append,List.length_singleton];omega
 ·rw [if_neg e5];simp only [List.length_append,List.length_nil];omega
end NM
theorem errE_fit:∀ {es:List UM.Ef},UM.errL es=0 -> ∀ e∈es,UM.errE e=0
 | [],_,_,h=>by cases h
 | x :: r,h,e,he=>by
  unfold UM.errL at h;split at h
  ·rename_i h1;exact absurd h h1
  ·rename_i h1
   rcases List.mem_cons.1 he with rfl | he
   ·omega
   ·exact errE_fit h e he
theorem fitE_mk {fs:List SM.Fp} (h:∀ f∈fs,SM.errF f=0) (hf:SM.Fit fs):ST.FitE fs:=by
 intro f hx e he;have h1:=h f hx;have h2:UM.errL f.2.2.2=0:=by
  unfold SM.errF UM.errU at h1;split at h1
  ·cases h1
  split at h1
  ·cases h1
  split at h1
  ·cases h1
  split at h1
  ·rename_i h3;exact absurd h1 h3
  ·rename_i h3;omega
 have h3:=errE_fit h2 e he;obtain ⟨k,ob,fi,n,s⟩:=e;have h4:¬ (16<ob.size∨16<fi.size∨32<s.size):=by
  intro h4;unfold UM.errE at h3;dsimp only at h3;by_cases q1:k<1∨5<k
  ·rw [if_pos q1] at h3;exact absurd h3 (by decide)
  by_cases q2:ob.size=0∨fi.size=0
  ·rw [if_neg q1,if_pos q2] at h3;exact absurd h3 (by decide)
  ·rw [if_neg q1,if_neg q2,if_pos h4] at h3;exact absurd h3 (by decide)
 refine ⟨hf f hx _ he,?_,?_,?_⟩ <;> (unfold maxLen;dsimp only;omega)
theorem kMessageC (a b:Value) (p:List CM.Fp) (us:List SM.Fp) (kind n m:Int) (w:World) (ha:RdF w a p) (hp:CM.Ok p) (hb0:ST.RdF w b us) (hu:SM.Ok us) (hf:SM.Fit us) :
  Calls Tryz.prog 15 #[a,b,.int .i64 kind,.int .i64 n,.int .i64 m] w fun e w'=>∃ (D:Array Value) (x:Mv) (mm:Ms),e = .returned (.agg D)/\D=mcell mm x/\RdMs w' x mm/\NM.errM mm=0/\SM.Fit mm.st/\ST.FitE mm.st/\(mm.k=4->NM.FitH mm.hv)/\Below w.heap.size w w':=by
 refine (kMessage a b p us kind n m w ha hp hb0 hu).mono ?_;rintro e w' ⟨x,mm,rfl,hr,he,hst,hh,hb⟩;have h1:SM.Fit mm.st:=fun f hx=>hf f (hst f hx)
 exact ⟨_,x,mm,rfl,rfl,hr,he,h1,fitE_mk (fun f hx=>hu.all f (hst f hx)) h1,hh,hb⟩
theorem lMessageDamage (Tw:World->Prop) (mt:MT Tw) (a b:Value) (l u:List Int) (kind n m:Int) (ix wi:Nat) (ct:Bool) (w:World) (hT:Tw w) (ha:RdI w a l) (hb:RdI w b u) (hla:l.length<=4611686018427387904) (hlb:u.length<=4611686018427387904) (hix:ix<65536) (hwi:wi<256) :
  Calls Tryz.prog 6 #[a,b,.int .i64 kind,.int .i64 n,.int .i64 m,.int .u16 (ix:Int),.int .u8 (wi:Int),.bool ct] w fun e w'=>e = .returned (.bool true)/\Below w.heap.size w w':=by
 obtain ⟨aa,ac,rfl,_⟩:=ha.shape;obtain ⟨ba,bc,rfl,_⟩:=hb.shape;have HT:=hid hT;have HB:=hid (Below.refl w.heap.size w);have HBU:=hid hb;have HQ:=hid (kPool _ l w ha hla);have HLB:=hid hlb;have HIX:=hid (And.intro hix hwi);clear hT ha hb hla hlb hix hwi;go_enter Tryz.func6,Tryz.ntmps6
 go_wp2_with fail
 refine HQ.out.mono ?_;rintro e w1 ⟨pv,p,rfl,hp,hok,hb⟩;obtain ⟨pa,pc,rfl,_⟩:=hp.shape;replace HBU:=hid (HBU.out.below hb);replace HB:=hid (bnext HB.out hb);replace HT:=hid (mt.keep _ _ HT.out hb);have HP:=hid hp;have HQ:=hid (ST.kUpdatesV _ u w1 HBU.out HLB.out);clear hb hp HBU HLB;go_wp2_with fail
 refine HQ.out.mono ?_;rintro e w2 ⟨uv,us,rfl,hu,huok,hufit,hb⟩;obtain ⟨ua,uc,rfl,_⟩:=hu.shape;replace HP:=hid (HP.out.below hb);replace HB:=hid (bnext HB.out hb);replace HT:=hid (mt.keep _ _ HT.out hb);have HQ:=hid (kMessageC _ _ p us kind n m w2 HP.out hok hu huok hufit);clear hb hu hok huok hufit HP;go_wp2_with fail
 refine HQ.out.mono ?_;rintro e w3 ⟨D,x,mm,rfl,hD,hr,he,hf,hfe,hh,hb⟩;have HE:=hid he;have HF:=hid hf;have HFE:=hid hfe;have HH:=hid hh;clear HQ he hf hfe hh;have hsd:D.size=18:=by rw [hD];rfl
 have hfr:=below_fresh w3 (.cells zC 33);have hz:(w3.alloc (.cells zC 33)).heap[w3.heap.size]? = some (.cells zC 33 (0,0)):=heap_alloc_new w3 _;have hsc:=run_storeCells_row (w3.alloc (.cells zC 33)) w3.heap.size 33 zC D hz (by rw [hsd];rfl) (by rw [hD];exact arr_one hr)
 obtain ⟨w4,hw5⟩:∃ w5,(w3.alloc (.cells zC 33)).setRow w3.heap.size D=w5:=⟨_,rfl⟩
 have HX:=hid (show w4.heap[w3.heap.size]? = some (.cells D 33 (0,0)) by rw [<- hw5];exact setRow_heap _ _ _ _ _ _ hz);have hb5:Below w3.heap.size w3 w4:=by rw [<- hw5];exact seen hfr (Nat.le_refl _) (onlyRow _ _ _)
 have hb6:=bnext hb hb5;replace HB:=hid (bnext HB.out hb6);replace HT:=hid (mt.keep _ _ HT.out hb6);have HRD:=hid (hr.below hb5);have HD:=hid hD;have HW5:=hid hw5;obtain ⟨G,hG⟩:∃ G,G=w3.heap.size:=⟨_,rfl⟩
 clear hr hb hfr hw5 hb5 hb6 hz hD;go_upto_region 2 with fail
 rw [HW5.out];rw [<- hG] at HX ⊢;clear hG HW5 hsc;have hQ:Calls Tryz.prog 9 #[.agg D] w4 fun e w'=>e = .returned (.int .i64 0)/\Below w4.heap.size w4 w':=by
  have h:=mt.validate x mm w4 HT.out HRD.out HFE.out (WalkArith.wf_i64 (by have:=(NM.errM_ok HE.out).1;omega));rw [HE.out] at h;rw [HD.out];exact h
 have HQ:=hid hQ;clear hQ;go_wp2_with (refine wpList_load_rowG rfl 33 _ rfl G rfl 33 D (0,0) _ HX.out Tryz.underlying33 rfl (by rw [hsd];kernel_rfl) ?_)
 refine HQ.out.mono ?_;rintro e w5 ⟨rfl,hb⟩;replace HX:=hid (below_block HX.out hb);replace HRD:=hid (HRD.out.below hb);replace HB:=hid (bnext HB.out hb);replace HT:=hid (mt.keep _ _ HT.out hb);have HQ:=hid (show Calls Tryz.prog 18 #[.slice none 0 0,.agg D] w5 _ by rw [HD.out];exact mt.append (.slice none 0 0) [] x mm w5 HT.out (Rd.nil _) HRD.out HE.out HFE.out HH.out (by simp));clear hb;go_wp2_with (refine wpList_load_rowG rfl 33 _ rfl G rfl 33 D (0,0) _ HX.out Tryz.underlying33 rfl (by rw [hsd];kernel_rfl) ?_)
 refine HQ.out.mono ?_;rintro e w6 ⟨v6,rfl,hv6,hb⟩;replace HB:=hid (bnext HB.out hb);replace HT:=hid (mt.keep _ _ HT.out hb);rw [List.nil_append] at hv6;have hlen:=NM.encM_le HE.out HF.out HH.out;have HCUT:=hid (fun j hj=>NM.decM_cut HE.out HF.out HH.out (j:=j) hj);generalize NM.encM mm=X at hv6 hlen HCUT;obtain ⟨a6,c6,rfl,hc6⟩:=hv6.shape;obtain ⟨k,hkd⟩:∃ k,k=ix % X.length:=⟨_,rfl⟩
 have hk:k<X.length:=by rw [hkd];exact Nat.mod_lt _ (by omega)
 have hmod:Int.tmod (ix:Int) (X.length:Int)=(k:Int):=by rw [hkd];rfl
 have hz2:((X.length:Int)==0)=false:=beq_eq_false_iff_ne.2 (by omega);have hz3:¬ ((X.length:Int)=0):=by omega
 have HKL:=hid hk;have HLEN:=hid hlen;have hix1:(ix:Int)<=65535:=by have:=HIX.out;omega
 have ho0:=own_empty w6;have hb0:=below_empty w6;have R0:=hv6.below hb0;have hs0:=hb0.size;have HB0:=hid hb0;clear hb HQ HX HRD HD HE HF HFE HH hkd hk hv6 hb0;go_wp2_with (at_builtin;refine wp_appS rfl _ _ rfl rfl ho0 rfl R0 (by simp) (by have:=HLEN.out;omega) hs0 ?_)
 intro v7 w7 ho7 hb7;replace ho7:Own w6.heap.size w7 v7 X:=ho7;have hb8:=HB0.out.trans hb7;obtain ⟨g,c7,rfl,hg,hgl,hc7⟩:=ho7.form HLEN.out.1;have HB6:=HB;have HT6:=HT;replace HB:=hid (bnext HB.out hb8);replace HT:=hid (mt.keep _ _ HT.out hb8);have HO7:=hid ho7;have HB76:=hid hb8;clear ho0 R0 hs0 hb7 hb8 HB0 hmod hz2 hz3 ho7;cases ct
 ·obtain ⟨hcell,hfz,ho8,hb9⟩:=HO7.out.put HKL.out (show WM.isByte (wi:Int) by have:=HIX.out.2;exact ⟨by omega,by omega⟩);have hki:(k:Int)<(X.length:Int):=by have:=HKL.out;omega
  obtain ⟨w8,hw8⟩:∃ z,w7.setCell ⟨g,k,none⟩ (.int .u8 (wi:Int))=z:=⟨_,rfl⟩
  rw [hw8] at ho8 hb9;have hb10:=HB76.out.trans hb9;replace HB:=hid (bnext HB6.out hb10);replace HT:=hid (mt.keep _ _ HT6.out hb10);have HW8:=hid hw8;have HRY:=hid (show Rd w8 (.slice (some ⟨g,0,none⟩) X.length c7) (X.set k (wi:Int)) from ho8.rd);clear ho8 hb9 hb10 hw8;go_upto_region 12 with fail
  rw [HW8.out];clear hcell hfz HW8 hki;have hd1:=mt.decode (.slice (some ⟨g,0,none⟩) X.length c7) (X.set k (wi:Int)) w8 HT.out HRY.out;have hd2:=fun w' (h:Below w8.heap.size w8 w')=>rDecM (.slice (some ⟨g,0,none⟩) X.length c7) (X.set k (wi:Int)) w' (HRY.out.below h)
  obtain ⟨M,hM⟩:∃ M,M=NM.decM ((X.set k (wi:Int))):=⟨_,rfl⟩
  simp only [<- hM] at hd1 hd2;obtain ⟨E,U,M⟩:=M;dsimp only at hd1 hd2;have HQ:=hid (dec_cells hd1);have H2:=hid (fun w' (h:Below w8.heap.size w8 w')=>dec_cells (hd2 w' h));have HBW:=hid (Below.refl w8.heap.size w8);clear hd1 hd2 hM;go_wp2_with fail
  refine HQ.out.mono ?_;rintro e u1 ⟨D,x1,rfl,hD,hr,hb⟩;clear HQ;have hsd:D.size=18:=by rw [hD];rfl
  have hfr:=below_fresh u1 (.cells zC 33);have hz:(u1.alloc (.cells zC 33)).heap[u1.heap.size]? = some (.cells zC 33 (0,0)):=heap_alloc_new u1 _;have hsc:=run_storeCells_row (u1.alloc (.cells zC 33)) u1.heap.size 33 zC D hz (by rw [hsd];rfl) (by rw [hD];exact arr_one hr)
  obtain ⟨u2,hw5⟩:∃ w5,(u1.alloc (.cells zC 33)).setRow u1.heap.size D=w5:=⟨_,rfl⟩
  have HX:=hid (show u2.heap[u1.heap.size]? = some (.cells D 33 (0,0)) by rw [<- hw5];exact setRow_heap _ _ _ _ _ _ hz);have hb5:Below u1.heap.size u1 u2:=by rw [<- hw5];exact seen hfr (Nat.le_refl _) (onlyRow _ _ _)
  have hb6:=bnext hb hb5;replace HB:=hid (bnext HB.out hb6);replace HT:=hid (mt.keep _ _ HT.out hb6);replace HBW:=hid (bnext HBW.out hb6);have HRD:=hid (hr.below hb5);have HD:=hid hD;have HW5:=hid hw5;obtain ⟨G,hG⟩:∃ G,G=u1.heap.size:=⟨_,rfl⟩
  clear hr hb hfr hw5 hb5 hb6 hz hD;go_upto_region 13 with fail
  rw [HW5.out];rw [<- hG] at HX ⊢;clear hG HW5 hsc;have HQ:=hid (H2.out u2 HBW.out);go_wp2_with fail
  refine HQ.out.mono ?_;rintro e u3 ⟨C,x2,rfl,hD,hr,hb⟩;clear HQ H2;have hsz:C.size=18:=by rw [hD];rfl
  have hfr:=below_fresh u3 (.cells zC 33);have hz:(u3.alloc (.cells zC 33)).heap[u3.heap.size]? = some (.cells zC 33 (0,0)):=heap_alloc_new u3 _;have hsc:=run_storeCells_row (u3.alloc (.cells zC 33)) u3.heap.size 33 zC C hz (by rw [hsz];rfl) (by rw [hD];exact arr_one hr)
  obtain ⟨u4,hw5⟩:∃ w5,(u3.alloc (.cells zC 33)).setRow u3.heap.size C=w5:=⟨_,rfl⟩
  have HY:=hid (show u4.heap[u3.heap.size]? = some (.cells C 33 (0,0)) by rw [<- hw5];exact setRow_heap _ _ _ _ _ _ hz);have hb5:Below u3.heap.size u3 u4:=by rw [<- hw5];exact seen hfr (Nat.le_refl _) (onlyRow _ _ _)
  have hb6:=bnext hb hb5;replace HX:=hid (below_block HX.out hb6);replace HRD:=hid (HRD.out.below hb6);replace HB:=hid (bnext HB.out hb6);replace HT:=hid (mt.keep _ _ HT.out hb6);have HRC:=hid (hr.below hb5);have HC:=hid hD;have HW5:=hid hw5;obtain ⟨G2,hG2⟩:∃ G,G=u3.heap.size:=⟨_,rfl⟩
  clear hr hb hfr hw5 hb5 hb6 hz hD;go_upto_region 14 with fail
  rw [HW5.out];rw [<- hG2] at HY ⊢;clear hG2 HW5 hsc;have hQ:Calls Tryz.prog 12 #[.agg D,.agg C] u4 fun e w'=>e = .returned (.bool true)/\Below u4.heap.size u4 w':=by
   have h:=rEqM x1 M x2 M u4 HRD.out HRC.out;rw [NM.eqm_self] at h;rw [HD.out,HC.out];exact h
  have HQ:=hid hQ;clear hQ;go_wp2_with (first | (refine wpList_load_rowG rfl 33 _ rfl G rfl 33 D (0,0) _ HX.out Tryz.underlying33 rfl (by rw [hsd];kernel_rfl) ?_) | (refine wpList_load_rowG rfl 33 _ rfl G2 rfl 33 C (0,0) _ HY.out Tryz.underlying33 rfl (by rw [hsz];kernel_rfl) ?_))
  refine HQ.out.mono ?_;rintro e u5 ⟨rfl,hb⟩;replace HB:=hid (bnext HB.out hb);replace HT:=hid (mt.keep _ _ HT.out hb);clear hb HQ HX HY HRD HRC HD HC;have HQ:=hid (cAwake14 Tw mt u5 HT.out);go_wp2_with fail
  refine HQ.out.mono ?_;rintro e u6 ⟨rfl,hb⟩;replace HB:=hid (bnext HB.out hb);go_wp2
  go_ret;exact ⟨rfl,HB.out⟩
 ·obtain ⟨v8,hcut,hrd8⟩:=HO7.out.rd.cut0 k (by have:=HKL.out;omega);obtain ⟨a8,l8,c8,rfl⟩:∃ a l c,v8 = .slice a l c:=by (obtain ⟨a,c,h,_⟩:=hrd8.shape;exact ⟨_,_,_,h⟩)
  have HRY:=hid hrd8;clear hrd8;go_upto_region 12 with fail
  clear hcut;have hd1:=mt.decode _ (X.take k) w7 HT.out HRY.out;have hd2:=fun w' (h:Below w7.heap.size w7 w')=>rDecM _ (X.take k) w' (HRY.out.below h)
  obtain ⟨M,hM⟩:∃ M,M=NM.decM ((X.take k)):=⟨_,rfl⟩
  simp only [<- hM] at hd1 hd2;obtain ⟨E,U,M⟩:=M;dsimp only at hd1 hd2;have hE1:E=1:=congrArg Prod.fst (hM.trans (HCUT.out k HKL.out));have hE2:(E==1)=true:=by rw [hE1];rfl
  clear hE1;have HQ:=hid (dec_cells hd1);have H2:=hid (fun w' (h:Below w7.heap.size w7 w')=>dec_cells (hd2 w' h));have HBW:=hid (Below.refl w7.heap.size w7);clear hd1 hd2 hM;go_wp2_with fail
  refine HQ.out.mono ?_;rintro e u1 ⟨D,x1,rfl,hD,hr,hb⟩;clear HQ;have hsd:D.size=18:=by rw [hD];rfl
  have hfr:=below_fresh u1 (.cells zC 33);have hz:(u1.alloc (.cells zC 33)).heap[u1.heap.size]? = some (.cells zC 33 (0,0)):=heap_alloc_new u1 _;have hsc:=run_storeCells_row (u1.alloc (.cells zC 33)) u1.heap.size 33 zC D hz (by rw [hsd];rfl) (by rw [hD];exact arr_one hr)
  obtain ⟨u2,hw5⟩:∃ w5,(u1.alloc (.cells zC 33)).setRow u1.heap.size D=w5:=⟨_,rfl⟩
  have HX:=hid (show u2.heap[u1.heap.size]? = some (.cells D 33 (0,0)) by rw [<- hw5];exact setRow_heap _ _ _ _ _ _ hz);have hb5:Below u1.heap.size u1 u2:=by rw [<- hw5];exact seen hfr (Nat.le_refl _) (onlyRow _ _ _)
  have hb6:=bnext hb hb5;replace HB:=hid (bnext HB.out hb6);replace HT:=hid (mt.keep _ _ HT.out hb6);replace HBW:=hid (bnext HBW.out hb6);have HRD:=hid (hr.below hb5);have HD:=hid hD;have HW5:=hid hw5;obtain ⟨G,hG⟩:∃ G,G=u1.heap.size:=⟨_,rfl⟩
  clear hr hb hfr hw5 hb5 hb6 hz hD;go_upto_region 13 with fail
  rw [HW5.out];rw [<- hG] at HX ⊢;clear hG HW5 hsc;have HQ:=hid (H2.out u2 HBW.out);go_wp2_with fail
  refine HQ.out.mono ?_;rintro e u3 ⟨C,x2,rfl,hD,hr,hb⟩;clear HQ H2;have hsz:C.size=18:=by rw [hD];rfl
  have hfr:=below_fresh u3 (.cells zC 33);have hz:(u3.alloc (.cells zC 33)).heap[u3.heap.size]? = some (.cells zC 33 (0,0)):=heap_alloc_new u3 _;have hsc:=run_storeCells_row (u3.alloc (.cells zC 33)) u3.heap.size 33 zC C hz (by rw [hsz];rfl) (by rw [hD];exact arr_one hr)
  obtain ⟨u4,hw5⟩:∃ w5,(u3.alloc (.cells zC 33)).setRow u3.heap.size C=w5:=⟨_,rfl⟩
  have HY:=hid (show u4.heap[u3.heap.size]? = some (.cells C 33 (0,0)) by rw [<- hw5];exact setRow_heap _ _ _ _ _ _ hz);have hb5:Below u3.heap.size u3 u4:=by rw [<- hw5];exact seen hfr (Nat.le_refl _) (onlyRow _ _ _)
  have hb6:=bnext hb hb5;replace HX:=hid (below_block HX.out hb6);replace HRD:=hid (HRD.out.below hb6);replace HB:=hid (bnext HB.out hb6);replace HT:=hid (mt.keep _ _ HT.out hb6);have HRC:=hid (hr.below hb5);have HC:=hid hD;have HW5:=hid hw5;obtain ⟨G2,hG2⟩:∃ G,G=u3.heap.size:=⟨_,rfl⟩
  clear hr hb hfr hw5 hb5 hb6 hz hD;go_upto_region 14 with fail
  rw [HW5.out];rw [<- hG2] at HY ⊢;clear hG2 HW5 hsc;have hQ:Calls Tryz.prog 12 #[.agg D,.agg C] u4 fun e w'=>e = .returned (.bool true)/\Below u4.heap.size u4 w':=by
   have h:=rEqM x1 M x2 M u4 HRD.out HRC.out;rw [NM.eqm_self] at h;rw [HD.out,HC.out];exact h
  have HQ:=hid hQ;clear hQ;go_wp2_with (first | (refine wpList_load_rowG rfl 33 _ rfl G rfl 33 D (0,0) _ HX.out Tryz.underlying33 rfl (by rw [hsd];kernel_rfl) ?_) | (refine wpList_load_rowG rfl 33 _ rfl G2 rfl 33 C (0,0) _ HY.out Tryz.underlying33 rfl (by rw [hsz];kernel_rfl) ?_))
  refine HQ.out.mono ?_;rintro e u5 ⟨rfl,hb⟩;replace HB:=hid (bnext HB.out hb);replace HT:=hid (mt.keep _ _ HT.out hb);clear hb HQ HX HY HRD HRC HD HC;have HQ:=hid (cAwake14 Tw mt u5 HT.out);go_wp2_with fail
  refine HQ.out.mono ?_;rintro e u6 ⟨rfl,hb⟩;replace HB:=hid (bnext HB.out hb);go_wp2
  go_ret;exact ⟨rfl,HB.out⟩
end
section
open Go.RowKit
open NM (Ms)
theorem cMT:MT Tb where
 keep:=fun _ _ h hb=>h.below hb
 validate:=fun x m w hT h hE hk=>pValidateM x m w hT h hE.n hk
 equal:=fun x m x' m' w h h'=>pEqualM x x' m m' w h h'
 append:=fun v bs x m w _ hv h he hE hh hb=>pAppendM v bs x m w hv h he hE hh hb
 decode:=fun v xs w hT hv=>pDecodeM v xs w hT hv
end
section
set_option maxRecDepth 100000
open Go.ChangeShapes Go.WideShapes Go.ChangeAt Go.RowKit
section
variable {H:Type} {enc:TypeId×Value->H} {W:World}
theorem u16m_of_trod {r:Reach} {b0:Nat} {v:Value} {d:DataW H} {p:List MemPlace} (hv:Value.okWide Tryz.prog W r b0 44 v) (h:DataW.Trod enc Tryz.prog W 0 (fun _=>true) true 44 v d p):∃ k:Nat,v = .int .u16 (k:Int)/\k<65536:=by
 obtain ⟨fuel,hf⟩:=h;obtain ⟨k',rfl⟩:=okWide_int Tryz.underlying44 hv;obtain ⟨k,hk,_,hw⟩:=DataW.trod_int Tryz.underlying44 hf;have hk':[Value.int .u16 k'] = [Value.int .u16 k]:=hk;injection hk' with hk' _
 injection hk' with _ hk'
 subst hk';have hw':0<=k'/\k'<=65535:=by simpa [Lit.wf,IntKind.min,IntKind.max,IntKind.signed,IntKind.bits] using hw
 exact ⟨k'.toNat,by rw [Int.toNat_of_nonneg hw'.1],by omega⟩
theorem u8m_of_trod {r:Reach} {b0:Nat} {v:Value} {d:DataW H} {p:List MemPlace} (hv:Value.okWide Tryz.prog W r b0 5 v) (h:DataW.Trod enc Tryz.prog W 0 (fun _=>true) true 5 v d p):∃ k:Nat,v = .int .u8 (k:Int)/\k<256:=by
 obtain ⟨fuel,hf⟩:=h;obtain ⟨k',rfl⟩:=okWide_int Tryz.underlying5 hv;obtain ⟨k,hk,_,hw⟩:=DataW.trod_int Tryz.underlying5 hf;have hk':[Value.int .u8 k'] = [Value.int .u8 k]:=hk;injection hk' with hk' _
 injection hk' with _ hk'
 subst hk';have hw':0<=k'/\k'<=255:=by simpa [Lit.wf,IntKind.min,IntKind.max,IntKind.signed,IntKind.bits] using hw
 exact ⟨k'.toNat,by rw [Int.toNat_of_nonneg hw'.1],by omega⟩
theorem bool_of_trod {r:Reach} {b0:Nat} {v:Value} {d:DataW H} {p:List MemPlace} (hv:Value.okWide Tryz.prog W r b0 4 v) (_:DataW.Trod enc Tryz.prog W 0 (fun _=>true) true 4 v d p):∃ c,v = .bool c/\True:=by
 obtain ⟨c,hc⟩:=okWide_bool Tryz.underlying4 hv;exact ⟨c,hc,trivial⟩
end
end
section
open Go.RowKit Go.Lib
theorem tabs_of {W:World} (h:laidMetH Tryz.prog [("unicode/utf8.acceptRanges",Rows.laid_unicode_utf8_acceptRanges),("unicode/utf8.first",Rows.laid_unicode_utf8_first)] W):Tb W:=by
 rw [MakeChecks.laidMetH_plain _ _ _ (by kernel_rfl)] at h;have e1:(Rows.laid_unicode_utf8_first:DataW Unit)=firstData:=Pinned.utf8First_eq;have e2:(Rows.laid_unicode_utf8_acceptRanges:DataW Unit)=acceptData:=by kernel_rfl
 rw [e1,e2] at h;exact utf8Tabs_of_readsT { Tryz.decR with } ⟨by kernel_rfl,by kernel_rfl,by kernel_rfl,by kernel_rfl,by kernel_rfl,by kernel_rfl,by kernel_rfl⟩ (Lib.laidMet.reads h (.tail _ (.head _))) (Lib.laidMet.reads h (.head _))
theorem handed_all {H:Type} {enc:TypeId×Value->H} {a:Assume} {C:Checked} {os:Os} {f:FuncId} {fn:Func} {s:ChangeSpec} {conds:List PathCond} {apart fresh handsOn again:Bool} {X:World->Array Value->Prop}
  (hX:∀ (w w':World) (args:Array Value),w.heap=w'.heap->X w args->X w' args)
  (own:ownKnob C.prog.godebug=none) (started:os.Started) (noInit:C.prog.inits.idxOf? f=none) (hfn:C.prog.funcs[f]? = some fn)
  (witness:∃ (w:World) (tape:Tape) (i:Input),w.os=os/\(w.forCall tape i).Shaped C.prog/\i.vars = []/\Input.okWide C.prog (w.forCall tape i) .any w.heap.size f i /\
   ((s.pre enc C.prog fn conds apart (w.forCall tape i).memory i.args/\X (w.forCall tape i).memory i.args)/\sizedMet enc C.prog fn (OpenSpec.ofChange s) apart (w.forCall tape i).memory i.args)/\a.holds C.prog (lone (Frame.enter C.prog f i.args .normal) [] (w.forCall tape i)))
  (contract:∀ (W:World) (base:Nat) (args:Array Value) (ds gs:List (DataW H)) (before:List MemPlace),
   (∀ (j:Nat) t v,fn.params[j]? = some t->args[j]? = some v->Value.okWide C.prog W .any base t v) ->
   DataW.Whole enc C.prog fn.params.toList s.vars apart W args.toList ds gs before->X W args->W.ShapedOpen C.prog ->
   (DataW.weightsEach C.prog (fn.params.toList++s.plain.varTypes C.prog) (ds++gs)).all (· <= reachBytes)=true ->
   Calls C.prog f args W fun e W'=>∃ v,e = .returned v/\s.post enc C.prog fn apart fresh handsOn again W args v W') :
  ReturnsInHanded a C os f .any (fun w args=>(s.pre enc C.prog fn conds apart w args/\X w args)/\sizedMet enc C.prog fn (OpenSpec.ofChange s) apart w args) (s.post enc C.prog fn apart fresh handsOn again):=by
 refine returnsInHanded_of_calls own started noInit witness ?_;intro w tape i _ hsh _ hok hpre hholds;obtain ⟨_,_,_,fn',hfn',_,_,_,_,hval⟩:=hok;have e:fn'=fn:=Option.some.inj (hfn'.symm.trans hfn);subst e;obtain ⟨⟨⟨ds,gs,before,hw,hc⟩,hx⟩,hz⟩:=hpre;have hw':=DataW.Whole.of_heap (w':=w.forCall tape i) (by rfl) hw;refine (contract (w.forCall tape i) w.heap.size i.args ds gs before hval hw' (hX _ _ _ (by rfl) hx) hsh (hz.weights hw)).mono fun e W' ⟨v,he,hp⟩=>?_
 subst he;exact ChangeSpec.post_blind hp
end
end Go.Proofs.YtahcehbgfhdbjaaGreatDoor

