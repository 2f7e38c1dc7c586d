/-
  KG: joined texts, what nothing names left out.
-/
import Derived.Test.YtahcehbgfhdbjaaGreatDoorQUKF
import Derived.Test.YtahcehbgfhdbjaaGreatDoorQUKE
import Derived.Lib.SmallJoins
import Derived.Laws.Rows
import Derived.Lib.LazyBuf
import Derived.SizedLaws
import Derived.Deep.SlicePairs
import Derived.Deep.Strs
import Derived.ChangeSlices
import Derived.ProofKit
import Derived.OpenShut
import Derived.ChangeOld
set_option maxHeartbeats 4000000
set_option maxRecDepth 100000
open Go.Lib (hid)
namespace Go.Proofs.YtahcehbgfhdbjaaGreatDoor.CM
open JM (Chg)
open VM (Ent)
abbrev Fp:=Int×Int×List Chg
instance decFp:DecidableEq Chg:=fun a b=>inferInstanceAs (Decidable (a=b))
def errF (f:Fp):Int:=JM.errP f.1 f.2.1 f.2.2
def errL:Int×Int->List Fp->Int
 | _,[]=>0
 | pr,f :: r=>
  if errF f≠0 then errF f
  else if JM.cmpP f.1 f.2.1 pr.1 pr.2<=0 then 7
  else if 1<f.2.1/\¬ (pr.1=f.1/\pr.2=f.2.1 - 1) then 8
  else errL (f.1,f.2.1) r
def Ok (fs:List Fp):Prop:=errL (0,0) fs=0
theorem errF_num {f:Fp} (h:errF f=0):201<=f.1/\f.1<=203/\1<=f.2.1/\f.2.1<=3:=by
 unfold errF JM.errP at h;split at h
 ·cases h
 ·rename_i hn
  have h1:JM.isAdm f.1=true:=by cases hx:JM.isAdm f.1 with
   | true=>rfl
   | false=>exact absurd (.inl hx) hn
  have:=JM.isAdm_iff.1 h1;omega
theorem errL_cons {pr:Int×Int} {f:Fp} {r:List Fp} (h:errL pr (f :: r)=0) :
  errF f=0/\0<JM.cmpP f.1 f.2.1 pr.1 pr.2/\(1<f.2.1->pr.1=f.1/\pr.2=f.2.1 - 1)/\errL (f.1,f.2.1) r=0:=by
 unfold errL at h;split at h
 ·rename_i h1;exact absurd h h1
 ·rename_i h1
  split at h
  ·cases h
  ·rename_i h2
   split at h
   ·cases h
   ·rename_i h3
    refine ⟨by omega,by omega,fun h4=>?_,h⟩;by_cases h5:pr.1=f.1/\pr.2=f.2.1 - 1
    ·exact h5
    ·exact absurd ⟨h4,h5⟩ h3
theorem cmpP_pos {a m b n:Int}:0<JM.cmpP a m b n ↔ b<a∨(a=b/\n<m):=by
 unfold JM.cmpP;(repeat' split) <;> omega
theorem next_of {pr:Int×Int} {f:Fp} {r:List Fp} (h:errL pr (f :: r)=0) (h0:0<=pr.2):(f.1=pr.1/\f.2.1=pr.2+1)∨(pr.1<f.1/\f.2.1=1):=by
 obtain ⟨h1,h2,h3,_⟩:=errL_cons h;have:=errF_num h1;rw [cmpP_pos] at h2;by_cases h4:1<f.2.1
 ·have:=h3 h4;omega
 ·omega
def lt (x y:Fp):Prop:=x.1<y.1∨(x.1=y.1/\x.2.1<y.2.1)
def Srt (fs:List Fp):Prop:=fs.Pairwise lt
theorem errL_all {fs:List Fp}:∀ {pr:Int×Int},errL pr fs=0 -> ∀ x∈fs,errF x=0:=by
 induction fs with
 | nil=>intro pr _ x hx;cases hx
 | cons f r ih=>
  intro pr h x hx;obtain ⟨h1,_,_,h4⟩:=errL_cons h;rcases List.mem_cons.1 hx with rfl | hx
  ·exact h1
  ·exact ih h4 x hx
theorem Ok.all {fs:List Fp} (h:Ok fs):∀ x∈fs,errF x=0:=errL_all h
def ct (fs:List Fp) (a:Int):Int:=((fs.filter fun f=>decide (f.1=a)).length:Int)
def hasK (fs:List Fp) (a n:Int):Bool:=fs.any fun f=>decide (f.1=a) && decide (f.2.1=n)
theorem ct_nil (a:Int):ct [] a=0:=rfl
theorem ct_cons (f:Fp) (r:List Fp) (a:Int):ct (f :: r) a=(if f.1=a then 1 else 0)+ct r a:=by
 unfold ct;by_cases h:f.1=a
 ·rw [List.filter_cons_of_pos (by simpa using h),if_pos h,List.length_cons];omega
 ·rw [List.filter_cons_of_neg (by simpa using h),if_neg h];omega
theorem ct_pos (fs:List Fp) (a:Int):0<=ct fs a:=by unfold ct;omega
theorem hasK_iff {fs:List Fp} {a n:Int}:hasK fs a n=true ↔ ∃ f∈fs,f.1=a/\f.2.1=n:=by
 unfold hasK;simp [List.any_eq_true]
theorem ct_low {fs:List Fp}:∀ {pr:Int×Int} {a:Int},errL pr fs=0->a<pr.1->ct fs a=0:=by
 induction fs with
 | nil=>intro pr a _ _;rfl
 | cons f r ih=>
  intro pr a h ha;obtain ⟨h1,h2,h3,h4⟩:=errL_cons h;rw [cmpP_pos] at h2;rw [ct_cons,if_neg (by omega),ih h4 (by simp only;omega)];rfl
theorem has_ct {fs:List Fp}:∀ {pr:Int×Int} (a n:Int),errL pr fs=0->0<=pr.2 ->
  (hasK fs a n=true ↔ (pr.1<=a/\(if a=pr.1 then pr.2 else 0)<n/\n<=(if a=pr.1 then pr.2 else 0)+ct fs a)):=by
 induction fs with
 | nil=>
  intro pr a n _ _;rw [ct_nil];constructor
  ·intro h;cases h
  ·rintro ⟨_,h1,h2⟩;omega
 | cons f r ih=>
  intro pr a n h h0;have hn:=next_of h h0;obtain ⟨h1,h2,h3,h4⟩:=errL_cons h;have hf:=errF_num h1;have ih:=ih (pr:=(f.1,f.2.1)) a n h4 (by simp only;omega);simp only at ih;have e:hasK (f :: r) a n=((decide (f.1=a) && decide (f.2.1=n)) || hasK r a n):=rfl;rw [e,ct_cons,Bool.or_eq_true,ih,Bool.and_eq_true,decide_eq_true_iff,decide_eq_true_iff];by_cases hA:f.1=a
  ·subst hA;simp only [if_true,true_and];have hp:=ct_pos r f.1;split <;> omega
  ·have hz:a<f.1->ct r a=0:=fun hl=>ct_low h4 hl
   have hp:=ct_pos r a;rw [if_neg (fun e=>hA e.symm),if_neg hA];constructor
   ·rintro (h5 | h5)
    ·exact absurd h5.1 hA
    ·rw [if_neg (by omega)];omega
   ·intro h5;refine .inr ?_;by_cases hl:a<f.1
    ·rw [hz hl] at h5;omega
    ·rw [if_neg (by omega)] at h5;omega
theorem Ok.has {fs:List Fp} (h:Ok fs) (a n:Int) (hn:1<=n):hasK fs a n=true ↔ n<=ct fs a:=by
 have:=has_ct (pr:=(0,0)) a n h (Int.le_refl _);simp only at this;rw [this];constructor
 ·rintro ⟨_,_,h2⟩;split at h2 <;> omega
 ·intro h2;by_cases ha:a<0
  ·have:=ct_low (pr:=(0,0)) h ha;omega
  ·refine ⟨by omega,?_,?_⟩ <;> split <;> omega
theorem Ok.ct3 {fs:List Fp} (h:Ok fs) (a:Int):ct fs a<=3:=by
 by_cases h0:ct fs a<1
 ·omega
 ·obtain ⟨f,hf,h1,h2⟩:=hasK_iff.1 ((h.has a (ct fs a) (by omega)).2 (Int.le_refl _));have:=errF_num (h.all f hf);omega
theorem ct_sum {fs:List Fp} (h:∀ x∈fs,errF x=0):(fs.length:Int)=ct fs 201+ct fs 202+ct fs 203:=by
 induction fs with
 | nil=>rfl
 | cons f r ih=>
  have h1:=errF_num (h f (by simp));have h2:=ih (fun x hx=>h x (by simp [hx]));rw [ct_cons,ct_cons,ct_cons,List.length_cons];have:f.1=201∨f.1=202∨f.1=203:=by omega
  rcases this with e | e | e <;> simp [e] <;> omega
theorem Ok.nine {fs:List Fp} (h:Ok fs):fs.length<=9:=by
 have:=ct_sum h.all;have h1:=h.ct3 201;have h2:=h.ct3 202;have h3:=h.ct3 203;omega
def rs (p:List Fp) (g:Int->Int):List Fp:=p.filter fun f=>decide (f.2.1<=g f.1)
def un:List Fp->List Fp->List Fp
 | a,[]=>a
 | [],y :: b=>y :: b
 | x :: a,y :: b=>if JM.cmpP x.1 x.2.1 y.1 y.2.1<0 then x :: un a (y :: b) else if JM.cmpP x.1 x.2.1 y.1 y.2.1=0 then x :: un a b else y :: un (x :: a) b
termination_by a b=>a.length+b.length
def cons (a b:List Fp):Bool:=b.all fun f=>decide (f∈a)
def conk (a b:List Fp):Bool:=b.all fun f=>hasK a f.1 f.2.1
def Agr (a b:List Fp):Prop:=∀ x∈a,∀ y∈b,x.1=y.1->x.2.1=y.2.1->x=y
def meet (a b:List Fp):List Fp:=rs a (ct b)
def meetK (a b:List Fp):List Fp:=a.filter fun f=>hasK b f.1 f.2.1
theorem cons_iff {a b:List Fp}:cons a b=true ↔ ∀ f∈b,f∈a:=by unfold cons;simp
end Go.Proofs.YtahcehbgfhdbjaaGreatDoor.CM
namespace Go.Proofs.YtahcehbgfhdbjaaGreatDoor
section
open Go.RowKit Go.Joins
open JM (Chg)
open CM (Fp)
open VM (Ent)
theorem proE:IsElem Tryz.prog 25 93 3 40 encQ where
 ht:=Tryz.underlying25
 info:=by
  obtain ⟨i0,hi,hz0,hz1,hz2⟩:=info_parts (show (Tryz.prog.info? 93).map (fun i=>(i.zero,i.size,i.bytes))=some (some (.agg #[.int .i64 0,.int .i64 0,.slice none 0 0]),3,40) by kernel_rfl);exact ⟨i0,_,hi,hz0,hz1,hz2,rfl⟩
 len:=fun _=>rfl
 one:=by
  rintro ⟨a,n,ad,l,c⟩ u hu;simp only [encQ,List.mem_cons,List.mem_nil_iff,or_false] at hu;rcases hu with rfl | rfl | rfl <;> rfl
 pos:=by decide
 fits:=by decide
theorem hlQ:0<3 /\ ∀ x,(encQ x).length=3:=⟨by decide,fun _=>rfl⟩
abbrev OwnQ:=OwnG encQ 93 3
abbrev RdQ:=RdG encQ 3
theorem wp_appG1' {α:Type} {P:Program} {t e:TypeId} {size bytes:Nat} {enc:α->List Value} {w:World} {ops:Array Oper} {rest:List Oper} {o:Oper} {a:Act} {Q:Exit->Act->World->Prop} {base:Nat} {v:Value} {ys:List α}
  (E:IsElem P t e size bytes enc) (x:α) (B0:Nat) (hB0:w.heap.size=B0) (hgd:o.guard=none) (s r:Operand) (ho:o.op = .call { callee:=.builtin .append,args:=#[s,r],argTypes:=#[t,t] })
  (hs:a.eval s=v) (hown:OwnG enc e size base w v ys) (hx:a.eval r = .slice (some ⟨B0,0,none⟩) 1 1) (hlen:ys.length<=1073741824) (hb:base<=w.heap.size)
  (h:∀ v' w',OwnG enc e size base w' v' (ys ++ [x])->Below base w w'->KeepsX e w w'->wpList P ops Q rest (a.put o.dst v') w') :
  wpList P ops Q (o :: rest) a (w.alloc (.cells (enc x).toArray e)):=
 wp_appG1 E x hgd s r ho hs hown (by rw [hx,hB0]) hlen hb (fun v' w' h1 h2 h3 _=>h v' w' h1 h2 h3)
theorem atQ {w:World} {a:Option Addr} {n c:Nat} {xs:List Pro} (h:RdQ w (.slice a n c) xs) (i:Nat) (x n':Int) (ad:Option Addr) (l cp:Nat) (hk:xs[i]? = some (x,n',ad,l,cp)) :
  ∃ b o,(∀ w0,(Instr.indexAt 25 (.slice a n c) (.int .i64 (i:Int))).run Tryz.prog w0 = .ok (.pointer (some ⟨b,o,none⟩)) w0)/\b<w.heap.size /\
   w.cell? ⟨b,o,none⟩=some (.int .i64 x)/\w.cell? ⟨b,o+1,none⟩=some (.int .i64 n')/\w.cell? ⟨b,o+2,none⟩=some (.slice ad l cp):=by
 obtain ⟨b,o,h1,h2,h3⟩:=h.at_ proE i _ hk;exact ⟨b,o,h1,h2,h3 0 _ rfl,h3 1 _ rfl,h3 2 _ rfl⟩
def sl (q:Pro):Value:=.slice q.2.2.1 q.2.2.2.1 q.2.2.2.2
def Tell1 (w:World) (q:Pro) (f:Fp):Prop:=q.1=f.1/\q.2.1=f.2.1/\RdC w (sl q) f.2.2
theorem Tell1.below {w w':World} {q:Pro} {f:Fp} (h:Tell1 w q f) (hb:Below w.heap.size w w'):Tell1 w' q f:=⟨h.1,h.2.1,h.2.2.below hb⟩
def Tel (w:World):List Pro->List Fp->Prop
 | [],[]=>True
 | q :: qs,f :: fs=>Tell1 w q f/\Tel w qs fs
 | _,_=>False
theorem Tel.below {w w':World} (hb:Below w.heap.size w w'):∀ {qs:List Pro} {fs:List Fp},Tel w qs fs->Tel w' qs fs
 | [],[],_=>trivial
 | _ :: _,_ :: _,h=>⟨h.1.below hb,Tel.below hb h.2⟩
 | [],_ :: _,h=>h.elim
 | _ :: _,[],h=>h.elim
theorem Tel.len {w:World}:∀ {qs:List Pro} {fs:List Fp},Tel w qs fs->qs.length=fs.length
 | [],[],_=>rfl
 | _ :: _,_ :: _,h=>by rw [List.length_cons,List.length_cons,Tel.len h.2]
 | [],_ :: _,h=>h.elim
 | _ :: _,[],h=>h.elim
theorem Tel.get {w:World}:∀ {qs:List Pro} {fs:List Fp} {k:Nat} {f:Fp},Tel w qs fs->fs[k]? = some f -> ∃ q,qs[k]? = some q/\Tell1 w q f
 | [],[],_,_,_,hk=>by simp at hk
 | q :: _,g :: _,0,_,h,hk=>⟨q,rfl,by simp at hk;subst hk;exact h.1⟩
 | _ :: qs,_ :: fs,k+1,f,h,hk=>by
  obtain ⟨q,h1,h2⟩:=Tel.get (k:=k) h.2 (by simpa using hk);exact ⟨q,by simpa using h1,h2⟩
 | [],_ :: _,_,_,h,_=>h.elim
 | _ :: _,[],_,_,h,_=>h.elim
theorem Tel.app {w:World}:∀ {qs qs2:List Pro} {fs fs2:List Fp},Tel w qs fs->Tel w qs2 fs2->Tel w (qs++qs2) (fs++fs2)
 | [],_,[],_,_,k=>k
 | _ :: _,_,_ :: _,_,h,k=>⟨h.1,Tel.app h.2 k⟩
 | [],_,_ :: _,_,h,_=>h.elim
 | _ :: _,_,[],_,h,_=>h.elim
theorem Tel.take {w:World}:∀ {qs:List Pro} {fs:List Fp} (n:Nat),Tel w qs fs->Tel w (qs.take n) (fs.take n)
 | _,_,0,_=>trivial
 | [],[],_+1,_=>trivial
 | _ :: _,_ :: _,n+1,h=>⟨h.1,Tel.take n h.2⟩
 | [],_ :: _,_,h=>h.elim
 | _ :: _,[],_,h=>h.elim
theorem Tel.one {w:World} {q:Pro} {f:Fp} (h:Tell1 w q f):Tel w [q] [f]:=⟨h,trivial⟩
def RdF (w:World) (v:Value) (fs:List Fp):Prop:=∃ qs,RdQ w v qs/\Tel w qs fs
theorem RdF.below {w w':World} {v:Value} {fs:List Fp} (h:RdF w v fs) (hb:Below w.heap.size w w'):RdF w' v fs:=by
 obtain ⟨qs,h1,h2⟩:=h;exact ⟨qs,h1.below hb,h2.below hb⟩
theorem RdF.nil (w:World):RdF w (.slice none 0 0) []:=⟨[],RdG.nil hlQ w,trivial⟩
theorem RdF.shape {w:World} {v:Value} {fs:List Fp} (h:RdF w v fs):∃ a c,v = .slice a fs.length c/\c<=9223372036854775807/\fs.length<=c:=by
 obtain ⟨qs,h1,h2⟩:=h;have:=h1.shape;rw [h2.len] at this;exact this
theorem RdF.at_ {w:World} {a:Option Addr} {n c:Nat} {fs:List Fp} (h:RdF w (.slice a n c) fs) (k:Nat) (x m:Int) (cs:List Chg) (hk:fs[k]? = some (x,m,cs)) :
  ∃ b o ad l cp,(∀ w0,(Instr.indexAt 25 (.slice a n c) (.int .i64 (k:Int))).run Tryz.prog w0 = .ok (.pointer (some ⟨b,o,none⟩)) w0)/\b<w.heap.size /\
   w.cell? ⟨b,o,none⟩=some (.int .i64 x)/\w.cell? ⟨b,o+1,none⟩=some (.int .i64 m)/\w.cell? ⟨b,o+2,none⟩=some (.slice ad l cp)/\RdC w (.slice ad l cp) cs:=by
 obtain ⟨qs,h1,h2⟩:=h;obtain ⟨⟨x',m',ad,l,cp⟩,h3,h4,h5,h6⟩:=h2.get hk;simp only at h4 h5;subst h4 h5;obtain ⟨b,o,hi,hb,c0,c1,c2⟩:=atQ h1 k _ _ _ _ _ h3;exact ⟨b,o,ad,l,cp,hi,hb,c0,c1,c2,h6⟩
def OwnF (w0:World) (base:Nat) (w:World) (v:Value) (fs:List Fp):Prop:=∃ qs,OwnQ base w v qs/\Tel w0 qs fs
section
variable {α:Type} {P:Program} {t e:TypeId} {size bytes:Nat} {enc:α->List Value}
end
def encE:Ent->List Value
 | (a,n)=>[.int .i64 a,.int .i64 n]
abbrev OwnE:=OwnG encE 110 2
end
section
open Go.RowKit
open JM (Chg)
open CM (Fp)
theorem errL_step (pr:Int×Int) (f:Fp) (r:List Fp):CM.errL pr (f :: r) =
  if CM.errF f≠0 then CM.errF f else if JM.cmpP f.1 f.2.1 pr.1 pr.2<=0 then 7 else if 1<f.2.1/\¬ (pr.1=f.1/\pr.2=f.2.1 - 1) then 8 else CM.errL (f.1,f.2.1) r:=by
 rw [CM.errL]
end
section
open Go.RowKit
open JM (Chg)
open CM (Fp)
def pre (fs:List Fp) (k:Nat):Int×Int:=if k=0 then (0,0) else ((fs.getD (k - 1) (0,0,[])).1,(fs.getD (k - 1) (0,0,[])).2.1)
theorem pre_succ {fs:List Fp} {k:Nat} {f:Fp} (h:fs[k]? = some f):pre fs (k+1)=(f.1,f.2.1):=by simp [pre,List.getD,h]
theorem rCompareL {w:World} (a m:Int) (ua:Option Addr) (ul uc:Nat) (b n:Int) (va:Option Addr) (vl vc:Nat) (p:Later w) :
  Calls Tryz.prog 119 #[pv a m (.slice ua ul uc),pv b n (.slice va vl vc)] p.val fun e w''=>e = .returned (.int .i64 (JM.cmpP a m b n)) /\ ∃ q:Later w,w''=q.val:=
 Calls.later (rCompare a m ua ul uc b n va vl vc p.val)
theorem rValidateC (v:Value) (fs:List Fp) (w:World) (h:RdF w v fs) :
  Calls Tryz.prog 71 #[v] w fun e w'=>e = .returned (.int .i64 (CM.errL (0,0) fs))/\Below w.heap.size w w':=by
 obtain ⟨ad,c,rfl,hc,hl⟩:=h.shape;obtain ⟨R,hR⟩:∃ R,R=CM.errL (0,0) fs:=⟨_,rfl⟩
 rw [<- hR];have H:=hid h;have HR:=hid hR;clear h hR;go_enter Tryz.func71,Tryz.ntmps71
 go_wp2
 go_loopw [3] (fun i wr=>∃ (k:Nat),k<=fs.length/\i = .int .i64 k/\Below w.heap.size w wr/\Hid (R=CM.errL (pre fs k) (fs.drop k))) (fun i _=>fs.length - (intOf i).toNat)
 case atStart=>exact ⟨0,Nat.zero_le _,rfl,Below.refl _ _,HR.out⟩
 case round=>
  obtain ⟨k,hk,rfl,hbl,he⟩:=hrel;clear HR;by_cases hlt:k<fs.length
  ·have hq:(k:Int)<(fs.length:Int):=by omega
   have hd:=hid (drop_get hlt);have hk2:=List.getElem?_eq_getElem hlt;have hp:=hid (pre_succ hk2);generalize fs[k]=f at hd hk2 hp;obtain ⟨x,m,cs⟩:=f;obtain ⟨b,o,da,dl,dc,hi,hb,c0,c1,c2,hrd⟩:=(H.out.below hbl).at_ k x m cs hk2;have e1:=hid (he.out.trans ((congrArg (CM.errL (pre fs k)) hd.out).trans (errL_step _ _ _)));have e2:Hid (R=if JM.errP x m cs≠0 then JM.errP x m cs else if JM.cmpP x m (pre fs k).1 (pre fs k).2<=0 then 7 else if 1<m/\¬ ((pre fs k).1=x/\(pre fs k).2=m - 1) then 8 else CM.errL (x,m) (fs.drop (k+1))):=e1.out;have hp':Hid (pre fs (k+1)=(x,m)):=hp.out;have HN:=hid (fun h=>CM.errF_num (f:=(x,m,cs)) h);have HV:=hid (rValidate x m (.slice da dl dc) cs _ hrd);clear hk2 he hd e1 hp hrd;by_cases hE:JM.errP x m cs=0
   ·obtain ⟨n1,n2,n3,n4⟩:=HN.out hE;simp only at n1 n2 n3 n4;rw [hE] at HV;have e3:=hid (e2.out.trans (if_neg (by rw [hE];simp)));clear e2 hE HN;go_wp2_with fail
    refine HV.out.mono ?_;rintro e w1 ⟨rfl,hb1⟩;have d0:=below_cell hb1 c0;have d1:=below_cell hb1 c1;have d2:=below_cell hb1 c2;have HB1:=hid (bnext hbl hb1);clear c0 c1 c2 HV hb1 hbl;by_cases h0:k=0
    ·subst h0;have hi0:∀ w0:World,(Instr.indexAt 25 (.slice ad fs.length c) (.int .i64 0)).run Tryz.prog w0 = .ok (.pointer (some ⟨b,o,none⟩)) w0:=hi;have hq0:(0:Int)<(fs.length:Int):=hq;have e4:=hid (e3.out.trans (if_neg (by show ¬ JM.cmpP x m 0 0<=0;have:=(@CM.cmpP_pos x m 0 0).2 (by omega);omega)));clear e3 hi hq;by_cases hm:1<m
     ·have e5:=hid (e4.out.trans (if_pos ⟨hm,by show ¬ ((0:Int)=x/\_);omega⟩));clear e4;go_wp2
      go_quiet (fail)
      go_wp2
      go_quiet (fail)
      go_wp2
      go_ret;rw [e5.out];exact ⟨rfl,(HB1.out.trans (below_drewN _ _ _)).trans (below_drewN _ _ _)⟩
     ·have e5:=hid (e4.out.trans (if_neg (fun h=>hm h.1)));have hm':decide (1<m)=false:=decide_eq_false hm;clear e4;go_wp2
      go_quiet (fail)
      go_wp2
      go_quiet (fail)
      go_wp2
      go_roundw
      case rel=>exact ⟨0+1,by omega,by go_num,HB1.out.trans (below_drewN _ _ _),by rw [hp'.out];exact e5⟩
      case measure=>simp [intOf];omega
    ·have hk1:(0:Int)<(k:Int):=by omega
     have hk2:0<k:=by omega
     have hk0:((k:Int)==0)=false:=beq_f (by omega);have hkl:k - 1<fs.length:=by omega
     have hg2:=List.getElem?_eq_getElem hkl;have hpk:pre fs k=(fs[k - 1].1,fs[k - 1].2.1):=by simp [pre,h0,List.getD,List.getElem?_eq_getElem hkl]
     generalize fs[k - 1]=g at hg2 hpk;obtain ⟨y,n,ds⟩:=g;simp only at hpk;rw [hpk] at e3;obtain ⟨b2,o2,ea,el,ec,hi2,hb2,f0,f1,f2,hrd2⟩:=(H.out.below HB1.out).at_ (k - 1) y n ds hg2;rw [show ((k - 1:Nat):Int)=(k:Int) - 1 by omega] at hi2;have hC:=fun p:Later w1=>rCompareL y n ea el ec x m da dl dc p
     have hcn:=JM.cmpP_neg y n x m;simp only at e3;clear hg2 hpk hrd2;have k0:∀ p:Later w1,p.val.cell? ⟨b,o,none⟩=some (.int .i64 x):=fun p=>below_cell p.h d0
     have k1:∀ p:Later w1,p.val.cell? ⟨b,o+1,none⟩=some (.int .i64 m):=fun p=>below_cell p.h d1
     have k2:∀ p:Later w1,p.val.cell? ⟨b,o+2,none⟩=some (.slice da dl dc):=fun p=>below_cell p.h d2
     have j0:∀ p:Later w1,p.val.cell? ⟨b2,o2,none⟩=some (.int .i64 y):=fun p=>below_cell p.h f0
     have j1:∀ p:Later w1,p.val.cell? ⟨b2,o2+1,none⟩=some (.int .i64 n):=fun p=>below_cell p.h f1
     have j2:∀ p:Later w1,p.val.cell? ⟨b2,o2+2,none⟩=some (.slice ea el ec):=fun p=>below_cell p.h f2
     by_cases hcl:JM.cmpP x m y n<=0
     ·have e4:=hid (e3.out.trans (if_pos hcl));have hge:0<=JM.cmpP y n x m:=by omega
      generalize JM.cmpP y n x m=C at hC hge;have HC:=hid hC;clear e3 hcl hcn hC d0 d1 d2 f0 f1 f2;go_wp2
      refine wp_region_later (by kernel_rfl) (by kernel_rfl) ?_;repeat (go_big_quiet_step (first | (go_at_call 119;with_reducible exact HC.out _)))
      refine wpQuiet_nil ?_;rintro _ ⟨p,rfl⟩;have HB2:=hid (bnext HB1.out p.h);generalize p.val=w2 at HB2 ⊢;go_wp2
      go_ret;rw [e4.out];exact ⟨rfl,HB2.out⟩
     ·have e4:=hid (e3.out.trans (if_neg hcl));have hge:¬ 0<=JM.cmpP y n x m:=by omega
      generalize JM.cmpP y n x m=C at hC hge;have HC:=hid hC;clear e3 hcl hcn hC;go_wp2
      refine wp_region_later (by kernel_rfl) (by kernel_rfl) ?_;repeat (go_big_quiet_step (first | (go_at_call 119;with_reducible exact HC.out _)))
      refine wpQuiet_nil ?_;rintro _ ⟨p,rfl⟩;have HB2:=hid (bnext HB1.out p.h);have x0:=below_cell p.h d0;have x1:=below_cell p.h d1;have y0:=below_cell p.h f0;have y1:=below_cell p.h f1;clear k0 k1 k2 j0 j1 j2 d0 d1 d2 f0 f1 f2 HC HB1;obtain ⟨w2,hw2⟩:∃ w2,w2=p.val:=⟨_,rfl⟩
      rw [<- hw2] at HB2 x0 x1 y0 y1 ⊢;clear hw2;have hw1:IntKind.i64.wrap (m - 1)=m - 1:=IntWalk.i64_in _ (by omega);by_cases hm:1<m
      ·by_cases hyx:y=x
       ·have q1:(y != x)=false:=bne_f hyx;by_cases hnm:n=m - 1
        ·have q2:(n != m - 1)=false:=bne_f hnm;have e5:=hid (e4.out.trans (if_neg (fun h=>h.2 ⟨hyx,hnm⟩)));clear e4 hyx hnm;go_wp2
         go_quiet (fail)
         go_wp2
         go_roundw
         case rel=>exact ⟨k+1,by omega,by go_num,HB2.out.trans (below_drewN _ _ _),by rw [hp'.out];exact e5⟩
         case measure=>simp [intOf];omega
        ·have q2:(n != m - 1)=true:=bne_t hnm;have e5:=hid (e4.out.trans (if_pos ⟨hm,fun h=>hnm h.2⟩));clear e4 hyx hnm;go_wp2
         go_quiet (fail)
         go_wp2
         go_ret;rw [e5.out];exact ⟨rfl,HB2.out.trans (below_drewN _ _ _)⟩
       ·have q1:(y != x)=true:=bne_t hyx;have e5:=hid (e4.out.trans (if_pos ⟨hm,fun h=>hyx h.1⟩));clear e4 hyx;go_wp2
        go_quiet (fail)
        go_wp2
        go_ret;rw [e5.out];exact ⟨rfl,HB2.out.trans (below_drewN _ _ _)⟩
      ·have e5:=hid (e4.out.trans (if_neg (fun h=>hm h.1)));have hm':decide (1<m)=false:=decide_eq_false hm;clear e4;go_wp2
       go_quiet (fail)
       go_wp2
       go_roundw
       case rel=>exact ⟨k+1,by omega,by go_num,HB2.out.trans (below_drewN _ _ _),by rw [hp'.out];exact e5⟩
       case measure=>simp [intOf];omega
   ·have e3:=hid (e2.out.trans (if_pos hE));have hne:(JM.errP x m cs != 0)=true:=bne_t hE;generalize JM.errP x m cs=E at HV e3 hne;clear e2 hE HN;go_wp2_with fail
    refine HV.out.mono ?_;rintro e w1 ⟨rfl,hb1⟩;go_wp2
    go_ret;rw [e3.out];exact ⟨rfl,bnext hbl hb1⟩
  ·have hq:¬ ((k:Int)<(fs.length:Int)):=by omega
   have e2:=hid (show R=0 by rw [he.out,List.drop_of_length_le (by omega)];rfl);clear he;go_wp2
   go_ret;rw [e2.out];exact ⟨rfl,hbl⟩
end
section
open Go.RowKit
open JM (Chg)
open CM (Fp)
def AtF (fs:List Fp) (x m:Int) (i:Nat):Prop:=i<=fs.length/\(∀ k f,fs[k]? = some f->k<i->JM.cmpP f.1 f.2.1 x m<0)/\(∀ k f,fs[k]? = some f->i<=k->0<=JM.cmpP f.1 f.2.1 x m)
def fndF (fs:List Fp) (x m:Int) (i:Nat):Bool:=match fs[i]? with | some f=>decide (JM.cmpP f.1 f.2.1 x m=0) | none=>false
end
section
open Go.RowKit
open JM (Chg)
open CM (Fp)
theorem eq_drop {xs ys:List Fp} {k:Nat} {f g:Fp} (h1:xs.drop k=f :: xs.drop (k+1)) (h2:ys.drop k=g :: ys.drop (k+1)) :
  decide (xs.drop k=ys.drop k)=(eqP f.1 f.2.1 f.2.2 g.1 g.2.1 g.2.2 && decide (xs.drop (k+1)=ys.drop (k+1))):=by
 obtain ⟨x,m,cs⟩:=f;obtain ⟨y,n,ds⟩:=g;rw [h1,h2];unfold eqP;rw [<- Bool.decide_and];refine decide_eq_decide.2 ?_;rw [List.cons_eq_cons];simp
theorem rEqualConfig (va vb:Value) (xs ys:List Fp) (w:World) (ha:RdF w va xs) (hb:RdF w vb ys) :
  Calls Tryz.prog 32 #[va,vb] w fun e w'=>e = .returned (.bool (decide (xs=ys)))/\Below w.heap.size w w':=by
 obtain ⟨aa,ac,rfl,hac,_⟩:=ha.shape;obtain ⟨ba,bc,rfl,hbc,_⟩:=hb.shape;have HA:=hid ha;have HB:=hid hb;clear ha hb;by_cases hlen:xs.length=ys.length
 ·obtain ⟨R,hR⟩:∃ R,R=decide (xs=ys):=⟨_,rfl⟩
  rw [<- hR];have HR:=hid hR;clear hR;have HL:=hid hlen;have hq0:((xs.length:Int) != (ys.length:Int))=false:=by simp;omega
  rw [<- hlen] at hq0 ⊢;clear hlen;go_enter Tryz.func32,Tryz.ntmps32
  go_wp2
  go_loopw [5] (fun i wr=>∃ k:Nat,k<=xs.length/\i = .int .i64 k/\Below w.heap.size w wr/\Hid (R=decide (xs.drop k=ys.drop k))) (fun i _=>xs.length - (intOf i).toNat)
  case atStart=>exact ⟨0,Nat.zero_le _,rfl,Below.refl _ _,HR.out⟩
  case round=>
   obtain ⟨k,hk,rfl,hbl,he⟩:=hrel;clear HR;by_cases hlt:k<xs.length
   ·have hlt2:k<ys.length:=by rw [<- HL.out];exact hlt
    have hq:(k:Int)<(xs.length:Int):=by omega
    have hatx:=List.getElem?_eq_getElem hlt;have haty:=List.getElem?_eq_getElem hlt2;have hdx:=drop_get hlt;have hdy:=drop_get hlt2;generalize xs[k]=f at hdx hatx;generalize ys[k]=g at hdy haty;have e1:=hid (he.out.trans (eq_drop hdx hdy));obtain ⟨x,m,cs⟩:=f;obtain ⟨y,n,ds⟩:=g;obtain ⟨b,o,da,dl,dc,hi,hb,c0,c1,c2,hrd⟩:=(HA.out.below hbl).at_ k x m cs hatx;obtain ⟨b2,o2,ea,el,ec,hi2,hb2,f0,f1,f2,hrd2⟩:=(HB.out.below hbl).at_ k y n ds haty;rw [<- HL.out] at hi2;have k0:∀ p:Later wr,p.val.cell? ⟨b,o,none⟩=some (.int .i64 x):=fun p=>below_cell p.h c0
    have k1:∀ p:Later wr,p.val.cell? ⟨b,o+1,none⟩=some (.int .i64 m):=fun p=>below_cell p.h c1
    have k2:∀ p:Later wr,p.val.cell? ⟨b,o+2,none⟩=some (.slice da dl dc):=fun p=>below_cell p.h c2
    have j0:∀ p:Later wr,p.val.cell? ⟨b2,o2,none⟩=some (.int .i64 y):=fun p=>below_cell p.h f0
    have j1:∀ p:Later wr,p.val.cell? ⟨b2,o2+1,none⟩=some (.int .i64 n):=fun p=>below_cell p.h f1
    have j2:∀ p:Later wr,p.val.cell? ⟨b2,o2+2,none⟩=some (.slice ea el ec):=fun p=>below_cell p.h f2
    have hE:=fun p:Later wr=>Calls.later (rEqual x m (.slice da dl dc) cs y n (.slice ea el ec) ds p.val (hrd.below p.h) (hrd2.below p.h))
    simp only at e1;generalize eqP x m cs y n ds=D at hE e1;have HE:=hid hE;clear hatx haty hdx hdy he hrd hrd2 c0 c1 c2 f0 f1 f2 hE hb hb2;cases D
    ·have e2:=hid (e1.out.trans (Bool.false_and _));clear e1;go_wp2
     refine wp_region_later (by kernel_rfl) (by kernel_rfl) ?_;repeat (go_big_quiet_step (first | (go_at_call 80;with_reducible exact HE.out _)))
     refine wpQuiet_nil ?_;rintro _ ⟨p',rfl⟩;have HB2:=hid (bnext hbl p'.h);generalize p'.val=w2 at HB2 ⊢;go_wp2
     go_ret;rw [e2.out];exact ⟨rfl,HB2.out⟩
    ·have e2:=hid (e1.out.trans (Bool.true_and _));clear e1;go_wp2
     refine wp_region_later (by kernel_rfl) (by kernel_rfl) ?_;repeat (go_big_quiet_step (first | (go_at_call 80;with_reducible exact HE.out _)))
     refine wpQuiet_nil ?_;rintro _ ⟨p',rfl⟩;have HB2:=hid (bnext hbl p'.h);generalize p'.val=w2 at HB2 ⊢;clear k0 k1 k2 j0 j1 j2 HE hbl;go_wp2
     go_roundw
     case rel=>exact ⟨k+1,by omega,by go_num,HB2.out,e2⟩
     case measure=>simp [intOf];omega
   ·have hq:¬ ((k:Int)<(xs.length:Int)):=by omega
    have e2:=hid (show R=true by rw [he.out,List.drop_of_length_le (by omega),List.drop_of_length_le (by rw [<- HL.out];omega)];rfl);clear he;go_wp2
    go_ret;rw [e2.out];exact ⟨rfl,hbl⟩
 ·have e2:=hid (show decide (xs=ys)=false from decide_eq_false fun h=>hlen (by rw [h]));have hq0:((xs.length:Int) != (ys.length:Int))=true:=by simp;omega
  clear hlen HA HB;go_enter Tryz.func32,Tryz.ntmps32
  go_wp2
  go_ret;rw [e2.out];exact ⟨rfl,Below.refl _ _⟩
theorem gEqualFunc (va vb:Value) (xs ys:List Fp) (w:World) (ha:RdF w va xs) (hb:RdF w vb ys) :
  Calls Tryz.prog 122 #[va,vb,.func (.func 113) #[] #[]] w fun e w'=>e = .returned (.bool (decide (xs=ys)))/\Below w.heap.size w w':=by
 obtain ⟨aa,ac,rfl,hac,_⟩:=ha.shape;obtain ⟨ba,bc,rfl,hbc,_⟩:=hb.shape;have HA:=hid ha;have HB:=hid hb;clear ha hb;by_cases hlen:xs.length=ys.length
 ·obtain ⟨R,hR⟩:∃ R,R=decide (xs=ys):=⟨_,rfl⟩
  rw [<- hR];have HR:=hid hR;clear hR;have HL:=hid hlen;have hq0:((xs.length:Int) != (ys.length:Int))=false:=by simp;omega
  rw [<- hlen] at hq0 ⊢;clear hlen;go_enter Tryz.func122,Tryz.ntmps122
  go_wp2
  go_loopw [17] (fun i wr=>∃ k:Nat,k<=xs.length/\i = .int .i64 k/\Below w.heap.size w wr/\Hid (R=decide (xs.drop k=ys.drop k))) (fun i _=>xs.length - (intOf i).toNat)
  case atStart=>exact ⟨0,Nat.zero_le _,rfl,Below.refl _ _,HR.out⟩
  case round=>
   obtain ⟨k,hk,rfl,hbl,he⟩:=hrel;clear HR;by_cases hlt:k<xs.length
   ·have hlt2:k<ys.length:=by rw [<- HL.out];exact hlt
    have hq:(k:Int)<(xs.length:Int):=by omega
    have hatx:=List.getElem?_eq_getElem hlt;have haty:=List.getElem?_eq_getElem hlt2;have hdx:=drop_get hlt;have hdy:=drop_get hlt2;generalize xs[k]=f at hdx hatx;generalize ys[k]=g at hdy haty;have e1:=hid (he.out.trans (eq_drop hdx hdy));obtain ⟨x,m,cs⟩:=f;obtain ⟨y,n,ds⟩:=g;obtain ⟨b,o,da,dl,dc,hi,hb,c0,c1,c2,hrd⟩:=(HA.out.below hbl).at_ k x m cs hatx;have hbx:=below_fresh wr (.cells #[.int .i64 x,.int .i64 m,.slice da dl dc] 93);have hpx:=PBox.fresh wr x m (.slice da dl dc);obtain ⟨wx,hwx⟩:∃ wx,wr.alloc (.cells #[.int .i64 x,.int .i64 m,.slice da dl dc] 93)=wx:=⟨_,rfl⟩
    rw [hwx] at hbx hpx;have hsx:wx.heap.size=wr.heap.size+1:=by rw [<- hwx];exact World.size_alloc _ _
    obtain ⟨b2,o2,ea,el,ec,hi2,hb2,f0,f1,f2,hrd2⟩:=(HB.out.below hbl).at_ k y n ds haty;rw [<- HL.out] at hi2;have hby:=below_fresh wx (.cells #[.int .i64 y,.int .i64 n,.slice ea el ec] 93);have hpy:=PBox.fresh wx y n (.slice ea el ec);rw [hsx] at hpy;obtain ⟨wy,hwy⟩:∃ wy,wx.alloc (.cells #[.int .i64 y,.int .i64 n,.slice ea el ec] 93)=wy:=⟨_,rfl⟩
    rw [hwy] at hby hpy;have hE:=cEqual x m (.slice da dl dc) cs y n (.slice ea el ec) ds wy ((hrd.below hbx).below hby) ((hrd2.below hbx).below hby);have hpx2:=hpx.below hby;have HBY:=hid (bnext (bnext hbl hbx) hby);have HWX:=hid hwx;have HWY:=hid hwy;simp only at e1;generalize eqP x m cs y n ds=D at hE e1;have HE:=hid hE;obtain ⟨p0,p1,p2⟩:=hpx2;obtain ⟨q0,q1,q2⟩:=hpy;clear hatx haty hdx hdy he hrd hrd2 hE hbx hpx hby hwx hwy hsx;cases D
    ·have e2:=hid (e1.out.trans (Bool.false_and _));clear e1;go_wp2_with fail
     rw [HWX.out,HWY.out];refine HE.out.mono ?_;rintro e w2 ⟨rfl,hb2⟩;go_wp2
     go_ret;rw [e2.out];exact ⟨rfl,bnext HBY.out hb2⟩
    ·have e2:=hid (e1.out.trans (Bool.true_and _));clear e1;go_wp2_with fail
     rw [HWX.out,HWY.out];refine HE.out.mono ?_;rintro e w2 ⟨rfl,hb2⟩;have HB2:=hid (bnext HBY.out hb2);clear p0 p1 p2 q0 q1 q2 c0 c1 c2 f0 f1 f2 hi hi2 HE HBY HWX HWY hbl hb2;go_wp2
     go_roundw
     case rel=>exact ⟨k+1,by omega,by go_num,HB2.out,e2⟩
     case measure=>simp [intOf];omega
   ·have hq:¬ ((k:Int)<(xs.length:Int)):=by omega
    have e2:=hid (show R=true by rw [he.out,List.drop_of_length_le (by omega),List.drop_of_length_le (by rw [<- HL.out];omega)];rfl);clear he;go_wp2
    go_ret;rw [e2.out];exact ⟨rfl,hbl⟩
 ·have e2:=hid (show decide (xs=ys)=false from decide_eq_false fun h=>hlen (by rw [h]));have hq0:((xs.length:Int) != (ys.length:Int))=true:=by simp;omega
  clear hlen HA HB;go_enter Tryz.func122,Tryz.ntmps122
  go_wp2
  go_ret;rw [e2.out];exact ⟨rfl,Below.refl _ _⟩
end
section
open Go.RowKit
open JM (Chg)
open CM (Fp)
def TelO (base:Nat) (w:World):List Pro->List Fp->Prop
 | [],[]=>True
 | q :: qs,f :: fs=>(q.1=f.1/\q.2.1=f.2.1/\OwnC base w (sl q) f.2.2)/\TelO base w qs fs
 | _,_=>False
theorem TelO.below {base:Nat} {w w':World} (hb:Below w.heap.size w w'):∀ {qs:List Pro} {fs:List Fp},TelO base w qs fs->TelO base w' qs fs
 | [],[],_=>trivial
 | _ :: _,_ :: _,h=>⟨⟨h.1.1,h.1.2.1,h.1.2.2.below hb⟩,TelO.below hb h.2⟩
 | [],_ :: _,h=>h.elim
 | _ :: _,[],h=>h.elim
theorem TelO.keep {base:Nat} {w w':World} (hk:KeepsX 93 w w'):∀ {qs:List Pro} {fs:List Fp},TelO base w qs fs->TelO base w' qs fs
 | [],[],_=>trivial
 | _ :: _,_ :: _,h=>⟨⟨h.1.1,h.1.2.1,ownG_keep h.1.2.2 hk (by decide)⟩,TelO.keep hk h.2⟩
 | [],_ :: _,h=>h.elim
 | _ :: _,[],h=>h.elim
theorem TelO.rd {base:Nat} {w:World}:∀ {qs:List Pro} {fs:List Fp},TelO base w qs fs->Tel w qs fs
 | [],[],_=>trivial
 | _ :: _,_ :: _,h=>⟨⟨h.1.1,h.1.2.1,h.1.2.2.rd⟩,TelO.rd h.2⟩
 | [],_ :: _,h=>h.elim
 | _ :: _,[],h=>h.elim
theorem TelO.snoc {base:Nat} {w:World} {q:Pro} {f:Fp} (k:q.1=f.1/\q.2.1=f.2.1/\OwnC base w (sl q) f.2.2):∀ {qs:List Pro} {fs:List Fp},TelO base w qs fs->TelO base w (qs ++ [q]) (fs ++ [f])
 | [],[],_=>⟨k,trivial⟩
 | _ :: _,_ :: _,h=>⟨h.1,TelO.snoc k h.2⟩
 | [],_ :: _,h=>h.elim
 | _ :: _,[],h=>h.elim
theorem TelO.mono {base b2:Nat} {w:World} (hle:b2<=base):∀ {qs:List Pro} {fs:List Fp},TelO base w qs fs->TelO b2 w qs fs
 | [],[],_=>trivial
 | _ :: _,_ :: _,h=>⟨⟨h.1.1,h.1.2.1,h.1.2.2.mono hle⟩,TelO.mono hle h.2⟩
 | [],_ :: _,h=>h.elim
 | _ :: _,[],h=>h.elim
theorem take_snocF {fs:List Fp} {k:Nat} {f:Fp} (h:fs[k]? = some f):fs.take (k+1)=fs.take k ++ [f]:=by
 have hlt:k<fs.length:=(List.getElem?_eq_some_iff.1 h).1;rw [<- List.take_append_getElem hlt,(List.getElem?_eq_some_iff.1 h).2]
end
section
open Go.ChangeShapes Go.WideShapes Go.ChangeAt Go.RowKit
open JM (Chg)
open CM (Fp)
open VM (Ent)
section
variable {H:Type} {enc:TypeId×Value->H} {W:World} {n:Nat} {x:DataW H×List MemPlace}
theorem rd_of_trod {v:Value} (hf:DataW.trod enc Tryz.prog W 0 (fun _=>true) true n 39 [v]=some x):∃ xs,Rd W v xs:=by
 rcases open_ints Tryz.underlying39 Tryz.underlying5 (by kernel_rfl) hf with ⟨hcs,_⟩ | ⟨y,l,c,zs,hcs,_,hl,hm,hz,_,hcell,hwz⟩
 ·simp at hcs
  subst hcs;exact ⟨[],Rd.nil W⟩
 ·simp at hcs
  subst hcs;exact ⟨zs.take l,rd_row (.inr ⟨_,rfl,hl,hm,by simpa using hz,hcell,hwz⟩)⟩
theorem chg_cells {cs:List Value} (h:DataW.trod enc Tryz.prog W 0 (fun _=>true) true n 89 cs=some x):∃ e:Chg,cs=encC e:=by
 have k0:Tryz.prog.cellsOf 3=1:=by kernel_rfl
 have k3:Tryz.prog.cellsOf 87=3:=by kernel_rfl
 have k7:Tryz.prog.cellsOf 89=7:=by kernel_rfl
 obtain ⟨xs,m,_,_,hl,hlen,hf⟩:=DataW.trod_struct Tryz.underlying89 h;rw [k7] at hl;match xs,hlen,cs,hl with
 | [y0,y1,y2,y3,y4],_,[c0,c1,c2,c3,c4,c5,c6],_=>
  have g0:=hf 0 _ rfl;have g1:=hf 1 _ rfl;have g2:=hf 2 _ rfl;have g3:=hf 3 _ rfl;have g4:=hf 4 _ rfl;simp [k0,k3] at g0 g1 g2 g3 g4
  obtain ⟨a0,e0,_⟩:=DataW.trod_int Tryz.underlying3 g0;obtain ⟨a1,e1,_⟩:=DataW.trod_int Tryz.underlying3 g1;obtain ⟨a2,e2,_⟩:=DataW.trod_int Tryz.underlying3 g2;obtain ⟨a3,e3,_⟩:=DataW.trod_int Tryz.underlying3 g3;obtain ⟨y0,y1,y2,m,_,_,h0,h1,h2⟩:=Deep.trod_struct3 Tryz.underlying87 g4;simp only [k0] at h0 h1 h2;obtain ⟨a4,e4,_⟩:=DataW.trod_int Tryz.underlying3 h0;obtain ⟨a5,e5,_⟩:=DataW.trod_int Tryz.underlying3 h1;obtain ⟨a6,e6,_⟩:=DataW.trod_int Tryz.underlying3 h2;simp at e0 e1 e2 e3 e4 e5 e6
  exact ⟨(a0,a1,a2,a3,a4,a5,a6),by rw [e0,e1,e2,e3,e4,e5,e6];rfl⟩
theorem cellsC_snoc {xs:List Chg} {e:Chg} {j:Nat} {u:Value} (h:(cellsOf encC (xs ++ [e]))[j]? = some u) :
  (cellsOf encC xs)[j]? = some u ∨ ∃ d,d<7/\j=xs.length*7+d/\(encC e)[d]? = some u:=by
 have hL:=cellsOf_length (enc:=encC) hlC.2 xs;rw [cellsOf_append] at h;rcases Nat.lt_or_ge j (cellsOf encC xs).length with hl | hl
 ·rw [List.getElem?_append_left hl] at h;exact .inl h
 ·rw [List.getElem?_append_right hl,hL] at h;rw [hL] at hl;have e1:cellsOf encC [e]=encC e:=by simp [cellsOf]
  rw [e1] at h;have hd:j - xs.length*7<7:=by
   have:=(List.getElem?_eq_some_iff.1 h).1;rw [hlC.2 e] at this;exact this
  exact .inr ⟨_,hd,by omega,h⟩
theorem rdC_of_trod {v:Value} (hf:DataW.trod enc Tryz.prog W 0 (fun _=>true) true n 91 [v]=some x):∃ xs,RdC W v xs:=by
 have k7:Tryz.prog.cellsOf 89=7:=by kernel_rfl
 rcases Deep.open_slice Tryz.underlying91 hf with ⟨hcs,_⟩ | ⟨y,l,c,m,k,D,P,hcs,_,hl,hm,hmm,_,hall⟩
 ·simp at hcs
  subst hcs;exact ⟨[],RdG.nil hlC W⟩
 ·simp at hcs
  subst hcs;simp only [if_true] at hmm;have hbuild:∀ j,j<=l -> ∃ xs:List Chg,xs.length=j /\ ∀ i u,(cellsOf encC xs)[i]? = some u->W.cell? (y.add i)=some u:=by
   intro j;induction j with
   | zero=>intro _;exact ⟨[],rfl,fun i u h=>by simp [cellsOf] at h⟩
   | succ j ih=>
    intro hj;obtain ⟨xs,hp,hr⟩:=ih (by omega);obtain ⟨cs',t0,t1⟩:=hall j (by omega);rw [k7] at t0;obtain ⟨_,hlen,hcell⟩:=World.cells?_some t0;obtain ⟨e,rfl⟩:=chg_cells t1;refine ⟨xs ++ [e],by simp [hp],fun i u hu=>?_⟩;rcases cellsC_snoc hu with h | ⟨d,hd,rfl,h⟩
    ·exact hr i u h
    ·have:=hcell d hd;rw [Deep.add_add] at this;rw [hp,this,h]
  obtain ⟨xs,hp,hr⟩:=hbuild l (Nat.le_refl _);exact ⟨xs,some y,c,by rw [hp],by omega,hm,(fun h=>by cases h),hlC,fun z hz i u hu=>by cases hz;exact hr i u hu⟩
theorem pro_cells {cs:List Value} (h:DataW.trod enc Tryz.prog W 0 (fun _=>true) true n 93 cs=some x):∃ (q:Pro) (f:Fp),cs=encQ q/\Tell1 W q f:=by
 have k0:Tryz.prog.cellsOf 3=1:=by kernel_rfl
 have k1:Tryz.prog.cellsOf 91=1:=by kernel_rfl
 have k3:Tryz.prog.cellsOf 93=3:=by kernel_rfl
 obtain ⟨y0,y1,y2,m,_,hl,h0,h1,h2⟩:=Deep.trod_struct3 Tryz.underlying93 h;rw [k3] at hl;match cs,hl with
 | [c0,c1,c2],_=>
  simp only [k0,k1] at h0 h1 h2;obtain ⟨a,ha,_⟩:=DataW.trod_int Tryz.underlying3 h0;obtain ⟨b,hb,_⟩:=DataW.trod_int Tryz.underlying3 h1;obtain ⟨cs,hcs⟩:=rdC_of_trod h2;have ha':[c0] = [Value.int .i64 a]:=ha;have hb':[c1] = [Value.int .i64 b]:=hb;injection ha' with ha' _
  injection hb' with hb' _
  have h2':RdC W c2 cs:=hcs;obtain ⟨sa,sc,hsv,_,_⟩:=h2'.shape;subst ha' hb';rw [hsv] at h2' ⊢;exact ⟨(a,b,sa,cs.length,sc),(a,b,cs),rfl,rfl,rfl,h2'⟩
theorem cellsQ_snoc {xs:List Pro} {e:Pro} {j:Nat} {u:Value} (h:(cellsOf encQ (xs ++ [e]))[j]? = some u) :
  (cellsOf encQ xs)[j]? = some u ∨ ∃ d,d<3/\j=xs.length*3+d/\(encQ e)[d]? = some u:=by
 have hL:=cellsOf_length (enc:=encQ) hlQ.2 xs;rw [cellsOf_append] at h;rcases Nat.lt_or_ge j (cellsOf encQ xs).length with hl | hl
 ·rw [List.getElem?_append_left hl] at h;exact .inl h
 ·rw [List.getElem?_append_right hl,hL] at h;rw [hL] at hl;have e1:cellsOf encQ [e]=encQ e:=by simp [cellsOf]
  rw [e1] at h;have hd:j - xs.length*3<3:=by
   have:=(List.getElem?_eq_some_iff.1 h).1;rw [hlQ.2 e] at this;exact this
  exact .inr ⟨_,hd,by omega,h⟩
theorem rdF_of_trod {v:Value} (hf:DataW.trod enc Tryz.prog W 0 (fun _=>true) true n 25 [v]=some x):∃ fs,RdF W v fs:=by
 have k3:Tryz.prog.cellsOf 93=3:=by kernel_rfl
 rcases Deep.open_slice Tryz.underlying25 hf with ⟨hcs,_⟩ | ⟨y,l,c,m,k,D,P,hcs,_,hl,hm,hmm,_,hall⟩
 ·simp at hcs
  subst hcs;exact ⟨[],RdF.nil W⟩
 ·simp at hcs
  subst hcs;simp only [if_true] at hmm;have hbuild:∀ j,j<=l -> ∃ (qs:List Pro) (fs:List Fp),qs.length=j/\Tel W qs fs /\ ∀ i u,(cellsOf encQ qs)[i]? = some u->W.cell? (y.add i)=some u:=by
   intro j;induction j with
   | zero=>intro _;exact ⟨[],[],rfl,trivial,fun i u h=>by simp [cellsOf] at h⟩
   | succ j ih=>
    intro hj;obtain ⟨qs,fs,hp,ht,hr⟩:=ih (by omega);obtain ⟨cs',t0,t1⟩:=hall j (by omega);rw [k3] at t0;obtain ⟨_,hlen,hcell⟩:=World.cells?_some t0;obtain ⟨q,f,rfl,htell⟩:=pro_cells t1;refine ⟨qs ++ [q],fs ++ [f],by simp [hp],Tel.app ht (Tel.one htell),fun i u hu=>?_⟩;rcases cellsQ_snoc hu with h | ⟨d,hd,rfl,h⟩
    ·exact hr i u h
    ·have:=hcell d hd;rw [Deep.add_add] at this;rw [hp,this,h]
  obtain ⟨qs,fs,hp,ht,hr⟩:=hbuild l (Nat.le_refl _);exact ⟨fs,qs,⟨some y,c,by rw [hp],by omega,hm,(fun h=>by cases h),hlQ,fun z hz i u hu=>by cases hz;exact hr i u hu⟩,ht⟩
theorem ents_snoc_get {xs:List Ent} {e:Ent} {j:Nat} {u:Value} (h:(VX.ents (xs ++ [e]))[j]? = some u) :
  (VX.ents xs)[j]? = some u∨(j=xs.length*2/\u = .int .i64 e.1)∨(j=xs.length*2+1/\u = .int .i64 e.2):=by
 rw [VX.ents_append] at h;rcases Nat.lt_or_ge j (VX.ents xs).length with hl | hl
 ·rw [List.getElem?_append_left hl] at h;exact .inl h
 ·rw [List.getElem?_append_right hl,VX.ents_length] at h;rw [VX.ents_length] at hl;obtain ⟨d,rfl⟩:∃ d,j=xs.length*2+d:=⟨j - xs.length*2,by omega⟩
  rw [Nat.add_sub_cancel_left] at h;match d,h with
  | 0,h=>exact .inr (.inl ⟨by omega,by simpa [VX.ents] using h.symm⟩)
  | 1,h=>exact .inr (.inr ⟨by omega,by simpa [VX.ents] using h.symm⟩)
  | d+2,h=>simp [VX.ents] at h
theorem rdV_of_trod {v:Value} (hf:DataW.trod enc Tryz.prog W 0 (fun _=>true) true n 31 [v]=some x):∃ xs,VX.RdV W v xs:=by
 rcases Deep.open_slice_pairs Tryz.underlying31 Tryz.underlying110 (by kernel_rfl) (by kernel_rfl) (by kernel_rfl) (by kernel_rfl) (by kernel_rfl) hf with ⟨hcs,_⟩ | ⟨y,l,c,m,k,V0,V1,D0,D1,P0,P1,hcs,_,hl,hm,hmm,_,hall⟩
 ·simp at hcs
  subst hcs;exact ⟨[],VX.RdV.nil W⟩
 ·simp at hcs
  subst hcs;simp only [if_true] at hmm;have hbuild:∀ j,j<=l -> ∃ xs:List Ent,xs.length=j /\ ∀ i u,(VX.ents xs)[i]? = some u->W.cell? (y.add i)=some u:=by
   intro j;induction j with
   | zero=>intro _;exact ⟨[],rfl,fun i u h=>by simp [VX.ents] at h⟩
   | succ j ih=>
    intro hj;obtain ⟨xs,hp,hr⟩:=ih (by omega);obtain ⟨k0,k1,t0,t1⟩:=hall j (by omega);obtain ⟨a,ha,_,_⟩:=DataW.trod_int Tryz.underlying3 t0;obtain ⟨b,hb,_,_⟩:=DataW.trod_int Tryz.underlying3 t1;simp at ha hb
    refine ⟨xs ++ [(a,b)],by simp [hp],fun i u hu=>?_⟩;rcases ents_snoc_get hu with h | ⟨rfl,rfl⟩ | ⟨rfl,rfl⟩
    ·exact hr i u h
    ·rw [hp,k0,ha]
    ·rw [hp,k1,hb]
  obtain ⟨xs,hp,hr⟩:=hbuild l (Nat.le_refl _);exact ⟨xs,some y,c,by rw [hp],by omega,hm,(fun h=>by cases h),fun z hz i u hu=>by cases hz;exact hr i u hu⟩
end
end
end Go.Proofs.YtahcehbgfhdbjaaGreatDoor

