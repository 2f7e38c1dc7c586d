/-
  NFld NFld2 NRef1: joined texts, what nothing names left out.
-/
import Derived.Test.YtahcehbgfhdbjaaGreatDoorQMA10
set_option maxHeartbeats 4000000
set_option maxRecDepth 100000
open Go.Lib (hid)
namespace Go.Proofs.YtahcehbgfhdbjaaGreatDoor.NM
open WM (enc dec Bytes)
open VM (Ent)
open JM (St)
def usd (k:Int):List Int:=
 if k=1 then [0,1,2,7,8] else if k=2 then [0,1,7,8,5,4,6] else if k=4 then [3,9] else if k=5 then [3,8,10,5,4,6]
 else if k=3∨k=6∨k=7∨k=8 then [3] else []
def kn (k:Int):Bool:=decide (1<=k/\k<=8)
def allF:List Int:=[0,1,2,3,4,5,6,7,8,9,10]
theorem allF_drop {k:Nat} (h:k<11):allF.drop k=(k:Int) :: allF.drop (k+1):=by
 match k,h with
 | 0,_=>rfl
 | 1,_=>rfl
 | 2,_=>rfl
 | 3,_=>rfl
 | 4,_=>rfl
 | 5,_=>rfl
 | 6,_=>rfl
 | 7,_=>rfl
 | 8,_=>rfl
 | 9,_=>rfl
 | 10,_=>rfl
 | k+11,h=>exact absurd h (by omega)
theorem kn_cases {k:Int} (h:kn k=true):k=1∨k=2∨k=3∨k=4∨k=5∨k=6∨k=7∨k=8:=by
 have:=of_decide_eq_true h;omega
def eqF (m m':Ms) (f:Int):Bool:=
 if f=0 then decide (m.p=m'.p/\m.n=m'.n) else if f=1 then decide (m.r=m'.r) else if f=2 then decide (m.d=m'.d)
 else if f=3 then decide (m.cf=m'.cf) && decide (m.ct=m'.ct) else if f=4 then decide (m.bf=m'.bf) && decide (m.bt=m'.bt) else if f=5 then decide (m.hb=m'.hb)
 else if f=6 then decide (m.ef=m'.ef) && decide (m.et=m'.et) else if f=7 then decide (m.cg=m'.cg) else if f=8 then decide (m.st=m'.st) else if f=9 then decide (m.hv=m'.hv)
 else decide (m.mo=m'.mo)
theorem eqm_all (m m':Ms):eqm m m'=(decide (m.k=m'.k/\m.fr=m'.fr/\m.tx=m'.tx) && allF.all (eqF m m')):=by
 unfold eqm scal allF;rw [Bool.eq_iff_iff];simp only [List.all_cons,List.all_nil,eqF,Bool.and_eq_true,decide_eq_true_eq,Bool.and_true,reduceIte,Int.reduceEq];constructor
 ·rintro ⟨⟨a1,a2,a3,a4,a5,a6,a7,a8⟩,b1,b2,b3,b4,b5,b6⟩;exact ⟨⟨a1,a2,a3⟩,a4,a5,a6,b1,b2,a7,b3,b4,b5,b6,a8⟩
 ·rintro ⟨⟨a1,a2,a3⟩,a4,a5,a6,b1,b2,a7,b3,b4,b5,b6,a8⟩;exact ⟨⟨a1,a2,a3,a4,a5,a6,a7,a8⟩,b1,b2,b3,b4,b5,b6⟩
def hasO (m:Ms) (us:List Int):Bool:=allF.all fun f=>us.contains f || eqF m (z 0 0 0) f
theorem bad_has {m:Ms} (h:kn m.k=true):bad m = !hasO m (usd m.k):=by
 obtain ⟨k,fr,tx,p,n,r,d,cf,ct,bf,bt,hb,ef,et,cg,st,hv,mo⟩:=m;have hz:∀ l:List CM.Fp,decide (l.length=0)=decide (l = []):=fun l=>decide_eq_decide.2 List.length_eq_zero_iff
 rw [Bool.eq_iff_iff];rcases kn_cases h with e | e | e | e | e | e | e | e <;>
  (dsimp only at e;subst e
   simp [bad,hasO,usd,allF,eqF,uA,uM,uS,uB,uC,uH,uO,emp,z,List.length_pos_iff,List.length_eq_zero_iff]
   <;> grind)
def errF (m:Ms) (f:Int):Int:=
 if f=0 then (if (UM.isCl m.p=true∨JM.isAdm m.p=true)/\1<=m.n/\m.n<=1000000 then 0 else 9)
 else if f=1 then (if 1<=m.r/\m.r<=1000000 then 0 else 9)
 else if f=2 then (if 1<=m.d/\m.d<=3 then 0 else 10)
 else if f=3 then CM.errC m.cf m.ct
 else if f=4 then (if (!m.hb && !emp m.bf m.bt)=true then 2 else CM.errC m.bf m.bt)
 else if f=6 then CM.errC m.ef m.et
 else if f=7 then CM.errL (0,0) m.cg
 else if f=8 then (if m.k=5 then chk m.st else if SM.errL (0,0) m.st≠0 then SM.errL (0,0) m.st else if (m.k=1/\m.d=1)/\0<m.st.length then 2 else 0)
 else if f=9 then VM.err 0 m.hv
 else 0
def errs (m:Ms):List Int->Int
 | []=>0
 | f :: fs=>if errF m f≠0 then errF m f else errs m fs
theorem errs_cons (m:Ms) (f:Int) (fs:List Int):errs m (f :: fs)=if errF m f≠0 then errF m f else errs m fs:=rfl
theorem errF_0 (m:Ms):errF m 0=if (UM.isCl m.p=true∨JM.isAdm m.p=true)/\1<=m.n/\m.n<=1000000 then 0 else 9:=by simp only [errF,if_true]
theorem errF_1 (m:Ms):errF m 1=if 1<=m.r/\m.r<=1000000 then 0 else 9:=by simp only [errF,Int.reduceEq,if_false,if_true]
theorem errF_2 (m:Ms):errF m 2=if 1<=m.d/\m.d<=3 then 0 else 10:=by simp only [errF,Int.reduceEq,if_false,if_true]
theorem errF_3 (m:Ms):errF m 3=CM.errC m.cf m.ct:=by simp only [errF,Int.reduceEq,if_false,if_true]
theorem errF_4 (m:Ms):errF m 4=if (!m.hb && !emp m.bf m.bt)=true then 2 else CM.errC m.bf m.bt:=by simp only [errF,Int.reduceEq,if_false,if_true]
theorem errF_5 (m:Ms):errF m 5=0:=by simp only [errF,Int.reduceEq,if_false]
theorem errF_6 (m:Ms):errF m 6=CM.errC m.ef m.et:=by simp only [errF,Int.reduceEq,if_false,if_true]
theorem errF_7 (m:Ms):errF m 7=CM.errL (0,0) m.cg:=by simp only [errF,Int.reduceEq,if_false,if_true]
theorem errF_8 (m:Ms):errF m 8=if m.k=5 then chk m.st else if SM.errL (0,0) m.st≠0 then SM.errL (0,0) m.st else if (m.k=1/\m.d=1)/\0<m.st.length then 2 else 0:=by simp only [errF,Int.reduceEq,if_false,if_true]
theorem errF_9 (m:Ms):errF m 9=VM.err 0 m.hv:=by simp only [errF,Int.reduceEq,if_false,if_true]
theorem errF_10 (m:Ms):errF m 10=0:=by simp only [errF,Int.reduceEq,if_false]
theorem or_same {E x y:Int} (h:x=y):(if E≠0 then E else x)=if E≠0 then E else y:=by rw [h]
theorem or_zero {x:Int}:(if (0:Int)≠0 then 0 else x)=x:=by simp
theorem or_flip {c c':Prop} [Decidable c] [Decidable c'] {e x y:Int} (hc:c' ↔ ¬ c) (he:e≠0) (h:x=y):(if c' then e else x)=if (if c then 0 else e)≠0 then (if c then 0 else e) else y:=by
 by_cases hh:c
 ·rw [if_neg (fun k=>hc.1 k hh),if_pos hh,or_zero,h]
 ·rw [if_pos (hc.2 hh),if_neg hh,if_pos he]
theorem e0 (a b:Bool) (n:Int):((a=false/\b=false)∨n<1∨1000000<n) ↔ ¬ ((a=true∨b=true)/\1<=n/\n<=1000000):=by
 cases a <;> cases b <;> simp <;> omega
theorem errB_fld (m:Ms):errB m=errs m [5,4,6]:=by
 rw [errs_cons,errF_5,or_zero,errs_cons,errs_cons,errF_4,errF_6];unfold errB;show _=_
 have h0:(if CM.errC m.ef m.et≠0 then CM.errC m.ef m.et else errs m [])=CM.errC m.ef m.et:=by
  by_cases h:CM.errC m.ef m.et=0
  ·rw [if_neg (by simp [h]),h];rfl
  ·rw [if_pos h]
 rw [h0];by_cases h1:(!m.hb && !emp m.bf m.bt)=true
 ·rw [if_pos h1,if_pos h1,if_pos (by decide)]
 ·rw [if_neg h1,if_neg h1]
theorem errX_k1 {m:Ms} (hk:m.k=1):errX m=errs m [0,1,2,7,8]:=by
 rw [errs_cons,errs_cons,errs_cons,errs_cons,errs_cons,errF_0,errF_1,errF_2,errF_7,errF_8];unfold errX;refine or_flip (e0 _ _ _) (by decide) ?_;refine or_flip (by omega) (by decide) ?_;refine or_flip (c:=1<=m.d/\m.d<=3) (by rw [hk];omega) (by decide) ?_;refine or_same ?_;rw [if_neg (show ¬ m.k=5 by omega)];by_cases h1:SM.errL (0,0) m.st=0
 ·rw [if_neg (by simp [h1]),if_neg (show ¬ SM.errL (0,0) m.st≠0 by simp [h1]),if_neg (show ¬ m.k=2 by omega)];by_cases h2:m.d=1/\0<m.st.length
  ·rw [if_pos h2,if_pos (show (m.k=1/\m.d=1)/\0<m.st.length from ⟨⟨hk,h2.1⟩,h2.2⟩),if_pos (show (2:Int)≠0 by decide)]
  ·rw [if_neg h2,if_neg (show ¬ ((m.k=1/\m.d=1)/\0<m.st.length) from fun h=>h2 ⟨h.1.2,h.2⟩),or_zero];rfl
 ·rw [if_pos h1,if_pos h1,if_pos h1]
theorem errX_k2 {m:Ms} (hk:m.k=2) (hd:m.d=0):errX m=errs m [0,1,7,8,5,4,6]:=by
 rw [errs_cons,errs_cons,errs_cons,errs_cons,errF_0,errF_1,errF_7,errF_8];unfold errX;refine or_flip (e0 _ _ _) (by decide) ?_;refine or_flip (by omega) (by decide) ?_;rw [if_neg (show ¬ (m.k=1/\(m.d<1∨3<m.d)) by omega)];refine or_same ?_;rw [if_neg (show ¬ m.k=5 by omega),if_neg (show ¬ (m.d=1/\0<m.st.length) by omega),if_pos hk,if_neg (show ¬ ((m.k=1/\m.d=1)/\0<m.st.length) by omega),errB_fld];by_cases h1:SM.errL (0,0) m.st=0
 ·rw [if_neg (by simp [h1]),if_neg (by simp [h1])];first | done | rw [or_zero]
 ·rw [if_pos h1,if_pos h1,if_pos h1]
theorem or_end (E:Int):(if E≠0 then E else 0)=E:=by
 by_cases h:E=0
 ·rw [if_neg (by simp [h]),h]
 ·rw [if_pos h]
theorem errM_fld (m:Ms):errM m=if kn m.k=false then 10 else if proc m.fr=false∨proc m.tx=false then 9 else if hasO m (usd m.k)=false then 2 else errs m (usd m.k):=by
 unfold errM;by_cases hk:kn m.k=true
 case neg=>
  rw [if_pos (by have:¬ (1<=m.k/\m.k<=8):=fun h=>hk (decide_eq_true h);omega),if_pos (by simpa using hk)]
 have hb:=bad_has hk;have hr:=of_decide_eq_true hk;rw [if_neg (show ¬ (m.k<1∨8<m.k) by omega),if_neg (show ¬ kn m.k=false by rw [hk];decide)];by_cases hp:proc m.fr=false∨proc m.tx=false
 ·rw [if_pos hp,if_pos hp]
 rw [if_neg hp,if_neg hp];cases hO:hasO m (usd m.k) with
 | false=>rw [hO] at hb;rw [if_pos (show bad m=true from hb),if_pos rfl]
 | true=>
  rw [hO] at hb;have hb:bad m=false:=hb;rw [if_neg (show ¬ bad m=true by rw [hb];decide),if_neg (show ¬ true=false by decide)];obtain ⟨bA,bM,bS,bH,bO,bB,bC⟩:=bad_iff hb;by_cases e1:m.k=1
  ·rw [if_pos (Or.inl e1),errX_k1 e1,e1];rfl
  by_cases e2:m.k=2
  ·rw [if_pos (Or.inr e2),errX_k2 e2 (bM (by rw [e2];rfl)),e2];rfl
  rw [if_neg (by omega)];by_cases e4:m.k=4
  ·rw [if_pos e4,e4];show _=errs m [3,9]
   rw [errs_cons,errs_cons,errF_3,errF_9];exact or_same (or_end _).symm
  rw [if_neg e4];by_cases e5:m.k=5
  ·rw [if_pos e5];have hu:usd m.k = [3,8,10,5,4,6]:=by rw [e5];rfl
   rw [hu,errs_cons,errs_cons,errs_cons,errF_3,errF_8,errF_10,or_zero,if_pos e5,errB_fld];refine or_same ?_;by_cases h1:chk m.st=0
   ·rw [if_neg (by simp [h1]),if_neg (by simp [h1])]
   ·rw [if_pos ⟨e5,h1⟩,if_pos h1]
  ·rw [if_neg (show ¬ (m.k=5/\chk m.st≠0) from fun h=>e5 h.1),if_neg e5];have hu:usd m.k = [3]:=by
    unfold usd;rw [if_neg e1,if_neg e2,if_neg e4,if_neg e5,if_pos (by omega)]
   rw [hu,errs_cons,errF_3];rfl
def encF (m:Ms) (f:Int):List Int:=
 if f=0 then JM.encN [m.p,m.n] else if f=1 then JM.encN [m.r] else if f=2 then JM.encN [m.d] else if f=3 then CM.encC2 m.cf m.ct
 else if f=4 then (if m.hb=true then CM.encC2 m.bf m.bt else []) else if f=5 then [bit m.hb] else if f=6 then CM.encC2 m.ef m.et else if f=7 then CM.encL m.cg
 else if f=8 then SM.encL m.st else if f=9 then encH m.hv else [bit m.mo]
theorem encM_fld {m:Ms} (h:kn m.k=true):encM m=JM.encN [m.k,m.fr,m.tx]++(usd m.k).flatMap (encF m):=by
 obtain ⟨k,fr,tx,p,n,r,d,cf,ct,bf,bt,hb',ef,et,cg,st,hv,mo⟩:=m;dsimp only at h;rcases kn_cases h with e | e | e | e | e | e | e | e <;> subst e <;>
  simp [encM,usd,encF,encB,JM.encN,List.flatMap_cons,List.append_assoc]
def stp {α:Type} (P:Par α) (d:α) (xs:List Int) (s:St):α×St:=if s.2≠0 then (d,s) else ((P (xs.drop s.1)).2.2,(s.1+(P (xs.drop s.1)).2.1,(P (xs.drop s.1)).1))
def Sim {α:Type} (xs:List Int) (R:St->α×St) (P:Par α):Prop:=
 ∀ u,(R (u,0)).2.2=(P (xs.drop u)).1/\((P (xs.drop u)).1=0->(R (u,0)).1=(P (xs.drop u)).2.2/\(R (u,0)).2.1=u+(P (xs.drop u)).2.1)
def Stops {α:Type} (R:St->α×St):Prop:=∀ s:St,s.2≠0->(R s).2=s
theorem Sim.stp {α:Type} (P:Par α) (d:α) (xs:List Int):Sim xs (NM.stp P d xs) P:=fun u=>by
 unfold NM.stp;rw [if_neg (by simp)];exact ⟨rfl,fun _=>⟨rfl,rfl⟩⟩
theorem Stops.stp {α:Type} (P:Par α) (d:α) (xs:List Int):Stops (NM.stp P d xs):=fun s h=>by
 unfold NM.stp;rw [if_pos h]
theorem Sim.map {α β:Type} {xs:List Int} {R:St->α×St} {P:Par α} (h:Sim xs R P) (g:α->β):Sim xs (fun s=>(g (R s).1,(R s).2)) (pmap g P):=fun u=>by
 obtain ⟨h1,h2⟩:=h u;exact ⟨h1,fun e=>⟨congrArg g (h2 e).1,(h2 e).2⟩⟩
theorem Sim.pure {α:Type} (xs:List Int) (a:α):Sim xs (fun s=>(a,s)) (pure0 a):=fun _=>⟨rfl,fun _=>⟨rfl,rfl⟩⟩
theorem Sim.seq {α β:Type} {xs:List Int} {R:St->α×St} {P:Par α} {R':α->St->β×St} {Q:α->Par β} {d:β} (h:Sim xs R P) (k:∀ a,Sim xs (R' a) (Q a)) (hs:∀ a,Stops (R' a)) :
  Sim xs (fun s=>R' (R s).1 (R s).2) (NM.seq d P Q):=fun u=>by
 obtain ⟨h1,h2⟩:=h u;by_cases h0:(P (xs.drop u)).1=0
 ·obtain ⟨e1,e2⟩:=h2 h0;have hst:(R (u,0)).2=(u+(P (xs.drop u)).2.1,0):=Prod.ext e2 (h1.trans h0);obtain ⟨k1,k2⟩:=k (P (xs.drop u)).2.2 (u+(P (xs.drop u)).2.1);dsimp only;rw [hst,e1];unfold NM.seq;rw [if_neg (by simp [h0]),List.drop_drop];by_cases h3:((Q (P (xs.drop u)).2.2) (xs.drop (u+(P (xs.drop u)).2.1))).1=0
  ·rw [if_neg (by simp [h3])];obtain ⟨k3,k4⟩:=k2 h3;exact ⟨k1.trans h3,fun _=>⟨k3,by rw [k4,Nat.add_assoc]⟩⟩
  ·rw [if_pos h3];exact ⟨k1,fun h=>absurd h h3⟩
 ·have hne:(R (u,0)).2.2≠0:=by rw [h1];exact h0
  dsimp only;unfold NM.seq;rw [if_pos h0,hs _ _ hne];exact ⟨h1,fun h=>absurd h h0⟩
theorem Stops.seq {α β:Type} {R:St->α×St} {R':α->St->β×St} (h:Stops R) (hs:∀ a,Stops (R' a)):Stops (fun s=>R' (R s).1 (R s).2):=fun s e=>by
 have h1:=h s e;show (R' (R s).1 (R s).2).2=s
 rw [h1];exact hs _ _ e
theorem Stops.map {α β:Type} {R:St->α×St} (h:Stops R) (g:α->β):Stops (fun s=>(g (R s).1,(R s).2)):=fun s e=>h s e
theorem step_two (xs:List Int) (u:Nat):((JM.num (xs.drop u)).2.2≠0/\JM.step xs (u,0)=(0,(u,(JM.num (xs.drop u)).2.2)))∨((JM.num (xs.drop u)).2.2=0/\JM.step xs (u,0)=((JM.num (xs.drop u)).1,(u+(JM.num (xs.drop u)).2.1.toNat,0))):=by
 unfold JM.step;rw [if_neg (by simp)];by_cases h:(JM.num (xs.drop u)).2.2=0
 ·right;rw [if_neg (by simp [h])];exact ⟨h,rfl⟩
 ·left;rw [if_pos h];exact ⟨h,rfl⟩
theorem num_err {xs:List Int} (h:(JM.num xs).2.2≠0):(JM.num xs).1=0/\(JM.num xs).2.1=0:=by
 unfold JM.num at h ⊢;by_cases h1:(dec 0 0 xs).2.2=0
 ·rw [if_neg (by simp [h1])] at h ⊢;by_cases h2:2147483647<(dec 0 0 xs).1
  ·rw [if_pos h2];exact ⟨rfl,rfl⟩
  ·rw [if_neg h2] at h;exact absurd h1 h
 ·rw [if_pos h1];exact ⟨rfl,rfl⟩
theorem step_stp (xs:List Int) (s:St):JM.step xs s=stp num1 0 xs s:=by
 obtain ⟨u,er⟩:=s;by_cases h:er=0
 ·subst h;unfold stp num1;rw [if_neg (by simp)];rcases step_two xs u with ⟨h,hs⟩ | ⟨h,hs⟩
  ·obtain ⟨n1,n2⟩:=num_err h;rw [hs];dsimp only;rw [n1,n2];rfl
  ·rw [hs];dsimp only;rw [h]
 ·unfold JM.step stp;rw [if_pos h,if_pos h]
theorem Sim.step (xs:List Int):Sim xs (JM.step xs) num1:=by
 have:=Sim.stp num1 0 xs;rwa [show NM.stp num1 0 xs=JM.step xs from funext fun s=>(step_stp xs s).symm] at this
theorem Stops.step (xs:List Int):Stops (JM.step xs):=by
 have:=Stops.stp num1 0 xs;rwa [show NM.stp num1 0 xs=JM.step xs from funext fun s=>(step_stp xs s).symm] at this
theorem Stops.many (xs:List Int) (k:Nat):Stops (fun s=>JM.many xs s k):=fun s e=>by
 induction k with
 | zero=>rfl
 | succ k ih=>
  show (JM.step xs (JM.many xs s k).2).2=s
  rw [show (JM.many xs s k).2=s from ih];exact Stops.step xs s e
theorem step_shift (xs:List Int) (u a:Nat) (e:Int):JM.step xs (u+a,e)=((JM.step (xs.drop u) (a,e)).1,(u+(JM.step (xs.drop u) (a,e)).2.1,(JM.step (xs.drop u) (a,e)).2.2)):=by
 unfold JM.step;dsimp only;rw [List.drop_drop];split
 ·rfl
 ·split
  ·rfl
  ·rw [Nat.add_assoc]
theorem many_shift (xs:List Int) (u a:Nat) (e:Int) (k:Nat):JM.many xs (u+a,e) k=((JM.many (xs.drop u) (a,e) k).1,(u+(JM.many (xs.drop u) (a,e) k).2.1,(JM.many (xs.drop u) (a,e) k).2.2)):=by
 induction k with
 | zero=>rfl
 | succ k ih=>
  show ((JM.many xs (u+a,e) k).1 ++ [(JM.step xs (JM.many xs (u+a,e) k).2).1],(JM.step xs (JM.many xs (u+a,e) k).2).2)=_
  rw [ih];dsimp only;rw [step_shift];rfl
theorem Sim.many (xs:List Int) (k:Nat):Sim xs (fun s=>JM.many xs s k) (nums k):=fun u=>by
 have:=many_shift xs u 0 0 k;rw [Nat.add_zero] at this;dsimp only;rw [this];unfold nums;by_cases h:(JM.many (xs.drop u) (0,0) k).2.2=0
 ·rw [if_neg (by simp [h])];exact ⟨h,fun _=>⟨rfl,rfl⟩⟩
 ·rw [if_pos h];exact ⟨rfl,fun e=>absurd e h⟩
theorem many_cons (xs:List Int) (k:Nat):∀ s:St,JM.many xs s (k+1)=((JM.step xs s).1 :: (JM.many xs (JM.step xs s).2 k).1,(JM.many xs (JM.step xs s).2 k).2):=by
 induction k with
 | zero=>intro s;rfl
 | succ k ih=>
  intro s;have h:=ih s;show ((JM.many xs s (k+1)).1 ++ [(JM.step xs (JM.many xs s (k+1)).2).1],(JM.step xs (JM.many xs s (k+1)).2).2)=_
  rw [h];rfl
def decUp:Par SM.Fp:=fun xs=>((UM.decU xs).1,(UM.decU xs).2.1,((UM.decU xs).2.2.1.1,(UM.decU xs).2.2.1.2.1,(UM.decU xs).2.2.1.2.2,(UM.decU xs).2.2.2))
def upZ:SM.Fp:=(0,0,0,[])
def ups (xs:List Int):Nat->List SM.Fp->St->List SM.Fp×St
 | 0,U,s=>(U,s)
 | n+1,U,s=>ups xs n (U ++ [(stp decUp upZ xs s).1]) (stp decUp upZ xs s).2
theorem ups_stop (xs:List Int) (n:Nat):∀ (U:List SM.Fp) (s:St),s.2≠0->(ups xs n U s).2=s:=by
 induction n with
 | zero=>intro U s _;rfl
 | succ n ih=>
  intro U s h;have h1:=Stops.stp decUp upZ xs s h;show (ups xs n _ (stp decUp upZ xs s).2).2=s
  rw [h1];exact ih _ _ h
theorem ups_rest (xs:List Int) (n:Nat):∀ (U:List SM.Fp) (u:Nat),(ups xs n U (u,0)).2.2=(SM.rest xs n U u).1/\((SM.rest xs n U u).1=0->(ups xs n U (u,0)).1=(SM.rest xs n U u).2.2/\(ups xs n U (u,0)).2.1=(SM.rest xs n U u).2.1):=by
 induction n with
 | zero=>intro U u;exact ⟨rfl,fun _=>⟨rfl,rfl⟩⟩
 | succ n ih=>
  intro U u;rw [SM.rest_succ];show (ups xs n (U ++ [(stp decUp upZ xs (u,0)).1]) (stp decUp upZ xs (u,0)).2).2.2=_/\(_->(ups xs n (U ++ [(stp decUp upZ xs (u,0)).1]) (stp decUp upZ xs (u,0)).2).1=_/\(ups xs n (U ++ [(stp decUp upZ xs (u,0)).1]) (stp decUp upZ xs (u,0)).2).2.1=_)
  have hs:stp decUp upZ xs (u,0)=(((UM.decU (xs.drop u)).2.2.1.1,(UM.decU (xs.drop u)).2.2.1.2.1,(UM.decU (xs.drop u)).2.2.1.2.2,(UM.decU (xs.drop u)).2.2.2),(u+(UM.decU (xs.drop u)).2.1,(UM.decU (xs.drop u)).1)):=by
   unfold stp;rw [if_neg (by simp)];rfl
  rw [hs];by_cases h:(UM.decU (xs.drop u)).1=0
  ·rw [if_neg (by simp [h])];rw [h];exact ih _ _
  ·rw [if_pos h];rw [ups_stop xs n _ _ h];exact ⟨rfl,fun e=>absurd e h⟩
def cnt (most:Int) (xs:List Int) (s:St):Int×St:=if most<(JM.step xs s).1 then (0,((JM.step xs s).2.1,3)) else JM.step xs s
def updR (xs:List Int) (s:St):List SM.Fp×St:=ups xs (cnt 48 xs s).1.toNat [] (cnt 48 xs s).2
theorem step_zero {xs:List Int} {s:St} (h:s.2≠0):JM.step xs s=(0,s):=if_pos h
theorem cnt_stop {most:Int} {xs:List Int} {s:St} (hm:0<=most) (h:s.2≠0):cnt most xs s=(0,s):=by
 unfold cnt;rw [step_zero h,if_neg (by dsimp only;omega)]
theorem Stops.upd (xs:List Int):Stops (updR xs):=fun s h=>by
 unfold updR;rw [cnt_stop (by decide) h];rfl
theorem rest_shift (xs:List Int) (u n:Nat):∀ (U:List SM.Fp) (a:Nat),SM.rest xs n U (u+a)=((SM.rest (xs.drop u) n U a).1,(if (SM.rest (xs.drop u) n U a).1=0 then u+(SM.rest (xs.drop u) n U a).2.1 else 0),(SM.rest (xs.drop u) n U a).2.2):=by
 induction n with
 | zero=>intro U a;rfl
 | succ n ih=>
  intro U a;rw [SM.rest_succ,SM.rest_succ,List.drop_drop];by_cases h:(UM.decU (xs.drop (u+a))).1=0
  ·rw [if_neg (by simp [h]),if_neg (by simp [h]),Nat.add_assoc,ih]
  ·rw [if_pos h,if_pos h,if_neg h]
theorem Sim.upd (xs:List Int):Sim xs (updR xs) NM.upd:=fun u=>by
 unfold updR NM.upd cnt;rcases step_two xs u with ⟨h,hs⟩ | ⟨h,hs⟩
 ·rw [hs,if_pos h,if_neg (show ¬ (48:Int)<(0,(u,(JM.num (xs.drop u)).2.2)).1 by dsimp only;omega)];exact ⟨rfl,fun e=>absurd e h⟩
 ·rw [hs,if_neg (show ¬ (JM.num (xs.drop u)).2.2≠0 by simp [h])];dsimp only;by_cases h2:48<(JM.num (xs.drop u)).1
  ·rw [if_pos h2,if_pos h2];exact ⟨rfl,fun e=>absurd e (by decide)⟩
  ·rw [if_neg h2,if_neg h2];have hsh:=rest_shift xs u (JM.num (xs.drop u)).1.toNat [] (JM.num (xs.drop u)).2.1.toNat
   have h3:=ups_rest xs (JM.num (xs.drop u)).1.toNat [] (u+(JM.num (xs.drop u)).2.1.toNat)
   rw [hsh] at h3;dsimp only at h3;refine ⟨h3.1,fun e=>?_⟩;obtain ⟨h4,h5⟩:=h3.2 e;refine ⟨h4,?_⟩;rw [h5,if_pos e]
def vecs (xs:List Int):Nat->List Ent->St->List Ent×St
 | 0,V,s=>(V,s)
 | n+1,V,s=>vecs xs n (V ++ [((JM.step xs s).1,(JM.step xs (JM.step xs s).2).1)]) (JM.step xs (JM.step xs s).2).2
theorem vecs_many (xs:List Int) (n:Nat):∀ (V:List Ent) (s:St),vecs xs n V s=(V++pairs (JM.many xs s (2*n)).1,(JM.many xs s (2*n)).2):=by
 induction n with
 | zero=>intro V s;show (V,s)=(V ++ [],s);rw [List.append_nil]
 | succ n ih=>
  intro V s;show vecs xs n (V ++ [((JM.step xs s).1,(JM.step xs (JM.step xs s).2).1)]) (JM.step xs (JM.step xs s).2).2=_
  rw [ih,show 2*(n+1)=2*n+1+1 by omega,many_cons,many_cons];dsimp only [pairs];rw [List.append_assoc];rfl
def vecR (xs:List Int) (s:St):List Ent×St:=vecs xs (cnt 100 xs s).1.toNat [] (cnt 100 xs s).2
theorem Stops.vec (xs:List Int):Stops (vecR xs):=fun s h=>by
 unfold vecR;rw [cnt_stop (by decide) h];rfl
theorem Sim.vec (xs:List Int):Sim xs (vecR xs) pH:=by
 have hq:∀ c:Int,Sim xs (fun s=>if 100<c then ([],(s.1,3)) else ((pairs (JM.many xs s (2*c.toNat)).1,(JM.many xs s (2*c.toNat)).2):List Ent×St)) (if 100<c then fail0 3 [] else pmap pairs (nums (2*c.toNat))):=by
  intro c;by_cases h:100<c
  ·simp only [if_pos h];exact fun u=>⟨rfl,fun e=>absurd e (show ¬ (3:Int)=0 by decide)⟩
  ·simp only [if_neg h];exact (Sim.many xs (2*c.toNat)).map pairs
 intro u;have hv:vecR xs (u,0)=if 100<(JM.step xs (u,0)).1 then ([],((JM.step xs (u,0)).2.1,3)) else (pairs (JM.many xs (JM.step xs (u,0)).2 (2*(JM.step xs (u,0)).1.toNat)).1,(JM.many xs (JM.step xs (u,0)).2 (2*(JM.step xs (u,0)).1.toNat)).2):=by
  unfold vecR cnt;rw [vecs_many];by_cases h:100<(JM.step xs (u,0)).1
  ·simp only [if_pos h];rfl
  ·simp only [if_neg h,List.nil_append]
 rw [hv];obtain ⟨s1,s2⟩:=Sim.step xs u;by_cases h0:(num1 (xs.drop u)).1=0
 ·obtain ⟨e1,e2⟩:=s2 h0;have hst:(JM.step xs (u,0)).2=(u+(num1 (xs.drop u)).2.1,0):=Prod.ext e2 (s1.trans h0);have:=hq (num1 (xs.drop u)).2.2 (u+(num1 (xs.drop u)).2.1);rw [hst,e1];unfold pH NM.seq;rw [if_neg (show ¬ (num1 (xs.drop u)).1≠0 from fun h=>h h0),List.drop_drop];obtain ⟨k1,k2⟩:=this;dsimp only at k1 k2 ⊢;by_cases h3:((if 100<(num1 (xs.drop u)).2.2 then fail0 3 [] else pmap pairs (nums (2*(num1 (xs.drop u)).2.2.toNat))) (xs.drop (u+(num1 (xs.drop u)).2.1))).1=0
  ·rw [if_neg (fun h:_≠(0:Int)=>h h3)];obtain ⟨k3,k4⟩:=k2 h3;exact ⟨k1.trans h3,fun _=>⟨k3,by rw [k4,Nat.add_assoc]⟩⟩
  ·rw [if_pos h3];exact ⟨k1,fun h=>absurd h h3⟩
 ·have hne:(JM.step xs (u,0)).2.2≠0:=by rw [s1];exact h0
  have hz:(JM.step xs (u,0)).1=0:=by
   rcases step_two xs u with ⟨h,hs⟩ | ⟨h,hs⟩
   ·rw [hs]
   ·exact absurd h h0
  rw [hz,if_neg (by decide)];unfold pH NM.seq;rw [if_pos h0];refine ⟨?_,fun h=>absurd h h0⟩;show (JM.many xs (JM.step xs (u,0)).2 (2*(0:Int).toNat)).2.2=_
  exact s1
end Go.Proofs.YtahcehbgfhdbjaaGreatDoor.NM
namespace Go.Proofs.YtahcehbgfhdbjaaGreatDoor.NM
open WM (enc dec Bytes)
open VM (Ent)
open JM (St)
def cx0:Cx:=([],[])
def rdF (xs:List Int) (m:Ms) (f:Int) (s:St):Ms×St:=
 if f=0 then ({ m with p:=(JM.step xs s).1,n:=(JM.step xs (JM.step xs s).2).1 },(JM.step xs (JM.step xs s).2).2)
 else if f=1 then ({ m with r:=(JM.step xs s).1 },(JM.step xs s).2)
 else if f=2 then ({ m with d:=(JM.step xs s).1 },(JM.step xs s).2)
 else if f=3 then ({ m with cf:=(stp CM.decC cx0 xs s).1.1,ct:=(stp CM.decC cx0 xs s).1.2 },(stp CM.decC cx0 xs s).2)
 else if f=4 then (if m.hb=true then ({ m with bf:=(stp CM.decC cx0 xs s).1.1,bt:=(stp CM.decC cx0 xs s).1.2 },(stp CM.decC cx0 xs s).2) else (m,s))
 else if f=5 then ({ m with hb:=(stp bl false xs s).1 },(stp bl false xs s).2)
 else if f=6 then ({ m with ef:=(stp CM.decC cx0 xs s).1.1,et:=(stp CM.decC cx0 xs s).1.2 },(stp CM.decC cx0 xs s).2)
 else if f=7 then ({ m with cg:=(stp CM.decL [] xs s).1 },(stp CM.decL [] xs s).2)
 else if f=8 then ({ m with st:=(updR xs s).1 },(updR xs s).2)
 else if f=9 then ({ m with hv:=(vecR xs s).1 },(vecR xs s).2)
 else ({ m with mo:=(stp bl false xs s).1 },(stp bl false xs s).2)
def rds (xs:List Int):List Int->Ms->St->Ms×St
 | [],m,s=>(m,s)
 | f :: fs,m,s=>rds xs fs (rdF xs m f s).1 (rdF xs m f s).2
theorem rdF_stop (xs:List Int) (m:Ms) (f:Int):Stops (rdF xs m f):=fun s h=>by
 have h1:JM.step xs s=(0,s):=step_zero h;have h2:=Stops.stp CM.decC cx0 xs s h;have h3:=Stops.stp bl false xs s h;have h4:=Stops.stp CM.decL [] xs s h;have h5:=Stops.upd xs s h;have h6:=Stops.vec xs s h;unfold rdF;by_cases e0:f=0
 ·rw [if_pos e0];simp only [h1]
 rw [if_neg e0];by_cases e0:f=1
 ·rw [if_pos e0];simp only [h1]
 rw [if_neg e0];by_cases e0:f=2
 ·rw [if_pos e0];simp only [h1]
 rw [if_neg e0];by_cases e0:f=3
 ·rw [if_pos e0];exact h2
 rw [if_neg e0];by_cases e0:f=4
 ·rw [if_pos e0];by_cases e1:m.hb=true
  ·rw [if_pos e1];exact h2
  ·rw [if_neg e1]
 rw [if_neg e0];by_cases e0:f=5
 ·rw [if_pos e0];exact h3
 rw [if_neg e0];by_cases e0:f=6
 ·rw [if_pos e0];exact h2
 rw [if_neg e0];by_cases e0:f=7
 ·rw [if_pos e0];exact h4
 rw [if_neg e0];by_cases e0:f=8
 ·rw [if_pos e0];exact h5
 rw [if_neg e0];by_cases e0:f=9
 ·rw [if_pos e0];exact h6
 rw [if_neg e0];exact h3
theorem rds_stop (xs:List Int) (fs:List Int):∀ m:Ms,Stops (rds xs fs m):=by
 induction fs with
 | nil=>intro m s _;rfl
 | cons f fs ih=>
  intro m s h;have h1:=rdF_stop xs m f s h;show (rds xs fs (rdF xs m f s).1 (rdF xs m f s).2).2=s
  rw [h1];exact ih _ s h
def SS {α:Type} (xs:List Int) (R:St->α×St) (P:Par α):Prop:=Sim xs R P/\Stops R
theorem SS.pure {α:Type} (xs:List Int) (a:α):SS xs (fun s=>(a,s)) (pure0 a):=⟨Sim.pure xs a,fun _ _=>rfl⟩
theorem SS.map {α β:Type} {xs:List Int} {R:St->α×St} {P:Par α} (h:SS xs R P) (g:α->β):SS xs (fun s=>(g (R s).1,(R s).2)) (pmap g P):=⟨h.1.map g,h.2.map g⟩
theorem SS.seq {α β:Type} {xs:List Int} {R:St->α×St} {P:Par α} {R':α->St->β×St} {Q:α->Par β} (d:β) (h:SS xs R P) (k:∀ a,SS xs (R' a) (Q a)) :
  SS xs (fun s=>R' (R s).1 (R s).2) (NM.seq d P Q):=⟨h.1.seq (fun a=>(k a).1) (fun a=>(k a).2),h.2.seq fun a=>(k a).2⟩
theorem SS.stp {α:Type} (P:Par α) (d:α) (xs:List Int):SS xs (NM.stp P d xs) P:=⟨Sim.stp P d xs,Stops.stp P d xs⟩
theorem SS.upd (xs:List Int):SS xs (updR xs) NM.upd:=⟨Sim.upd xs,Stops.upd xs⟩
theorem SS.vec (xs:List Int):SS xs (vecR xs) pH:=⟨Sim.vec xs,Stops.vec xs⟩
theorem SS.many (xs:List Int) (k:Nat):SS xs (fun s=>JM.many xs s k) (nums k):=⟨Sim.many xs k,Stops.many xs k⟩
def basR (xs:List Int) (s:St):Bs×St:=
 if (stp bl false xs s).1=true then ((true,(stp CM.decC cx0 xs (stp bl false xs s).2).1,(stp CM.decC cx0 xs (stp CM.decC cx0 xs (stp bl false xs s).2).2).1),(stp CM.decC cx0 xs (stp CM.decC cx0 xs (stp bl false xs s).2).2).2)
 else ((false,([],[]),(stp CM.decC cx0 xs (stp bl false xs s).2).1),(stp CM.decC cx0 xs (stp bl false xs s).2).2)
theorem sim_bas (xs:List Int):SS xs (basR xs) pB:=by
 have hC:=SS.stp CM.decC cx0 xs;have h1:∀ hb:Bool,SS xs (fun s=>if hb=true then ((true,(stp CM.decC cx0 xs s).1,(stp CM.decC cx0 xs (stp CM.decC cx0 xs s).2).1),(stp CM.decC cx0 xs (stp CM.decC cx0 xs s).2).2) else (((false,([],[]),(stp CM.decC cx0 xs s).1),(stp CM.decC cx0 xs s).2):Bs×St))
   (if hb=true then seq bs0 CM.decC (fun c=>pmap (fun e=>(true,c,e)) CM.decC) else pmap (fun e=>(false,([],[]),e)) CM.decC):=by
  intro hb;cases hb with
  | true=>exact hC.seq bs0 (fun c=>hC.map fun e=>((true,c,e):Bs))
  | false=>exact hC.map fun e=>((false,([],[]),e):Bs)
 exact (SS.stp bl false xs).seq bs0 h1
theorem rds_bas (xs:List Int) (m:Ms) (s:St) (h1:m.bf = []) (h2:m.bt = []):rds xs [5,4,6] m s=(addB m (basR xs s).1,(basR xs s).2):=by
 obtain ⟨k,fr,tx,p,n,r,d,cf,ct,bf,bt,hb,ef,et,cg,st,hv,mo⟩:=m;dsimp only at h1 h2;subst h1 h2;obtain ⟨⟨b,s1⟩,hb1⟩:∃ x,stp bl false xs s=x:=⟨_,rfl⟩
 cases b with
 | true=>simp [rds,rdF,basR,hb1,addB]
 | false=>simp [rds,rdF,basR,hb1,addB]
theorem sim_k1 (xs:List Int) (fr tx:Int):SS xs (rds xs (usd 1) (z 1 fr tx)) (pX 1 fr tx):=by
 have h:=(SS.many xs 4).seq (z 1 fr tx) (fun l=>(SS.stp CM.decL [] xs).seq (z 1 fr tx) (fun cg=>(SS.upd xs).seq (z 1 fr tx) (fun st=>SS.pure xs ({k:=1,fr,tx,p:=l.getD 0 0,n:=l.getD 1 0,r:=l.getD 2 0,d:=l.getD 3 0,cg,st}:Ms))));exact h
theorem sim_k2 (xs:List Int) (fr tx:Int):SS xs (rds xs (usd 2) (z 2 fr tx)) (pX 2 fr tx):=by
 have h:=(SS.many xs 3).seq (z 2 fr tx) (fun l=>(SS.stp CM.decL [] xs).seq (z 2 fr tx) (fun cg=>(SS.upd xs).seq (z 2 fr tx) (fun st=>(sim_bas xs).map fun b=>addB ⟨2,fr,tx,l.getD 0 0,l.getD 1 0,l.getD 2 0,0,[],[],[],[],false,[],[],cg,st,[],false⟩ b)));have e:rds xs (usd 2) (z 2 fr tx)=fun s=>((addB ⟨2,fr,tx,(JM.many xs s 3).1.getD 0 0,(JM.many xs s 3).1.getD 1 0,(JM.many xs s 3).1.getD 2 0,0,[],[],[],[],false,[],[],(stp CM.decL [] xs (JM.many xs s 3).2).1,(updR xs (stp CM.decL [] xs (JM.many xs s 3).2).2).1,[],false⟩ (basR xs (updR xs (stp CM.decL [] xs (JM.many xs s 3).2).2).2).1),(basR xs (updR xs (stp CM.decL [] xs (JM.many xs s 3).2).2).2).2):=by
  funext s
  show rds xs [5,4,6] ⟨2,fr,tx,(JM.many xs s 3).1.getD 0 0,(JM.many xs s 3).1.getD 1 0,(JM.many xs s 3).1.getD 2 0,0,[],[],[],[],false,[],[],(stp CM.decL [] xs (JM.many xs s 3).2).1,(updR xs (stp CM.decL [] xs (JM.many xs s 3).2).2).1,[],false⟩ (updR xs (stp CM.decL [] xs (JM.many xs s 3).2).2).2=_
  exact rds_bas xs _ _ rfl rfl
 rw [e];exact h
theorem sim_k4 (xs:List Int) (fr tx:Int):SS xs (rds xs (usd 4) (z 4 fr tx)) (pR 4 fr tx):=by
 have h:=(SS.stp CM.decC cx0 xs).seq (z 4 fr tx) (fun c=>(SS.vec xs).map fun v=>({k:=4,fr,tx,cf:=c.1,ct:=c.2,hv:=v}:Ms));exact h
theorem sim_k5 (xs:List Int) (fr tx:Int):SS xs (rds xs (usd 5) (z 5 fr tx)) (pR 5 fr tx):=by
 have h:=(SS.stp CM.decC cx0 xs).seq (z 5 fr tx) (fun c=>(SS.upd xs).seq (z 5 fr tx) (fun st=>(SS.stp bl false xs).seq (z 5 fr tx) (fun mo=>(sim_bas xs).map fun b=>addB ⟨5,fr,tx,0,0,0,0,c.1,c.2,[],[],false,[],[],[],st,[],mo⟩ b)));have e:rds xs (usd 5) (z 5 fr tx)=fun s=>((addB ⟨5,fr,tx,0,0,0,0,(stp CM.decC cx0 xs s).1.1,(stp CM.decC cx0 xs s).1.2,[],[],false,[],[],[],(updR xs (stp CM.decC cx0 xs s).2).1,[],(stp bl false xs (updR xs (stp CM.decC cx0 xs s).2).2).1⟩ (basR xs (stp bl false xs (updR xs (stp CM.decC cx0 xs s).2).2).2).1),(basR xs (stp bl false xs (updR xs (stp CM.decC cx0 xs s).2).2).2).2):=by
  funext s
  show rds xs [5,4,6] ⟨5,fr,tx,0,0,0,0,(stp CM.decC cx0 xs s).1.1,(stp CM.decC cx0 xs s).1.2,[],[],false,[],[],[],(updR xs (stp CM.decC cx0 xs s).2).1,[],(stp bl false xs (updR xs (stp CM.decC cx0 xs s).2).2).1⟩ (stp bl false xs (updR xs (stp CM.decC cx0 xs s).2).2).2=_
  exact rds_bas xs _ _ rfl rfl
 rw [e];exact h
theorem sim_k3 (xs:List Int) (k fr tx:Int) (hk:k=3∨k=6∨k=7∨k=8):SS xs (rds xs (usd k) (z k fr tx)) (pR k fr tx):=by
 have h:=(SS.stp CM.decC cx0 xs).seq (z k fr tx) (fun c=>SS.pure xs ({k,fr,tx,cf:=c.1,ct:=c.2}:Ms));rcases hk with e | e | e | e <;> subst e <;> exact h
theorem sim_fld (xs:List Int) (k fr tx:Int) (hk:kn k=true):SS xs (rds xs (usd k) (z k fr tx)) (if k=1∨k=2 then pX k fr tx else pR k fr tx):=by
 rcases kn_cases hk with e | e | e | e | e | e | e | e
 ·subst e;rw [if_pos (by decide)];exact sim_k1 xs fr tx
 ·subst e;rw [if_pos (by decide)];exact sim_k2 xs fr tx
 ·rw [if_neg (by omega)];exact sim_k3 xs k fr tx (by omega)
 ·subst e;rw [if_neg (by decide)];exact sim_k4 xs fr tx
 ·subst e;rw [if_neg (by decide)];exact sim_k5 xs fr tx
 ·rw [if_neg (by omega)];exact sim_k3 xs k fr tx (by omega)
 ·rw [if_neg (by omega)];exact sim_k3 xs k fr tx (by omega)
 ·rw [if_neg (by omega)];exact sim_k3 xs k fr tx (by omega)
def finM (r:Ms×St):Int×Nat×Ms:=if r.2.2≠0 then (r.2.2,0,z 0 0 0) else if errM r.1≠0 then (errM r.1,0,z 0 0 0) else (0,r.2.1,r.1)
def restM (xs:List Int) (k:Int) (s:St):Ms×St:=
 if kn k=false then (z 0 0 0,if s.2≠0 then s else (s.1,10)) else rds xs (usd k) (z k (JM.step xs s).1 (JM.step xs (JM.step xs s).2).1) (JM.step xs (JM.step xs s).2).2
theorem sim_M (xs:List Int):Sim xs (fun s=>restM xs (JM.step xs s).1 (JM.step xs s).2) pM:=by
 refine (Sim.step xs).seq (d:=z 0 0 0) (R':=restM xs) (fun k=>?_) (fun k=>?_)
 ·by_cases hk:kn k=true
  ·have hr:=of_decide_eq_true hk;rw [if_neg (by omega)];have h:=((SS.many xs 2).seq (z 0 0 0) (fun l=>sim_fld xs k (l.getD 0 0) (l.getD 1 0) hk)).1;have e:restM xs k=fun s=>rds xs (usd k) (z k ((JM.many xs s 2).1.getD 0 0) ((JM.many xs s 2).1.getD 1 0)) (JM.many xs s 2).2:=by
    funext s
    unfold restM;rw [if_neg (by rw [hk];decide)];rfl
   rw [e];exact h
  ·have hn:¬ (1<=k/\k<=8):=fun h=>hk (decide_eq_true h)
   rw [if_pos (by omega)];intro u;unfold restM;rw [if_pos (by simpa using hk),if_neg (by simp)];exact ⟨rfl,fun e=>absurd e (show ¬ (10:Int)=0 by decide)⟩
 ·intro s h;unfold restM;by_cases hk:kn k=false
  ·rw [if_pos hk,if_pos h]
  ·rw [if_neg hk];have h1:JM.step xs s=(0,s):=step_zero h;rw [h1];dsimp only;rw [h1];exact rds_stop xs _ _ s h
theorem decM_run (xs:List Int):decM xs=finM (restM xs (JM.step xs (0,0)).1 (JM.step xs (0,0)).2):=by
 obtain ⟨h1,h2⟩:=sim_M xs 0;rw [List.drop_zero] at h1 h2;dsimp only at h1 h2;unfold decM finM;by_cases h:(pM xs).1=0
 ·obtain ⟨e1,e2⟩:=h2 h;rw [Nat.zero_add] at e2;have hn:¬ (pM xs).1≠0:=fun k=>k h
  have hn2:¬ (restM xs (JM.step xs (0,0)).1 (JM.step xs (0,0)).2).2.2≠0:=fun k=>k (h1.trans h)
  rw [if_neg hn,if_neg hn2,e1,e2];by_cases h3:errM (pM xs).2.2=0
  ·have hn3:¬ errM (pM xs).2.2≠0:=fun k=>k h3
   rw [if_neg hn3,if_neg hn3];exact Prod.ext h rfl
  ·rw [if_pos h3,if_pos h3]
 ·rw [if_pos h,if_pos (by rw [h1];exact h),h1]
end Go.Proofs.YtahcehbgfhdbjaaGreatDoor.NM
namespace Go.Proofs.YtahcehbgfhdbjaaGreatDoor
open Go.RowKit
open NM (Ms)
open VM (Ent)
theorem neq_acc (x n y m:Int) (w:World):(binOp .neq 23 (.agg #[.int .i64 x,.int .i64 n]) (.agg #[.int .i64 y,.int .i64 m])).run Tryz.prog w = .ok (.bool (!decide (x=y/\n=m))) w:=by
 have u3:=Tryz.underlying3;have a3:=Tryz.isAgg3;have z3:=Tryz.sizeOf3;have hS:Tryz.prog.underlying 23=some (.struct (Tryz.prog.fieldsOf 23)):=by kernel_rfl
 have hp:Tryz.prog.stoodInHeld 23=false:=by kernel_rfl
 rw [run_neq_struct,show (10000:Nat)=9999+1 from rfl,run_equalIn_agg w 9999 23 _ _ hS hp];simp only [Program.fieldsOf,Tryz.underlying23];go_simp
 by_cases h1:x=y <;> by_cases h2:n=m <;> simp [h1,h2]
theorem rEmp (a b:Value) (f t:List CM.Fp) (w:World) (ha:RdF w a f) (hb:RdF w b t) :
  Calls Tryz.prog 70 #[cev a b] w fun e w'=>e = .returned (.bool (NM.emp f t))/\Below w.heap.size w w':=by
 obtain ⟨aa,ac,rfl,hac,_⟩:=ha.shape;obtain ⟨ba,bc,rfl,hbc,_⟩:=hb.shape;have hb0:=below_fresh w (.cells #[.slice aa f.length ac,.slice ba t.length bc] 27);have hX:=XB.fresh w (.slice aa f.length ac) (.slice ba t.length bc);obtain ⟨w0,hw0⟩:∃ w0,w.alloc (.cells #[.slice aa f.length ac,.slice ba t.length bc] 27)=w0:=⟨_,rfl⟩
 rw [hw0] at hb0 hX;have HB:=hid hb0;have HW:=hid hw0;obtain ⟨x0,x1,_⟩:=hX.cells;unfold NM.emp;clear ha hb hX hb0 hw0;by_cases h1:f.length=0
 ·have q1:((f.length:Int)==0)=true:=beq_t (by omega);rw [decide_eq_true h1];by_cases h2:t.length=0
  ·have q2:((t.length:Int)==0)=true:=beq_t (by omega);rw [decide_eq_true h2];clear h1 h2;go_enter Tryz.func70,Tryz.ntmps70
   go_upto_region 1 with fail
   rw [HW.out];go_wp2
   go_ret;exact ⟨rfl,HB.out⟩
  ·have q2:((t.length:Int)==0)=false:=beq_f (by omega);rw [decide_eq_false h2];clear h1 h2;go_enter Tryz.func70,Tryz.ntmps70
   go_upto_region 1 with fail
   rw [HW.out];go_wp2
   go_ret;exact ⟨rfl,HB.out⟩
 ·have q1:((f.length:Int)==0)=false:=beq_f (by omega);rw [decide_eq_false h1];clear h1;go_enter Tryz.func70,Tryz.ntmps70
  go_upto_region 1 with fail
  rw [HW.out];go_wp2
  go_ret;exact ⟨rfl,HB.out⟩
def FB (w:World) (g:Nat) (b0 b1 b2 b3 b4 b5 b6 b7 b8:Bool):Prop:=w.heap[g]? = some (.cells #[.bool b0,.bool b1,.bool b2,.bool b3,.bool b4,.bool b5,.bool b6,.bool b7,.bool b8] 106 (0,0))
theorem FB.fresh (w:World) (b0 b1 b2 b3 b4 b5 b6 b7 b8:Bool):FB (w.alloc (.cells #[.bool b0,.bool b1,.bool b2,.bool b3,.bool b4,.bool b5,.bool b6,.bool b7,.bool b8] 106)) w.heap.size b0 b1 b2 b3 b4 b5 b6 b7 b8:=heap_alloc_new w _
theorem FB.below {w w':World} {g:Nat} {b0 b1 b2 b3 b4 b5 b6 b7 b8:Bool} (h:FB w g b0 b1 b2 b3 b4 b5 b6 b7 b8) (hb:Below w.heap.size w w'):FB w' g b0 b1 b2 b3 b4 b5 b6 b7 b8:=below_block h hb
theorem FB.cells {w:World} {g:Nat} {b0 b1 b2 b3 b4 b5 b6 b7 b8:Bool} (h:FB w g b0 b1 b2 b3 b4 b5 b6 b7 b8):w.cell? ⟨g,0,none⟩=some (.bool b0)/\w.cell? ⟨g,1,none⟩=some (.bool b1)/\w.cell? ⟨g,2,none⟩=some (.bool b2)/\w.cell? ⟨g,3,none⟩=some (.bool b3)/\w.cell? ⟨g,4,none⟩=some (.bool b4)/\w.cell? ⟨g,5,none⟩=some (.bool b5)/\w.cell? ⟨g,6,none⟩=some (.bool b6)/\w.cell? ⟨g,7,none⟩=some (.bool b7)/\w.cell? ⟨g,8,none⟩=some (.bool b8):=by
 unfold FB at h;refine ⟨?_,?_,?_,?_,?_,?_,?_,?_,?_⟩ <;> simp [World.cell?,h]
theorem FB.free {w:World} {g:Nat} {b0 b1 b2 b3 b4 b5 b6 b7 b8:Bool} (h:FB w g b0 b1 b2 b3 b4 b5 b6 b7 b8) (j:Nat):w.frozen? ⟨g,j,none⟩=false:=by
 unfold FB at h;simp [World.frozen?,h]
theorem FB.put {w:World} {g:Nat} {b0 b1 b2 b3 b4 b5 b6 b7 b8:Bool} (h:FB w g b0 b1 b2 b3 b4 b5 b6 b7 b8) (c0 c1 c2 c3 c4 c5 c6 c7 c8:Bool):FB (((((((((w.setCell ⟨g,0,none⟩ (.bool c0)).setCell ⟨g,1,none⟩ (.bool c1)).setCell ⟨g,2,none⟩ (.bool c2)).setCell ⟨g,3,none⟩ (.bool c3)).setCell ⟨g,4,none⟩ (.bool c4)).setCell ⟨g,5,none⟩ (.bool c5)).setCell ⟨g,6,none⟩ (.bool c6)).setCell ⟨g,7,none⟩ (.bool c7)).setCell ⟨g,8,none⟩ (.bool c8)) g c0 c1 c2 c3 c4 c5 c6 c7 c8:=by
 have h0:(w.setCell ⟨g,0,none⟩ (.bool c0)).heap[g]? = some (.cells #[.bool c0,.bool b1,.bool b2,.bool b3,.bool b4,.bool b5,.bool b6,.bool b7,.bool b8] 106 (0,0)):=heap_setCell_same w g 0 _ _ _ h;have h1:((w.setCell ⟨g,0,none⟩ (.bool c0)).setCell ⟨g,1,none⟩ (.bool c1)).heap[g]? = some (.cells #[.bool c0,.bool c1,.bool b2,.bool b3,.bool b4,.bool b5,.bool b6,.bool b7,.bool b8] 106 (0,0)):=heap_setCell_same _ g 1 _ _ _ h0;have h2:(((w.setCell ⟨g,0,none⟩ (.bool c0)).setCell ⟨g,1,none⟩ (.bool c1)).setCell ⟨g,2,none⟩ (.bool c2)).heap[g]? = some (.cells #[.bool c0,.bool c1,.bool c2,.bool b3,.bool b4,.bool b5,.bool b6,.bool b7,.bool b8] 106 (0,0)):=heap_setCell_same _ g 2 _ _ _ h1;have h3:((((w.setCell ⟨g,0,none⟩ (.bool c0)).setCell ⟨g,1,none⟩ (.bool c1)).setCell ⟨g,2,none⟩ (.bool c2)).setCell ⟨g,3,none⟩ (.bool c3)).heap[g]? = some (.cells #[.bool c0,.bool c1,.bool c2,.bool c3,.bool b4,.bool b5,.bool b6,.bool b7,.bool b8] 106 (0,0)):=heap_setCell_same _ g 3 _ _ _ h2;have h4:(((((w.setCell ⟨g,0,none⟩ (.bool c0)).setCell ⟨g,1,none⟩ (.bool c1)).setCell ⟨g,2,none⟩ (.bool c2)).setCell ⟨g,3,none⟩ (.bool c3)).setCell ⟨g,4,none⟩ (.bool c4)).heap[g]? = some (.cells #[.bool c0,.bool c1,.bool c2,.bool c3,.bool c4,.bool b5,.bool b6,.bool b7,.bool b8] 106 (0,0)):=heap_setCell_same _ g 4 _ _ _ h3;have h5:((((((w.setCell ⟨g,0,none⟩ (.bool c0)).setCell ⟨g,1,none⟩ (.bool c1)).setCell ⟨g,2,none⟩ (.bool c2)).setCell ⟨g,3,none⟩ (.bool c3)).setCell ⟨g,4,none⟩ (.bool c4)).setCell ⟨g,5,none⟩ (.bool c5)).heap[g]? = some (.cells #[.bool c0,.bool c1,.bool c2,.bool c3,.bool c4,.bool c5,.bool b6,.bool b7,.bool b8] 106 (0,0)):=heap_setCell_same _ g 5 _ _ _ h4
 have h6:(((((((w.setCell ⟨g,0,none⟩ (.bool c0)).setCell ⟨g,1,none⟩ (.bool c1)).setCell ⟨g,2,none⟩ (.bool c2)).setCell ⟨g,3,none⟩ (.bool c3)).setCell ⟨g,4,none⟩ (.bool c4)).setCell ⟨g,5,none⟩ (.bool c5)).setCell ⟨g,6,none⟩ (.bool c6)).heap[g]? = some (.cells #[.bool c0,.bool c1,.bool c2,.bool c3,.bool c4,.bool c5,.bool c6,.bool b7,.bool b8] 106 (0,0)):=heap_setCell_same _ g 6 _ _ _ h5;have h7:((((((((w.setCell ⟨g,0,none⟩ (.bool c0)).setCell ⟨g,1,none⟩ (.bool c1)).setCell ⟨g,2,none⟩ (.bool c2)).setCell ⟨g,3,none⟩ (.bool c3)).setCell ⟨g,4,none⟩ (.bool c4)).setCell ⟨g,5,none⟩ (.bool c5)).setCell ⟨g,6,none⟩ (.bool c6)).setCell ⟨g,7,none⟩ (.bool c7)).heap[g]? = some (.cells #[.bool c0,.bool c1,.bool c2,.bool c3,.bool c4,.bool c5,.bool c6,.bool c7,.bool b8] 106 (0,0)):=heap_setCell_same _ g 7 _ _ _ h6;have h8:(((((((((w.setCell ⟨g,0,none⟩ (.bool c0)).setCell ⟨g,1,none⟩ (.bool c1)).setCell ⟨g,2,none⟩ (.bool c2)).setCell ⟨g,3,none⟩ (.bool c3)).setCell ⟨g,4,none⟩ (.bool c4)).setCell ⟨g,5,none⟩ (.bool c5)).setCell ⟨g,6,none⟩ (.bool c6)).setCell ⟨g,7,none⟩ (.bool c7)).setCell ⟨g,8,none⟩ (.bool c8)).heap[g]? = some (.cells #[.bool c0,.bool c1,.bool c2,.bool c3,.bool c4,.bool c5,.bool c6,.bool c7,.bool c8] 106 (0,0)):=heap_setCell_same _ g 8 _ _ _ h7;exact h8
theorem only9 {w:World} {g:Nat} (c0 c1 c2 c3 c4 c5 c6 c7 c8:Bool):Only g w (((((((((w.setCell ⟨g,0,none⟩ (.bool c0)).setCell ⟨g,1,none⟩ (.bool c1)).setCell ⟨g,2,none⟩ (.bool c2)).setCell ⟨g,3,none⟩ (.bool c3)).setCell ⟨g,4,none⟩ (.bool c4)).setCell ⟨g,5,none⟩ (.bool c5)).setCell ⟨g,6,none⟩ (.bool c6)).setCell ⟨g,7,none⟩ (.bool c7)).setCell ⟨g,8,none⟩ (.bool c8)):=
 ((((((((Only.set 0 _).trans (Only.set 1 _)).trans (Only.set 2 _)).trans (Only.set 3 _)).trans (Only.set 4 _)).trans (Only.set 5 _)).trans (Only.set 6 _)).trans (Only.set 7 _)).trans (Only.set 8 _)
theorem fldRet {fn:Func} {p:Tmp} {R:Ending->World->Prop} {a:Act} {w:World} {g:Nat} {b0 b1 b2 b3 b4 b5 b6 b7 b8:Bool} (h:fn.results = #[.cell p 106]) (hp:a.tmps.getD p undef = .pointer (some ⟨g,0,none⟩)) (hg:FB w g b0 b1 b2 b3 b4 b5 b6 b7 b8)
  (hd:a.defers = []) (hR:R (.returned (.agg #[.bool b0,.bool b1,.bool b2,.bool b3,.bool b4,.bool b5,.bool b6,.bool b7,.bool b8])) w):bodyPost Tryz.prog fn R .ret a w:=
 bodyPost_ret (results_cell_row (P:=Tryz.prog) h a.tmps w g 106 _ _ _ hp hg Tryz.underlying106 rfl (by kernel_rfl)) hd hR
theorem rUsed1 (w:World):Calls Tryz.prog 69 #[.int .i64 1] w fun e w'=>e = .returned (.agg #[.bool true,.bool true,.bool true,.bool true,.bool true,.bool false,.bool false,.bool false,.bool false])/\Below w.heap.size w w':=by
 have hb0:=below_fresh w (.cells #[.bool false,.bool false,.bool false,.bool false,.bool false,.bool false,.bool false,.bool false,.bool false] 106);have hX:=FB.fresh w false false false false false false false false false;obtain ⟨w0,hw0⟩:∃ w0,w.alloc (.cells #[.bool false,.bool false,.bool false,.bool false,.bool false,.bool false,.bool false,.bool false,.bool false] 106)=w0:=⟨_,rfl⟩
 rw [hw0] at hb0 hX;have HB:=hid hb0;have HX:=hid hX;have HW:=hid hw0;have hfr:=hX.free;obtain ⟨x0,x1,x2,x3,x4,x5,x6,x7,x8⟩:=hX.cells;clear hb0 hX hw0;go_enter Tryz.func69,Tryz.ntmps69
 go_upto_region 1 with fail
 rw [HW.out];go_wp2
 exact fldRet rfl rfl (HX.out.put true true true true true false false false false) rfl ⟨rfl,seen HB.out (Nat.le_refl _) (only9 _ _ _ _ _ _ _ _ _)⟩
theorem rUsed2 (w:World):Calls Tryz.prog 69 #[.int .i64 2] w fun e w'=>e = .returned (.agg #[.bool true,.bool true,.bool false,.bool true,.bool true,.bool true,.bool false,.bool false,.bool false])/\Below w.heap.size w w':=by
 have hb0:=below_fresh w (.cells #[.bool false,.bool false,.bool false,.bool false,.bool false,.bool false,.bool false,.bool false,.bool false] 106);have hX:=FB.fresh w false false false false false false false false false;obtain ⟨w0,hw0⟩:∃ w0,w.alloc (.cells #[.bool false,.bool false,.bool false,.bool false,.bool false,.bool false,.bool false,.bool false,.bool false] 106)=w0:=⟨_,rfl⟩
 rw [hw0] at hb0 hX;have HB:=hid hb0;have HX:=hid hX;have HW:=hid hw0;have hfr:=hX.free;obtain ⟨x0,x1,x2,x3,x4,x5,x6,x7,x8⟩:=hX.cells;clear hb0 hX hw0;go_enter Tryz.func69,Tryz.ntmps69
 go_upto_region 1 with fail
 rw [HW.out];go_wp2
 exact fldRet rfl rfl (HX.out.put true true false true true true false false false) rfl ⟨rfl,seen HB.out (Nat.le_refl _) (only9 _ _ _ _ _ _ _ _ _)⟩
theorem rUsed4 (w:World):Calls Tryz.prog 69 #[.int .i64 4] w fun e w'=>e = .returned (.agg #[.bool false,.bool false,.bool false,.bool false,.bool false,.bool false,.bool true,.bool true,.bool false])/\Below w.heap.size w w':=by
 have hb0:=below_fresh w (.cells #[.bool false,.bool false,.bool false,.bool false,.bool false,.bool false,.bool false,.bool false,.bool false] 106);have hX:=FB.fresh w false false false false false false false false false;obtain ⟨w0,hw0⟩:∃ w0,w.alloc (.cells #[.bool false,.bool false,.bool false,.bool false,.bool false,.bool false,.bool false,.bool false,.bool false] 106)=w0:=⟨_,rfl⟩
 rw [hw0] at hb0 hX;have HB:=hid hb0;have HX:=hid hX;have HW:=hid hw0;have hfr:=hX.free;obtain ⟨x0,x1,x2,x3,x4,x5,x6,x7,x8⟩:=hX.cells;clear hb0 hX hw0;go_enter Tryz.func69,Tryz.ntmps69
 go_upto_region 1 with fail
 rw [HW.out];go_wp2
 exact fldRet rfl rfl (HX.out.put false false false false false false true true false) rfl ⟨rfl,seen HB.out (Nat.le_refl _) (only9 _ _ _ _ _ _ _ _ _)⟩
theorem rUsed5 (w:World):Calls Tryz.prog 69 #[.int .i64 5] w fun e w'=>e = .returned (.agg #[.bool false,.bool false,.bool false,.bool false,.bool true,.bool true,.bool true,.bool false,.bool true])/\Below w.heap.size w w':=by
 have hb0:=below_fresh w (.cells #[.bool false,.bool false,.bool false,.bool false,.bool false,.bool false,.bool false,.bool false,.bool false] 106);have hX:=FB.fresh w false false false false false false false false false;obtain ⟨w0,hw0⟩:∃ w0,w.alloc (.cells #[.bool false,.bool false,.bool false,.bool false,.bool false,.bool false,.bool false,.bool false,.bool false] 106)=w0:=⟨_,rfl⟩
 rw [hw0] at hb0 hX;have HB:=hid hb0;have HX:=hid hX;have HW:=hid hw0;have hfr:=hX.free;obtain ⟨x0,x1,x2,x3,x4,x5,x6,x7,x8⟩:=hX.cells;clear hb0 hX hw0;go_enter Tryz.func69,Tryz.ntmps69
 go_upto_region 1 with fail
 rw [HW.out];go_wp2
 exact fldRet rfl rfl (HX.out.put false false false false true true true false true) rfl ⟨rfl,seen HB.out (Nat.le_refl _) (only9 _ _ _ _ _ _ _ _ _)⟩
theorem rUsedo (k:Int) (h1:k≠1) (h2:k≠2) (h4:k≠4) (h5:k≠5) (w:World):Calls Tryz.prog 69 #[.int .i64 k] w fun e w'=>e = .returned (.agg #[.bool false,.bool false,.bool false,.bool false,.bool false,.bool false,.bool true,.bool false,.bool false])/\Below w.heap.size w w':=by
 have m1:(k==1)=false:=beq_f h1;have m2:(k==2)=false:=beq_f h2;have m4:(k==4)=false:=beq_f h4;have m5:(k==5)=false:=beq_f h5;clear h1 h2 h4 h5;have hb0:=below_fresh w (.cells #[.bool false,.bool false,.bool false,.bool false,.bool false,.bool false,.bool false,.bool false,.bool false] 106);have hX:=FB.fresh w false false false false false false false false false;obtain ⟨w0,hw0⟩:∃ w0,w.alloc (.cells #[.bool false,.bool false,.bool false,.bool false,.bool false,.bool false,.bool false,.bool false,.bool false] 106)=w0:=⟨_,rfl⟩
 rw [hw0] at hb0 hX;have HB:=hid hb0;have HX:=hid hX;have HW:=hid hw0;have hfr:=hX.free;obtain ⟨x0,x1,x2,x3,x4,x5,x6,x7,x8⟩:=hX.cells;clear hb0 hX hw0;go_enter Tryz.func69,Tryz.ntmps69
 go_upto_region 1 with fail
 rw [HW.out];go_wp2
 exact fldRet rfl rfl (HX.out.put false false false false false false true false false) rfl ⟨rfl,seen HB.out (Nat.le_refl _) (only9 _ _ _ _ _ _ _ _ _)⟩
theorem rProc (x:Int) (w:World):Calls Tryz.prog 23 #[.int .i64 x] w fun e w'=>e = .returned (.bool (NM.proc x))/\w=w':=by
 have H1:=hid (fun w=>rServer x w);have H2:=hid (fun w=>rClient x w);have H3:=hid (fun w=>rAdmin x w);unfold NM.proc;generalize JM.isSrv x=A at H1;generalize UM.isCl x=B at H2;generalize JM.isAdm x=C at H3;cases A
 ·cases B
  ·go_enter Tryz.func23,Tryz.ntmps23
   go_wp2_with fail
   refine (H1.out _).mono ?_;rintro e w1 ⟨rfl,rfl⟩;go_wp2_with fail
   refine (H2.out _).mono ?_;rintro e w1 ⟨rfl,rfl⟩;go_wp2_with fail
   refine (H3.out _).mono ?_;rintro e w1 ⟨rfl,rfl⟩;go_wp2
   go_ret;exact ⟨rfl,rfl⟩
  ·go_enter Tryz.func23,Tryz.ntmps23
   go_wp2_with fail
   refine (H1.out _).mono ?_;rintro e w1 ⟨rfl,rfl⟩;go_wp2_with fail
   refine (H2.out _).mono ?_;rintro e w1 ⟨rfl,rfl⟩;go_wp2
   go_ret;exact ⟨rfl,rfl⟩
 ·go_enter Tryz.func23,Tryz.ntmps23
  go_wp2_with fail
  refine (H1.out _).mono ?_;rintro e w1 ⟨rfl,rfl⟩;go_wp2
  go_ret;exact ⟨rfl,rfl⟩
end Go.Proofs.YtahcehbgfhdbjaaGreatDoor

