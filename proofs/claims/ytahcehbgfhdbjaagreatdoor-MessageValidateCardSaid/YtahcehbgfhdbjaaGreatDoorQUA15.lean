/-
  NOms: joined texts, what nothing names left out.
-/
import Derived.Test.YtahcehbgfhdbjaaGreatDoorQUA13
namespace Go.Proofs.YtahcehbgfhdbjaaGreatDoor
open Go.RowKit
open NM (Ms)
open VM (Ent)
open JM (Chg)
theorem VX.OwnV.only {base:Nat} {w w':World} {v:Value} {ys:List Ent} {g:Nat} (h:VX.OwnV base w v ys) (ho:Only g w w') (hg:g<base):VX.OwnV base w' v ys:=by
 refine ⟨h.1,?_⟩;rcases h.2 with h6 | ⟨gg,cap,cur',hv,hgg,hh,r⟩
 ·exact .inl h6
 ·exact .inr ⟨gg,cap,cur',hv,hgg,ho.at hh (by omega),r⟩
theorem ST.OwnR.mono {base b2:Nat} {w:World} {v:Value} {fs:List SM.Fp} (h:ST.OwnR base w v fs) (hle:b2<=base):ST.OwnR b2 w v fs:=by
 obtain ⟨qs,h1,h2⟩:=h;refine ⟨qs,h1.mono hle,?_⟩;clear h1;induction qs generalizing fs with
 | nil=>cases fs with
  | nil=>trivial
  | cons f l=>exact h2.elim
 | cons q l ih=>cases fs with
  | nil=>exact h2.elim
  | cons f r=>exact ⟨⟨h2.1.1,h2.1.2.1,h2.1.2.2.1,h2.1.2.2.2.mono hle⟩,ih h2.2⟩
structure OwnMs (base:Nat) (w:World) (x:Mv) (m:Ms):Prop where
 cf:OwnR base w x.cf m.cf
 ct:OwnR base w x.ct m.ct
 bf:OwnR base w x.bf m.bf
 bt:OwnR base w x.bt m.bt
 ef:OwnR base w x.ef m.ef
 et:OwnR base w x.et m.et
 cg:OwnR base w x.cg m.cg
 st:ST.OwnR base w x.st m.st
 hv:VX.OwnV base w x.hv m.hv
theorem OwnMs.rd {base:Nat} {w:World} {x:Mv} {m:Ms} (h:OwnMs base w x m):RdMs w x m:=
 ⟨h.cf.rd,h.ct.rd,h.bf.rd,h.bt.rd,h.ef.rd,h.et.rd,h.cg.rd,h.st.rd,h.hv.rd⟩
theorem OwnMs.below {base:Nat} {w w':World} {x:Mv} {m:Ms} (h:OwnMs base w x m) (hb:Below w.heap.size w w'):OwnMs base w' x m:=
 ⟨h.cf.below hb,h.ct.below hb,h.bf.below hb,h.bt.below hb,h.ef.below hb,h.et.below hb,h.cg.below hb,h.st.below hb,h.hv.below hb⟩
theorem OwnMs.only {base g:Nat} {w w':World} {x:Mv} {m:Ms} (h:OwnMs base w x m) (ho:Only g w w') (hg:g<base):OwnMs base w' x m:=
 ⟨h.cf.only ho hg,h.ct.only ho hg,h.bf.only ho hg,h.bt.only ho hg,h.ef.only ho hg,h.et.only ho hg,h.cg.only ho hg,h.st.only ho hg,h.hv.only ho hg⟩
theorem OwnMs.nil {base:Nat} {w:World} {m:Ms} (h:m.cf = []/\m.ct = []/\m.bf = []/\m.bt = []/\m.ef = []/\m.et = []/\m.cg = []/\m.st = []/\m.hv = []):OwnMs base w ({}:Mv) m:=by
 obtain ⟨h1,h2,h3,h4,h5,h6,h7,h8,h9⟩:=h;exact ⟨by rw [h1];exact OwnR.nil _ w,by rw [h2];exact OwnR.nil _ w,by rw [h3];exact OwnR.nil _ w,by rw [h4];exact OwnR.nil _ w,by rw [h5];exact OwnR.nil _ w,by rw [h6];exact OwnR.nil _ w,by rw [h7];exact OwnR.nil _ w,by rw [h8];exact ST.OwnR.nil _ w,by rw [h9];exact VX.OwnV.nil _ w⟩
theorem SlX.cells {m:Ms} {x:Mv} (h:SlX x):(mcell m x).all (·.oneCell')=true:=by
 obtain ⟨⟨a1,l1,c1,e1⟩,⟨a2,l2,c2,e2⟩,⟨a3,l3,c3,e3⟩,⟨a4,l4,c4,e4⟩,⟨a5,l5,c5,e5⟩,⟨a6,l6,c6,e6⟩,⟨a7,l7,c7,e7⟩,⟨a8,l8,c8,e8⟩,⟨a9,l9,c9,e9⟩⟩:=h;unfold mcell;rw [e1,e2,e3,e4,e5,e6,e7,e8,e9];simp [Value.oneCell']
section
variable {w:World} {g:Nat} {m:Ms} {x:Mv}
theorem MB.setAcc (h:MB w g m x) (p n:Int):MB ((w.setCell ⟨g,3,none⟩ (.int .i64 p)).setCell ⟨g,4,none⟩ (.int .i64 n)) g { m with p:=p,n:=n } x:=by
 have h1:(w.setCell ⟨g,3,none⟩ (.int .i64 p)).heap[g]? = some (.cells (mcell { m with p:=p } x) 33 (0,0)):=heap_setCell_same w g 3 _ _ _ h;exact heap_setCell_same _ g 4 _ _ _ h1
theorem MB.setRnd (h:MB w g m x) (r:Int):MB (w.setCell ⟨g,5,none⟩ (.int .i64 r)) g { m with r:=r } x:=heap_setCell_same w g 5 _ _ _ h
theorem MB.setMod (h:MB w g m x) (d:Int):MB (w.setCell ⟨g,6,none⟩ (.int .i64 d)) g { m with d:=d } x:=heap_setCell_same w g 6 _ _ _ h
theorem MB.setCgSt (h:MB w g m x) (cg:List CM.Fp) (st:List SM.Fp) (a b:Value):MB ((w.setCell ⟨g,14,none⟩ a).setCell ⟨g,15,none⟩ b) g { m with cg:=cg,st:=st } { x with cg:=a,st:=b }:=by
 have h1:(w.setCell ⟨g,14,none⟩ a).heap[g]? = some (.cells (mcell { m with cg:=cg } { x with cg:=a }) 33 (0,0)):=heap_setCell_same w g 14 _ _ _ h;exact heap_setCell_same _ g 15 _ _ _ h1
theorem MB.setCert (h:MB w g m x) (cf ct:List CM.Fp) (a b:Value):MB ((w.setCell ⟨g,7,none⟩ a).setCell ⟨g,8,none⟩ b) g { m with cf:=cf,ct:=ct } { x with cf:=a,ct:=b }:=by
 have h1:(w.setCell ⟨g,7,none⟩ a).heap[g]? = some (.cells (mcell { m with cf:=cf } { x with cf:=a }) 33 (0,0)):=heap_setCell_same w g 7 _ _ _ h;exact heap_setCell_same _ g 8 _ _ _ h1
theorem MB.setHv (h:MB w g m x) (hv:List Ent) (a:Value):MB (w.setCell ⟨g,16,none⟩ a) g { m with hv:=hv } { x with hv:=a }:=heap_setCell_same w g 16 _ _ _ h
theorem MB.setStMo (h:MB w g m x) (st:List SM.Fp) (a:Value) (b:Bool):MB ((w.setCell ⟨g,15,none⟩ a).setCell ⟨g,17,none⟩ (.bool b)) g { m with st:=st,mo:=b } { x with st:=a }:=by
 have h1:(w.setCell ⟨g,15,none⟩ a).heap[g]? = some (.cells (mcell { m with st:=st } { x with st:=a }) 33 (0,0)):=heap_setCell_same w g 15 _ _ _ h;exact heap_setCell_same _ g 17 _ _ _ h1
end
theorem SM.rest_used {xs:List Int} (hb:WM.Bytes xs):∀ (n:Nat) (U:List SM.Fp) (u:Nat),u<=xs.length->(SM.rest xs n U u).2.1<=xs.length:=by
 intro n;induction n with
 | zero=>intro U u h;exact h
 | succ n ih=>
  intro U u h;rw [SM.rest_succ];split
  ·exact Nat.zero_le _
  ·have:=UM.decU_used (xs:=xs.drop u) (fun c hc=>hb c (List.mem_of_mem_drop hc));rw [List.length_drop] at this;exact ih _ _ (by omega)
namespace NM
theorem upd_used {xs:List Int} (hb:WM.Bytes xs):(upd xs).2.1<=xs.length:=by
 unfold upd;rcases JM.num_two xs hb with ⟨e,he,hd⟩ | ⟨m,hm,hd,hl⟩
 ·rw [hd,if_pos (by show e≠0;omega)];exact Nat.zero_le _
 ·rw [hd,if_neg (by simp)];split
  ·exact Nat.zero_le _
  ·exact SM.rest_used hb _ _ _ (by simpa using hl)
theorem drop_bytes {xs:List Int} (hb:WM.Bytes xs) (u:Nat):WM.Bytes (xs.drop u):=fun c hc=>hb c (List.mem_of_mem_drop hc)
theorem bl_used (xs:List Int):(bl xs).2.1<=xs.length:=by
 unfold bl;rcases decB_two xs with ⟨e,he,hd⟩ | ⟨b,hd,hl⟩
 ·rw [hd];exact Nat.zero_le _
 ·rw [hd];exact hl
def Used {α:Type} (P:Par α):Prop:=∀ xs,WM.Bytes xs->(P xs).2.1<=xs.length
theorem Used.seq {α β:Type} {d:β} {P:Par α} {Q:α->Par β} (h:Used P) (k:∀ a,Used (Q a)):Used (NM.seq d P Q):=by
 intro xs hb;have h1:=h xs hb;have h2:=k (P xs).2.2 _ (drop_bytes hb (P xs).2.1);rw [List.length_drop] at h2;unfold NM.seq;split
 ·exact Nat.zero_le _
 ·split
  ·exact Nat.zero_le _
  ·dsimp only;omega
theorem Used.map {α β:Type} {g:α->β} {P:Par α} (h:Used P):Used (pmap g P):=h
theorem Used.ite {α:Type} {c:Prop} [Decidable c] {P Q:Par α} (h:Used P) (k:Used Q):Used (if c then P else Q):=by split <;> assumption
theorem used_pure {α:Type} (a:α):Used (pure0 a):=fun _ _=>Nat.zero_le _
theorem used_fail {α:Type} (e:Int) (d:α):Used (fail0 e d):=fun _ _=>Nat.zero_le _
theorem used_bl:Used bl:=fun xs _=>bl_used xs
theorem used_num1:Used num1:=by
 intro xs hb;unfold num1;rcases JM.num_two xs hb with ⟨e,he,hd⟩ | ⟨m,hm,hd,hl⟩
 ·rw [hd];exact Nat.zero_le _
 ·rw [hd];simpa using hl
theorem used_nums (n:Nat):Used (nums n):=by
 intro xs hb;have:=(JM.many_small xs (0,0) hb (Nat.zero_le _) n).2;unfold nums;split
 ·exact Nat.zero_le _
 ·exact this
theorem used_B:Used pB:=used_bl.seq fun _=>Used.ite (Used.seq (fun _ hb=>decC_used hb) fun _=>Used.map fun _ hb=>decC_used hb) (Used.map fun _ hb=>decC_used hb)
theorem used_X (k fr tx:Int):Used (pX k fr tx):=(used_nums _).seq fun _=>Used.seq (fun _ hb=>CM.decL_used hb) fun _=>Used.seq (fun _ hb=>upd_used hb) fun _=>Used.ite (used_pure _) (Used.map used_B)
theorem used_H:Used pH:=used_num1.seq fun _=>Used.ite (used_fail _ _) (Used.map (used_nums _))
theorem used_R (k fr tx:Int):Used (pR k fr tx):=
 Used.seq (fun _ hb=>decC_used hb) fun _=>Used.ite (Used.map used_H) (Used.ite (Used.seq (fun _ hb=>upd_used hb) fun _=>used_bl.seq fun _=>Used.map used_B) (used_pure _))
theorem seq_err {α β:Type} {d:β} {P:Par α} {Q:α->Par β} {xs:List Int} {e:Int} (h:(P xs).1=e) (he:e≠0):NM.seq d P Q xs=(e,0,d):=by
 unfold NM.seq;rw [h,if_pos he]
theorem seq_then {α β:Type} {d:β} {P:Par α} {Q:α->Par β} {xs:List Int} {u:Nat} {a:α} {r:Int×Nat×β} (h:P xs=(0,u,a)) (k:Q a (xs.drop u)=r):NM.seq d P Q xs=if r.1≠0 then (r.1,0,d) else (0,u+r.2.1,r.2.2):=by
 unfold NM.seq;rw [h];dsimp only;rw [k,if_neg (by simp)]
theorem seq_fail {α β:Type} {d:β} {P:Par α} {Q:α->Par β} {xs:List Int} {u:Nat} {a:α} {e:Int} (h:P xs=(0,u,a)) (he:e≠0) (k:(Q a (xs.drop u)).1=e):NM.seq d P Q xs=(e,0,d):=by
 rw [seq_then h rfl,k,if_pos he]
theorem seq_good {α β:Type} {d:β} {P:Par α} {Q:α->Par β} {xs:List Int} {u v:Nat} {a:α} {b:β} (h:P xs=(0,u,a)) (k:Q a (xs.drop u)=(0,v,b)):NM.seq d P Q xs=(0,u+v,b):=by
 rw [seq_then h k,if_neg (by simp)]
theorem pX_e0 {k fr tx:Int} {xs l:List Int} {u0:Nat} {e0:Int} (hn:JM.many xs (0,0) (if k=1 then 4 else 3)=(l,u0,e0)) (q0:e0≠0):pX k fr tx xs=(e0,0,z k fr tx):=
 seq_err (by unfold nums;rw [hn,if_pos q0]) q0
section
variable {k fr tx:Int} {xs l:List Int} {u0 u1 u2 u3:Nat} {e1 e2 e3:Int} {cg:List CM.Fp} {st:List SM.Fp} {b:Bs}
theorem nums_ok {n:Nat} (hn:JM.many xs (0,0) n=(l,u0,0)):nums n xs=(0,u0,l):=by unfold nums;rw [hn,if_neg (by simp)]
theorem pX_e1 (hn:JM.many xs (0,0) (if k=1 then 4 else 3)=(l,u0,0)) (h1:CM.decL (xs.drop u0)=(e1,u1,cg)) (q1:e1≠0):pX k fr tx xs=(e1,0,z k fr tx):=
 seq_fail (nums_ok hn) q1 (congrArg Prod.fst (seq_err (congrArg Prod.fst h1) q1))
theorem pX_e2 (hn:JM.many xs (0,0) (if k=1 then 4 else 3)=(l,u0,0)) (h1:CM.decL (xs.drop u0)=(0,u1,cg)) (h2:upd (xs.drop (u0+u1))=(e2,u2,st)) (q2:e2≠0):pX k fr tx xs=(e2,0,z k fr tx):=by
 rw [<- List.drop_drop] at h2;exact seq_fail (nums_ok hn) q2 (congrArg Prod.fst (seq_fail h1 q2 (congrArg Prod.fst (seq_err (congrArg Prod.fst h2) q2))))
theorem pX_1 (hn:JM.many xs (0,0) (if k=1 then 4 else 3)=(l,u0,0)) (h1:CM.decL (xs.drop u0)=(0,u1,cg)) (h2:upd (xs.drop (u0+u1))=(0,u2,st)) (hk:k=1) :
  pX k fr tx xs=(0,u0+u1+u2,⟨k,fr,tx,l.getD 0 0,l.getD 1 0,l.getD 2 0,l.getD 3 0,[],[],[],[],false,[],[],cg,st,[],false⟩):=by
 rw [<- List.drop_drop] at h2;rw [Nat.add_assoc];exact seq_good (nums_ok hn) (seq_good h1 (seq_good (v:=0) h2 (by rw [if_pos hk];rfl)))
theorem pX_e3 (hn:JM.many xs (0,0) (if k=1 then 4 else 3)=(l,u0,0)) (h1:CM.decL (xs.drop u0)=(0,u1,cg)) (h2:upd (xs.drop (u0+u1))=(0,u2,st)) (hk:k≠1) (h3:pB (xs.drop (u0+u1+u2))=(e3,u3,b)) (q3:e3≠0) :
  pX k fr tx xs=(e3,0,z k fr tx):=by
 rw [<- List.drop_drop,<- List.drop_drop] at h3;rw [<- List.drop_drop] at h2;exact seq_fail (nums_ok hn) q3 (congrArg Prod.fst (seq_fail h1 q3 (congrArg Prod.fst (seq_fail h2 q3 (by rw [if_neg hk];exact congrArg Prod.fst h3)))))
theorem pX_2 (hn:JM.many xs (0,0) (if k=1 then 4 else 3)=(l,u0,0)) (h1:CM.decL (xs.drop u0)=(0,u1,cg)) (h2:upd (xs.drop (u0+u1))=(0,u2,st)) (hk:k≠1) (h3:pB (xs.drop (u0+u1+u2))=(0,u3,b)) :
  pX k fr tx xs=(0,u0+u1+u2+u3,addB ⟨k,fr,tx,l.getD 0 0,l.getD 1 0,l.getD 2 0,0,[],[],[],[],false,[],[],cg,st,[],false⟩ b):=by
 rw [<- List.drop_drop,<- List.drop_drop] at h3;rw [<- List.drop_drop] at h2;rw [Nat.add_assoc,Nat.add_assoc];exact seq_good (nums_ok hn) (seq_good h1 (seq_good h2 (by rw [if_neg hk];unfold pmap;rw [h3])))
theorem pR_e0 {ct:Cx} (h0:CM.decC xs=(e1,u0,ct)) (q1:e1≠0):pR k fr tx xs=(e1,0,z k fr tx):=seq_err (congrArg Prod.fst h0) q1
theorem pR_o {cf ct:List CM.Fp} (h0:CM.decC xs=(0,u0,cf,ct)) (h4:k≠4) (h5:k≠5):pR k fr tx xs=(0,u0,⟨k,fr,tx,0,0,0,0,cf,ct,[],[],false,[],[],[],[],[],false⟩):=
 seq_good (v:=0) h0 (by rw [if_neg h4,if_neg h5];rfl)
theorem pR_4 {cf ct:List CM.Fp} {hv:List Ent} (h0:CM.decC xs=(0,u0,cf,ct)) (h4:k=4) (h1:pH (xs.drop u0)=(0,u1,hv)):pR k fr tx xs=(0,u0+u1,⟨k,fr,tx,0,0,0,0,cf,ct,[],[],false,[],[],[],[],hv,false⟩):=
 seq_good h0 (by rw [if_pos h4];unfold pmap;rw [h1])
theorem pR_4e {cf ct:List CM.Fp} (h0:CM.decC xs=(0,u0,cf,ct)) (h4:k=4) (h1:(pH (xs.drop u0)).1=e1) (q1:e1≠0):pR k fr tx xs=(e1,0,z k fr tx):=
 seq_fail h0 q1 (by rw [if_pos h4];exact h1)
theorem pR_5e1 {cf ct:List CM.Fp} (h0:CM.decC xs=(0,u0,cf,ct)) (h5:k=5) (h1:upd (xs.drop u0)=(e1,u1,st)) (q1:e1≠0):pR k fr tx xs=(e1,0,z k fr tx):=
 seq_fail h0 q1 (by rw [if_neg (by omega),if_pos h5];exact congrArg Prod.fst (seq_err (congrArg Prod.fst h1) q1))
theorem pR_5e2 {cf ct:List CM.Fp} (h0:CM.decC xs=(0,u0,cf,ct)) (h5:k=5) (h1:upd (xs.drop u0)=(0,u1,st)) (h2:(bl (xs.drop (u0+u1))).1=e2) (q2:e2≠0):pR k fr tx xs=(e2,0,z k fr tx):=by
 rw [<- List.drop_drop] at h2;exact seq_fail h0 q2 (by rw [if_neg (by omega),if_pos h5];exact congrArg Prod.fst (seq_fail h1 q2 (congrArg Prod.fst (seq_err h2 q2))))
theorem pR_5e3 {cf ct:List CM.Fp} {mo:Bool} (h0:CM.decC xs=(0,u0,cf,ct)) (h5:k=5) (h1:upd (xs.drop u0)=(0,u1,st)) (h2:bl (xs.drop (u0+u1))=(0,u2,mo)) (h3:pB (xs.drop (u0+u1+u2))=(e3,u3,b)) (q3:e3≠0):pR k fr tx xs=(e3,0,z k fr tx):=by
 rw [<- List.drop_drop,<- List.drop_drop] at h3;rw [<- List.drop_drop] at h2;exact seq_fail h0 q3 (by rw [if_neg (by omega),if_pos h5];exact congrArg Prod.fst (seq_fail h1 q3 (congrArg Prod.fst (seq_fail h2 q3 (congrArg Prod.fst h3)))))
theorem pR_5 {cf ct:List CM.Fp} {mo:Bool} (h0:CM.decC xs=(0,u0,cf,ct)) (h5:k=5) (h1:upd (xs.drop u0)=(0,u1,st)) (h2:bl (xs.drop (u0+u1))=(0,u2,mo)) (h3:pB (xs.drop (u0+u1+u2))=(0,u3,b)) :
  pR k fr tx xs=(0,u0+u1+u2+u3,addB ⟨k,fr,tx,0,0,0,0,cf,ct,[],[],false,[],[],[],st,[],mo⟩ b):=by
 rw [<- List.drop_drop,<- List.drop_drop] at h3;rw [<- List.drop_drop] at h2;rw [Nat.add_assoc,Nat.add_assoc];exact seq_good h0 (by rw [if_neg (by omega),if_pos h5];exact seq_good h1 (seq_good h2 (by unfold pmap;rw [h3])))
end
end NM
end Go.Proofs.YtahcehbgfhdbjaaGreatDoor

