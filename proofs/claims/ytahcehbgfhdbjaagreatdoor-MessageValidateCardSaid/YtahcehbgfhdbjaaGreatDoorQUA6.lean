/-
  UKit2 UPool SBase NBase UShelf UName UOpen UVal SCl: joined texts, what nothing names left out.
-/
import Derived.Deep.RegionHeld3
import Derived.Deep.CutRange
import Derived.Test.YtahcehbgfhdbjaaGreatDoorQUA5
import Derived.Shelf.Unicode.DecodeAny
import Derived.Ground.NamesProg
import Derived.Test.YtahcehbgfhdbjaaGreatDoorProg
import Derived.Laws.RangeAny
import Derived.Lib.SmallJoins
set_option maxHeartbeats 4000000
set_option maxRecDepth 1000000
open Go.Lib (hid)
namespace Go.Proofs.YtahcehbgfhdbjaaGreatDoor
section
open Go.RowKit
open UM (Ef)
namespace UM
end UM
end
section
open Go.RowKit
open UM (Ef)
abbrev Up:=Int×Int×Int×Option Addr×Nat×Nat
def encUp:Up->List Value
 | (c,q,t,a,l,k)=>[.int .i64 c,.int .i64 q,.int .i64 t,.slice a l k]
theorem hlUp:0<4 /\ ∀ x,(encUp x).length=4:=⟨by decide,fun x=>by obtain ⟨a,b,c,d,e,f⟩:=x;rfl⟩
theorem upE:IsElem Tryz.prog 29 96 4 48 encUp where
 ht:=Tryz.underlying29
 info:=by
  obtain ⟨i0,hi,hz0,hz1,hz2⟩:=info_parts (show (Tryz.prog.info? 96).map (fun i=>(i.zero,i.size,i.bytes))=some (some (uv 0 0 0 (.slice none 0 0)),4,48) by kernel_rfl);exact ⟨i0,_,hi,hz0,hz1,hz2,rfl⟩
 len:=hlUp.2
 one:=by intro x u hu;obtain ⟨a,b,c,d,e,f⟩:=x;simp [encUp] at hu;rcases hu with rfl | rfl | rfl | rfl <;> rfl
 pos:=by decide
 fits:=by decide
abbrev RdUp:=RdG encUp 4
abbrev OwnUp:=OwnG encUp 96 4
theorem atUp {w:World} {a:Option Addr} {n c:Nat} {xs:List Up} (h:RdUp w (.slice a n c) xs) (i:Nat) (x q t:Int) (ad:Option Addr) (l k:Nat) (hk:xs[i]? = some (x,q,t,ad,l,k)) :
  ∃ b o,(∀ w0,(Instr.indexAt 29 (.slice a n c) (.int .i64 (i:Int))).run Tryz.prog w0 = .ok (.pointer (some ⟨b,o,none⟩)) w0)/\b<w.heap.size /\
   w.cell? ⟨b,o,none⟩=some (.int .i64 x)/\w.cell? ⟨b,o+1,none⟩=some (.int .i64 q)/\w.cell? ⟨b,o+2,none⟩=some (.int .i64 t)/\w.cell? ⟨b,o+3,none⟩=some (.slice ad l k):=by
 obtain ⟨b,o,h1,h2,h3⟩:=h.at_ upE i _ hk;exact ⟨b,o,h1,h2,h3 0 _ rfl,h3 1 _ rfl,h3 2 _ rfl,h3 3 _ rfl⟩
def GoodU (base:Nat) (w:World) (x:Up):Prop:=∃ es,OwnEf base w (.slice x.2.2.2.1 x.2.2.2.2.1 x.2.2.2.2.2) es/\UM.errU x.1 x.2.1 x.2.2.1 es=0 /\ ∀ e∈es,UM.in64 e
end
end Go.Proofs.YtahcehbgfhdbjaaGreatDoor
namespace Go.Proofs.YtahcehbgfhdbjaaGreatDoor.ST
open Go.RowKit
open UM (Ef)
open SM (Fp)
def sl (q:Up):Value:=.slice q.2.2.2.1 q.2.2.2.2.1 q.2.2.2.2.2
def Tell1 (w:World) (q:Up) (f:Fp):Prop:=q.1=f.1/\q.2.1=f.2.1/\q.2.2.1=f.2.2.1/\RdEf w (sl q) f.2.2.2
theorem Tell1.below {w w':World} {q:Up} {f:Fp} (h:Tell1 w q f) (hb:Below w.heap.size w w'):Tell1 w' q f:=⟨h.1,h.2.1,h.2.2.1,h.2.2.2.below hb⟩
def Tel (w:World):List Up->List Fp->Prop
 | [],[]=>True
 | q :: qs,f :: fs=>Tell1 w q f/\Tel w qs fs
 | _,_=>False
theorem Tel.below {w w':World} (hb:Below w.heap.size w w'):∀ {qs:List Up} {fs:List Fp},Tel w qs fs->Tel w' qs fs
 | [],[],_=>trivial
 | _ :: _,_ :: _,h=>⟨h.1.below hb,Tel.below hb h.2⟩
 | [],_ :: _,h=>h.elim
 | _ :: _,[],h=>h.elim
theorem Tel.len {w:World}:∀ {qs:List Up} {fs:List Fp},Tel w qs fs->qs.length=fs.length
 | [],[],_=>rfl
 | _ :: _,_ :: _,h=>by rw [List.length_cons,List.length_cons,Tel.len h.2]
 | [],_ :: _,h=>h.elim
 | _ :: _,[],h=>h.elim
theorem Tel.get {w:World}:∀ {qs:List Up} {fs:List Fp} {k:Nat} {f:Fp},Tel w qs fs->fs[k]? = some f -> ∃ q,qs[k]? = some q/\Tell1 w q f
 | [],[],_,_,_,hk=>by simp at hk
 | q :: _,g :: _,0,_,h,hk=>⟨q,rfl,by simp at hk;subst hk;exact h.1⟩
 | _ :: qs,_ :: fs,k+1,f,h,hk=>by
  obtain ⟨q,h1,h2⟩:=Tel.get (k:=k) h.2 (by simpa using hk);exact ⟨q,by simpa using h1,h2⟩
 | [],_ :: _,_,_,h,_=>h.elim
 | _ :: _,[],_,_,h,_=>h.elim
theorem Tel.app {w:World}:∀ {qs qs2:List Up} {fs fs2:List Fp},Tel w qs fs->Tel w qs2 fs2->Tel w (qs++qs2) (fs++fs2)
 | [],_,[],_,_,k=>k
 | _ :: _,_,_ :: _,_,h,k=>⟨h.1,Tel.app h.2 k⟩
 | [],_,_ :: _,_,h,_=>h.elim
 | _ :: _,_,[],_,h,_=>h.elim
theorem Tel.take {w:World}:∀ {qs:List Up} {fs:List Fp} (n:Nat),Tel w qs fs->Tel w (qs.take n) (fs.take n)
 | _,_,0,_=>trivial
 | [],[],_+1,_=>trivial
 | _ :: _,_ :: _,n+1,h=>⟨h.1,Tel.take n h.2⟩
 | [],_ :: _,_,h=>h.elim
 | _ :: _,[],_,h=>h.elim
theorem Tel.one {w:World} {q:Up} {f:Fp} (h:Tell1 w q f):Tel w [q] [f]:=⟨h,trivial⟩
def RdF (w:World) (v:Value) (fs:List Fp):Prop:=∃ qs,RdUp w v qs/\Tel w qs fs
theorem RdF.below {w w':World} {v:Value} {fs:List Fp} (h:RdF w v fs) (hb:Below w.heap.size w w'):RdF w' v fs:=by
 obtain ⟨qs,h1,h2⟩:=h;exact ⟨qs,h1.below hb,h2.below hb⟩
theorem RdF.nil (w:World):RdF w (.slice none 0 0) []:=⟨[],RdG.nil hlUp w,trivial⟩
theorem RdF.shape {w:World} {v:Value} {fs:List Fp} (h:RdF w v fs):∃ a c,v = .slice a fs.length c/\c<=9223372036854775807/\fs.length<=c:=by
 obtain ⟨qs,h1,h2⟩:=h;have:=h1.shape;rw [h2.len] at this;exact this
theorem RdF.at_ {w:World} {a:Option Addr} {n c:Nat} {fs:List Fp} (h:RdF w (.slice a n c) fs) (k:Nat) (x m t:Int) (es:List Ef) (hk:fs[k]? = some (x,m,t,es)) :
  ∃ b o ad l cp,(∀ w0,(Instr.indexAt 29 (.slice a n c) (.int .i64 (k:Int))).run Tryz.prog w0 = .ok (.pointer (some ⟨b,o,none⟩)) w0)/\b<w.heap.size /\
   w.cell? ⟨b,o,none⟩=some (.int .i64 x)/\w.cell? ⟨b,o+1,none⟩=some (.int .i64 m)/\w.cell? ⟨b,o+2,none⟩=some (.int .i64 t)/\w.cell? ⟨b,o+3,none⟩=some (.slice ad l cp)/\RdEf w (.slice ad l cp) es:=by
 obtain ⟨qs,h1,h2⟩:=h;obtain ⟨⟨x',m',t',ad,l,cp⟩,h3,h4,h5,h6,h7⟩:=h2.get hk;simp only at h4 h5 h6;subst h4 h5 h6;obtain ⟨b,o,hi,hb,c0,c1,c2,c3⟩:=atUp h1 k _ _ _ _ _ _ h3;exact ⟨b,o,ad,l,cp,hi,hb,c0,c1,c2,c3,h7⟩
def OwnF (w0:World) (base:Nat) (w:World) (v:Value) (fs:List Fp):Prop:=∃ qs,OwnUp base w v qs/\Tel w0 qs fs
end Go.Proofs.YtahcehbgfhdbjaaGreatDoor.ST
namespace Go.Proofs.YtahcehbgfhdbjaaGreatDoor
open Go.RowKit
open NM (Ms)
open VM (Ent)
structure Mv where
 cf:Value:=.slice none 0 0
 ct:Value:=.slice none 0 0
 bf:Value:=.slice none 0 0
 bt:Value:=.slice none 0 0
 ef:Value:=.slice none 0 0
 et:Value:=.slice none 0 0
 cg:Value:=.slice none 0 0
 st:Value:=.slice none 0 0
 hv:Value:=.slice none 0 0
abbrev zC:Array Value:=#[.int .i64 0,.int .i64 0,.int .i64 0,.int .i64 0,.int .i64 0,.int .i64 0,.int .i64 0,.slice none 0 0,.slice none 0 0,.slice none 0 0,.slice none 0 0,.bool false,.slice none 0 0,.slice none 0 0,.slice none 0 0,.slice none 0 0,.slice none 0 0,.bool false]
abbrev mcell (m:Ms) (x:Mv):Array Value:=
 #[.int .i64 m.k,.int .i64 m.fr,.int .i64 m.tx,.int .i64 m.p,.int .i64 m.n,.int .i64 m.r,.int .i64 m.d,x.cf,x.ct,x.bf,x.bt,.bool m.hb,x.ef,x.et,x.cg,x.st,x.hv,.bool m.mo]
abbrev mv (m:Ms) (x:Mv):Value:=.agg (mcell m x)
structure RdMs (w:World) (x:Mv) (m:Ms):Prop where
 cf:RdF w x.cf m.cf
 ct:RdF w x.ct m.ct
 bf:RdF w x.bf m.bf
 bt:RdF w x.bt m.bt
 ef:RdF w x.ef m.ef
 et:RdF w x.et m.et
 cg:RdF w x.cg m.cg
 st:ST.RdF w x.st m.st
 hv:VX.RdV w x.hv m.hv
theorem RdMs.below {w w':World} {x:Mv} {m:Ms} (h:RdMs w x m) (hb:Below w.heap.size w w'):RdMs w' x m:=
 ⟨h.cf.below hb,h.ct.below hb,h.bf.below hb,h.bt.below hb,h.ef.below hb,h.et.below hb,h.cg.below hb,h.st.below hb,h.hv.below hb⟩
structure Sh (x:Mv) (m:Ms):Prop where
 cf:∃ a c,x.cf = .slice a m.cf.length c
 ct:∃ a c,x.ct = .slice a m.ct.length c
 bf:∃ a c,x.bf = .slice a m.bf.length c
 bt:∃ a c,x.bt = .slice a m.bt.length c
 ef:∃ a c,x.ef = .slice a m.ef.length c
 et:∃ a c,x.et = .slice a m.et.length c
 cg:∃ a c,x.cg = .slice a m.cg.length c
 st:∃ a c,x.st = .slice a m.st.length c
 hv:∃ a c,x.hv = .slice a m.hv.length c
theorem RdMs.sh {w:World} {x:Mv} {m:Ms} (h:RdMs w x m):Sh x m:=by
 obtain ⟨h1,h2,h3,h4,h5,h6,h7,h8,h9⟩:=h;obtain ⟨a1,c1,e1,_⟩:=h1.shape;obtain ⟨a2,c2,e2,_⟩:=h2.shape;obtain ⟨a3,c3,e3,_⟩:=h3.shape;obtain ⟨a4,c4,e4,_⟩:=h4.shape;obtain ⟨a5,c5,e5,_⟩:=h5.shape;obtain ⟨a6,c6,e6,_⟩:=h6.shape;obtain ⟨a7,c7,e7,_⟩:=h7.shape;obtain ⟨a8,c8,e8,_⟩:=h8.shape;obtain ⟨a9,c9,e9,_⟩:=h9.shape;exact ⟨⟨_,_,e1⟩,⟨_,_,e2⟩,⟨_,_,e3⟩,⟨_,_,e4⟩,⟨_,_,e5⟩,⟨_,_,e6⟩,⟨_,_,e7⟩,⟨_,_,e8⟩,⟨_,_,e9⟩⟩
def MB (w:World) (g:Nat) (m:Ms) (x:Mv):Prop:=w.heap[g]? = some (.cells (mcell m x) 33 (0,0))
theorem MB.fresh (w:World) (m:Ms) (x:Mv):MB (w.alloc (.cells (mcell m x) 33)) w.heap.size m x:=heap_alloc_new w _
theorem MB.below {w w':World} {g:Nat} {m:Ms} {x:Mv} (h:MB w g m x) (hb:Below w.heap.size w w'):MB w' g m x:=below_block h hb
theorem MB.only {w w':World} {k g:Nat} {m:Ms} {x:Mv} (h:MB w g m x) (ho:Only k w w') (hne:g≠k):MB w' g m x:=ho.at h hne
theorem MB.lt {w:World} {g:Nat} {m:Ms} {x:Mv} (h:MB w g m x):g<w.heap.size:=(Array.getElem?_eq_some_iff.1 h).1
theorem MB.cells {w:World} {g:Nat} {m:Ms} {x:Mv} (h:MB w g m x) :
  w.cell? ⟨g,0,none⟩=some (.int .i64 m.k)/\w.cell? ⟨g,1,none⟩=some (.int .i64 m.fr)/\w.cell? ⟨g,2,none⟩=some (.int .i64 m.tx)/\w.cell? ⟨g,3,none⟩=some (.int .i64 m.p) /\
  w.cell? ⟨g,4,none⟩=some (.int .i64 m.n)/\w.cell? ⟨g,5,none⟩=some (.int .i64 m.r)/\w.cell? ⟨g,6,none⟩=some (.int .i64 m.d)/\w.cell? ⟨g,7,none⟩=some x.cf /\
  w.cell? ⟨g,8,none⟩=some x.ct/\w.cell? ⟨g,9,none⟩=some x.bf/\w.cell? ⟨g,10,none⟩=some x.bt/\w.cell? ⟨g,11,none⟩=some (.bool m.hb)/\w.cell? ⟨g,12,none⟩=some x.ef /\
  w.cell? ⟨g,13,none⟩=some x.et/\w.cell? ⟨g,14,none⟩=some x.cg/\w.cell? ⟨g,15,none⟩=some x.st/\w.cell? ⟨g,16,none⟩=some x.hv/\w.cell? ⟨g,17,none⟩=some (.bool m.mo):=by
 unfold MB mcell at h;refine ⟨?_,?_,?_,?_,?_,?_,?_,?_,?_,?_,?_,?_,?_,?_,?_,?_,?_,?_⟩ <;> simp [World.cell?,h]
theorem MB.free {w:World} {g:Nat} {m:Ms} {x:Mv} (h:MB w g m x) (j:Nat):w.frozen? ⟨g,j,none⟩=false:=by
 unfold MB at h;simp [World.frozen?,h]
end Go.Proofs.YtahcehbgfhdbjaaGreatDoor
namespace Go.Proofs
open Go.Shelf
def Tryz.decR_ren:Go.Shelf.Ren:=⟨fun | 197=>188 | 260=>190 | n=>n,fun | 9=>9 | 21=>21 | 3=>3 | 4=>4 | 5=>5 | 105=>217 | 119=>220 | 0=>0 | 46=>172 | 139=>223 | 138=>222 | n=>n,fun | 3=>0 | 4=>1 | n=>n⟩
theorem Tryz.decR:Go.Proofs.Lays.n197 Tryz.prog Tryz.decR_ren:={
 mixed:=by kernel_rfl
 f197:=Tryz.func188.trans (congrArg some (by kernel_rfl))
 f260:=Tryz.func190.trans (congrArg some (by kernel_rfl))
 t0:=Tryz.underlying0
 a0:=Tryz.isAgg0
 z0:=Tryz.sizeOf0
 v0:=Tryz.zeroValue0
 t3:=Tryz.underlying3
 a3:=Tryz.isAgg3
 z3:=Tryz.sizeOf3
 v3:=Tryz.zeroValue3
 t4:=Tryz.underlying4
 a4:=Tryz.isAgg4
 z4:=Tryz.sizeOf4
 v4:=Tryz.zeroValue4
 t5:=Tryz.underlying5
 a5:=Tryz.isAgg5
 z5:=Tryz.sizeOf5
 v5:=Tryz.zeroValue5
 t9:=Tryz.underlying9
 a9:=Tryz.isAgg9
 z9:=Tryz.sizeOf9
 v9:=Tryz.zeroValue9
 t21:=Tryz.underlying21
 a21:=Tryz.isAgg21
 z21:=Tryz.sizeOf21
 v21:=Tryz.zeroValue21
 t46:=Tryz.underlying172
 a46:=Tryz.isAgg172
 z46:=Tryz.sizeOf172
 v46:=Tryz.zeroValue172
 t105:=Tryz.underlying217
 a105:=Tryz.isAgg217
 z105:=Tryz.sizeOf217
 v105:=Tryz.zeroValue217
 t119:=Tryz.underlying220
 a119:=Tryz.isAgg220
 z119:=Tryz.sizeOf220
 t138:=Tryz.underlying222
 a138:=Tryz.isAgg222
 z138:=Tryz.sizeOf222
 v138:=Tryz.zeroValue222
 t139:=Tryz.underlying223
 a139:=Tryz.isAgg223
 z139:=Tryz.sizeOf223
 v139:=Tryz.zeroValue223
 g3:=by kernel_rfl
 g4:=by kernel_rfl }
end Go.Proofs
namespace Go.Proofs.YtahcehbgfhdbjaaGreatDoor
section
open Go.RowKit
def Tb (w:World):Prop:=Lib.Utf8Tabs (Tryz.decR_ren.g 3) (Tryz.decR_ren.g 4) w
theorem Tb.below {w w':World} (h:Tb w) (hb:Below w.heap.size w w'):Tb w':=Utf8Tabs_below h hb
theorem tbz {w w':World} (h:Hid (Tb w)) (hb:Hid (Below w.heap.size w w')):Tb w':=h.out.below hb.out
namespace UM
def wd (s:ByteArray) (pos:Nat):Nat:=(Utf8.decode s pos).2
theorem wd_pos (s:ByteArray) (pos:Nat):1<=wd s pos:=by
 unfold wd;rw [Lib.decode_at];unfold Lib.decodeN;repeat' split
 all_goals simp
theorem wd_fit (s:ByteArray) (pos:Nat) (h:pos<s.size):pos+wd s pos<=s.size:=by
 unfold wd;rw [Lib.decode_at];unfold Lib.decodeN;repeat' split
 all_goals (simp only;omega)
theorem get_tail (s:ByteArray) (a k:Nat):(s.extract a s.size).get! k=s.get! (a+k):=by
 have hz:(s.extract a s.size).size=s.size - a:=by rw [ByteArray.size_extract,Nat.min_self]
 by_cases h:a+k<s.size
 ·have h2:k<(s.extract a s.size).size:=by omega
  have e1:(s.extract a s.size).get! k=(s.extract a s.size)[k]:=Utf8W.get!_of_lt _ _ h2;have e2:s.get! (a+k)=s[a+k]:=Utf8W.get!_of_lt _ _ h;rw [e1,e2,ByteArray.getElem_extract]
 ·have hd:∀ (b:ByteArray) (j:Nat),¬ j<b.size->b.get! j=default:=by
   intro b j hj;show b.data[j]! = default
   exact getElem!_neg b.data j hj
  rw [hd _ _ (by omega),hd _ _ h]
theorem dec_tail (s:ByteArray) (a:Nat) (h:a<s.size):(Lib.decodeGo (s.extract a s.size)).2=wd s a:=by
 have hz:(s.extract a s.size).size=s.size - a:=by rw [ByteArray.size_extract,Nat.min_self]
 unfold Lib.decodeGo wd;rw [if_neg (by omega),Lib.decode_at,Lib.decode_at,hz];simp only [get_tail,Nat.sub_zero,Nat.zero_add,Nat.add_zero]
def nsA (s:ByteArray):Nat->Nat->Nat->Nat
 | 0,_,last=>last+(Lib.decodeGo (s.extract last s.size)).2
 | b+1,pos,last=>if pos<s.size then (if 16<pos then pos else nsA s b (pos+wd s pos) pos) else last+(Lib.decodeGo (s.extract last s.size)).2
def ns (s:ByteArray):Nat:=nsA s s.size 0 0
def At (s:ByteArray) (pos last:Nat):Prop:=(pos=0/\last=0)∨(last<s.size/\last<pos/\pos=last+wd s last)
theorem nsA_end (s:ByteArray) (b pos last:Nat) (h:¬ pos<s.size):nsA s b pos last=last+(Lib.decodeGo (s.extract last s.size)).2:=by
 cases b with
 | zero=>rfl
 | succ b=>rw [nsA,if_neg h]
theorem nsA_ok (s:ByteArray):∀ (b pos last:Nat),At s pos last->pos<=s.size->s.size<=pos+b->nsA s b pos last=s.size∨(16<nsA s b pos last/\16<s.size)
 | b,pos,last,ha,hp,hb=>by
  by_cases h:pos<s.size
  ·cases b with
   | zero=>omega
   | succ b=>
    rw [nsA,if_pos h];by_cases h16:16<pos
    ·rw [if_pos h16];omega
    ·rw [if_neg h16];have:=wd_pos s pos;exact nsA_ok s b _ _ (.inr ⟨h,by omega,rfl⟩) (wd_fit s pos h) (by omega)
  ·rw [nsA_end s b pos last h];left
   rcases ha with ⟨rfl,rfl⟩ | ⟨h1,h2,h3⟩
   ·have hz:s.size=0:=by omega
    unfold Lib.decodeGo;rw [if_pos (by rw [ByteArray.size_extract];omega)];simp [hz]
   ·rw [dec_tail s last h1];omega
theorem ns_ok (s:ByteArray):ns s=s.size∨(16<ns s/\16<s.size):=nsA_ok s _ 0 0 (.inl ⟨rfl,rfl⟩) (Nat.zero_le _) (by omega)
theorem nsA_le (s:ByteArray):∀ (b pos last:Nat),At s pos last->pos<=s.size->nsA s b pos last<=s.size
 | b,pos,last,ha,hp=>by
  have hend:last+(Lib.decodeGo (s.extract last s.size)).2<=s.size:=by
   rcases ha with ⟨rfl,rfl⟩ | ⟨h1,h2,h3⟩
   ·by_cases h:0<s.size
    ·rw [dec_tail s 0 h];exact wd_fit s 0 h
    ·unfold Lib.decodeGo;rw [if_pos (by rw [ByteArray.size_extract];omega)];exact Nat.zero_le _
   ·rw [dec_tail s last h1];omega
  cases b with
  | zero=>exact hend
  | succ b=>
   rw [nsA];by_cases h:pos<s.size
   ·rw [if_pos h];by_cases h16:16<pos
    ·rw [if_pos h16];omega
    ·rw [if_neg h16];have:=wd_pos s pos;exact nsA_le s b _ _ (.inr ⟨h,by omega,rfl⟩) (wd_fit s pos h)
   ·rw [if_neg h];exact hend
theorem ns_le (s:ByteArray):ns s<=s.size:=nsA_le s _ 0 0 (.inl ⟨rfl,rfl⟩) (Nat.zero_le _)
end UM
open UM in
theorem cNameSize (s:ByteArray) (w:World) (hs:s.size<=maxLen) (hT:Tb w) :
  Calls Tryz.prog 178 #[.string s] w fun e w'=>e = .returned (.int .i64 (ns s:Nat))/\Below w.heap.size w w':=by
 have hsz:s.size<=9223372036854775807:=by unfold maxLen at hs;omega
 have HIT:=hid (fun pos=>(below_fresh w (.stringIter s pos):Below w.heap.size w (w.iter s pos)));have HD:=hid (fun (pos last:Nat)=>(show Calls Tryz.prog 188 #[.string (s.extract last s.size)] (w.iter s pos) fun e w'=>e = .returned (.tuple #[.int .i32 (Lib.decodeGo (s.extract last s.size)).1,.int .i64 (Lib.decodeGo (s.extract last s.size)).2])/\Below (w.iter s pos).heap.size (w.iter s pos) w' from Any.utf8_DecodeRuneInString Tryz.decR _ _ (hT.below (HIT.out pos))));have HLE:=hid (fun b pos last=>nsA_le s b pos last);clear hs hT;obtain ⟨R,hR⟩:∃ R,R=ns s:=⟨_,rfl⟩
 rw [<- hR];have HR:=hid (show nsA s s.size 0 0=R from hR.symm);clear hR;go_enter Tryz.func178,Tryz.ntmps178
 go_wp2
 go_loopw [3] (fun n w'=>∃ (pos b last:Nat),w'=w.iter s pos/\n = .int .i64 (last:Int)/\Hid (nsA s b pos last=R)/\Hid (At s pos last)/\Hid (pos<=s.size)/\Hid (s.size<=pos+b)) (fun _ w'=>s.size - w'.iterPos w.heap.size)
 case atStart=>exact ⟨0,s.size,0,rfl,rfl,HR,hid (.inl ⟨rfl,rfl⟩),hid (Nat.zero_le _),hid (by omega)⟩
 case round=>
  obtain ⟨pos,b,last,rfl,rfl,hn,ha,hp,hb⟩:=hrel;by_cases hlt:pos<s.size
  ·have hnx:∀ ty,(Instr.next (.pointer (some ⟨w.heap.size,0,none⟩)) true ty).run Tryz.prog (w.iter s pos)=_:=fun ty=>run_next_any w s pos ty hlt
   have hne:∃ b',b=b'+1:=⟨b - 1,by have:=hb.out;omega⟩
   obtain ⟨b',rfl⟩:=hne;by_cases h16:(16:Int)<(pos:Int)
   ·have hr:R=pos:=by rw [<- hn.out,nsA,if_pos hlt,if_pos (by omega)]
    go_wp2
    go_ret;exact ⟨by rw [hr];rfl,HIT.out _⟩
   ·have hr:nsA s b' (pos+wd s pos) pos=R:=by rw [<- hn.out,nsA,if_pos hlt,if_neg (by omega)]
    have HR2:=hid hr;have HA2:=hid (show At s (pos+wd s pos) pos from .inr ⟨hlt,by have:=wd_pos s pos;omega,rfl⟩);have HP2:=hid (wd_fit s pos hlt);have hwd:=wd_pos s pos;have HB2:=hid (show s.size<=pos+wd s pos+b' by have:=hb.out;omega);clear hr hn ha hp hb;go_wp2
    go_roundw
    case rel=>exact ⟨pos+wd s pos,b',pos,rfl,rfl,HR2,HA2,HP2,HB2⟩
    case measure=>
     show s.size - World.iterPos (w.iter s (pos+wd s pos)) w.heap.size<s.size - World.iterPos (w.iter s pos) w.heap.size
     rw [World.iterPos_iter,World.iterPos_iter];omega
  ·have hnx:∀ ty,(Instr.next (.pointer (some ⟨w.heap.size,0,none⟩)) true ty).run Tryz.prog (w.iter s pos)=_:=fun ty=>run_next_end w s pos ty hlt
   have hr:R=last+(Lib.decodeGo (s.extract last s.size)).2:=by rw [<- hn.out,nsA_end s b pos last hlt]
   have hla:last<=s.size:=by rcases ha.out with ⟨_,rfl⟩ | ⟨h,_⟩ <;> omega
   have hRl:R<=s.size:=by rw [<- hn.out];exact HLE.out _ _ _ ha.out hp.out
   have HC:=hid (HD.out pos last);have HIB:=hid (HIT.out pos);have HRE:=hid hr;have hsl:∀ w0:World,(Instr.slice 9 (.string s) (some (.int .i64 (last:Int))) none none).run Tryz.prog w0 = .ok (.string (s.extract last s.size)) w0:=by
    intro w0;simp [go_sem]
    omega
   generalize (Lib.decodeGo (s.extract last s.size)).2=K at HC HRE hr;generalize (Lib.decodeGo (s.extract last s.size)).1=C at HC;generalize s.extract last s.size=T at hsl HC;have hsum:(last:Int)+(K:Int)=(R:Int):=by omega
   clear hn ha hp hb HD HIT HR HLE hr;go_wp2_with fail
   refine HC.out.mono ?_;rintro e w2 ⟨rfl,hb2⟩;have HB:=hid (bnext HIB.out hb2);clear hb2 HC HIB;go_wp2
   go_ret;exact ⟨by rw [HRE.out];rfl,HB.out⟩
end
section
set_option maxRecDepth 100000
open Go.ChangeShapes Go.WideShapes Go.ChangeAt Go.RowKit
open UM (Ef)
def EfFit (e:Ef):Prop:=UM.in64 e/\e.2.1.size<=maxLen/\e.2.2.1.size<=maxLen/\e.2.2.2.2.size<=maxLen
section
variable {H:Type} {enc:TypeId×Value->H} {W:World} {n:Nat} {x:DataW H×List MemPlace}
theorem eff_cells {cs:List Value} (h:DataW.trod enc Tryz.prog W 0 (fun _=>true) true n 138 cs=some x):∃ e:Ef,cs=encEf e/\EfFit e:=by
 have k0:Tryz.prog.cellsOf 3=1:=by kernel_rfl
 have k1:Tryz.prog.cellsOf 9=1:=by kernel_rfl
 have k2:Tryz.prog.cellsOf 2=1:=by kernel_rfl
 have k5:Tryz.prog.cellsOf 138=5:=by kernel_rfl
 obtain ⟨xs,m,_,_,hl,hlen,hf⟩:=DataW.trod_struct Tryz.underlying138 h;rw [k5] at hl;match xs,hlen,cs,hl with
 | [y0,y1,y2,y3,y4],_,[c0,c1,c2,c3,c4],_=>
  have g0:=hf 0 _ rfl;have g1:=hf 1 _ rfl;have g2:=hf 2 _ rfl;have g3:=hf 3 _ rfl;have g4:=hf 4 _ rfl;simp [k0,k1,k2] at g0 g1 g2 g3 g4
  obtain ⟨a0,e0,_⟩:=DataW.trod_int Tryz.underlying3 g0;obtain ⟨a1,e1,_,s1⟩:=DataW.trod_string Tryz.underlying9 g1;obtain ⟨a2,e2,_,s2⟩:=DataW.trod_string Tryz.underlying9 g2;obtain ⟨a3,e3,_,i3⟩:=DataW.trod_int Tryz.underlying2 g3;obtain ⟨a4,e4,_,s4⟩:=DataW.trod_string Tryz.underlying9 g4;simp at e0 e1 e2 e3 e4
  exact ⟨(a0,a1,a2,a3,a4),by rw [e0,e1,e2,e3,e4];rfl,bounds_i64 i3,s1,s2,s4⟩
theorem cellsE_snoc {xs:List Ef} {e:Ef} {j:Nat} {u:Value} (h:(cellsOf encEf (xs ++ [e]))[j]? = some u) :
  (cellsOf encEf xs)[j]? = some u ∨ ∃ d,d<5/\j=xs.length*5+d/\(encEf e)[d]? = some u:=by
 have hL:=cellsOf_length (enc:=encEf) hlEf.2 xs;rw [cellsOf_append] at h;rcases Nat.lt_or_ge j (cellsOf encEf xs).length with hl | hl
 ·rw [List.getElem?_append_left hl] at h;exact .inl h
 ·rw [List.getElem?_append_right hl,hL] at h;rw [hL] at hl;have e1:cellsOf encEf [e]=encEf e:=by simp [cellsOf]
  rw [e1] at h;have hd:j - xs.length*5<5:=by
   have:=(List.getElem?_eq_some_iff.1 h).1;rw [hlEf.2 e] at this;exact this
  exact .inr ⟨_,hd,by omega,h⟩
theorem rdEf_of_trod {v:Value} (hf:DataW.trod enc Tryz.prog W 0 (fun _=>true) true n 94 [v]=some x):∃ xs,RdEf W v xs /\ ∀ e∈xs,EfFit e:=by
 have k5:Tryz.prog.cellsOf 138=5:=by kernel_rfl
 rcases Deep.open_slice Tryz.underlying94 hf with ⟨hcs,_⟩ | ⟨y,l,c,m,k,D,P,hcs,_,hl,hm,hmm,_,hall⟩
 ·simp at hcs
  subst hcs;exact ⟨[],RdG.nil hlEf W,by simp⟩
 ·simp at hcs
  subst hcs;simp only [if_true] at hmm;have hbuild:∀ j,j<=l -> ∃ xs:List Ef,xs.length=j/\(∀ e∈xs,EfFit e) /\ ∀ i u,(cellsOf encEf xs)[i]? = some u->W.cell? (y.add i)=some u:=by
   intro j;induction j with
   | zero=>intro _;exact ⟨[],rfl,by simp,fun i u h=>by simp [cellsOf] at h⟩
   | succ j ih=>
    intro hj;obtain ⟨xs,hp,hfit,hr⟩:=ih (by omega);obtain ⟨cs',t0,t1⟩:=hall j (by omega);rw [k5] at t0;obtain ⟨_,hlen,hcell⟩:=World.cells?_some t0;obtain ⟨e,rfl,he⟩:=eff_cells t1;refine ⟨xs ++ [e],by simp [hp],fun z hz=>?_,fun i u hu=>?_⟩
    ·rcases List.mem_append.1 hz with h | h
     ·exact hfit z h
     ·rw [List.mem_singleton] at h;subst h;exact he
    rcases cellsE_snoc hu with h | ⟨d,hd,rfl,h⟩
    ·exact hr i u h
    ·have:=hcell d hd;rw [Deep.add_add] at this;rw [hp,this,h]
  obtain ⟨xs,hp,hfit,hr⟩:=hbuild l (Nat.le_refl _);exact ⟨xs,⟨some y,c,by rw [hp],by omega,hm,(fun h=>by cases h),hlEf,fun z hz i u hu=>by cases hz;exact hr i u hu⟩,hfit⟩
end
end
section
set_option linter.unusedSimpArgs false
open Go.RowKit
open UM (Ef)
def NmFit (e:Ef):Prop:=e.2.1.size<=maxLen/\e.2.2.1.size<=maxLen
namespace UM
def fits (k n:Int):Bool:=if k=3 then decide (-1000000<=n/\n<=1000000) else if k=4∨k=5 then decide (n=0) else true
def takes (k:Int):Bool:=decide (k=1∨k=4)
theorem fits_iff (k n:Int):fits k n=true ↔ ¬ (k=3/\(n < -1000000∨1000000<n))/\¬ ((k=4∨k=5)/\n≠0):=by
 unfold fits;(repeat' split) <;> simp only [decide_eq_true_eq,true_iff] <;> omega
theorem takes_iff (k:Int):takes k=true ↔ (k=1∨k=4):=by unfold takes;simp
end UM
theorem cFitsN (k n:Int) (w:World):Calls Tryz.prog 179 #[.int .i64 k,.int .i64 n] w fun e w'=>e = .returned (.bool (UM.fits k n))/\w'=w:=by
 obtain ⟨R,hR⟩:∃ R,R=UM.fits k n:=⟨_,rfl⟩
 rw [<- hR];unfold UM.fits at hR;have HR:=hid hR;clear hR;go_enter Tryz.func179,Tryz.ntmps179
 go_wp2
 all_goals
  go_ret;refine ⟨ret_bool ?_,rfl⟩;have hr:=HR.out;rw [hr];clear HR;(try simp only [beq_iff_eq,beq_eq_false_iff_ne,ne_eq,decide_eq_true_eq,decide_eq_false_iff_not] at *);(repeat' split) <;> first | rfl | omega | (simp;omega)
theorem cTakes (k:Int) (w:World):Calls Tryz.prog 180 #[.int .i64 k] w fun e w'=>e = .returned (.bool (UM.takes k))/\w'=w:=by
 obtain ⟨R,hR⟩:∃ R,R=UM.takes k:=⟨_,rfl⟩
 rw [<- hR];unfold UM.takes at hR;have HR:=hid hR;clear hR;go_enter Tryz.func180,Tryz.ntmps180
 go_wp2
 all_goals
  go_ret;refine ⟨ret_bool ?_,rfl⟩;have hr:=HR.out;rw [hr];clear HR;rw [Bool.eq_iff_iff];(try simp only [Bool.or_eq_true,Bool.and_eq_true,beq_iff_eq,beq_eq_false_iff_ne,ne_eq,decide_eq_true_eq,decide_eq_false_iff_not] at *) <;> first | omega | (simp <;> omega) | simp_all
theorem cIsClient (c:Int) (w:World):Calls Tryz.prog 55 #[.int .i64 c] w fun e w'=>e = .returned (.bool (UM.isCl c))/\w'=w:=(cIsCliP c w).mono fun _ _ h=>⟨h.1,h.2.symm⟩
theorem cValEff (k:Int) (o f:ByteArray) (n:Int) (s:ByteArray) (w:World) (hf:NmFit (k,o,f,n,s)) (hT:Tb w) :
  Calls Tryz.prog 161 #[ev k o f n s] w fun e w'=>e = .returned (.int .i64 (UM.errE (k,o,f,n,s)))/\Below w.heap.size w w':=by
 obtain ⟨R,hR⟩:∃ R,R=UM.errE (k,o,f,n,s):=⟨_,rfl⟩
 rw [<- hR];unfold UM.errE at hR;have HR:=hid hR;clear hR;have hb:=below_fresh w (.cells #[.int .i64 k,.string o,.string f,.int .i64 n,.string s] 138);have hx:=OE.fresh w (.int .i64 k) (.string o) (.string f) (.int .i64 n) (.string s);obtain ⟨w1,hw1⟩:∃ z,w.alloc (.cells #[.int .i64 k,.string o,.string f,.int .i64 n,.string s] 138)=z:=⟨_,rfl⟩
 rw [hw1] at hx hb;have HW:=hid hw1;have HB:=hid hb;have HX:=hid hx;have CO:Hid (∀ p:Later w1,Calls Tryz.prog 178 #[.string o] p.val fun e w''=>e = .returned (.int .i64 (UM.ns o:Nat)) /\ ∃ q:Later w1,w''=q.val):=fun p=>Calls.later (cNameSize o p.val hf.1 ((hT.below hb).below p.h))
 have CF:Hid (∀ p:Later w1,Calls Tryz.prog 178 #[.string f] p.val fun e w''=>e = .returned (.int .i64 (UM.ns f:Nat)) /\ ∃ q:Later w1,w''=q.val):=fun p=>Calls.later (cNameSize f p.val hf.2 ((hT.below hb).below p.h))
 have e1:∀ p:Later w1,p.val.cell? ⟨w.heap.size,1,none⟩=some (.string o):=fun p=>(HX.out.below p.h).cells.2.1
 have e2:∀ p:Later w1,p.val.cell? ⟨w.heap.size,2,none⟩=some (.string f):=fun p=>(HX.out.below p.h).cells.2.2.1
 have HO:=hid (UM.ns_ok o);have HF:=hid (UM.ns_ok f);have HOL:=hid (UM.ns_le o);have HFL:=hid (UM.ns_le f);have HFI:=hid (fun w'=>cFitsN k n w');have HTA:=hid (fun w'=>cTakes k w');have HFD:=hid (UM.fits_iff k n);have HTD:=hid (UM.takes_iff k);clear hw1 hb hx hf hT;generalize UM.ns o=NO at CO HO HOL;generalize UM.ns f=NF at CF HF HFL;generalize UM.fits k n=B at HFI HFD;generalize UM.takes k=C at HTA HTD;go_enter Tryz.func161,Tryz.ntmps161
 go_upto_region 1 with fail
 rw [HW.out];clear HW;refine wp_region_later (by kernel_rfl) (by kernel_rfl) ?_;repeat (go_big_quiet_step (first | (go_at_call 178;first | with_reducible exact CO.out _ | with_reducible exact CF.out _)))
 refine wpQuiet_nil ?_;rintro _ ⟨p,rfl⟩;have HX2:=hid (HX.out.below p.h);have HB2:=hid (bnext HB.out p.h);clear e1 e2 CO CF HX HB;obtain ⟨w2,hw2⟩:∃ z,p.val=z:=⟨_,rfl⟩
 rw [hw2] at HX2 HB2 ⊢;clear hw2;obtain ⟨c0,c1,c2,c3,c4,_⟩:=HX2.out.cells;have es:=isEmpty_size s;cases B <;> cases C
 all_goals
  go_wp2_with (first | (go_at_call 179;refine (HFI.out _).mono ?_;rintro e w4 ⟨rfl,rfl⟩) | (go_at_call 180;refine (HTA.out _).mono ?_;rintro e w4 ⟨rfl,rfl⟩))
 all_goals
  go_ret;refine ⟨ret_int ?_,HB2.out⟩;have hr:=HR.out;have ho:=HO.out;have hf:=HF.out;have hol:=HOL.out;have hfl:=HFL.out;have hbd:=HFD.out;have htd:=HTD.out;rw [hr];clear es c0 c1 c2 c3 c4 HR HB2 HO HF HOL HFL HTD HX2 HFI HTA HFD;(try simp only [<- ByteArray.size_eq_zero_iff] at *);(try simp only [ByteArray.size_empty] at *);(try simp only [Bool.false_eq_true,true_iff,false_iff,bne_iff_ne,bne_eq_false_iff_eq,ne_eq,Bool.not_eq_true',Bool.not_eq_false',decide_eq_true_eq,decide_eq_false_iff_not,beq_iff_eq,beq_eq_false_iff_ne] at *);(repeat' split) <;> first | rfl | omega
theorem cComm1 (k:Int) (o f:ByteArray) (n:Int) (s:ByteArray) (w:World) :
  Calls Tryz.prog 182 #[ev k o f n s] w fun e w'=>e = .returned (.bool (k==1))/\Below w.heap.size w w':=by
 have hb:=below_fresh w (.cells #[.int .i64 k,.string o,.string f,.int .i64 n,.string s] 138);obtain ⟨c0,_⟩:=(OE.fresh w (.int .i64 k) (.string o) (.string f) (.int .i64 n) (.string s)).cells;go_enter Tryz.func182,Tryz.ntmps182
 go_wp2
 go_ret;exact ⟨rfl,hb⟩
theorem uIndexFunc (v:Value) (xs:List Ef) (w:World) (h:RdEf w v xs) :
  Calls Tryz.prog 189 #[v,.func (.func 182) #[] #[]] w fun e w'=>∃ r:Int,e = .returned (.int .i64 r)/\decide (0<=r)=xs.any (fun y=>y.1==1)/\Below w.heap.size w w':=by
 have eF:=enters_of Tryz.func182 (by kernel_rfl) rfl;obtain ⟨ad,c,rfl,hc,hl⟩:=h.shape;obtain ⟨R,hR⟩:∃ R,R=xs.any (fun y=>y.1==1):=⟨_,rfl⟩
 rw [<- hR];have HR:=hid hR;have HX:=hid h;clear hR h;go_enter Tryz.func189,Tryz.ntmps189
 go_wp2
 go_loopw [8] (fun i wr=>∃ j:Nat,j<=xs.length/\i = .int .i64 j/\Below w.heap.size w wr/\Hid (R=(xs.drop j).any (fun y=>y.1==1))) (fun i _=>xs.length - (intOf i).toNat)
 case atStart=>exact ⟨0,Nat.zero_le _,rfl,Below.refl _ _,HR.out⟩
 case round=>
  obtain ⟨j,hk,rfl,hbl,he⟩:=hrel;by_cases hlt:j<xs.length
  ·have hq:(j:Int)<(xs.length:Int):=by omega
   have hdx:=hid (drop_get hlt);have hat:=List.getElem?_eq_getElem hlt;generalize xs[j]=y at hdx hat
   obtain ⟨k',o',f',n',s'⟩:=y;obtain ⟨b,o,hi,hb,d0,d1,d2,d3,d4⟩:=atEf (HX.out.below hbl) j _ _ _ _ _ hat
   have hS:=hid (cComm1 k' o' f' n' s' wr);have e2:=hid (show R=((k'==1) || (xs.drop (j+1)).any (fun y=>y.1==1)) by rw [he.out,hdx.out];rfl);clear he hdx hat
   generalize (k'==1)=B at hS e2;cases B
   ·have e3:=hid (show R=(xs.drop (j+1)).any (fun y=>y.1==1) by rw [e2.out,Bool.false_or]);clear e2;go_wp2_with (go_at_call 182;refine hS.out.mono ?_;rintro e w4 ⟨rfl,h4⟩)
    go_roundw
    case rel=>exact ⟨j+1,by omega,by go_num,bnext hbl h4,e3⟩
    case measure=>simp [intOf];omega
   ·have e3:=hid (show R=true by rw [e2.out,Bool.true_or]);clear e2;go_wp2_with (go_at_call 182;refine hS.out.mono ?_;rintro e w4 ⟨rfl,h4⟩)
    go_ret;exact ⟨_,rfl,by rw [e3.out];exact decide_eq_true (by omega),bnext hbl h4⟩
  ·have hq:¬ ((j:Int)<(xs.length:Int)):=by omega
   have e2:=hid (show R=false by rw [he.out,List.drop_of_length_le (by omega)];rfl);clear he HR;go_wp2
   go_ret;exact ⟨_,rfl,by rw [e2.out];rfl,hbl⟩
theorem uContainsFunc (v:Value) (xs:List Ef) (w:World) (h:RdEf w v xs) :
  Calls Tryz.prog 181 #[v,.func (.func 182) #[] #[]] w fun e w'=>e = .returned (.bool (xs.any (fun y=>y.1==1)))/\Below w.heap.size w w':=by
 have HI:=hid (uIndexFunc v xs w h);generalize xs.any (fun y=>y.1==1)=R at HI;clear h;go_enter Tryz.func181,Tryz.ntmps181
 go_wp2_with fail
 refine HI.out.mono ?_;rintro e w1 ⟨r,rfl,hr,hb⟩;clear HI;go_wp2
 go_ret;exact ⟨rfl,hb⟩
theorem com_any (es:List Ef):(!es.any (fun y=>y.1==1))=UM.com es:=by
 unfold UM.com;rw [List.any_eq_not_all_not,Bool.not_not];congr 1
 funext e
 by_cases h:e.1=1 <;> simp [h]
theorem cCommutes (c q t:Int) (v:Value) (es:List Ef) (w:World) (h:RdEf w v es) :
  Calls Tryz.prog 162 #[uv c q t v] w fun e w'=>e = .returned (.bool (UM.com es))/\Below w.heap.size w w':=by
 have hb:=below_fresh w (.cells #[.int .i64 c,.int .i64 q,.int .i64 t,v] 96);have hx:=OU.fresh w c q t v;obtain ⟨w1,hw1⟩:∃ z,w.alloc (.cells #[.int .i64 c,.int .i64 q,.int .i64 t,v] 96)=z:=⟨_,rfl⟩
 rw [hw1] at hb hx;have HW:=hid hw1;have HB:=hid hb;have HC:=hid (uContainsFunc v es w1 (h.below hb));have HE:=hid (com_any es);obtain ⟨a,k,rfl,hk,_⟩:=h.shape;obtain ⟨c0,c1,c2,c3,_⟩:=hx.cells;clear hw1 hb hx h;generalize UM.com es=R at HE;generalize es.any (fun y=>y.1==1)=A at HC HE;go_enter Tryz.func162,Tryz.ntmps162
 go_upto_region 1 with fail
 rw [HW.out];go_wp2_with fail
 refine HC.out.mono ?_;rintro e w2 ⟨rfl,hb2⟩;go_wp2
 go_ret;exact ⟨ret_bool HE.out,bnext HB.out hb2⟩
end
end Go.Proofs.YtahcehbgfhdbjaaGreatDoor
namespace Go.Proofs.YtahcehbgfhdbjaaGreatDoor.ST
open Go.RowKit Go.Joins
open UM (Ef)
open SM (Fp)
def UBox (w:World) (g:Nat) (a n t:Int) (sv:Value):Prop:=w.cell? ⟨g,0,none⟩=some (.int .i64 a)/\w.cell? ⟨g,1,none⟩=some (.int .i64 n)/\w.cell? ⟨g,2,none⟩=some (.int .i64 t)/\w.cell? ⟨g,3,none⟩=some sv
theorem UBox.fresh (w:World) (a n t:Int) (sv:Value):UBox (w.alloc (.cells #[.int .i64 a,.int .i64 n,.int .i64 t,sv] 96)) w.heap.size a n t sv:=by
 exact ubox (heap_alloc_new w _)
theorem UBox.below {w w':World} {g:Nat} {a n t:Int} {sv:Value} (h:UBox w g a n t sv) (hb:Below w.heap.size w w'):UBox w' g a n t sv:=⟨below_cell hb h.1,below_cell hb h.2.1,below_cell hb h.2.2.1,below_cell hb h.2.2.2⟩
theorem rCmpS (x m t:Int) (ua:Option Addr) (ul uc:Nat) (y n u:Int) (va:Option Addr) (vl vc:Nat) (w:World) :
  Calls Tryz.prog 75 #[uv x m t (.slice ua ul uc),uv y n u (.slice va vl vc)] w fun e w'=>e = .returned (.int .i64 (UM.cmpU x m y n))/\Below w.heap.size w w':=
 rCmpU x m t _ y n u _ w ⟨_,_,_,rfl⟩ ⟨_,_,_,rfl⟩
theorem rCompareL {w:World} (x m t:Int) (ua:Option Addr) (ul uc:Nat) (y n u:Int) (va:Option Addr) (vl vc:Nat) (p:Later w) :
  Calls Tryz.prog 75 #[uv x m t (.slice ua ul uc),uv y n u (.slice va vl vc)] p.val fun e w''=>e = .returned (.int .i64 (UM.cmpU x m y n)) /\ ∃ q:Later w,w''=q.val:=
 Calls.later (rCmpS x m t ua ul uc y n u va vl vc p.val)
def FitN (fs:List Fp):Prop:=∀ f∈fs,∀ e∈f.2.2.2,NmFit e
def TelO (base:Nat) (w:World):List Up->List Fp->Prop
 | [],[]=>True
 | q :: qs,f :: fs=>(q.1=f.1/\q.2.1=f.2.1/\q.2.2.1=f.2.2.1/\OwnEf base w (sl q) f.2.2.2)/\TelO base w qs fs
 | _,_=>False
theorem TelO.below {base:Nat} {w w':World} (hb:Below w.heap.size w w'):∀ {qs:List Up} {fs:List Fp},TelO base w qs fs->TelO base w' qs fs
 | [],[],_=>trivial
 | _ :: _,_ :: _,h=>⟨⟨h.1.1,h.1.2.1,h.1.2.2.1,h.1.2.2.2.below hb⟩,TelO.below hb h.2⟩
 | [],_ :: _,h=>h.elim
 | _ :: _,[],h=>h.elim
theorem TelO.keep {base:Nat} {w w':World} (hk:KeepsX 96 w w'):∀ {qs:List Up} {fs:List Fp},TelO base w qs fs->TelO base w' qs fs
 | [],[],_=>trivial
 | _ :: _,_ :: _,h=>⟨⟨h.1.1,h.1.2.1,h.1.2.2.1,ownG_keep h.1.2.2.2 hk (by decide)⟩,TelO.keep hk h.2⟩
 | [],_ :: _,h=>h.elim
 | _ :: _,[],h=>h.elim
theorem TelO.rd {base:Nat} {w:World}:∀ {qs:List Up} {fs:List Fp},TelO base w qs fs->Tel w qs fs
 | [],[],_=>trivial
 | _ :: _,_ :: _,h=>⟨⟨h.1.1,h.1.2.1,h.1.2.2.1,h.1.2.2.2.rd⟩,TelO.rd h.2⟩
 | [],_ :: _,h=>h.elim
 | _ :: _,[],h=>h.elim
theorem TelO.snoc {base:Nat} {w:World} {q:Up} {f:Fp} (k:q.1=f.1/\q.2.1=f.2.1/\q.2.2.1=f.2.2.1/\OwnEf base w (sl q) f.2.2.2):∀ {qs:List Up} {fs:List Fp},TelO base w qs fs->TelO base w (qs ++ [q]) (fs ++ [f])
 | [],[],_=>⟨k,trivial⟩
 | _ :: _,_ :: _,h=>⟨h.1,TelO.snoc k h.2⟩
 | [],_ :: _,h=>h.elim
 | _ :: _,[],h=>h.elim
theorem take_snocF {fs:List Fp} {k:Nat} {f:Fp} (h:fs[k]? = some f):fs.take (k+1)=fs.take k ++ [f]:=by
 have hlt:k<fs.length:=(List.getElem?_eq_some_iff.1 h).1;rw [<- List.take_append_getElem hlt,(List.getElem?_eq_some_iff.1 h).2]
end Go.Proofs.YtahcehbgfhdbjaaGreatDoor.ST

