/-
  KF: joined texts, what nothing names left out.
-/
import Derived.Test.YtahcehbgfhdbjaaGreatDoorProg
import Derived.WalkKit
import Derived.ProofKit
import Derived.OpenShut
import Derived.ShutString
import Derived.ChangeOld
import Derived.Below
import Derived.WalkSpells
import Derived.WalkLawsBesides
import Derived.Laws.AppendOwnNone
import Derived.Lib.Hide
import Derived.Lib.SliceRun
import Derived.Handy
import Derived.OneCell
import Derived.BigQuiet
import Derived.Deep.QuietTactic
import Derived.Laws.StructEq
import Derived.StillTailTactics
import Derived.Shelf.Abstract
set_option maxHeartbeats 2000000
set_option maxRecDepth 100000
open Go.Lib (hid)
namespace Go.Proofs.YtahcehbgfhdbjaaGreatDoor.VM
abbrev Ent:=Int×Int
def cnt:List Ent->Int->Int
 | [],_=>0
 | e :: v,a=>if e.1=a then e.2 else cnt v a
def off (e:Ent):Bool:=decide (e.1<1) || (decide (e.2<1) || decide (1000000<e.2))
def err:Int->List Ent->Int
 | _,[]=>0
 | p,e :: v=>if off e=true then 9 else if e.1<=p then 7 else err e.1 v
def Val:Int->List Ent->Prop
 | _,[]=>True
 | p,e :: v=>p<e.1/\1<=e.2/\e.2<=1000000/\Val e.1 v
theorem cnt_low {v:List Ent}:∀ {p a:Int},Val p v->a<=p->cnt v a=0:=by
 induction v with
 | nil=>intro p a _ _;rfl
 | cons e v ih=>
  intro p a h ha;obtain ⟨h1,_,_,h4⟩:=h;unfold cnt;rw [if_neg (by omega)];exact ih h4 (by omega)
theorem ext {u:List Ent}:∀ {v:List Ent} {p q:Int},Val p u->Val q v->(∀ a,cnt u a=cnt v a)->u=v:=by
 induction u with
 | nil=>
  intro v p q _ hv h;cases v with
  | nil=>rfl
  | cons f v=>
   have:=h f.1;obtain ⟨h1,h2,h3,h4⟩:=hv;simp [cnt] at this
   omega
 | cons e u ih=>
  intro v p q hu hv h;obtain ⟨u1,u2,u3,u4⟩:=hu;cases v with
  | nil=>
   have:=h e.1;simp [cnt] at this
   omega
  | cons f v=>
   obtain ⟨v1,v2,v3,v4⟩:=hv;have he:=h e.1;have hf:=h f.1;simp only [cnt,if_true] at he hf;by_cases hlt:e.1<f.1
   ·rw [if_neg (by omega),cnt_low v4 (by omega)] at he;omega
   ·by_cases hgt:f.1<e.1
    ·rw [if_neg (by omega),cnt_low u4 (by omega)] at hf;omega
    ·have h1:e.1=f.1:=by omega
     rw [if_pos h1.symm] at he;have h2:e=f:=Prod.ext h1 he;subst h2;congr 1
     refine ih u4 v4 fun a=>?_
     by_cases ha:e.1=a
     ·rw [cnt_low u4 (by omega),cnt_low v4 (by omega)]
     ·have:=h a;simp only [cnt,if_neg ha] at this;exact this
def one (a n:Int):List Ent:=if n=0 then [] else [(a,n)]
def mrg:List Ent->List Ent->List (Int×Int×Int)
 | [],[]=>[]
 | e :: a,[]=>(e.1,e.2,0) :: mrg a []
 | [],f :: b=>(f.1,0,f.2) :: mrg [] b
 | e :: a,f :: b=>
  if e.1<f.1 then (e.1,e.2,0) :: mrg a (f :: b)
  else if f.1<e.1 then (f.1,0,f.2) :: mrg (e :: a) b
  else (e.1,e.2,f.2) :: mrg a b
termination_by a b=>a.length+b.length
def sel (f:Int->Int->Int) (ts:List (Int×Int×Int)):List Ent:=ts.flatMap fun t=>one t.1 (f t.2.1 t.2.2)
def jn (a b:List Ent):List Ent:=sel max (mrg a b)
def mt (a b:List Ent):List Ent:=sel min (mrg a b)
def le (a b:List Ent):Bool:=a.all fun e=>decide (e.2<=cnt b e.1)
def anyL (ts:List (Int×Int×Int)):Bool:=ts.any fun t=>decide (t.2.1<t.2.2)
def anyG (ts:List (Int×Int×Int)):Bool:=ts.any fun t=>decide (t.2.2<t.2.1)
def code (l g:Bool):Int:=(if l then 1 else 0)+(if g then 2 else 0)
def size:List Ent->Int
 | []=>0
 | e :: v=>e.2+size v
theorem size_append (u v:List Ent):size (u++v)=size u+size v:=by
 induction u with
 | nil=>simp [size]
 | cons e u ih=>rw [List.cons_append];simp only [size];omega
def wl (put:Bool) (a c:Int):List Ent->List Ent
 | []=>if put then [] else [(a,c)]
 | e :: v=>(if !put && decide (a<=e.1) then [(a,c)] else [])++((if e.1=a then [] else [e])++wl (put || decide (a<=e.1)) a c v)
def wi (v:List Ent) (a c:Int):List Ent:=wl (decide (c=0)) a c v
def rj (out:List Ent):List Ent->List Ent
 | []=>out
 | e :: b=>rj (if cnt out e.1<e.2 then wi out e.1 e.2 else out) b
def rm (b:List Ent):List Ent->List Ent
 | []=>[]
 | e :: a=>(if 0<min e.2 (cnt b e.1) then [(e.1,min e.2 (cnt b e.1))] else [])++rm b a
def At (v:List Ent) (a:Int) (i:Nat):Prop:=i<=v.length/\(∀ k e,v[k]? = some e->k<i->e.1<a)/\(∀ k e,v[k]? = some e->i<=k->a<=e.1)
def fnd (v:List Ent) (a:Int) (i:Nat):Bool:=
 match v[i]? with
 | some e=>decide (e.1=a)
 | none=>false
end Go.Proofs.YtahcehbgfhdbjaaGreatDoor.VM
namespace Go.Proofs.YtahcehbgfhdbjaaGreatDoor.VX
open Go.RowKit
open VM (Ent)
def ents:List Ent->List Value
 | []=>[]
 | e :: v=>.int .i64 e.1 :: .int .i64 e.2 :: ents v
theorem ents_length (xs:List Ent):(ents xs).length=xs.length*2:=by
 induction xs with
 | nil=>rfl
 | cons e v ih=>simp only [ents,List.length_cons,ih];omega
theorem ents_append (xs ys:List Ent):ents (xs++ys)=ents xs++ents ys:=by
 induction xs with
 | nil=>rfl
 | cons e v ih=>simp only [ents,List.cons_append,ih]
theorem ents_even (xs:List Ent):∀ i:Nat,(ents xs)[i*2]? = xs[i]?.map fun e=>.int .i64 e.1:=by
 induction xs with
 | nil=>intro i;simp [ents]
 | cons e v ih=>
  intro i;cases i with
  | zero=>rfl
  | succ i=>rw [show (i+1)*2=i*2+1+1 by omega];simp only [ents,List.getElem?_cons_succ];exact ih i
theorem ents_odd (xs:List Ent):∀ i:Nat,(ents xs)[i*2+1]? = xs[i]?.map fun e=>.int .i64 e.2:=by
 induction xs with
 | nil=>intro i;simp [ents]
 | cons e v ih=>
  intro i;cases i with
  | zero=>rfl
  | succ i=>rw [show (i+1)*2+1=i*2+1+1+1 by omega];simp only [ents,List.getElem?_cons_succ];exact ih i
def RdV (w:World) (v:Value) (xs:List Ent):Prop:=
 ∃ a c,v = .slice a xs.length c/\xs.length<=c/\c<=maxLen/\(a=none->xs = []/\c=0) /\
  (∀ x,a=some x -> ∀ j u,(ents xs)[j]? = some u->w.cell? (x.add j)=some u)
def OwnV (base:Nat) (w:World) (v:Value) (xs:List Ent):Prop:=w.ownsRow base 110 2 v xs.length (ents xs)
theorem RdV.nil (w:World):RdV w (.slice none 0 0) []:=⟨none,0,rfl,Nat.le_refl _,Nat.zero_le _,fun _=>⟨rfl,rfl⟩,fun _ h=>by cases h⟩
theorem below_cell {w wr:World} {p:Addr} {v:Value} (hb:Below w.heap.size w wr) (hc:w.cell? p=some v):wr.cell? p=some v:=by
 rw [hb.cell (World.block_lt_of_cell? w _ hc)];exact hc
theorem RdV.below {w w':World} {v:Value} {xs:List Ent} (h:RdV w v xs) (hb:Below w.heap.size w w'):RdV w' v xs:=by
 obtain ⟨a,c,rfl,h1,h2,h3,h4⟩:=h;exact ⟨a,c,rfl,h1,h2,h3,fun x hx j u hu=>below_cell hb (h4 x hx j u hu)⟩
theorem below_drewN (B:Nat) (w:World) (m:Nat):Below B w (w.drewN m):=⟨rfl,rfl,rfl,Nat.le_refl _,fun _ _=>rfl⟩
theorem below_fresh (w:World) (o:Obj):Below w.heap.size w (w.alloc o):=(Below.refl _ w).alloc (Nat.le_refl _) _
theorem RdV.shape {w:World} {v:Value} {xs:List Ent} (h:RdV w v xs):∃ a c,v = .slice a xs.length c/\c<=9223372036854775807/\xs.length<=c:=by
 obtain ⟨a,c,rfl,h1,h2,_⟩:=h;unfold maxLen at h2;exact ⟨a,c,rfl,by omega,h1⟩
theorem OwnV.nil (base:Nat) (w:World):OwnV base w (.slice none 0 0) []:=World.ownsRow_nil _ _ _ _
theorem OwnV.rd {base:Nat} {w:World} {v:Value} {xs:List Ent} (h:OwnV base w v xs):RdV w v xs:=by
 have ho:=h;rcases h.2 with ⟨rfl,h0⟩ | ⟨g,cap,cur,rfl,hg,hh,hn,hm,hs,ht⟩
 ·obtain rfl:xs = []:=List.eq_nil_of_length_eq_zero h0;exact RdV.nil w
 ·refine ⟨_,cap,rfl,hn,hm,(fun h=>by cases h),fun x hx j u hu=>?_⟩;cases hx
  exact ho.cells (g:=g) rfl j u hu
theorem OwnV.below {base:Nat} {w w':World} {v:Value} {xs:List Ent} (h:OwnV base w v xs) (hb:Below w.heap.size w w'):OwnV base w' v xs:=
 World.ownsRow.kept h (row:=none) ⟨hb.os,hb.tape,hb.output,hb.size,fun k hk _=>hb.block k hk⟩ (by cases v.ownBlock <;> simp)
theorem addr_plain (b off j:Nat):(⟨b,off,none⟩:Addr).add j=⟨b,off+j,none⟩:=by unfold Addr.add;split <;> simp_all
theorem RdV.plain {w:World} {a:Option Addr} {n c:Nat} {xs:List Ent} (h:RdV w (.slice a n c) xs) (h0:0<xs.length) :
  ∃ b o,a=some ⟨b,o,none⟩/\b<w.heap.size /\ ∀ i e,xs[i]? = some e->w.cell? ⟨b,o+i*2,none⟩=some (.int .i64 e.1)/\w.cell? ⟨b,o+i*2+1,none⟩=some (.int .i64 e.2):=by
 obtain ⟨a',c',hv,h1,h2,h3,h4⟩:=h;cases hv
 cases a with
 | none=>have:=(h3 rfl).1;subst this;simp at h0
 | some x=>
  obtain ⟨b,o,spot⟩:=x;have hc0:=h4 _ rfl 0 _ (by rw [show 0=0*2 from rfl,ents_even,List.getElem?_eq_getElem h0];rfl);have hspot:spot=none:=by simpa [Addr.add] using World.cell?_spot hc0
  subst hspot;rw [addr_plain] at hc0;refine ⟨b,o,rfl,World.block_lt_of_cell? w _ hc0,fun i e he=>⟨?_,?_⟩⟩
  ·have:=h4 _ rfl (i*2) (.int .i64 e.1) (by rw [ents_even,he];rfl);rw [addr_plain] at this;exact this
  ·have:=h4 _ rfl (i*2+1) (.int .i64 e.2) (by rw [ents_odd,he];rfl);rw [addr_plain] at this;exact this
theorem RdV.at {w:World} {a:Option Addr} {n c:Nat} {xs:List Ent} (h:RdV w (.slice a n c) xs) (k:Nat) (e:Ent) (hk:xs[k]? = some e) :
  ∃ b o,(∀ w0,(Instr.indexAt 31 (.slice a n c) (.int .i64 (k:Int))).run Tryz.prog w0 = .ok (.pointer (some ⟨b,o,none⟩)) w0)/\b<w.heap.size /\
   w.cell? ⟨b,o,none⟩=some (.int .i64 e.1)/\w.cell? ⟨b,o+1,none⟩=some (.int .i64 e.2):=by
 have hlt:k<xs.length:=(List.getElem?_eq_some_iff.1 hk).1;obtain ⟨b,o,rfl,hb,hc⟩:=h.plain (by omega);obtain ⟨a',c',hv,_⟩:=h;cases hv
 refine ⟨b,o+k*2,fun w0=>?_,hb,hc k e hk⟩;have h1:(0:Int)<=(k:Int):=by omega
 have h2:(k:Int)<(xs.length:Int):=by omega
 have h3:¬ xs.length<=k:=by omega
 simp [Instr.indexAt,asIntOf,run_underlying Tryz.underlying31,h1,Result.andThen,addr_plain]
 intro h4;exact absurd h4 h3
def KeepsE (w w':World):Prop:=∀ (k:Nat) (cur:Array Value) (t:TypeId) (fr:Nat×Nat),t≠110->w.heap[k]? = some (Obj.cells cur t fr)->w'.heap[k]? = some (Obj.cells cur t fr)
section
variable {w:World} {ops:Array Oper} {rest:List Oper} {o:Oper} {a:Act} {Q:Exit->Act->World->Prop} {base:Nat} {v:Value} {ys:List Ent}
end
end Go.Proofs.YtahcehbgfhdbjaaGreatDoor.VX
namespace Go.Proofs.YtahcehbgfhdbjaaGreatDoor.VX
open Go.RowKit
open VM (Ent)
theorem drop_get {xs:List Ent} {k:Nat} (h:k<xs.length):xs.drop k=xs[k] :: xs.drop (k+1):=List.drop_eq_getElem_cons h
theorem neq_ent (x n y m:Int) (w:World):(binOp .neq 110 (.agg #[.int .i64 x,.int .i64 n]) (.agg #[.int .i64 y,.int .i64 m])).run Tryz.prog w = .ok (.bool (!(decide (x=y) && decide (n=m)))) w:=by
 have u3:=Tryz.underlying3;have a3:=Tryz.isAgg3;have z3:=Tryz.sizeOf3;have hS:Tryz.prog.underlying 110=some (.struct (Tryz.prog.fieldsOf 110)):=by kernel_rfl
 have hp:Tryz.prog.stoodInHeld 110=false:=by kernel_rfl
 rw [run_neq_struct,show (10000:Nat)=9999+1 from rfl,run_equalIn_agg w 9999 110 _ _ hS hp];simp only [Program.fieldsOf,Tryz.underlying110];go_simp
 by_cases h1:x=y <;> by_cases h2:n=m <;> simp [h1,h2]
theorem rEqual (va vb:Value) (xs ys:List Ent) (w:World) (ha:RdV w va xs) (hb:RdV w vb ys) :
  Calls Tryz.prog 34 #[va,vb] w fun e w'=>e = .returned (.bool (decide (xs=ys)))/\Below w.heap.size w w':=by
 obtain ⟨ad,c,rfl,hc,hl⟩:=ha.shape;obtain ⟨bd,d,rfl,hd,hld⟩:=hb.shape;have HA:=hid ha;have HB:=hid hb;clear ha hb;by_cases hlen:xs.length=ys.length
 ·obtain ⟨R,hR⟩:∃ R,R=decide (xs=ys):=⟨_,rfl⟩
  rw [<- hR];have HR:=hid hR;clear hR;have HL:=hid hlen;have hq0:((xs.length:Int) != (ys.length:Int))=false:=by simp;omega
  rw [<- hlen] at hq0 ⊢;clear hlen;have hneq:=neq_ent;have hm:Tryz.prog.eqGuardType Tryz.prog.depth 110=false:=by kernel_rfl
  go_enter Tryz.func34,Tryz.ntmps34
  go_wp2
  go_loopw [5] (fun i wr=>∃ k:Nat,k<=xs.length/\i = .int .i64 k/\Below w.heap.size w wr/\Hid (R=decide (xs.drop k=ys.drop k))) (fun i _=>xs.length - (intOf i).toNat)
  case atStart=>exact ⟨0,Nat.zero_le _,rfl,Below.refl _ _,HR.out⟩
  case round=>
   obtain ⟨k,hk,rfl,hbl,he⟩:=hrel;by_cases hlt:k<xs.length
   ·have hlt2:k<ys.length:=by rw [<- HL.out];exact hlt
    obtain ⟨b,o,hi,hb,c0,c1⟩:=(HA.out.below hbl).at k xs[k] (List.getElem?_eq_getElem hlt);obtain ⟨b2,o2,hi2,hb2,d0,d1⟩:=(HB.out.below hbl).at k ys[k] (List.getElem?_eq_getElem hlt2);rw [<- HL.out] at hi2;have hq:(k:Int)<(xs.length:Int):=by omega
    have hdx:=hid (drop_get hlt);have hdy:=hid (drop_get hlt2);clear HR;generalize xs[k]=en at c0 c1 hdx;generalize ys[k]=em at d0 d1 hdy;obtain ⟨x,n⟩:=en;obtain ⟨y,m⟩:=em;simp only at c0 c1 d0 d1;by_cases hx:x=y/\n=m
    ·obtain ⟨rfl,rfl⟩:=hx;have e2:=hid (show R=decide (xs.drop (k+1)=ys.drop (k+1)) by rw [he.out,hdx.out,hdy.out];simp);clear he hdx hdy;go_wp2
     go_quiet (fail)
     go_wp2
     go_roundw
     case rel=>exact ⟨k+1,by omega,by go_num,hbl.trans (below_drewN _ _ _),e2⟩
     case measure=>simp [intOf];omega
    ·have e2:=hid (show R=false by rw [he.out,hdx.out,hdy.out];simp;exact fun h1 h2=>absurd ⟨h1,h2⟩ hx);have hx2:(decide (x=y) && decide (n=m))=false:=by simpa using hx
     clear he hdx hdy hx;go_wp2
     go_quiet (fail)
     go_wp2
     go_ret;rw [e2.out];exact ⟨rfl,hbl.trans (below_drewN _ _ _)⟩
   ·have hq:¬ ((k:Int)<(xs.length:Int)):=by omega
    have e2:=hid (show R=true by rw [he.out,List.drop_of_length_le (by omega),List.drop_of_length_le (by rw [<- HL.out];omega)];rfl);clear he HR;go_wp2
    go_ret;rw [e2.out];exact ⟨rfl,hbl⟩
 ·have e2:=hid (show decide (xs=ys)=false from decide_eq_false fun h=>hlen (by rw [h]));have hq0:((xs.length:Int) != (ys.length:Int))=true:=by simp;omega
  clear hlen HA HB;go_enter Tryz.func34,Tryz.ntmps34
  go_wp2
  go_ret;rw [e2.out];exact ⟨rfl,Below.refl _ _⟩
theorem err_cons (p:Int) (e:Ent) (v:List Ent):VM.err p (e :: v)=if VM.off e=true then 9 else if e.1<=p then 7 else VM.err e.1 v:=rfl
def prev (xs:List Ent) (k:Nat):Int:=if k=0 then 0 else (xs.getD (k - 1) (0,0)).1
theorem prev_succ {xs:List Ent} {k:Nat} {e:Ent} (h:xs[k]? = some e):prev xs (k+1)=e.1:=by simp [prev,List.getD,h]
theorem rValidate (v:Value) (xs:List Ent) (w:World) (h:RdV w v xs) :
  Calls Tryz.prog 27 #[v] w fun e w'=>e = .returned (.int .i64 (VM.err 0 xs))/\Below w.heap.size w w':=by
 obtain ⟨ad,c,rfl,hc,hl⟩:=h.shape;have H:=hid h;clear h;obtain ⟨R,hR⟩:∃ R,R=VM.err 0 xs:=⟨_,rfl⟩
 rw [<- hR];have HR:=hid hR;clear hR;go_enter Tryz.func27,Tryz.ntmps27
 go_wp2
 go_loopw [3] (fun i wr=>∃ k:Nat,k<=xs.length/\i = .int .i64 k/\Below w.heap.size w wr/\Hid (R=VM.err (prev xs k) (xs.drop k))) (fun i _=>xs.length - (intOf i).toNat)
 case atStart=>exact ⟨0,Nat.zero_le _,rfl,Below.refl _ _,HR.out⟩
 case round=>
  obtain ⟨k,hk,rfl,hbl,he⟩:=hrel;by_cases hlt:k<xs.length
  ·obtain ⟨b,o,hi,hb,c0,c1⟩:=(H.out.below hbl).at k xs[k] (List.getElem?_eq_getElem hlt);have hq:(k:Int)<(xs.length:Int):=by omega
   have hd:=hid (drop_get hlt);have hp:=hid (prev_succ (List.getElem?_eq_getElem hlt));clear HR;generalize xs[k]=en at c0 c1 hd hp;obtain ⟨x,n⟩:=en;simp only at c0 c1;by_cases hoff:VM.off (x,n)=true
   ·have e2:=hid (show R=9 by rw [he.out,hd.out,err_cons,if_pos hoff]);simp [VM.off] at hoff
    clear he hd hp;by_cases h1:x<1
    ·clear hoff;go_wp2
     go_ret;rw [e2.out];exact ⟨rfl,hbl⟩
    ·by_cases h2:n<1
     ·clear hoff;go_wp2
      go_ret;rw [e2.out];exact ⟨rfl,hbl⟩
     ·have h3:1000000<n:=by omega
      clear hoff;go_wp2
      go_ret;rw [e2.out];exact ⟨rfl,hbl⟩
   ·have e1:=hid (show R=if x<=prev xs k then 7 else VM.err x (xs.drop (k+1)) by rw [he.out,hd.out,err_cons,if_neg hoff]);simp [VM.off] at hoff
    obtain ⟨h1,h2,h3⟩:=hoff;have h1':¬ x<1:=by omega
    have h2':¬ n<1:=by omega
    have h3':¬ 1000000<n:=by omega
    clear he hd;by_cases h0:k=0
    ·subst h0;have e2:=hid (show R=VM.err (prev xs (0+1)) (xs.drop (0+1)) by rw [e1.out,if_neg (by show ¬ x<=0;omega),hp.out]);have hi0:∀ w0:World,(Instr.indexAt 31 (.slice ad xs.length c) (.int .i64 0)).run Tryz.prog w0 = .ok (.pointer (some ⟨b,o,none⟩)) w0:=hi;have hq0:(0:Int)<(xs.length:Int):=hq;clear e1 hp hi hq;go_wp2
     go_quiet (fail)
     go_wp2
     go_roundw
     case rel=>exact ⟨0+1,by omega,by go_num,hbl.trans (below_drewN _ _ _),e2⟩
     case measure=>simp [intOf];omega
    ·have hk1:(0:Int)<(k:Int):=by omega
     have hk2:0<k:=by omega
     have hkl:k - 1<xs.length:=by omega
     obtain ⟨b2,o2,hi2,hb2,d0,d1⟩:=(H.out.below hbl).at (k - 1) xs[k - 1] (List.getElem?_eq_getElem hkl);have hpk:=hid (show prev xs k=xs[k - 1].1 by simp [prev,h0,List.getD,List.getElem?_eq_getElem hkl]);generalize xs[k - 1]=em at d0 d1 hpk;obtain ⟨y,m⟩:=em;simp only at d0 d1;rw [show ((k - 1:Nat):Int)=(k:Int) - 1 by omega] at hi2;by_cases hy:x<=y
     ·have e2:=hid (show R=7 by rw [e1.out,hpk.out,if_pos hy]);have hy':y ≥ x:=hy;clear e1 hp hpk;go_wp2
      go_quiet (fail)
      go_wp2
      go_ret;rw [e2.out];exact ⟨rfl,hbl.trans (below_drewN _ _ _)⟩
     ·have e2:=hid (show R=VM.err (prev xs (k+1)) (xs.drop (k+1)) by rw [e1.out,hpk.out,if_neg hy,hp.out]);have hy':¬ y ≥ x:=hy;clear e1 hp hpk;go_wp2
      go_quiet (fail)
      go_wp2
      go_roundw
      case rel=>exact ⟨k+1,by omega,by go_num,hbl.trans (below_drewN _ _ _),e2⟩
      case measure=>simp [intOf];omega
  ·have hq:¬ ((k:Int)<(xs.length:Int)):=by omega
   have e2:=hid (show R=0 by rw [he.out,List.drop_of_length_le (by omega)];rfl);clear he HR;go_wp2
   go_ret;rw [e2.out];exact ⟨rfl,hbl⟩
end Go.Proofs.YtahcehbgfhdbjaaGreatDoor.VX
namespace Go.Proofs.YtahcehbgfhdbjaaGreatDoor.VX
open Go.RowKit
open VM (Ent)
end Go.Proofs.YtahcehbgfhdbjaaGreatDoor.VX
namespace Go.Proofs.YtahcehbgfhdbjaaGreatDoor.VX
open Go.RowKit
open VM (Ent)
def cmpi (x a:Int):Int:=if x<a then -1 else if a<x then 1 else 0
end Go.Proofs.YtahcehbgfhdbjaaGreatDoor.VX
namespace Go.Proofs.YtahcehbgfhdbjaaGreatDoor.VX
open Go.RowKit Go.Shelf
open VM (Ent)
def slLen:Value->Nat
 | .slice _ n _=>n
 | _=>0
def Drew (w w':World):Prop:=∃ n,w'=w.drewN n
end Go.Proofs.YtahcehbgfhdbjaaGreatDoor.VX
namespace Go.Proofs.YtahcehbgfhdbjaaGreatDoor.VX
open Go.RowKit Go.Shelf
open VM (Ent)
def cmp (xs ys:List Ent):Int:=VM.code (!VM.le ys xs) (!VM.le xs ys)
end Go.Proofs.YtahcehbgfhdbjaaGreatDoor.VX

