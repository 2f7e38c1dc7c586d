/-
  UMath URef3 URef1 URef4: joined texts, what nothing names left out.
-/
import Derived.Test.YtahcehbgfhdbjaaGreatDoorQUKE
import Derived.Test.YtahcehbgfhdbjaaGreatDoorQUKS
set_option maxHeartbeats 4000000
set_option maxRecDepth 100000
open Go.Lib (hid)
namespace Go.Proofs.YtahcehbgfhdbjaaGreatDoor
section
open Go.RowKit
namespace UM
open WM (enc dec Bytes)
abbrev Ef:=Int×ByteArray×ByteArray×Int×ByteArray
def errE:Ef->Int
 | (k,o,f,n,s)=>
  if k<1∨5<k then 10
  else if o.size=0∨f.size=0 then 2
  else if 16<o.size∨16<f.size∨32<s.size then 3
  else if k=3/\(n < -1000000∨1000000<n) then 9
  else if (k=4∨k=5)/\n≠0 then 9
  else if (k=2∨k=3∨k=5)/\s.size≠0 then 2 else 0
def com (es:List Ef):Bool:=es.all fun e=>decide (e.1≠1)
def isCl (c:Int):Bool:=decide (101<=c/\c<=106)
def errL:List Ef->Int
 | []=>0
 | e :: r=>if errE e≠0 then errE e else errL r
def errU (c q t:Int) (es:List Ef):Int:=
 if isCl c=false∨q<1∨8<q∨t<0∨1000<t then 9
 else if es = [] then 2
 else if 4<es.length then 3
 else if errL es≠0 then errL es
 else if (com es=false/\1<es.length)∨(com es=true/\t≠0) then 2 else 0
def cmpU (c q d r:Int):Int:=if c<d∨(c=d/\q<r) then -1 else if c=d/\q=r then 0 else 1
def bef (c q t d r u:Int):Bool:=decide (t<u∨(t=u/\cmpU c q d r<0))
end UM
abbrev ev (k:Int) (o f:ByteArray) (n:Int) (s:ByteArray):Value:=.agg #[.int .i64 k,.string o,.string f,.int .i64 n,.string s]
abbrev uv (c q t:Int) (es:Value):Value:=.agg #[.int .i64 c,.int .i64 q,.int .i64 t,es]
def encEf:UM.Ef->List Value
 | (k,o,f,n,s)=>[.int .i64 k,.string o,.string f,.int .i64 n,.string s]
theorem hlEf:0<5 /\ ∀ x,(encEf x).length=5:=⟨by decide,fun x=>by obtain ⟨a,b,c,d,e⟩:=x;rfl⟩
theorem efE:IsElem Tryz.prog 94 138 5 64 encEf where
 ht:=Tryz.underlying94
 info:=by
  obtain ⟨i0,hi,hz0,hz1,hz2⟩:=info_parts (show (Tryz.prog.info? 138).map (fun i=>(i.zero,i.size,i.bytes))=some (some (ev 0 ByteArray.empty ByteArray.empty 0 ByteArray.empty),5,64) by kernel_rfl);exact ⟨i0,_,hi,hz0,hz1,hz2,rfl⟩
 len:=hlEf.2
 one:=by intro x u hu;obtain ⟨a,b,c,d,e⟩:=x;simp [encEf] at hu;rcases hu with rfl | rfl | rfl | rfl | rfl <;> rfl
 pos:=by decide
 fits:=by decide
abbrev RdEf:=RdG encEf 5
abbrev OwnEf:=OwnG encEf 138 5
theorem atEf {w:World} {a:Option Addr} {n c:Nat} {xs:List UM.Ef} (h:RdEf w (.slice a n c) xs) (i:Nat) (k:Int) (o f:ByteArray) (m:Int) (s:ByteArray) (hk:xs[i]? = some (k,o,f,m,s)) :
  ∃ b q,(∀ w0,(Instr.indexAt 94 (.slice a n c) (.int .i64 (i:Int))).run Tryz.prog w0 = .ok (.pointer (some ⟨b,q,none⟩)) w0)/\b<w.heap.size /\
   w.cell? ⟨b,q,none⟩=some (.int .i64 k)/\w.cell? ⟨b,q+1,none⟩=some (.string o)/\w.cell? ⟨b,q+2,none⟩=some (.string f)/\w.cell? ⟨b,q+3,none⟩=some (.int .i64 m)/\w.cell? ⟨b,q+4,none⟩=some (.string s):=by
 obtain ⟨b,q,h1,h2,h3⟩:=h.at_ efE i _ hk;exact ⟨b,q,h1,h2,h3 0 _ rfl,h3 1 _ rfl,h3 2 _ rfl,h3 3 _ rfl,h3 4 _ rfl⟩
theorem ebox {w:World} {g:Nat} {t:TypeId} {a0 a1 a2 a3 a4:Value} (h:w.heap[g]? = some (.cells #[a0,a1,a2,a3,a4] t (0,0))) :
  w.cell? ⟨g,0,none⟩=some a0/\w.cell? ⟨g,1,none⟩=some a1/\w.cell? ⟨g,2,none⟩=some a2/\w.cell? ⟨g,3,none⟩=some a3/\w.cell? ⟨g,4,none⟩=some a4:=by
 refine ⟨?_,?_,?_,?_,?_⟩ <;> simp [World.cell?,h]
theorem ubox {w:World} {g:Nat} {t:TypeId} {a0 a1 a2 a3:Value} (h:w.heap[g]? = some (.cells #[a0,a1,a2,a3] t (0,0))) :
  w.cell? ⟨g,0,none⟩=some a0/\w.cell? ⟨g,1,none⟩=some a1/\w.cell? ⟨g,2,none⟩=some a2/\w.cell? ⟨g,3,none⟩=some a3:=by
 refine ⟨?_,?_,?_,?_⟩ <;> simp [World.cell?,h]
theorem isEmpty_size (s:ByteArray):s.toList.isEmpty=decide (s.size=0):=by
 rw [ByteArray.toList_eq];by_cases h:s.size=0
 ·rw [decide_eq_true h,ByteArray.size_eq_zero_iff.1 h];rfl
 ·rw [decide_eq_false h];cases hl:s.data.toList with
  | nil=>
   exfalso
   apply h
   show s.data.size=0
   rw [<- Array.length_toList,hl];rfl
  | cons _ _=>rfl
theorem rValEff (k:Int) (o f:ByteArray) (n:Int) (s:ByteArray) (w:World) :
  Calls Tryz.prog 120 #[ev k o f n s] w fun e w'=>e = .returned (.int .i64 (UM.errE (k,o,f,n,s)))/\Below w.heap.size w w':=by
 obtain ⟨R,hR⟩:∃ R,R=UM.errE (k,o,f,n,s):=⟨_,rfl⟩
 rw [<- hR];unfold UM.errE at hR;have HR:=hid hR;clear hR;have hx:=heap_alloc_new w (.cells #[.int .i64 k,.string o,.string f,.int .i64 n,.string s] 138);have hb:=below_fresh w (.cells #[.int .i64 k,.string o,.string f,.int .i64 n,.string s] 138);obtain ⟨w1,hw1⟩:∃ z,w.alloc (.cells #[.int .i64 k,.string o,.string f,.int .i64 n,.string s] 138)=z:=⟨_,rfl⟩
 rw [hw1] at hx hb;have HW:=hid hw1;have HB:=hid hb;obtain ⟨c0,c1,c2,c3,c4⟩:=ebox hx;clear hw1 hb hx;have eo:=isEmpty_size o;have ef:=isEmpty_size f;have es:=isEmpty_size s;go_enter Tryz.func120,Tryz.ntmps120
 go_upto_region 1 with fail
 rw [HW.out];clear HW;go_wp2
 all_goals
  go_ret;refine ⟨ret_int ?_,HB.out⟩;have hr:=HR.out;rw [hr];clear eo ef es c0 c1 c2 c3 c4 HR HB;(try simp only [<- ByteArray.size_eq_zero_iff] at *);(try simp only [ByteArray.size_empty] at *);(try simp only [bne_iff_ne,bne_eq_false_iff_eq,ne_eq,Bool.not_eq_true',Bool.not_eq_false',decide_eq_true_eq,decide_eq_false_iff_not] at *);(repeat' split) <;> first | rfl | omega
end
section
open Go.RowKit
open UM (Ef)
open WM (enc zig)
namespace UM
def encS (s:ByteArray):List Int:=enc s.size++nums s
def encE:Ef->List Int
 | (k,o,f,n,s)=>JM.encN [k]++(encS o++encS f)++(enc (zig n)++encS s)
def encEs (es:List Ef):List Int:=es.flatMap encE
def encU (c q t:Int) (es:List Ef):List Int:=JM.encN [c,q,t,(es.length:Int)]++encEs es
def in64 (e:Ef):Prop:=-9223372036854775808<=e.2.2.2.1/\e.2.2.2.1<=9223372036854775807
theorem errE_ok {k:Int} {o f:ByteArray} {n:Int} {s:ByteArray} (h:errE (k,o,f,n,s)=0):1<=k/\k<=5/\o.size<=16/\f.size<=16/\s.size<=32:=by
 unfold errE at h;dsimp only at h;split at h
 ·omega
 split at h
 ·omega
 split at h
 ·omega
 ·omega
theorem errL_ok:∀ {es:List Ef},errL es=0 -> ∀ e∈es,errE e=0
 | [],_=>by simp
 | e :: r,h=>by
  unfold errL at h;split at h
  ·exact absurd h (by assumption)
  ·rename_i h1
   have h2:errE e=0:=by omega
   intro x hx;rcases List.mem_cons.1 hx with rfl | hx
   ·exact h2
   ·exact errL_ok h x hx
theorem errU_ok {c q t:Int} {es:List Ef} (h:errU c q t es=0):isCl c=true/\1<=q/\q<=8/\0<=t/\t<=1000/\1<=es.length/\es.length<=4 /\ ∀ e∈es,errE e=0:=by
 unfold errU at h;split at h
 ·omega
 rename_i h1
 split at h
 ·omega
 rename_i h2
 split at h
 ·omega
 rename_i h3
 split at h
 ·rename_i h4
  exact absurd h h4
 rename_i h4
 have hl:1<=es.length:=by cases es with | nil=>exact absurd rfl h2 | cons _ _=>simp
 refine ⟨by cases hc:isCl c with | true=>rfl | false=>exact absurd (Or.inl hc) h1,?_,?_,?_,?_,hl,by omega,errL_ok (by omega)⟩ <;> omega
theorem isCl_ok {c:Int} (h:isCl c=true):101<=c/\c<=106:=of_decide_eq_true h
theorem encS_len (s:ByteArray) (h:s.size<=1000000):(encS s).length<=10+s.size:=by
 unfold encS;rw [List.length_append,nums_length];have:=WM.enc_len10 s.size (by omega);omega
theorem encE_len {k:Int} {o f:ByteArray} {n:Int} {s:ByteArray} (h:errE (k,o,f,n,s)=0) (hr:in64 (k,o,f,n,s)):(encE (k,o,f,n,s)).length<=200:=by
 obtain ⟨h1,h2,h3,h4,h5⟩:=errE_ok h;have a1:=JM.encN_len [k] (by intro x hx;rw [List.mem_singleton] at hx;subst hx;unfold JM.small;omega);have a2:=encS_len o (by omega);have a3:=encS_len f (by omega);have a4:=encS_len s (by omega);have a5:=WM.enc_len10 (zig n) (WM.zig_lt n hr.1 hr.2);simp only [List.length_cons,List.length_nil] at a1;unfold encE;simp only [List.length_append];omega
theorem encEs_snoc {l:List Ef} {k:Nat} {x:Ef} (h:l[k]? = some x):encEs (l.take (k+1))=encEs (l.take k)++encE x:=by
 have hlt:k<l.length:=(List.getElem?_eq_some_iff.1 h).1;have hx:l[k]=x:=(List.getElem?_eq_some_iff.1 h).2;rw [<- List.take_append_getElem hlt,hx];unfold encEs;rw [List.flatMap_append];simp
theorem encEs_len (l:List Ef) (h:∀ e∈l,errE e=0) (hr:∀ e∈l,in64 e):(encEs l).length<=200*l.length:=by
 induction l with
 | nil=>simp [encEs]
 | cons x r ih=>
  obtain ⟨k,o,f,n,s⟩:=x;have h1:=encE_len (h _ (List.mem_cons_self ..)) (hr _ (List.mem_cons_self ..));have h2:=ih (fun e he=>h e (List.mem_cons_of_mem _ he)) (fun e he=>hr e (List.mem_cons_of_mem _ he));have h3:encEs ((k,o,f,n,s) :: r)=encE (k,o,f,n,s)++encEs r:=by simp [encEs]
  rw [h3,List.length_append,List.length_cons];omega
end UM
end
section
open Go.RowKit
open UM (Ef)
theorem com_take {es:List Ef} {k:Nat} {e:Ef} (h:es[k]? = some e):UM.com (es.take (k+1))=(UM.com (es.take k) && decide (e.1≠1)):=by
 unfold UM.com;rw [List.take_add_one,h,List.all_append];simp
theorem com_false {es:List Ef} {k:Nat} {e:Ef} (h:es[k]? = some e) (h1:e.1=1):UM.com es=false:=by
 unfold UM.com;rw [List.all_eq_false];exact ⟨e,List.mem_of_getElem? h,by simp [h1]⟩
theorem rCom (c q t:Int) (v:Value) (es:List Ef) (w:World) (h:RdEf w v es) :
  Calls Tryz.prog 121 #[uv c q t v] w fun e w'=>e = .returned (.bool (UM.com es))/\Below w.heap.size w w':=by
 obtain ⟨ad,cp,rfl,hcp,_⟩:=h.shape;obtain ⟨R,hR⟩:∃ R,R=UM.com es:=⟨_,rfl⟩
 rw [<- hR];have HR:=hid hR;have HX:=hid h;clear hR h;have hx:=heap_alloc_new w (.cells #[.int .i64 c,.int .i64 q,.int .i64 t,.slice ad es.length cp] 96);have hb:=below_fresh w (.cells #[.int .i64 c,.int .i64 q,.int .i64 t,.slice ad es.length cp] 96);obtain ⟨w1,hw1⟩:∃ z,w.alloc (.cells #[.int .i64 c,.int .i64 q,.int .i64 t,.slice ad es.length cp] 96)=z:=⟨_,rfl⟩
 rw [hw1] at hx hb;have HW:=hid hw1;have HB:=hid hb;have HU:=hid (ubox hx);have hlen:es.length<=9223372036854775807:=by omega
 clear hw1 hb hx;go_enter Tryz.func121,Tryz.ntmps121
 go_upto_region 1 with fail
 rw [HW.out];clear HW;obtain ⟨_,_,_,c3⟩:=HU.out;go_wp2
 go_loopw [3] (fun i wr=>∃ k:Nat,k<=es.length/\i = .int .i64 k/\Hid (UM.com (es.take k)=true)/\wr=w1) (fun i _=>es.length - (intOf i).toNat)
 case atStart=>exact ⟨0,Nat.zero_le _,rfl,hid rfl,rfl⟩
 case round=>
  obtain ⟨k,hk,rfl,hc,rfl⟩:=hrel;by_cases hlt:k<es.length
  ·have hq:(k:Int)<(es.length:Int):=by omega
   have hat:=List.getElem?_eq_getElem hlt;generalize es[k]=e at hat
   obtain ⟨k',o',f',n',s'⟩:=e;obtain ⟨b,p,hi,hbb,d0,_⟩:=atEf (HX.out.below HB.out) k _ _ _ _ _ hat
   by_cases h1:k'=1
   ·have hk1:(k'==1)=true:=by simp [h1]
    have HR1:=hid (HR.out.trans (com_false hat h1));clear hat h1;go_wp2
    go_ret;exact ⟨by rw [HR1.out];rfl,HB.out⟩
   ·have hk1:(k'==1)=false:=by simp [h1]
    have HC:=hid (show UM.com (es.take (k+1))=true by rw [com_take hat,hc.out];simp [h1]);clear hat h1;go_wp2
    go_roundw
    case rel=>exact ⟨k+1,by omega,by go_num,HC,by first | rfl | trivial⟩
    case measure=>simp [intOf];omega
  ·have hq:¬ ((k:Int)<(es.length:Int)):=by omega
   have HR1:=hid (show R=true by rw [HR.out];have:=hc.out;rwa [List.take_of_length_le (by omega)] at this);go_wp2
   go_ret;exact ⟨by rw [HR1.out];rfl,HB.out⟩
theorem rClient (c:Int) (w:World):Calls Tryz.prog 67 #[.int .i64 c] w fun e w'=>e = .returned (.bool (UM.isCl c))/\w'=w:=by
 obtain ⟨R,hR⟩:∃ R,R=UM.isCl c:=⟨_,rfl⟩
 rw [<- hR];unfold UM.isCl at hR;have HR:=hid hR;clear hR;go_enter Tryz.func67,Tryz.ntmps67
 go_wp2
 all_goals
  go_ret;refine ⟨ret_bool ?_,rfl⟩;rw [HR.out];rw [Bool.eq_iff_iff];simp
  try omega
theorem rCmpU (c q t:Int) (u:Value) (d r y:Int) (v:Value) (w:World) (hu:∃ a l k,u = .slice a l k) (hv:∃ a l k,v = .slice a l k) :
  Calls Tryz.prog 75 #[uv c q t u,uv d r y v] w fun e w'=>e = .returned (.int .i64 (UM.cmpU c q d r))/\Below w.heap.size w w':=by
 obtain ⟨a1,l1,k1,rfl⟩:=hu;obtain ⟨a2,l2,k2,rfl⟩:=hv;obtain ⟨R,hR⟩:∃ R,R=UM.cmpU c q d r:=⟨_,rfl⟩
 rw [<- hR];unfold UM.cmpU at hR;have HR:=hid hR;clear hR;have hx:=heap_alloc_new w (.cells #[.int .i64 c,.int .i64 q,.int .i64 t,.slice a1 l1 k1] 96);have hb:=below_fresh w (.cells #[.int .i64 c,.int .i64 q,.int .i64 t,.slice a1 l1 k1] 96);have hy:=heap_alloc_new (w.alloc (.cells #[.int .i64 c,.int .i64 q,.int .i64 t,.slice a1 l1 k1] 96)) (.cells #[.int .i64 d,.int .i64 r,.int .i64 y,.slice a2 l2 k2] 96);have hb2:=below_fresh (w.alloc (.cells #[.int .i64 c,.int .i64 q,.int .i64 t,.slice a1 l1 k1] 96)) (.cells #[.int .i64 d,.int .i64 r,.int .i64 y,.slice a2 l2 k2] 96);rw [World.size_alloc] at hy;obtain ⟨w1,hw1⟩:∃ z,(w.alloc (.cells #[.int .i64 c,.int .i64 q,.int .i64 t,.slice a1 l1 k1] 96)).alloc (.cells #[.int .i64 d,.int .i64 r,.int .i64 y,.slice a2 l2 k2] 96)=z:=⟨_,rfl⟩
 rw [hw1] at hy hb2;have HW:=hid hw1;have HB:=hid (bnext hb hb2);obtain ⟨c0,c1,c2,c3⟩:=ubox (below_block hx hb2);obtain ⟨d0,d1,d2,d3⟩:=ubox hy;clear hw1 hb hb2 hx hy;go_enter Tryz.func75,Tryz.ntmps75
 go_upto_region 1 with fail
 rw [HW.out];clear HW;go_wp2
 all_goals
  go_ret;refine ⟨ret_int ?_,HB.out⟩;have hr:=HR.out;rw [hr];clear c0 c1 c2 c3 d0 d1 d2 d3 HR HB;(try simp only [beq_iff_eq,beq_eq_false_iff_ne,ne_eq] at *);(repeat' split) <;> first | rfl | omega
theorem rValU (c q t:Int) (v:Value) (es:List Ef) (w:World) (h:RdEf w v es) :
  Calls Tryz.prog 74 #[uv c q t v] w fun e w'=>e = .returned (.int .i64 (UM.errU c q t es))/\Below w.heap.size w w':=by
 obtain ⟨ad,cp,rfl,hcp,_⟩:=h.shape;obtain ⟨R,hR⟩:∃ R,R=UM.errU c q t es:=⟨_,rfl⟩
 rw [<- hR];unfold UM.errU at hR;have HX:=hid h;have HCL:=hid (fun wx=>rClient c wx);have HCO:=hid (fun wx (hb:Below w.heap.size w wx)=>rCom c q t _ es wx (h.below hb));obtain ⟨C,hC⟩:∃ C,C=UM.isCl c:=⟨_,rfl⟩
 rw [<- hC] at hR HCL;obtain ⟨M,hM⟩:∃ M,M=UM.com es:=⟨_,rfl⟩
 rw [<- hM] at hR HCO;have hx:=heap_alloc_new w (.cells #[.int .i64 c,.int .i64 q,.int .i64 t,.slice ad es.length cp] 96);have hb:=below_fresh w (.cells #[.int .i64 c,.int .i64 q,.int .i64 t,.slice ad es.length cp] 96);obtain ⟨w1,hw1⟩:∃ z,w.alloc (.cells #[.int .i64 c,.int .i64 q,.int .i64 t,.slice ad es.length cp] 96)=z:=⟨_,rfl⟩
 rw [hw1] at hx hb;have HW:=hid hw1;have HB:=hid hb;have HU:=hid hx;have hlen:es.length<=9223372036854775807:=by omega
 clear hw1 hb hx hC hM h;go_enter Tryz.func74,Tryz.ntmps74
 go_upto_region 1 with fail
 rw [HW.out];clear HW;obtain ⟨c0,c1,c2,c3⟩:=ubox HU.out;by_cases hr:C=false∨q<1∨8<q∨t<0∨1000<t
 ·have HR1:=hid (hR.trans (if_pos hr));clear hR HCO HX HU;cases C with
  | false=>
   clear hr;go_wp2_with fail
   refine (HCL.out w1).mono ?_;rintro e w2 ⟨rfl,rfl⟩;go_wp2
   go_ret;exact ⟨by rw [HR1.out];rfl,HB.out⟩
  | true=>
   have hr2:q<1∨8<q∨t<0∨1000<t:=by
    rcases hr with h | h
    ·cases h
    ·exact h
   clear hr;go_wp2_with fail
   refine (HCL.out w1).mono ?_;rintro e w2 ⟨rfl,rfl⟩;clear HCL;by_cases g1:q<1
   ·go_wp2
    go_ret;exact ⟨by rw [HR1.out];rfl,HB.out⟩
   by_cases g2:8<q
   ·go_wp2
    go_ret;exact ⟨by rw [HR1.out];rfl,HB.out⟩
   by_cases g3:t<0
   ·go_wp2
    go_ret;exact ⟨by rw [HR1.out];rfl,HB.out⟩
   have g4:1000<t:=by omega
   go_wp2
   go_ret;exact ⟨by rw [HR1.out];rfl,HB.out⟩
 rw [if_neg hr] at hR;have hCt:C=true:=by cases C with | true=>rfl | false=>exact absurd (Or.inl rfl) hr
 subst hCt;have g1:¬ q<1:=fun h=>hr (by simp [h])
 have g2:¬ 8<q:=fun h=>hr (by simp [h])
 have g3:¬ t<0:=fun h=>hr (by simp [h])
 have g4:¬ 1000<t:=fun h=>hr (by simp [h])
 clear hr;have HR:=hid hR;clear hR;go_wp2_with fail
 refine (HCL.out w1).mono ?_;rintro e w2 ⟨rfl,rfl⟩;clear HCL;have HB0:=HB;by_cases h0:es = []
 ·have HR1:=hid (HR.out.trans (if_pos h0));have hz:((es.length:Int)==0)=true:=by rw [h0];rfl
  clear HR HX HU HCO h0;go_wp2
  go_ret;exact ⟨by rw [HR1.out];rfl,HB.out⟩
 have hR:=HR.out;rw [if_neg h0] at hR;have hz:((es.length:Int)==0)=false:=beq_f (by have:=List.length_pos_iff.2 h0;omega);clear HR;by_cases h4:4<es.length
 ·have HR1:=hid (hR.trans (if_pos h4));have h4':(4:Int)<(es.length:Int):=by omega
  clear hR HX HU HCO h0 h4;go_wp2
  go_ret;exact ⟨by rw [HR1.out];rfl,HB.out⟩
 rw [if_neg h4] at hR;have h4':¬ (4:Int)<(es.length:Int):=by omega
 have HR:=hid hR;clear hR h0;go_wp2
 clear hz h4' c0 c1 c2 c3 g1 g2 g3 g4;go_loopw [3] (fun i wr=>∃ k:Nat,k<=es.length/\i = .int .i64 k/\Hid (UM.errL es=UM.errL (es.drop k))/\Hid (Below w2.heap.size w2 wr)) (fun i _=>es.length - (intOf i).toNat)
 case atStart=>exact ⟨0,Nat.zero_le _,rfl,hid rfl,hid (Below.refl _ _)⟩
 case round=>
  obtain ⟨k,hk,rfl,hc,hbw⟩:=hrel;obtain ⟨c0,c1,c2,c3⟩:=ubox (below_block HU.out hbw.out);have HBW:=hid (bnext HB.out hbw.out);by_cases hlt:k<es.length
  ·have hq:(k:Int)<(es.length:Int):=by omega
   have hat:=List.getElem?_eq_getElem hlt;have hdx:=drop_get hlt;generalize es[k]=e at hat hdx;have HDX:=hid (show UM.errL es=if UM.errE e≠0 then UM.errE e else UM.errL (es.drop (k+1)) by rw [hc.out,hdx];rfl);obtain ⟨k',o',f',n',s'⟩:=e;obtain ⟨b,p,hi,hbb,d0,d1,d2,d3,d4⟩:=atEf (HX.out.below HBW.out) k _ _ _ _ _ hat
   have HV:=hid (rValEff k' o' f' n' s' wr);generalize UM.errE (k',o',f',n',s')=ec at HV HDX;clear hat hdx hc;by_cases hec0:ec=0
   ·subst hec0;have HD2:=hid (HDX.out.trans (if_neg (fun h=>h rfl)));clear HDX;go_wp2_with fail
    refine HV.out.mono ?_;rintro e w3 ⟨rfl,hb1⟩;have HB1:=hid (bnext hbw.out hb1);clear hb1 HV d0 d1 d2 d3 d4 hi hbb hbw c0 c1 c2 c3;go_wp2
    go_roundw
    case rel=>exact ⟨k+1,by omega,by go_num,HD2,HB1⟩
    case measure=>simp [intOf];omega
   ·have HD2:=hid (HDX.out.trans (if_pos hec0));have HR1:=hid (show R=ec by rw [HR.out,if_pos (by rw [HD2.out];exact hec0),HD2.out]);have hne:(ec != 0)=true:=bne_t hec0;clear HDX HD2 hec0 HR HCO;go_wp2_with fail
    refine HV.out.mono ?_;rintro e w3 ⟨rfl,hb1⟩;have HB1:=hid (bnext HBW.out hb1);clear hb1 HV d0 d1 d2 d3 d4 hi hbb hbw c0 c1 c2 c3 HBW;go_wp2
    go_ret;exact ⟨by rw [HR1.out];rfl,HB1.out⟩
  have hq:¬ ((k:Int)<(es.length:Int)):=by omega
  have hR:=HR.out;rw [if_neg (by rw [hc.out,List.drop_of_length_le (by omega)];simp [UM.errL])] at hR;have HC1:=hid (HCO.out wr HBW.out);have HC2:=hid (fun wx (hb:Below wr.heap.size wr wx)=>HCO.out wx (bnext HBW.out hb));have HUW:=hid (fun wx (hb:Below wr.heap.size wr wx)=>ubox (below_block (below_block HU.out hbw.out) hb));clear HR HCO HU HX hc hbw;obtain ⟨c0,c1,c2,c3⟩:=HUW.out wr (Below.refl _ _);cases M with
  | false=>
   by_cases h1:1<es.length
   ·have HR1:=hid (hR.trans (if_pos (Or.inl ⟨rfl,h1⟩)));have h1':(1:Int)<(es.length:Int):=by omega
    clear hR HC2 HUW h1;go_wp2_with fail
    refine HC1.out.mono ?_;rintro e w3 ⟨rfl,hb1⟩;have HB1:=hid (bnext HBW.out hb1);have d3:=below_cell hb1 c3;clear hb1 c0 c1 c2 c3;go_wp2
    go_ret;exact ⟨by rw [HR1.out];rfl,HB1.out⟩
   ·have HR1:=hid (hR.trans (if_neg (by rintro (⟨_,h⟩ | ⟨h,_⟩);exact h1 h;cases h)));have h1':¬ (1:Int)<(es.length:Int):=by omega
    clear hR h1;go_wp2_with fail
    refine HC1.out.mono ?_;rintro e w3 ⟨rfl,hb1⟩;have HB1:=hid (bnext HBW.out hb1);have HC3:=hid (HC2.out w3 hb1);obtain ⟨d0,d1,d2,d3⟩:=HUW.out w3 hb1;clear hb1 c0 c1 c2 c3 HC1 HC2 HUW;go_wp2_with fail
    refine HC3.out.mono ?_;rintro e w4 ⟨rfl,hb2⟩;have HB2:=hid (bnext HB1.out hb2);clear hb2 d0 d1 d2 d3 HC3;go_wp2
    go_ret;exact ⟨by rw [HR1.out];rfl,HB2.out⟩
  | true=>
   by_cases h1:t=0
   ·have HR1:=hid (hR.trans (if_neg (by rintro (⟨h,_⟩ | ⟨_,h⟩);cases h;exact h h1)));have h1':(t != 0)=false:=by simp [h1]
    clear hR h1;go_wp2_with fail
    refine HC1.out.mono ?_;rintro e w3 ⟨rfl,hb1⟩;have HB1:=hid (bnext HBW.out hb1);have HC3:=hid (HC2.out w3 hb1);have HUW2:=hid (fun wx (hb:Below w3.heap.size w3 wx)=>HUW.out wx (bnext hb1 hb));obtain ⟨d0,d1,d2,d3⟩:=HUW.out w3 hb1;clear hb1 c0 c1 c2 c3 HC1 HC2 HUW;go_wp2_with fail
    refine HC3.out.mono ?_;rintro e w4 ⟨rfl,hb2⟩;have HB2:=hid (bnext HB1.out hb2);obtain ⟨e0,e1,e2,e3⟩:=HUW2.out w4 hb2;clear hb2 d0 d1 d2 d3 HC3 HUW2;go_wp2
    go_ret;exact ⟨by rw [HR1.out];rfl,HB2.out⟩
   ·have HR1:=hid (hR.trans (if_pos (Or.inr ⟨rfl,h1⟩)));have h1':(t != 0)=true:=bne_t h1;clear hR h1;go_wp2_with fail
    refine HC1.out.mono ?_;rintro e w3 ⟨rfl,hb1⟩;have HB1:=hid (bnext HBW.out hb1);have HC3:=hid (HC2.out w3 hb1);have HUW2:=hid (fun wx (hb:Below w3.heap.size w3 wx)=>HUW.out wx (bnext hb1 hb));obtain ⟨d0,d1,d2,d3⟩:=HUW.out w3 hb1;clear hb1 c0 c1 c2 c3 HC1 HC2 HUW;go_wp2_with fail
    refine HC3.out.mono ?_;rintro e w4 ⟨rfl,hb2⟩;have HB2:=hid (bnext HB1.out hb2);obtain ⟨e0,e1,e2,e3⟩:=HUW2.out w4 hb2;clear hb2 d0 d1 d2 d3 HC3 HUW2;go_wp2
    go_ret;exact ⟨by rw [HR1.out];rfl,HB2.out⟩
end
section
open Go.RowKit
open UM (Ef)
open WM (enc dec zig zag Bytes)
namespace UM
def z0:Ef:=(0,⟨#[]⟩,⟨#[]⟩,0,⟨#[]⟩)
def decE5 (k:Int) (o f:ByteArray) (n:Int) (xs:List Int) (u:Nat):Ef×Nat×Int:=
 if (decS (xs.drop u)).2.2≠0 then (z0,0,(decS (xs.drop u)).2.2) else ((k,o,f,n,strOfNums (decS (xs.drop u)).1),u+(decS (xs.drop u)).2.1.toNat,0)
def decE4 (k:Int) (o f:ByteArray) (xs:List Int) (u:Nat):Ef×Nat×Int:=
 if (dec 0 0 (xs.drop u)).2.2≠0 then (z0,0,(dec 0 0 (xs.drop u)).2.2) else decE5 k o f (zag (dec 0 0 (xs.drop u)).1) xs (u+(dec 0 0 (xs.drop u)).2.1.toNat)
def decE3 (k:Int) (o:ByteArray) (xs:List Int) (u:Nat):Ef×Nat×Int:=
 if (decS (xs.drop u)).2.2≠0 then (z0,0,(decS (xs.drop u)).2.2) else decE4 k o (strOfNums (decS (xs.drop u)).1) xs (u+(decS (xs.drop u)).2.1.toNat)
def decE2 (k:Int) (xs:List Int) (u:Nat):Ef×Nat×Int:=
 if (decS (xs.drop u)).2.2≠0 then (z0,0,(decS (xs.drop u)).2.2) else decE3 k (strOfNums (decS (xs.drop u)).1) xs (u+(decS (xs.drop u)).2.1.toNat)
def decE (xs:List Int):Ef×Nat×Int:=
 if (JM.num xs).2.2≠0 then (z0,0,(JM.num xs).2.2) else decE2 (JM.num xs).1 xs (JM.num xs).2.1.toNat
end UM
theorem decS_two {xs:List Int} (hb:Bytes xs):(∃ e:Int,(e=1∨e=2∨e=9)/\decS xs=([],0,e)) ∨ ∃ (l:List Int) (n:Nat),decS xs=(l,(n:Int),0)/\n<=xs.length:=by
 rcases WM.dec_two xs hb with ⟨e,he,hd⟩ | ⟨m,hm,hd,hml,_⟩
 ·exact .inl ⟨e,he,decS_err hd (by omega)⟩
 ·by_cases hl:(xs.length:Int) - (enc m).length<m
  ·exact .inl ⟨1,.inl rfl,decS_short hd hl⟩
  ·exact .inr ⟨_,_,decS_ok hd hl,by omega⟩
abbrev efv (e:Ef):Value:=ev e.1 e.2.1 e.2.2.1 e.2.2.2.1 e.2.2.2.2
def OE (w:World) (B:Nat) (a b c d e:Value):Prop:=w.heap[B]? = some (.cells #[a,b,c,d,e] 138 (0,0))
theorem OE.cells {w:World} {B:Nat} {a b c d e:Value} (h:OE w B a b c d e):w.cell? ⟨B,0,none⟩=some a/\w.cell? ⟨B,1,none⟩=some b/\w.cell? ⟨B,2,none⟩=some c/\w.cell? ⟨B,3,none⟩=some d/\w.cell? ⟨B,4,none⟩=some e /\
  w.frozen? ⟨B,0,none⟩=false/\w.frozen? ⟨B,1,none⟩=false/\w.frozen? ⟨B,2,none⟩=false/\w.frozen? ⟨B,3,none⟩=false/\w.frozen? ⟨B,4,none⟩=false:=by
 unfold OE at h;refine ⟨?_,?_,?_,?_,?_,?_,?_,?_,?_,?_⟩ <;> simp [World.cell?,World.frozen?,h]
theorem OE.fresh (w:World) (a b c d e:Value):OE (w.alloc (.cells #[a,b,c,d,e] 138)) w.heap.size a b c d e:=heap_alloc_new w _
theorem OE.put5 {w:World} {B:Nat} {a b c d e:Value} (h:OE w B a b c d e) (a' b' c' d' e':Value) :
  OE (((((w.setCell ⟨B,0,none⟩ a').setCell ⟨B,1,none⟩ b').setCell ⟨B,2,none⟩ c').setCell ⟨B,3,none⟩ d').setCell ⟨B,4,none⟩ e') B a' b' c' d' e':=by
 have h1:(w.setCell ⟨B,0,none⟩ a').heap[B]? = some (.cells #[a',b,c,d,e] 138 (0,0)):=heap_setCell_same w B 0 _ _ _ h;have h2:((w.setCell ⟨B,0,none⟩ a').setCell ⟨B,1,none⟩ b').heap[B]? = some (.cells #[a',b',c,d,e] 138 (0,0)):=heap_setCell_same _ B 1 _ _ _ h1;have h3:(((w.setCell ⟨B,0,none⟩ a').setCell ⟨B,1,none⟩ b').setCell ⟨B,2,none⟩ c').heap[B]? = some (.cells #[a',b',c',d,e] 138 (0,0)):=heap_setCell_same _ B 2 _ _ _ h2;have h4:((((w.setCell ⟨B,0,none⟩ a').setCell ⟨B,1,none⟩ b').setCell ⟨B,2,none⟩ c').setCell ⟨B,3,none⟩ d').heap[B]? = some (.cells #[a',b',c',d',e] 138 (0,0)):=heap_setCell_same _ B 3 _ _ _ h3;exact heap_setCell_same _ B 4 _ _ _ h4
theorem only5 {w:World} {B:Nat} (a b c d e:Value):Only B w (((((w.setCell ⟨B,0,none⟩ a).setCell ⟨B,1,none⟩ b).setCell ⟨B,2,none⟩ c).setCell ⟨B,3,none⟩ d).setCell ⟨B,4,none⟩ e):=
 ((((Only.set 0 a).trans (Only.set 1 b)).trans (Only.set 2 c)).trans (Only.set 3 d)).trans (Only.set 4 e)
theorem reff_ret {R:Ending->World->Prop} {a:Act} {w:World} {g:Nat} {x0 x1 x2 x3 x4:Value} {u er:Int} (hp:a.tmps.getD 2 undef = .pointer (some ⟨g,0,none⟩)) (h3:a.tmps.getD 3 undef = .int .i64 u) (h4:a.tmps.getD 4 undef = .int .i64 er) (hg:OE w g x0 x1 x2 x3 x4)
  (hd:a.defers = []) (hR:R (.returned (.tuple #[.agg #[x0,x1,x2,x3,x4],.int .i64 u,.int .i64 er])) w):bodyPost Tryz.prog Tryz.f154 R .ret a w:=by
 have:=results_cell_tmp_tmp (P:=Tryz.prog) (fn:=Tryz.f154) rfl a.tmps w g 138 _ _ _ hp hg Tryz.underlying138 rfl (by kernel_rfl);rw [h3,h4] at this;exact bodyPost_ret this hd hR
theorem Rd.cutS {w:World} {a:Option Addr} {m c:Nat} {xs:List Int} (h:Rd w (.slice a m c) xs) (u n:Nat) (h2:u+n<=xs.length) :
  ∃ v',(∀ w0:World,(Instr.slice 39 (.slice a m c) (some (.int .i64 ((u:Int)+(n:Int)))) none none).run Tryz.prog w0 = .ok v' w0)/\Rd w v' (xs.drop (u+n)):=by
 obtain ⟨a',c',hv,_⟩:=h.shape;cases hv
 obtain ⟨v',h3,h4⟩:=h.cutL (u+n) h2;exact ⟨v',fun w0=>by rw [show (u:Int)+(n:Int)=((u+n:Nat):Int) from by omega];exact h3 w0,h4⟩
theorem Rd.cutZ {w:World} {a:Option Addr} {m c:Nat} {xs:List Int} (h:Rd w (.slice a m c) xs) (u:Nat) (h2:u<=xs.length) :
  ∃ v',(∀ w0:World,(Instr.slice 39 (.slice a m c) (some (.int .i64 (u:Int))) none none).run Tryz.prog w0 = .ok v' w0)/\Rd w v' (xs.drop u):=by
 obtain ⟨a',c',hv,_⟩:=h.shape;cases hv
 exact h.cutL u h2
theorem Rd.len64 {w:World} {v:Value} {xs:List Int} (h:Rd w v xs):xs.length<=9223372036854775807:=by
 obtain ⟨_,_,_,_,hn1,hn2,hcm,_⟩:=h;unfold maxLen at hcm;omega
theorem rEffect (v:Value) (xs:List Int) (w:World) (h:Rd w v xs) :
  Calls Tryz.prog 154 #[v] w fun e w'=>e = .returned (.tuple #[efv (UM.decE xs).1,.int .i64 ((UM.decE xs).2.1:Int),.int .i64 (UM.decE xs).2.2])/\Below w.heap.size w w':=by
 obtain ⟨R,hR⟩:∃ R,R=UM.decE xs:=⟨_,rfl⟩
 rw [<- hR];have hby:=h.bytes;have hb:=below_fresh w (.cells #[.int .i64 0,.string ⟨#[]⟩,.string ⟨#[]⟩,.int .i64 0,.string ⟨#[]⟩] 138);have ho:=OE.fresh w (.int .i64 0) (.string ⟨#[]⟩) (.string ⟨#[]⟩) (.int .i64 0) (.string ⟨#[]⟩);obtain ⟨w0,hw0⟩:∃ z,w.alloc (.cells #[.int .i64 0,.string ⟨#[]⟩,.string ⟨#[]⟩,.int .i64 0,.string ⟨#[]⟩] 138)=z:=⟨_,rfl⟩
 rw [hw0] at hb ho;have hv:=h.below hb;have hxl:=h.len64;have HC1:=hid (rNumber v xs w0 hv);obtain ⟨av,nv,cv',rfl⟩:∃ a n c,v = .slice a n c:=by obtain ⟨a,c,hv,_⟩:=h.shape;exact ⟨_,_,_,hv⟩
 have HW:=hid hw0;have HB:=hid hb;have HO:=hid ho;have HV:=hid hv;have HXL:=hid hxl;obtain ⟨o0,o1,o2,o3,o4,z0,z1,z2,z3,z4⟩:=ho.cells;clear h hb hw0 ho hv hxl;unfold UM.decE at hR;go_enter Tryz.func154,Tryz.ntmps154
 go_wp2_with fail
 rw [HW.out];refine HC1.out.mono ?_;rintro e w1 ⟨rfl,rfl⟩;clear HC1 HW;rcases JM.num_two xs hby with ⟨e1,he1,hd⟩ | ⟨m,hm,hd,hml⟩
 ·rw [hd] at hR ⊢;replace hR:R=(UM.z0,0,e1):=by rw [hR,if_pos (show ¬ e1=0 by omega)]
  have HFIN:=hid hR;have hne:(e1 != 0)=true:=bne_t (by omega);clear hR hd he1 hby;go_wp2
  refine reff_ret rfl rfl rfl (HO.out.put5 _ _ _ _ _) rfl ⟨?_,?_⟩
  ·rw [HFIN.out];rfl
  ·exact seen HB.out (Nat.le_refl _) (only5 _ _ _ _ _)
 rw [hd] at hR ⊢;replace hR:R=UM.decE2 (m:Int) xs (enc m).length:=by rw [hR,if_neg (by simp)];rfl
 clear hd hm;obtain ⟨k,hk⟩:∃ k:Int,k=m:=⟨_,rfl⟩
 obtain ⟨u1,hu1⟩:∃ u,u=(enc m).length:=⟨_,rfl⟩
 rw [<- hk,<- hu1] at hR;rw [<- hu1] at hml;simp only [<- hk,<- hu1];clear hk hu1;obtain ⟨v1,hs1,hr1⟩:=HV.out.cutZ u1 hml;have HC2:=hid (rString v1 _ w0 hr1);unfold UM.decE2 at hR;have hb1:=hr1.bytes;clear hr1;go_wp2_with fail
 refine HC2.out.mono ?_;rintro e w1 ⟨rfl,rfl⟩;clear HC2 hs1;rcases decS_two hb1 with ⟨e1,he1,hd⟩ | ⟨l2,n2,hd,hl2⟩
 ·rw [hd] at hR ⊢;replace hR:R=(UM.z0,0,e1):=by rw [hR,if_pos (show ¬ e1=0 by omega)]
  have HFIN:=hid hR;have hne:(e1 != 0)=true:=bne_t (by omega);clear hR hd he1 hby;go_wp2
  refine reff_ret rfl rfl rfl (HO.out.put5 _ _ _ _ _) rfl ⟨?_,?_⟩
  ·rw [HFIN.out];rfl
  ·exact seen HB.out (Nat.le_refl _) (only5 _ _ _ _ _)
 rw [hd] at hR ⊢;replace hR:R=UM.decE3 k (strOfNums l2) xs (u1+n2):=by rw [hR,if_neg (by simp)];rfl
 rw [List.length_drop] at hl2;have hs2:u1+n2<=xs.length:=by omega
 generalize strOfNums l2=so at hR ⊢;clear hd hl2 hml hb1;obtain ⟨v1,hs1,hr1⟩:=HV.out.cutS u1 n2 hs2;have HC2:=hid (rString v1 _ w0 hr1);unfold UM.decE3 at hR;have hb1:=hr1.bytes;have hw1:(u1:Int)+(n2:Int)<=9223372036854775807:=by have:=HXL.out;omega
 clear hr1;go_wp2_with fail
 refine HC2.out.mono ?_;rintro e w1 ⟨rfl,rfl⟩;clear HC2 hs1;rcases decS_two hb1 with ⟨e1,he1,hd⟩ | ⟨l3,n3,hd,hl3⟩
 ·rw [hd] at hR ⊢;replace hR:R=(UM.z0,0,e1):=by rw [hR,if_pos (show ¬ e1=0 by omega)]
  have HFIN:=hid hR;have hne:(e1 != 0)=true:=bne_t (by omega);clear hR hd he1 hby;go_wp2
  refine reff_ret rfl rfl rfl (HO.out.put5 _ _ _ _ _) rfl ⟨?_,?_⟩
  ·rw [HFIN.out];rfl
  ·exact seen HB.out (Nat.le_refl _) (only5 _ _ _ _ _)
 rw [hd] at hR ⊢;replace hR:R=UM.decE4 k so (strOfNums l3) xs (u1+n2+n3):=by rw [hR,if_neg (by simp)];rfl
 rw [List.length_drop] at hl3;have hs3:u1+n2+n3<=xs.length:=by omega
 generalize strOfNums l3=sf at hR ⊢;obtain ⟨u2,hu2⟩:∃ u,u=u1+n2:=⟨_,rfl⟩
 have hc2:(u1:Int)+(n2:Int)=(u2:Int):=by omega
 rw [<- hu2] at hR hs3;simp only [hc2];clear hd hl3 hs2 hb1 hu2 hc2 hw1;obtain ⟨v1,hs1,hr1⟩:=HV.out.cutS u2 n3 hs3;have HC2:=hid (rInt v1 _ w0 hr1);unfold UM.decE4 at hR;have hb1:=hr1.bytes;have hw1:(u2:Int)+(n3:Int)<=9223372036854775807:=by have:=HXL.out;omega
 clear hr1;go_wp2_with fail
 refine HC2.out.mono ?_;rintro e w1 ⟨rfl,rfl⟩;clear HC2 hs1;rcases WM.dec_two _ hb1 with ⟨e1,he1,hd⟩ | ⟨m4,hm4,hd,hl4,_⟩
 ·rw [hd] at hR ⊢;replace hR:R=(UM.z0,0,e1):=by rw [hR,if_pos (show ¬ e1=0 by omega)]
  have HFIN:=hid hR;have hne:(e1 != 0)=true:=bne_t (by omega);clear hR hd he1 hby;go_wp2
  refine reff_ret rfl rfl rfl (HO.out.put5 _ _ _ _ _) rfl ⟨?_,?_⟩
  ·rw [HFIN.out];rfl
  ·exact seen HB.out (Nat.le_refl _) (only5 _ _ _ _ _)
 rw [hd] at hR ⊢;replace hR:R=UM.decE5 k so sf (zag (m4:Int)) xs (u2+n3+(enc m4).length):=by rw [hR,if_neg (by simp)];rfl
 rw [List.length_drop] at hl4;have hs4:u2+n3+(enc m4).length<=xs.length:=by omega
 generalize zag (m4:Int)=vn at hR ⊢;obtain ⟨u3,hu3⟩:∃ u,u=u2+n3:=⟨_,rfl⟩
 have hc2:(u2:Int)+(n3:Int)=(u3:Int):=by omega
 rw [<- hu3] at hR hs4;simp only [hc2];clear hd hl4 hs3 hb1 hu3 hc2 hw1 hm4;generalize (enc m4).length=n4 at hR hs4 ⊢;obtain ⟨v1,hs1,hr1⟩:=HV.out.cutS u3 n4 hs4;have HC2:=hid (rString v1 _ w0 hr1);unfold UM.decE5 at hR;have hb1:=hr1.bytes;have hw1:(u3:Int)+(n4:Int)<=9223372036854775807:=by have:=HXL.out;omega
 clear hr1;go_wp2_with fail
 refine HC2.out.mono ?_;rintro e w1 ⟨rfl,rfl⟩;clear HC2 hs1;rcases decS_two hb1 with ⟨e1,he1,hd⟩ | ⟨l5,n5,hd,hl5⟩
 ·rw [hd] at hR ⊢;replace hR:R=(UM.z0,0,e1):=by rw [hR,if_pos (show ¬ e1=0 by omega)]
  have HFIN:=hid hR;have hne:(e1 != 0)=true:=bne_t (by omega);clear hR hd he1 hby;go_wp2
  refine reff_ret rfl rfl rfl (HO.out.put5 _ _ _ _ _) rfl ⟨?_,?_⟩
  ·rw [HFIN.out];rfl
  ·exact seen HB.out (Nat.le_refl _) (only5 _ _ _ _ _)
 rw [hd] at hR ⊢;replace hR:R=((k,so,sf,vn,strOfNums l5),u3+n4+n5,0):=by rw [hR,if_neg (by simp)];rfl
 rw [List.length_drop] at hl5;generalize strOfNums l5=ss at hR ⊢;have hw2:(u3:Int)+(n4:Int)+(n5:Int)<=9223372036854775807:=by have:=HXL.out;omega
 have HFIN:=hid hR;clear hd hl5 hs4 hb1 hR hby;go_wp2
 refine reff_ret rfl rfl rfl (HO.out.put5 _ _ _ _ _) rfl ⟨?_,?_⟩
 ·rw [HFIN.out];rfl
 ·exact seen HB.out (Nat.le_refl _) (only5 _ _ _ _ _)
end
end Go.Proofs.YtahcehbgfhdbjaaGreatDoor

