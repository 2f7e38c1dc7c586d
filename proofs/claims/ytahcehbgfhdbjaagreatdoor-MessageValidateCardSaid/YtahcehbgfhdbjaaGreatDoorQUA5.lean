/-
  UMath2 SMath NMath SMath2 SMath3 NDec NEnc UKit: joined texts, what nothing names left out.
-/
import Derived.Test.YtahcehbgfhdbjaaGreatDoorQUA4
import Derived.Test.YtahcehbgfhdbjaaGreatDoorQUA1
namespace Go.Proofs.YtahcehbgfhdbjaaGreatDoor
open Go.RowKit
open WM (enc dec zig zag Bytes)
theorem dec_cut0 (n j:Nat) (h:n<18446744073709551616) (hj:j<(enc n).length):dec 0 0 ((enc n).take j)=(0,0,1):=JM.dec_cut n 0 0 j (by decide) (by simpa using h) hj
namespace UM
theorem decS_rt (s:ByteArray) (xs:List Int) (hs:s.size<18446744073709551616):decS (encS s++xs)=(nums s,((encS s).length:Int),0):=by
 have hd:=WM.dec_enc0 s.size (nums s++xs) hs;rw [<- List.append_assoc] at hd;have hnl:=nums_length s;show decS (enc s.size++nums s++xs)=_
 rw [decS_ok hd (by simp only [List.length_append];omega)];unfold encS;rw [List.append_assoc,List.drop_left,List.take_append_of_le_length (by omega),List.take_of_length_le (by omega),List.length_append,hnl]
theorem decS_cut (s:ByteArray) (j:Nat) (hs:s.size<18446744073709551616) (hj:j<(encS s).length):decS ((encS s).take j)=([],0,1):=by
 unfold encS at hj ⊢;rw [List.length_append,nums_length] at hj;by_cases h:j<(enc s.size).length
 ·rw [List.take_append_of_le_length (by omega)];exact decS_err (dec_cut0 s.size j hs h) (by decide)
 ·have ht:(enc s.size++nums s).take j=enc s.size++(nums s).take (j - (enc s.size).length):=by
   rw [List.take_append,List.take_of_length_le (by omega)]
  rw [ht];have hd:=WM.dec_enc0 s.size ((nums s).take (j - (enc s.size).length)) hs;refine decS_short hd ?_;rw [List.length_append,List.length_take,nums_length];omega
theorem decE5_enc (k:Int) (o f:ByteArray) (n:Int) (s:ByteArray) (pre tail:List Int) (hs:s.size<18446744073709551616) :
  decE5 k o f n (pre++(encS s++tail)) pre.length=((k,o,f,n,s),(pre++encS s).length,0):=by
 unfold decE5;rw [List.drop_left,decS_rt s tail hs,if_neg (by simp),strOfNums_nums,List.length_append];rfl
theorem decE5_cut (k:Int) (o f:ByteArray) (n:Int) (s:ByteArray) (pre:List Int) (j:Nat) (hs:s.size<18446744073709551616) (hj:j<(encS s).length) :
  decE5 k o f n (pre++(encS s).take j) pre.length=(z0,0,1):=by
 unfold decE5;rw [List.drop_left,decS_cut s j hs hj,if_pos (by decide)]
theorem decE4_enc (k:Int) (o f:ByteArray) (n:Int) (s:ByteArray) (pre tail:List Int) (hs:s.size<18446744073709551616) (h1 : -9223372036854775808<=n) (h2:n<=9223372036854775807) :
  decE4 k o f (pre++(enc (zig n)++(encS s++tail))) pre.length=((k,o,f,n,s),(pre++(enc (zig n)++encS s)).length,0):=by
 unfold decE4;rw [List.drop_left,WM.dec_enc0 _ _ (WM.zig_lt n h1 h2),if_neg (by simp),WM.zag_zig];have:=decE5_enc k o f n s (pre++enc (zig n)) tail hs;rw [List.append_assoc,List.length_append,List.append_assoc] at this;exact this
theorem decE4_cut (k:Int) (o f:ByteArray) (n:Int) (s:ByteArray) (pre:List Int) (j:Nat) (hs:s.size<18446744073709551616) (h1 : -9223372036854775808<=n) (h2:n<=9223372036854775807) (hj:j<(enc (zig n)++encS s).length) :
  decE4 k o f (pre++(enc (zig n)++encS s).take j) pre.length=(z0,0,1):=by
 unfold decE4;rw [List.length_append] at hj;rw [List.drop_left];by_cases h:j<(enc (zig n)).length
 ·rw [List.take_append_of_le_length (by omega),dec_cut0 _ _ (WM.zig_lt n h1 h2) h,if_pos (by decide)]
 ·rw [List.take_append,List.take_of_length_le (l:=enc (zig n)) (by omega),WM.dec_enc0 _ _ (WM.zig_lt n h1 h2),if_neg (by simp)];have:=decE5_cut k o f (zag (zig n:Int)) s (pre++enc (zig n)) (j - (enc (zig n)).length) hs (by omega);rw [List.append_assoc,List.length_append] at this;exact this
theorem decE3_enc (k:Int) (o f:ByteArray) (n:Int) (s:ByteArray) (pre tail:List Int) (hf:f.size<18446744073709551616) (hs:s.size<18446744073709551616) (h1 : -9223372036854775808<=n) (h2:n<=9223372036854775807) :
  decE3 k o (pre++(encS f++(enc (zig n)++(encS s++tail)))) pre.length=((k,o,f,n,s),(pre++(encS f++(enc (zig n)++encS s))).length,0):=by
 unfold decE3;rw [List.drop_left,decS_rt f _ hf,if_neg (by simp),strOfNums_nums];have:=decE4_enc k o f n s (pre++encS f) tail hs h1 h2;rw [List.append_assoc,List.length_append,List.append_assoc] at this;exact this
theorem decE3_cut (k:Int) (o f:ByteArray) (n:Int) (s:ByteArray) (pre:List Int) (j:Nat) (hf:f.size<18446744073709551616) (hs:s.size<18446744073709551616) (h1 : -9223372036854775808<=n) (h2:n<=9223372036854775807) (hj:j<(encS f++(enc (zig n)++encS s)).length) :
  decE3 k o (pre++(encS f++(enc (zig n)++encS s)).take j) pre.length=(z0,0,1):=by
 unfold decE3;rw [List.length_append] at hj;rw [List.drop_left];by_cases h:j<(encS f).length
 ·rw [List.take_append_of_le_length (by omega),decS_cut f j hf h,if_pos (by decide)]
 ·rw [List.take_append,List.take_of_length_le (l:=encS f) (by omega),decS_rt f _ hf,if_neg (by simp)];have:=decE4_cut k o (strOfNums (nums f)) n s (pre++encS f) (j - (encS f).length) hs h1 h2 (by omega);rw [List.append_assoc,List.length_append] at this;exact this
theorem decE2_enc (k:Int) (o f:ByteArray) (n:Int) (s:ByteArray) (pre tail:List Int) (ho:o.size<18446744073709551616) (hf:f.size<18446744073709551616) (hs:s.size<18446744073709551616) (h1 : -9223372036854775808<=n) (h2:n<=9223372036854775807) :
  decE2 k (pre++(encS o++(encS f++(enc (zig n)++(encS s++tail))))) pre.length=((k,o,f,n,s),(pre++(encS o++(encS f++(enc (zig n)++encS s)))).length,0):=by
 unfold decE2;rw [List.drop_left,decS_rt o _ ho,if_neg (by simp),strOfNums_nums];have:=decE3_enc k o f n s (pre++encS o) tail hf hs h1 h2;rw [List.append_assoc,List.length_append,List.append_assoc] at this;exact this
theorem decE2_cut (k:Int) (o f:ByteArray) (n:Int) (s:ByteArray) (pre:List Int) (j:Nat) (ho:o.size<18446744073709551616) (hf:f.size<18446744073709551616) (hs:s.size<18446744073709551616) (h1 : -9223372036854775808<=n) (h2:n<=9223372036854775807) (hj:j<(encS o++(encS f++(enc (zig n)++encS s))).length) :
  decE2 k (pre++(encS o++(encS f++(enc (zig n)++encS s))).take j) pre.length=(z0,0,1):=by
 unfold decE2;rw [List.length_append] at hj;rw [List.drop_left];by_cases h:j<(encS o).length
 ·rw [List.take_append_of_le_length (by omega),decS_cut o j ho h,if_pos (by decide)]
 ·rw [List.take_append,List.take_of_length_le (l:=encS o) (by omega),decS_rt o _ ho,if_neg (by simp)];have:=decE3_cut k (strOfNums (nums o)) f n s (pre++encS o) (j - (encS o).length) hf hs h1 h2 (by omega);rw [List.append_assoc,List.length_append] at this;exact this
theorem encE_flat (k:Int) (o f:ByteArray) (n:Int) (s:ByteArray):encE (k,o,f,n,s)=enc k.toNat++(encS o++(encS f++(enc (zig n)++encS s))):=by
 show JM.encN [k]++(encS o++encS f)++(enc (zig n)++encS s)=_
 rw [JM.encN_cons];simp only [JM.encN,List.flatMap_nil,List.append_nil,List.append_assoc]
theorem decE_enc {x:Ef} (h:errE x=0) (hr:in64 x) (tail:List Int):decE (encE x++tail)=(x,(encE x).length,0):=by
 obtain ⟨k,o,f,n,s⟩:=x;obtain ⟨g1,g2,g3,g4,g5⟩:=errE_ok h;obtain ⟨m,rfl⟩:∃ m:Nat,k=(m:Int):=⟨k.toNat,by omega⟩
 rw [encE_flat,Int.toNat_natCast];unfold decE;rw [List.append_assoc,JM.num_enc m _ (by omega),if_neg (by simp)];have:=decE2_enc (m:Int) o f n s (enc m) tail (by omega) (by omega) (by omega) hr.1 hr.2;simp only [List.append_assoc] at this ⊢;exact this
theorem decE_cut {x:Ef} (h:errE x=0) (hr:in64 x) (j:Nat) (hj:j<(encE x).length):decE ((encE x).take j)=(z0,0,1):=by
 obtain ⟨k,o,f,n,s⟩:=x;obtain ⟨g1,g2,g3,g4,g5⟩:=errE_ok h;obtain ⟨m,rfl⟩:∃ m:Nat,k=(m:Int):=⟨k.toNat,by omega⟩
 rw [encE_flat,Int.toNat_natCast] at hj ⊢;unfold decE;rw [List.length_append] at hj;by_cases h:j<(enc m).length
 ·rw [List.take_append_of_le_length (by omega),JM.num_cut m j (by omega) h,if_pos (by decide)]
 ·rw [List.take_append,List.take_of_length_le (l:=enc m) (by omega),JM.num_enc m _ (by omega),if_neg (by simp)];exact decE2_cut (m:Int) o f n s (enc m) (j - (enc m).length) (by omega) (by omega) (by omega) hr.1 hr.2 (by omega)
theorem encEs_cons (x:Ef) (r:List Ef):encEs (x :: r)=encE x++encEs r:=List.flatMap_cons
theorem encEs_append (l m:List Ef):encEs (l++m)=encEs l++encEs m:=List.flatMap_append
theorem chE_enc {es:List Ef} (h:∀ e∈es,errE e=0) (hr:∀ e∈es,in64 e) (pre tail:List Int):∀ k,k<=es.length->chE (pre++(encEs es++tail)) pre.length k=(es.take k,(pre++encEs (es.take k)).length,0):=by
 intro k;induction k with
 | zero=>intro _;simp [chE,encEs]
 | succ k ih=>
  intro hk;have hx:=List.getElem?_eq_getElem (show k<es.length by omega);have hm:=List.getElem_mem (show k<es.length by omega);generalize es[k]=x at hx hm;have hsp:es=es.take k++(x :: es.drop (k+1)):=by
   have h1:=List.take_append_drop k es;rw [List.drop_eq_getElem_cons (show k<es.length by omega)] at h1;rw [List.getElem?_eq_getElem (by omega)] at hx;injection hx with hx
   rw [hx] at h1;exact h1.symm
  have hd:(pre++(encEs es++tail)).drop (pre++encEs (es.take k)).length=encE x++(encEs (es.drop (k+1))++tail):=by
   have h2:pre++(encEs es++tail)=(pre++encEs (es.take k))++(encE x++(encEs (es.drop (k+1))++tail)):=by
    conv=>lhs;rw [hsp]
    rw [encEs_append,encEs_cons];simp only [List.append_assoc]
   rw [h2,List.drop_left]
  rw [chE,ih (by omega),if_neg (by simp)];dsimp only;rw [hd,decE_enc (h x hm) (hr x hm),if_neg (by simp),encEs_snoc hx];have ht:es.take (k+1)=es.take k ++ [x]:=by
   rw [<- List.take_append_getElem (show k<es.length by omega)];rw [List.getElem?_eq_getElem (by omega)] at hx;injection hx with hx
   rw [hx]
  rw [ht];simp only [List.length_append,Nat.add_assoc]
theorem cut_at:∀ (es:List Ef) (j:Nat),j<(encEs es).length -> ∃ (k:Nat) (x:Ef) (i:Nat),es[k]? = some x/\i<(encE x).length/\(encEs es).take j=encEs (es.take k)++(encE x).take i
 | [],j,h=>by simp [encEs] at h
 | x :: r,j,h=>by
  rw [encEs_cons,List.length_append] at h;rw [encEs_cons];by_cases hj:j<(encE x).length
  ·exact ⟨0,x,j,rfl,hj,by rw [List.take_append_of_le_length (by omega)];rfl⟩
  ·obtain ⟨k,y,i,h1,h2,h3⟩:=cut_at r (j - (encE x).length) (by omega);refine ⟨k+1,y,i,h1,h2,?_⟩;rw [List.take_append,List.take_of_length_le (l:=encE x) (by omega),h3,List.take_succ_cons,encEs_cons,List.append_assoc]
theorem chE_cut {es:List Ef} (h:∀ e∈es,errE e=0) (hr:∀ e∈es,in64 e) (pre:List Int) (j:Nat) (hj:j<(encEs es).length):(chE (pre++(encEs es).take j) pre.length es.length).2.2=1:=by
 obtain ⟨k,x,i,h1,h2,h3⟩:=cut_at es j hj;have hk:k<es.length:=(List.getElem?_eq_some_iff.1 h1).1;have hm:x∈es:=List.mem_of_getElem? h1;rw [h3];have e1:=chE_enc (es:=es.take k) (fun e he=>h e (List.mem_of_mem_take he)) (fun e he=>hr e (List.mem_of_mem_take he)) pre ((encE x).take i) k (by rw [List.length_take];omega);rw [List.take_take,Nat.min_self] at e1;have e2:chE (pre++(encEs (es.take k)++(encE x).take i)) pre.length (k+1)=(es.take k,(pre++encEs (es.take k)).length,1):=by
  rw [chE,e1,if_neg (by simp)];dsimp only;rw [<- List.append_assoc,List.drop_left,decE_cut (h x hm) (hr x hm) i h2,if_pos (by decide)]
 rw [chE_err_le (show k+1<=es.length by omega) (by rw [e2];simp),e2]
theorem hsmall {c q t:Int} {es:List Ef} (h:errU c q t es=0):∀ x ∈ [c,q,t,(es.length:Int)],JM.small x:=by
 obtain ⟨e1,e2,e3,e4,e5,e6,e7,e8⟩:=errU_ok h;have e1':=isCl_ok e1;intro x hx;simp only [List.mem_cons,List.not_mem_nil,or_false] at hx;unfold JM.small;rcases hx with rfl | rfl | rfl | rfl <;> omega
theorem decU_enc {c q t:Int} {es:List Ef} (h:errU c q t es=0) (hr:∀ e∈es,in64 e) (tail:List Int):decU (encU c q t es++tail)=(0,(encU c q t es).length,(c,q,t),es):=by
 obtain ⟨e1,e2,e3,e4,e5,e6,e7,e8⟩:=errU_ok h;have hm:=JM.many_enc [c,q,t,(es.length:Int)] [] (encEs es++tail) (hsmall h);rw [List.nil_append,List.nil_append] at hm;simp only [List.length_cons,List.length_nil,Nat.zero_add,Nat.reduceAdd] at hm;have hc:=chE_enc e8 hr (JM.encN [c,q,t,(es.length:Int)]) tail es.length (Nat.le_refl _);rw [List.take_length] at hc;unfold decU encU;rw [List.append_assoc,hm];rw [if_neg (by simp),if_neg (by show ¬ 4<(es.length:Int);omega)];show finU c q t (chE _ _ (es.length:Int).toNat)=_
 rw [Int.toNat_natCast,hc];unfold finU;rw [if_neg (by simp),if_neg (by simp [h])]
theorem decU_cut {c q t:Int} {es:List Ef} (h:errU c q t es=0) (hr:∀ e∈es,in64 e) (j:Nat) (hj:j<(encU c q t es).length):decU ((encU c q t es).take j)=badU 1:=by
 obtain ⟨e1,e2,e3,e4,e5,e6,e7,e8⟩:=errU_ok h;unfold encU at hj ⊢;rw [List.length_append] at hj;by_cases hl:j<(JM.encN [c,q,t,(es.length:Int)]).length
 ·have hm:=JM.many_cut [c,q,t,(es.length:Int)] [] j (hsmall h) hl;rw [List.nil_append] at hm;simp only [List.length_cons,List.length_nil,Nat.zero_add,Nat.reduceAdd] at hm;unfold decU;rw [List.take_append_of_le_length (by omega),hm,if_pos (by decide)]
 ·have hm:=JM.many_enc [c,q,t,(es.length:Int)] [] ((encEs es).take (j - (JM.encN [c,q,t,(es.length:Int)]).length)) (hsmall h);rw [List.nil_append,List.nil_append] at hm;simp only [List.length_cons,List.length_nil,Nat.zero_add,Nat.reduceAdd] at hm;have hc:=chE_cut e8 hr (JM.encN [c,q,t,(es.length:Int)]) (j - (JM.encN [c,q,t,(es.length:Int)]).length) (by omega);unfold decU;rw [List.take_append,List.take_of_length_le (l:=JM.encN [c,q,t,(es.length:Int)]) (by omega),hm];rw [if_neg (by simp),if_neg (by show ¬ 4<(es.length:Int);omega)];show finU c q t (chE _ _ (es.length:Int).toNat)=_
  rw [Int.toNat_natCast];unfold finU;rw [hc,if_pos (by decide)]
theorem encU_len {c q t:Int} {es:List Ef} (h:errU c q t es=0) (hr:∀ e∈es,in64 e):(encU c q t es).length<=840:=by
 obtain ⟨e1,e2,e3,e4,e5,e6,e7,e8⟩:=errU_ok h;have h1:=JM.encN_len _ (hsmall h);have h2:=encEs_len es e8 hr;simp only [List.length_cons,List.length_nil] at h1;unfold encU;rw [List.length_append];omega
theorem decU_used {xs:List Int} (hb:Bytes xs):(decU xs).2.1<=xs.length:=by
 unfold decU;split
 ·exact Nat.zero_le _
 split
 ·exact Nat.zero_le _
 unfold finU;split
 ·exact Nat.zero_le _
 split
 ·exact Nat.zero_le _
 exact chE_used hb (JM.many_small xs (0,0) hb (Nat.zero_le _) 4).2 _
end UM
end Go.Proofs.YtahcehbgfhdbjaaGreatDoor
namespace Go.Proofs.YtahcehbgfhdbjaaGreatDoor.SM
open UM (Ef)
abbrev Fp:=Int×Int×Int×List Ef
instance decEf:DecidableEq Ef:=inferInstanceAs (DecidableEq (Int×ByteArray×ByteArray×Int×ByteArray))
instance decEs:DecidableEq (List Ef):=inferInstance
instance decRs:DecidableEq (Int×List Ef):=inferInstance
instance decQr:DecidableEq (Int×Int×List Ef):=inferInstance
instance decFp:DecidableEq Fp:=inferInstanceAs (DecidableEq (Int×(Int×Int×List Ef)))
instance memFp (f:Fp) (a:List Fp):Decidable (f∈a):=@List.instDecidableMemOfLawfulBEq Fp instBEqOfDecidableEq inferInstance f a
theorem cmpU_neg (c q d r:Int):UM.cmpU d r c q = -UM.cmpU c q d r:=by unfold UM.cmpU;(repeat' split) <;> omega
def errF (f:Fp):Int:=UM.errU f.1 f.2.1 f.2.2.1 f.2.2.2
def errL:Int×Int->List Fp->Int
 | _,[]=>0
 | pr,f :: r=>
  if errF f≠0 then errF f
  else if UM.cmpU f.1 f.2.1 pr.1 pr.2<=0 then 7
  else if 1<f.2.1/\¬ (pr.1=f.1/\pr.2=f.2.1 - 1) then 8
  else errL (f.1,f.2.1) r
def Ok (fs:List Fp):Prop:=errL (0,0) fs=0
theorem errF_num {f:Fp} (h:errF f=0):101<=f.1/\f.1<=106/\1<=f.2.1/\f.2.1<=8:=by
 obtain ⟨h1,h2,h3,_⟩:=UM.errU_ok h;have:=UM.isCl_ok h1;omega
theorem errL_cons {pr:Int×Int} {f:Fp} {r:List Fp} (h:errL pr (f :: r)=0) :
  errF f=0/\0<UM.cmpU f.1 f.2.1 pr.1 pr.2/\(1<f.2.1->pr.1=f.1/\pr.2=f.2.1 - 1)/\errL (f.1,f.2.1) r=0:=by
 unfold errL at h;split at h
 ·rename_i h1;exact absurd h h1
 ·rename_i h1
  split at h
  ·cases h
  ·rename_i h2
   split at h
   ·cases h
   ·rename_i h3
    refine ⟨by omega,by omega,fun h4=>?_,h⟩;by_cases h5:pr.1=f.1/\pr.2=f.2.1 - 1
    ·exact h5
    ·exact absurd ⟨h4,h5⟩ h3
theorem cmpP_pos {a m b n:Int}:0<UM.cmpU a m b n ↔ b<a∨(a=b/\n<m):=by
 unfold UM.cmpU;(repeat' split) <;> omega
theorem next_of {pr:Int×Int} {f:Fp} {r:List Fp} (h:errL pr (f :: r)=0) (h0:0<=pr.2):(f.1=pr.1/\f.2.1=pr.2+1)∨(pr.1<f.1/\f.2.1=1):=by
 obtain ⟨h1,h2,h3,_⟩:=errL_cons h;have:=errF_num h1;rw [cmpP_pos] at h2;by_cases h4:1<f.2.1
 ·have:=h3 h4;omega
 ·omega
def lt (x y:Fp):Prop:=x.1<y.1∨(x.1=y.1/\x.2.1<y.2.1)
def Srt (fs:List Fp):Prop:=fs.Pairwise lt
theorem errL_all {fs:List Fp}:∀ {pr:Int×Int},errL pr fs=0 -> ∀ x∈fs,errF x=0:=by
 induction fs with
 | nil=>intro pr _ x hx;cases hx
 | cons f r ih=>
  intro pr h x hx;obtain ⟨h1,_,_,h4⟩:=errL_cons h;rcases List.mem_cons.1 hx with rfl | hx
  ·exact h1
  ·exact ih h4 x hx
theorem Ok.all {fs:List Fp} (h:Ok fs):∀ x∈fs,errF x=0:=errL_all h
def ct (fs:List Fp) (a:Int):Int:=((fs.filter fun f=>decide (f.1=a)).length:Int)
def hasK (fs:List Fp) (a n:Int):Bool:=fs.any fun f=>decide (f.1=a) && decide (f.2.1=n)
theorem ct_nil (a:Int):ct [] a=0:=rfl
theorem ct_cons (f:Fp) (r:List Fp) (a:Int):ct (f :: r) a=(if f.1=a then 1 else 0)+ct r a:=by
 unfold ct;by_cases h:f.1=a
 ·rw [List.filter_cons_of_pos (by simpa using h),if_pos h,List.length_cons];omega
 ·rw [List.filter_cons_of_neg (by simpa using h),if_neg h];omega
theorem ct_pos (fs:List Fp) (a:Int):0<=ct fs a:=by unfold ct;omega
theorem hasK_iff {fs:List Fp} {a n:Int}:hasK fs a n=true ↔ ∃ f∈fs,f.1=a/\f.2.1=n:=by
 unfold hasK;simp [List.any_eq_true]
theorem ct_low {fs:List Fp}:∀ {pr:Int×Int} {a:Int},errL pr fs=0->a<pr.1->ct fs a=0:=by
 induction fs with
 | nil=>intro pr a _ _;rfl
 | cons f r ih=>
  intro pr a h ha;obtain ⟨h1,h2,h3,h4⟩:=errL_cons h;rw [cmpP_pos] at h2;rw [ct_cons,if_neg (by omega),ih h4 (by simp only;omega)];rfl
theorem has_ct {fs:List Fp}:∀ {pr:Int×Int} (a n:Int),errL pr fs=0->0<=pr.2 ->
  (hasK fs a n=true ↔ (pr.1<=a/\(if a=pr.1 then pr.2 else 0)<n/\n<=(if a=pr.1 then pr.2 else 0)+ct fs a)):=by
 induction fs with
 | nil=>
  intro pr a n _ _;rw [ct_nil];constructor
  ·intro h;cases h
  ·rintro ⟨_,h1,h2⟩;omega
 | cons f r ih=>
  intro pr a n h h0;have hn:=next_of h h0;obtain ⟨h1,h2,h3,h4⟩:=errL_cons h;have hf:=errF_num h1;have ih:=ih (pr:=(f.1,f.2.1)) a n h4 (by simp only;omega);simp only at ih;have e:hasK (f :: r) a n=((decide (f.1=a) && decide (f.2.1=n)) || hasK r a n):=rfl;rw [e,ct_cons,Bool.or_eq_true,ih,Bool.and_eq_true,decide_eq_true_iff,decide_eq_true_iff];by_cases hA:f.1=a
  ·subst hA;simp only [if_true,true_and];have hp:=ct_pos r f.1;split <;> omega
  ·have hz:a<f.1->ct r a=0:=fun hl=>ct_low h4 hl
   have hp:=ct_pos r a;rw [if_neg (fun e=>hA e.symm),if_neg hA];constructor
   ·rintro (h5 | h5)
    ·exact absurd h5.1 hA
    ·rw [if_neg (by omega)];omega
   ·intro h5;refine .inr ?_;by_cases hl:a<f.1
    ·rw [hz hl] at h5;omega
    ·rw [if_neg (by omega)] at h5;omega
theorem Ok.has {fs:List Fp} (h:Ok fs) (a n:Int) (hn:1<=n):hasK fs a n=true ↔ n<=ct fs a:=by
 have:=has_ct (pr:=(0,0)) a n h (Int.le_refl _);simp only at this;rw [this];constructor
 ·rintro ⟨_,_,h2⟩;split at h2 <;> omega
 ·intro h2;by_cases ha:a<0
  ·have:=ct_low (pr:=(0,0)) h ha;omega
  ·refine ⟨by omega,?_,?_⟩ <;> split <;> omega
theorem Ok.ct8 {fs:List Fp} (h:Ok fs) (a:Int):ct fs a<=8:=by
 by_cases h0:ct fs a<1
 ·omega
 ·obtain ⟨f,hf,h1,h2⟩:=hasK_iff.1 ((h.has a (ct fs a) (by omega)).2 (Int.le_refl _));have:=errF_num (h.all f hf);omega
theorem ct_sum {fs:List Fp} (h:∀ x∈fs,errF x=0):(fs.length:Int)=ct fs 101+ct fs 102+ct fs 103+ct fs 104+ct fs 105+ct fs 106:=by
 induction fs with
 | nil=>rfl
 | cons f r ih=>
  have h1:=errF_num (h f (by simp));have h2:=ih (fun x hx=>h x (by simp [hx]));simp only [ct_cons];rw [List.length_cons];have:f.1=101∨f.1=102∨f.1=103∨f.1=104∨f.1=105∨f.1=106:=by omega
  rcases this with e | e | e | e | e | e <;> simp [e] <;> omega
theorem Ok.all48 {fs:List Fp} (h:Ok fs):fs.length<=48:=by
 have:=ct_sum h.all;have h1:=h.ct8 101;have h2:=h.ct8 102;have h3:=h.ct8 103;have h4:=h.ct8 104;have h5:=h.ct8 105;have h6:=h.ct8 106;omega
def rs (p:List Fp) (g:Int->Int):List Fp:=p.filter fun f=>decide (f.2.1<=g f.1)
def un:List Fp->List Fp->List Fp
 | a,[]=>a
 | [],y :: b=>y :: b
 | x :: a,y :: b=>if UM.cmpU x.1 x.2.1 y.1 y.2.1<0 then x :: un a (y :: b) else if UM.cmpU x.1 x.2.1 y.1 y.2.1=0 then x :: un a b else y :: un (x :: a) b
termination_by a b=>a.length+b.length
def cons (a b:List Fp):Bool:=b.all fun f=>decide (f∈a)
def conk (a b:List Fp):Bool:=b.all fun f=>hasK a f.1 f.2.1
def Agr (a b:List Fp):Prop:=∀ x∈a,∀ y∈b,x.1=y.1->x.2.1=y.2.1->x=y
def meet (a b:List Fp):List Fp:=rs a (ct b)
def meetK (a b:List Fp):List Fp:=a.filter fun f=>hasK b f.1 f.2.1
theorem cons_iff {a b:List Fp}:cons a b=true ↔ ∀ f∈b,f∈a:=by unfold cons;simp
end Go.Proofs.YtahcehbgfhdbjaaGreatDoor.SM
namespace Go.Proofs.YtahcehbgfhdbjaaGreatDoor.NM
open VM (Ent)
structure Ms where
 k:Int:=0
 fr:Int:=0
 tx:Int:=0
 p:Int:=0
 n:Int:=0
 r:Int:=0
 d:Int:=0
 cf:List CM.Fp:=[]
 ct:List CM.Fp:=[]
 bf:List CM.Fp:=[]
 bt:List CM.Fp:=[]
 hb:Bool:=false
 ef:List CM.Fp:=[]
 et:List CM.Fp:=[]
 cg:List CM.Fp:=[]
 st:List SM.Fp:=[]
 hv:List Ent:=[]
 mo:Bool:=false
def uA (k:Int):Bool:=decide (k=1∨k=2)
def uM (k:Int):Bool:=decide (k=1)
def uS (k:Int):Bool:=decide (k=1∨k=2∨k=5)
def uB (k:Int):Bool:=decide (k=2∨k=5)
def uC (k:Int):Bool:=decide (¬ (k=1∨k=2))
def uH (k:Int):Bool:=decide (k=4)
def uO (k:Int):Bool:=decide (k=5)
def emp (f t:List CM.Fp):Bool:=decide (f.length=0) && decide (t.length=0)
def bad (m:Ms):Bool:=
 (!uA m.k && !decide (m.p=0/\m.n=0)) || ((!uA m.k && decide (m.r≠0)) || ((!uM m.k && decide (m.d≠0)) ||
 ((!uA m.k && decide (0<m.cg.length)) || ((!uS m.k && decide (0<m.st.length)) || ((!uH m.k && decide (0<m.hv.length)) || ((!uO m.k && m.mo) ||
 ((!uB m.k && (m.hb || (!emp m.bf m.bt || !emp m.ef m.et))) || (!uC m.k && !emp m.cf m.ct))))))))
def proc (x:Int):Bool:=JM.isSrv x || (UM.isCl x || JM.isAdm x)
def chR:Int×Int->List SM.Fp->Int
 | _,[]=>0
 | pr,f :: l=>if SM.errF f≠0 then SM.errF f else if 0<=UM.cmpU pr.1 pr.2 f.1 f.2.1 then 7 else chR (f.1,f.2.1) l
def chk (l:List SM.Fp):Int:=if 4<l.length then 3 else chR (0,0) l
def errB (m:Ms):Int:=if (!m.hb && !emp m.bf m.bt)=true then 2 else if CM.errC m.bf m.bt≠0 then CM.errC m.bf m.bt else CM.errC m.ef m.et
def errX (m:Ms):Int:=
 if (UM.isCl m.p=false/\JM.isAdm m.p=false)∨m.n<1∨1000000<m.n then 9
 else if m.r<1∨1000000<m.r then 9
 else if m.k=1/\(m.d<1∨3<m.d) then 10
 else if CM.errL (0,0) m.cg≠0 then CM.errL (0,0) m.cg
 else if SM.errL (0,0) m.st≠0 then SM.errL (0,0) m.st
 else if m.d=1/\0<m.st.length then 2
 else if m.k=2 then errB m else 0
def errM (m:Ms):Int:=
 if m.k<1∨8<m.k then 10
 else if proc m.fr=false∨proc m.tx=false then 9
 else if bad m=true then 2
 else if m.k=1∨m.k=2 then errX m
 else if CM.errC m.cf m.ct≠0 then CM.errC m.cf m.ct
 else if m.k=4 then VM.err 0 m.hv
 else if m.k=5/\chk m.st≠0 then chk m.st
 else if m.k=5 then errB m
 else 0
def scal (m m':Ms):Bool:=decide (m.k=m'.k/\m.fr=m'.fr/\m.tx=m'.tx/\(m.p=m'.p/\m.n=m'.n)/\m.r=m'.r/\m.d=m'.d/\m.hb=m'.hb/\m.mo=m'.mo)
def eqm (m m':Ms):Bool:=
 scal m m' && ((decide (m.cf=m'.cf) && decide (m.ct=m'.ct)) && ((decide (m.bf=m'.bf) && decide (m.bt=m'.bt)) && ((decide (m.ef=m'.ef) && decide (m.et=m'.et)) &&
 (decide (m.cg=m'.cg) && (decide (m.st=m'.st) && decide (m.hv=m'.hv))))))
theorem eqm_self (m:Ms):eqm m m=true:=by unfold eqm scal;simp
end Go.Proofs.YtahcehbgfhdbjaaGreatDoor.NM
namespace Go.Proofs.YtahcehbgfhdbjaaGreatDoor.SM
open UM (Ef)
open VM (Ent)
def vr (fs:List Fp):List Ent:=fs.foldl (fun v f=>VM.wi v f.1 (VM.cnt v f.1+1)) []
def vput (v:List Ent) (f:Fp):List Ent:=if v.length≠0/\(v.getD (v.length - 1) (0,0)).1=f.1 then v.set (v.length - 1) (f.1,(v.getD (v.length - 1) (0,0)).2+1) else v ++ [(f.1,1)]
def vo (fs:List Fp):List Ent:=fs.foldl vput []
def mx (g k:Int->Int):Int->Int:=fun a=>max (g a) (k a)
def mn (g k:Int->Int):Int->Int:=fun a=>min (g a) (k a)
def agr1 (x:Fp) (b:List Fp):Bool:=b.all fun y=>!(decide (UM.cmpU x.1 x.2.1 y.1 y.2.1=0) && !UM.eqU x.1 x.2.1 x.2.2.1 x.2.2.2 y.1 y.2.1 y.2.2.1 y.2.2.2)
def agr (a b:List Fp):Bool:=a.all fun x=>agr1 x b
end Go.Proofs.YtahcehbgfhdbjaaGreatDoor.SM
namespace Go.Proofs.YtahcehbgfhdbjaaGreatDoor.SM
open UM (Ef)
open VM (Ent)
open WM (enc dec Bytes)
def Fit (fs:List Fp):Prop:=∀ f∈fs,∀ e∈f.2.2.2,UM.in64 e
def encF (f:Fp):List Int:=UM.encU f.1 f.2.1 f.2.2.1 f.2.2.2
def flat (fs:List Fp):List Int:=fs.flatMap encF
def encL (fs:List Fp):List Int:=enc fs.length++flat fs
theorem flat_cons (f:Fp) (r:List Fp):flat (f :: r)=encF f++flat r:=List.flatMap_cons
theorem flat_snoc (fs:List Fp) (f:Fp):flat (fs ++ [f])=flat fs++encF f:=by unfold flat;rw [List.flatMap_append];simp
theorem encF_len {f:Fp} (h:errF f=0) (hr:∀ e∈f.2.2.2,UM.in64 e):(encF f).length<=840:=UM.encU_len h hr
theorem flat_len {fs:List Fp} (h:∀ f∈fs,errF f=0) (hr:Fit fs):(flat fs).length<=fs.length*840:=by
 induction fs with
 | nil=>simp [flat]
 | cons f fs ih=>
  rw [flat_cons,List.length_append,List.length_cons];have:=encF_len (h f (by simp)) (hr f (by simp));have:=ih (fun g hg=>h g (by simp [hg])) (fun g hg=>hr g (by simp [hg]));omega
def rest (xs:List Int):Nat->List Fp->Nat->Int×Nat×List Fp
 | 0,U,u=>(0,u,U)
 | n+1,U,u=>if (UM.decU (xs.drop u)).1≠0 then ((UM.decU (xs.drop u)).1,0,[]) else rest xs n (U ++ [((UM.decU (xs.drop u)).2.2.1.1,(UM.decU (xs.drop u)).2.2.1.2.1,(UM.decU (xs.drop u)).2.2.1.2.2,(UM.decU (xs.drop u)).2.2.2)]) (u+(UM.decU (xs.drop u)).2.1)
def finL (r:Int×Nat×List Fp):Int×Nat×List Fp:=if r.1≠0 then (r.1,0,[]) else if errL (0,0) r.2.2≠0 then (errL (0,0) r.2.2,0,[]) else r
def decL (xs:List Int):Int×Nat×List Fp:=
 if (dec 0 0 xs).2.2≠0 then ((dec 0 0 xs).2.2,0,[]) else if 48<(dec 0 0 xs).1 then (3,0,[]) else finL (rest xs (dec 0 0 xs).1.toNat [] (dec 0 0 xs).2.1.toNat)
theorem rest_succ (xs:List Int) (n:Nat) (U:List Fp) (u:Nat):rest xs (n+1) U u=if (UM.decU (xs.drop u)).1≠0 then ((UM.decU (xs.drop u)).1,0,[]) else rest xs n (U ++ [((UM.decU (xs.drop u)).2.2.1.1,(UM.decU (xs.drop u)).2.2.1.2.1,(UM.decU (xs.drop u)).2.2.1.2.2,(UM.decU (xs.drop u)).2.2.2)]) (u+(UM.decU (xs.drop u)).2.1):=by
 rw [rest]
theorem rest_enc {fs:List Fp}:∀ (pre tail:List Int) (U:List Fp),(∀ f∈fs,errF f=0)->Fit fs->rest (pre++(flat fs++tail)) fs.length U pre.length=(0,(pre++flat fs).length,U++fs):=by
 induction fs with
 | nil=>intro pre tail U _ _;simp [rest,flat]
 | cons f r ih=>
  intro pre tail U h hr;have hd:(pre++(flat (f :: r)++tail)).drop pre.length=encF f++(flat r++tail):=by rw [List.drop_left,flat_cons,List.append_assoc]
  have h1:=UM.decU_enc (h f (by simp)) (hr f (by simp)) (flat r++tail);have h1':UM.decU ((pre++(flat (f :: r)++tail)).drop pre.length)=(0,(encF f).length,(f.1,f.2.1,f.2.2.1),f.2.2.2):=by rw [hd];exact h1
  rw [List.length_cons,rest_succ,h1',if_neg (by simp)];have h2:=ih (pre++encF f) tail (U ++ [f]) (fun g hg=>h g (by simp [hg])) (fun g hg=>hr g (by simp [hg]));rw [show pre++(flat (f :: r)++tail)=(pre++encF f)++(flat r++tail) by rw [flat_cons];simp [List.append_assoc]];rw [List.length_append] at h2;show rest _ r.length (U ++ [f]) (pre.length+(encF f).length)=_
  rw [h2,flat_cons];simp [List.append_assoc]
theorem decL_enc {fs:List Fp} (h:Ok fs) (hr:Fit fs) (tail:List Int):decL (encL fs++tail)=(0,(encL fs).length,fs):=by
 have h9:=h.all48;have hd:dec 0 0 (encL fs++tail)=((fs.length:Int),((enc fs.length).length:Int),0):=by
  unfold encL;rw [List.append_assoc];exact WM.dec_enc0 fs.length _ (by omega)
 unfold decL;rw [hd];rw [if_neg (by simp),if_neg (by simp;omega)];have hr:=rest_enc (enc fs.length) tail [] h.all hr;rw [show enc fs.length++(flat fs++tail)=encL fs++tail by unfold encL;rw [List.append_assoc]] at hr;simp only [Int.toNat_natCast];rw [hr];unfold finL;rw [if_neg (by simp)];simp only [List.nil_append];rw [if_neg (by simp;exact h)];rfl
theorem dec_num {xs:List Int} (hb:Bytes xs):(∃ e:Int,e≠0/\dec 0 0 xs=(0,0,e)) ∨ ∃ m:Nat,m<18446744073709551616/\dec 0 0 xs=((m:Int),((enc m).length:Int),0)/\(enc m).length<=xs.length:=by
 rcases WM.dec_two xs hb with ⟨e,he,h⟩ | ⟨m,hm,h,hl,_⟩
 ·exact .inl ⟨e,by omega,h⟩
 ·exact .inr ⟨m,hm,h,hl⟩
def addU (c:List Fp) (f:Fp):Int×List Fp:=
 if errF f≠0 then (errF f,[]) else if hasK c f.1 f.2.1=true then (5,[]) else if f.2.1≠ct c f.1+1 then (8,[]) else (0,un c [f])
def beyAll (s:List Fp) (g:Int->Int):List Fp:=s.filter fun f=>decide (g f.1<f.2.1)
def bey (s:List Fp) (g:Int->Int) (n:Int):List Fp×Bool:=((beyAll s g).take n.toNat,decide (n.toNat<(beyAll s g).length))
def mrg1 (p:List Fp×Int×Int) (f:Fp):List Fp×Int×Int:=
 if errF f≠0∨ct p.1 f.1+1<f.2.1 then (p.1,p.2.1,p.2.2+1) else if hasK p.1 f.1 f.2.1=true then p else (un p.1 [f],p.2.1+1,p.2.2)
def mrg (s:List Fp) (l:List Fp):List Fp×Int×Int:=l.foldl mrg1 (s,0,0)
end Go.Proofs.YtahcehbgfhdbjaaGreatDoor.SM
namespace Go.Proofs.YtahcehbgfhdbjaaGreatDoor
open WM (enc dec Bytes)
namespace CM
theorem rest_cut {fs:List Fp}:∀ (pre:List Int) (U:List Fp) (j:Nat),(∀ f∈fs,errF f=0)->j<(flat fs).length->(rest (pre++(flat fs).take j) fs.length U pre.length).1=1:=by
 induction fs with
 | nil=>intro pre U j _ hj;simp [flat] at hj
 | cons f r ih=>
  intro pre U j h hj;rw [List.length_cons,rest_succ,flat_cons];rw [flat_cons,List.length_append] at hj;by_cases h1:j<(encF f).length
  ·have hd:(pre++(encF f++flat r).take j).drop pre.length=(encF f).take j:=by rw [List.drop_left,List.take_append_of_le_length (by omega)]
   have h2:=JM.decP_cut (h f (by simp)) j h1;rw [hd];rw [show JM.decP ((encF f).take j)=JM.bad 1 from h2];rw [if_pos (by show (1:Int)≠0;decide)];rfl
  ·have ht:(encF f++flat r).take j=encF f++(flat r).take (j - (encF f).length):=by rw [List.take_append,List.take_of_length_le (by omega)]
   have hd:(pre++(encF f++flat r).take j).drop pre.length=encF f++(flat r).take (j - (encF f).length):=by rw [List.drop_left,ht]
   have h2:JM.decP (encF f++(flat r).take (j - (encF f).length))=(0,(encF f).length,f.1,f.2.1,f.2.2):=JM.decP_enc (h f (by simp)) _;rw [hd,h2,if_neg (by simp)];have h3:=ih (pre++encF f) (U ++ [f]) (j - (encF f).length) (fun g hg=>h g (by simp [hg])) (by omega);rw [ht];rw [List.append_assoc,List.length_append] at h3;exact h3
theorem decL_cut {fs:List Fp} (h:Ok fs) (j:Nat) (hj:j<(encL fs).length):(decL ((encL fs).take j)).1=1:=by
 have h9:=h.nine;unfold encL at hj ⊢;rw [List.length_append] at hj;by_cases h1:j<(enc fs.length).length
 ·have hd:dec 0 0 ((enc fs.length++flat fs).take j)=(0,0,1):=by rw [List.take_append_of_le_length (by omega)];exact JM.dec_cut fs.length 0 0 j (by decide) (by omega) h1
  unfold decL;rw [hd,if_pos (by decide)]
 ·have ht:(enc fs.length++flat fs).take j=enc fs.length++(flat fs).take (j - (enc fs.length).length):=by rw [List.take_append,List.take_of_length_le (by omega)]
  have hd:dec 0 0 (enc fs.length++(flat fs).take (j - (enc fs.length).length))=((fs.length:Int),((enc fs.length).length:Int),0):=WM.dec_enc0 fs.length _ (by omega);have h2:=rest_cut (enc fs.length) [] (j - (enc fs.length).length) h.all (by omega);unfold decL;rw [ht,hd,if_neg (by simp),if_neg (by simp;omega)];simp only [Int.toNat_natCast];unfold finL;rw [if_pos (by rw [h2];decide)];exact h2
theorem decC_cut {f t:List Fp} (h:errC f t=0) (j:Nat) (hj:j<(encC2 f t).length):(decC ((encC2 f t).take j)).1=1:=by
 obtain ⟨hf,ht,_⟩:=errC_ok h;unfold encC2 at hj ⊢;rw [List.length_append] at hj;by_cases h1:j<(encL f).length
 ·have h2:=decL_cut hf j h1;rw [List.take_append_of_le_length (by omega)];unfold decC;rw [if_pos (by rw [h2];decide)];exact h2
 ·have htk:(encL f++encL t).take j=encL f++(encL t).take (j - (encL f).length):=by rw [List.take_append,List.take_of_length_le (by omega)]
  have h2:=decL_enc hf ((encL t).take (j - (encL f).length));have h3:=decL_cut ht (j - (encL f).length) (by omega);rw [htk];unfold decC;simp only [h2,List.drop_left];rw [if_neg (by simp),if_pos (by rw [h3];decide)];exact h3
end CM
namespace SM
theorem rest_cut {fs:List Fp}:∀ (pre:List Int) (U:List Fp) (j:Nat),(∀ f∈fs,errF f=0)->Fit fs->j<(flat fs).length->(rest (pre++(flat fs).take j) fs.length U pre.length).1=1:=by
 induction fs with
 | nil=>intro pre U j _ _ hj;simp [flat] at hj
 | cons f r ih=>
  intro pre U j h hr hj;rw [List.length_cons,rest_succ,flat_cons];rw [flat_cons,List.length_append] at hj;by_cases h1:j<(encF f).length
  ·have hd:(pre++(encF f++flat r).take j).drop pre.length=(encF f).take j:=by rw [List.drop_left,List.take_append_of_le_length (by omega)]
   have h2:=UM.decU_cut (h f (by simp)) (hr f (by simp)) j h1;rw [hd];rw [show UM.decU ((encF f).take j)=UM.badU 1 from h2];rw [if_pos (by show (1:Int)≠0;decide)];rfl
  ·have ht:(encF f++flat r).take j=encF f++(flat r).take (j - (encF f).length):=by rw [List.take_append,List.take_of_length_le (by omega)]
   have hd:(pre++(encF f++flat r).take j).drop pre.length=encF f++(flat r).take (j - (encF f).length):=by rw [List.drop_left,ht]
   have h2:UM.decU (encF f++(flat r).take (j - (encF f).length))=(0,(encF f).length,(f.1,f.2.1,f.2.2.1),f.2.2.2):=UM.decU_enc (h f (by simp)) (hr f (by simp)) _;rw [hd,h2,if_neg (by simp)];have h3:=ih (pre++encF f) (U ++ [f]) (j - (encF f).length) (fun g hg=>h g (by simp [hg])) (fun g hg=>hr g (by simp [hg])) (by omega);rw [ht];rw [List.append_assoc,List.length_append] at h3;exact h3
end SM
namespace NM
def upd (xs:List Int):Int×Nat×List SM.Fp:=
 if (JM.num xs).2.2≠0 then ((JM.num xs).2.2,0,[]) else if 48<(JM.num xs).1 then (3,0,[]) else SM.rest xs (JM.num xs).1.toNat [] (JM.num xs).2.1.toNat
def Good {α:Type} (P:List Int->Int×Nat×α) (en:List Int) (a:α):Prop:=(∀ tail,P (en++tail)=(0,en.length,a)) /\ ∀ j,j<en.length->(P (en.take j)).1=1
def seq {α β:Type} (d:β) (P:List Int->Int×Nat×α) (Q:α->List Int->Int×Nat×β) (xs:List Int):Int×Nat×β:=
 if (P xs).1≠0 then ((P xs).1,0,d)
 else if (Q (P xs).2.2 (xs.drop (P xs).2.1)).1≠0 then ((Q (P xs).2.2 (xs.drop (P xs).2.1)).1,0,d)
 else (0,(P xs).2.1+(Q (P xs).2.2 (xs.drop (P xs).2.1)).2.1,(Q (P xs).2.2 (xs.drop (P xs).2.1)).2.2)
theorem Good.seq {α β:Type} {d:β} {P:List Int->Int×Nat×α} {Q:α->List Int->Int×Nat×β} {e1 e2:List Int} {a:α} {b:β} (h:Good P e1 a) (k:Good (Q a) e2 b):Good (NM.seq d P Q) (e1++e2) b:=by
 refine ⟨fun tail=>?_,fun j hj=>?_⟩
 ·have h1:=h.1 (e2++tail);have k1:=k.1 tail;unfold NM.seq;rw [List.append_assoc];simp only [h1,List.drop_left,k1];rw [if_neg (by simp),if_neg (by simp),List.length_append]
 ·rw [List.length_append] at hj;by_cases h1:j<e1.length
  ·have h2:=h.2 j h1;unfold NM.seq;rw [List.take_append_of_le_length (by omega),if_pos (by rw [h2];decide)];exact h2
  ·have ht:(e1++e2).take j=e1++e2.take (j - e1.length):=by rw [List.take_append,List.take_of_length_le (by omega)]
   have h2:=h.1 (e2.take (j - e1.length));have k2:=k.2 (j - e1.length) (by omega);unfold NM.seq;rw [ht];simp only [h2,List.drop_left];rw [if_neg (by simp),if_pos (by rw [k2];decide)];exact k2
theorem good_conf {f:List CM.Fp} (h:CM.Ok f):Good CM.decL (CM.encL f) f:=⟨CM.decL_enc h,CM.decL_cut h⟩
theorem good_cert {f t:List CM.Fp} (h:CM.errC f t=0):Good CM.decC (CM.encC2 f t) (f,t):=⟨CM.decC_enc h,CM.decC_cut h⟩
theorem good_upd {fs:List SM.Fp} (h:∀ f∈fs,SM.errF f=0) (hr:SM.Fit fs) (hl:fs.length<=48):Good upd (SM.encL fs) fs:=by
 refine ⟨fun tail=>?_,fun j hj=>?_⟩
 ·unfold SM.encL upd;have hn:JM.num (enc fs.length++SM.flat fs++tail)=((fs.length:Int),((enc fs.length).length:Int),0):=by rw [List.append_assoc];exact JM.num_enc fs.length _ (by omega)
  rw [hn,if_neg (by simp),if_neg (by simp;omega)];simp only [Int.toNat_natCast];have:=SM.rest_enc (enc fs.length) tail [] h hr;rw [<- List.append_assoc] at this;rw [this,List.nil_append]
 ·unfold SM.encL at hj ⊢;rw [List.length_append] at hj;by_cases h1:j<(enc fs.length).length
  ·have hn:JM.num ((enc fs.length++SM.flat fs).take j)=(0,0,1):=by rw [List.take_append_of_le_length (by omega)];exact JM.num_cut fs.length j (by omega) h1
   unfold upd;rw [hn,if_pos (by decide)]
  ·have ht:(enc fs.length++SM.flat fs).take j=enc fs.length++(SM.flat fs).take (j - (enc fs.length).length):=by rw [List.take_append,List.take_of_length_le (by omega)]
   have hn:JM.num (enc fs.length++(SM.flat fs).take (j - (enc fs.length).length))=((fs.length:Int),((enc fs.length).length:Int),0):=JM.num_enc fs.length _ (by omega);have h2:=SM.rest_cut (enc fs.length) [] (j - (enc fs.length).length) h hr (by omega);unfold upd;rw [ht,hn,if_neg (by simp),if_neg (by simp;omega)];simp only [Int.toNat_natCast];exact h2
def nums (n:Nat) (xs:List Int):Int×Nat×List Int:=if (JM.many xs (0,0) n).2.2≠0 then ((JM.many xs (0,0) n).2.2,0,[]) else (0,(JM.many xs (0,0) n).2.1,(JM.many xs (0,0) n).1)
theorem good_nums {l:List Int} (h:∀ x∈l,JM.small x):Good (nums l.length) (JM.encN l) l:=by
 refine ⟨fun tail=>?_,fun j hj=>?_⟩
 ·have:=JM.many_enc l [] tail h;simp only [List.nil_append,List.length_nil] at this;unfold nums;rw [this,if_neg (by simp)]
 ·have:=JM.many_cut l [] j h hj;simp only [List.nil_append,List.length_nil] at this;unfold nums;rw [if_pos (by rw [this];decide)];exact this
end NM
end Go.Proofs.YtahcehbgfhdbjaaGreatDoor
namespace Go.Proofs.YtahcehbgfhdbjaaGreatDoor.NM
open WM (enc dec Bytes)
open VM (Ent)
abbrev Par (α:Type):=List Int->Int×Nat×α
def pure0 {α:Type} (a:α):Par α:=fun _=>(0,0,a)
def fail0 {α:Type} (e:Int) (d:α):Par α:=fun _=>(e,0,d)
def pmap {α β:Type} (g:α->β) (P:Par α):Par β:=fun xs=>((P xs).1,(P xs).2.1,g (P xs).2.2)
theorem Good.pure {α:Type} (a:α):Good (pure0 a) [] a:=⟨fun _=>rfl,fun j hj=>by simp at hj⟩
theorem Good.map {α β:Type} {g:α->β} {P:Par α} {en:List Int} {a:α} (h:Good P en a):Good (pmap g P) en (g a):=
 ⟨fun tail=>by unfold pmap;rw [h.1 tail],fun j hj=>h.2 j hj⟩
def bl:Par Bool:=fun xs=>((decB xs).2.2,(decB xs).2.1.toNat,(decB xs).1)
theorem good_bl (b:Bool):Good bl [bit b] b:=by
 refine ⟨fun tail=>?_,fun j hj=>?_⟩
 ·cases b <;> rfl
 ·have:j=0:=by simp at hj;exact hj
  subst this;rfl
def num1:Par Int:=fun xs=>((JM.num xs).2.2,(JM.num xs).2.1.toNat,(JM.num xs).1)
theorem good_num1 {x:Int} (h:JM.small x):Good num1 (enc x.toNat) x:=by
 unfold JM.small at h;obtain ⟨m,rfl⟩:∃ m:Nat,x=(m:Int):=⟨x.toNat,by omega⟩
 rw [Int.toNat_natCast];refine ⟨fun tail=>?_,fun j hj=>?_⟩
 ·unfold num1;rw [JM.num_enc m tail (by omega)];simp
 ·unfold num1;rw [JM.num_cut m j (by omega) hj]
abbrev Cx:=List CM.Fp×List CM.Fp
abbrev Bs:=Bool×Cx×Cx
def bs0:Bs:=(false,([],[]),([],[]))
def pB:Par Bs:=seq bs0 bl fun hb=>if hb=true then seq bs0 CM.decC (fun c=>pmap (fun e=>(true,c,e)) CM.decC) else pmap (fun e=>(false,([],[]),e)) CM.decC
def encB (m:Ms):List Int:=[bit m.hb]++((if m.hb=true then CM.encC2 m.bf m.bt else [])++CM.encC2 m.ef m.et)
theorem good_B {m:Ms} (h1:CM.errC m.bf m.bt=0) (h2:CM.errC m.ef m.et=0) (h3:m.hb=false->m.bf = []/\m.bt = []):Good pB (encB m) (m.hb,(m.bf,m.bt),(m.ef,m.et)):=by
 unfold pB encB;cases hb:m.hb with
 | true=>
  refine Good.seq (good_bl true) ?_;simp only [if_true];exact Good.seq (good_cert h1) (good_cert h2).map
 | false=>
  obtain ⟨e1,e2⟩:=h3 hb;rw [e1,e2];refine Good.seq (good_bl false) ?_;simp only [Bool.false_eq_true,if_false,List.nil_append];exact (good_cert h2).map
def z (k fr tx:Int):Ms:=⟨k,fr,tx,0,0,0,0,[],[],[],[],false,[],[],[],[],[],false⟩
def addB (m:Ms) (b:Bs):Ms:=⟨m.k,m.fr,m.tx,m.p,m.n,m.r,m.d,m.cf,m.ct,b.2.1.1,b.2.1.2,b.1,b.2.2.1,b.2.2.2,m.cg,m.st,m.hv,m.mo⟩
def pX (k fr tx:Int):Par Ms:=
 seq (z k fr tx) (nums (if k=1 then 4 else 3)) fun l=>seq (z k fr tx) CM.decL fun cg=>seq (z k fr tx) upd fun st=>
  if k=1 then pure0 ⟨k,fr,tx,l.getD 0 0,l.getD 1 0,l.getD 2 0,l.getD 3 0,[],[],[],[],false,[],[],cg,st,[],false⟩
  else pmap (fun b=>addB ⟨k,fr,tx,l.getD 0 0,l.getD 1 0,l.getD 2 0,0,[],[],[],[],false,[],[],cg,st,[],false⟩ b) pB
def pairs:List Int->List Ent
 | a :: b :: r=>(a,b) :: pairs r
 | _=>[]
def pH:Par (List Ent):=seq [] num1 fun c=>if 100<c then fail0 3 [] else pmap pairs (nums (2*c.toNat))
def flatE (v:List Ent):List Int:=v.flatMap fun e=>[e.1,e.2]
theorem pairs_flat (v:List Ent):pairs (flatE v)=v:=by
 induction v with
 | nil=>rfl
 | cons e r ih=>obtain ⟨a,b⟩:=e;show (a,b) :: pairs (flatE r)=_;rw [ih]
theorem flatE_len (v:List Ent):(flatE v).length=2*v.length:=by
 induction v with
 | nil=>rfl
 | cons e r ih=>show (flatE r).length+1+1=_;rw [ih,List.length_cons];omega
def encH (v:List Ent):List Int:=enc v.length++JM.encN (flatE v)
theorem good_H {v:List Ent} (h:v.length<=100) (hs:∀ e∈v,JM.small e.1/\JM.small e.2):Good pH (encH v) v:=by
 unfold pH encH;have h1:Good num1 (enc v.length) (v.length:Int):=by
  have:=good_num1 (x:=(v.length:Int)) (by unfold JM.small;omega);rwa [Int.toNat_natCast] at this
 refine Good.seq h1 ?_;rw [if_neg (by omega),Int.toNat_natCast,<- flatE_len];have h2:=(good_nums (l:=flatE v) (fun x hx=>by
  obtain ⟨e,he,hxe⟩:=List.mem_flatMap.1 hx;simp only [List.mem_cons,List.mem_nil_iff,or_false] at hxe;rcases hxe with rfl | rfl
  ·exact (hs e he).1
  ·exact (hs e he).2)).map (g:=pairs)
 rwa [pairs_flat] at h2
def pR (k fr tx:Int):Par Ms:=
 seq (z k fr tx) CM.decC fun c=>
  if k=4 then pmap (fun v=>⟨k,fr,tx,0,0,0,0,c.1,c.2,[],[],false,[],[],[],[],v,false⟩) pH
  else if k=5 then seq (z k fr tx) upd fun st=>seq (z k fr tx) bl fun mo=>pmap (fun b=>addB ⟨k,fr,tx,0,0,0,0,c.1,c.2,[],[],false,[],[],[],st,[],mo⟩ b) pB
  else pure0 ⟨k,fr,tx,0,0,0,0,c.1,c.2,[],[],false,[],[],[],[],[],false⟩
def pM:Par Ms:=
 seq (z 0 0 0) num1 fun k=>if k<1∨8<k then fail0 10 (z 0 0 0)
  else seq (z 0 0 0) (nums 2) fun l=>if k=1∨k=2 then pX k (l.getD 0 0) (l.getD 1 0) else pR k (l.getD 0 0) (l.getD 1 0)
def decM:Par Ms:=fun xs=>if (pM xs).1≠0 then ((pM xs).1,0,z 0 0 0) else if errM (pM xs).2.2≠0 then (errM (pM xs).2.2,0,z 0 0 0) else pM xs
def encM (m:Ms):List Int:=
 enc m.k.toNat++(JM.encN [m.fr,m.tx] ++
  (if m.k=1 then JM.encN [m.p,m.n,m.r,m.d]++(CM.encL m.cg++(SM.encL m.st ++ []))
   else if m.k=2 then JM.encN [m.p,m.n,m.r]++(CM.encL m.cg++(SM.encL m.st++encB m))
   else if m.k=4 then CM.encC2 m.cf m.ct++encH m.hv
   else if m.k=5 then CM.encC2 m.cf m.ct++(SM.encL m.st++([bit m.mo]++encB m))
   else CM.encC2 m.cf m.ct ++ []))
end Go.Proofs.YtahcehbgfhdbjaaGreatDoor.NM
namespace Go.Proofs.YtahcehbgfhdbjaaGreatDoor
open Go.RowKit
open UM (Ef)
open WM (enc dec zig zag Bytes)
namespace UM
def nm (n:Int):ByteArray:=if ix n 4=0 then ⟨#[97]⟩ else if ix n 4=1 then ⟨#[98]⟩ else if ix n 4=2 then ⟨#[99]⟩ else ⟨#[120,49]⟩
def efK (n:Int) (b:Bool):Ef:=
 if b=true then (1,nm (dg n 4 1),nm (dg n 4 2),(dg n 16 3:Int) - 5,nm (dg n 4 5))
 else if dg n 4 0=0 then (2,nm (dg n 4 1),nm (dg n 4 2),(dg n 16 3:Int) - 5,⟨#[]⟩)
 else if dg n 4 0=1 then (3,nm (dg n 4 1),nm (dg n 4 2),(dg n 16 3:Int) - 5,⟨#[]⟩)
 else if dg n 4 0=2 then (4,nm (dg n 4 1),nm (dg n 4 2),0,nm (dg n 4 5))
 else (5,nm (dg n 4 1),nm (dg n 4 2),0,⟨#[]⟩)
end UM
theorem OE.below {w w':World} {B:Nat} {a b c d e:Value} (h:OE w B a b c d e) (hb:Below w.heap.size w w'):OE w' B a b c d e:=below_block h hb
end Go.Proofs.YtahcehbgfhdbjaaGreatDoor

