/-
  NPm HOpn SPart SOpn NOpn NPa NPb NPf: joined texts, what nothing names left out.
-/
import Derived.Test.YtahcehbgfhdbjaaGreatDoorQUA14
import Derived.Test.YtahcehbgfhdbjaaGreatDoorQUA17
import Derived.ChangeSame
import Derived.Deep.SlicePairs
import Derived.Maps.OwnSet
set_option maxHeartbeats 4000000
set_option maxRecDepth 100000
open Go.Lib (hid)
namespace Go.Proofs.YtahcehbgfhdbjaaGreatDoor
section
open Go.RowKit
open JM (St)
open VM (Ent)
open WM (enc dec Bytes)
theorem cnt_nat {xs:List Int} {s:St} (hb:Bytes xs) (hu:s.1<=xs.length) (most:Nat):∃ N:Nat,N<=most/\(NM.cnt most xs s).1=(N:Int)/\(NM.cnt most xs s).2.1<=xs.length:=by
 have h:=JM.step_small xs s hb hu;unfold JM.small at h;unfold NM.cnt;by_cases hm:(most:Int)<(JM.step xs s).1
 ·rw [if_pos hm];exact ⟨0,Nat.zero_le _,rfl,h.2⟩
 ·rw [if_neg hm];exact ⟨(JM.step xs s).1.toNat,by omega,by omega,h.2⟩
theorem stpU_used {xs:List Int} {s:St} (hb:Bytes xs) (hu:s.1<=xs.length):(NM.stp NM.decUp NM.upZ xs s).2.1<=xs.length:=by
 unfold NM.stp;split
 ·exact hu
 ·have:=UM.decU_used (xs:=xs.drop s.1) (fun c hc=>hb c (List.mem_of_mem_drop hc));rw [List.length_drop] at this;show s.1+(UM.decU (xs.drop s.1)).2.1<=_
  omega
theorem rdUpds (W:World) (g:Nat) (v:Value) (xs:List Int) (s:St) (w:World) (hT:Tb W) (hb:RdrB w g v s) (h:Rd W v xs) (hW:Below W.heap.size W w) (hg:W.heap.size<=g) (hu:s.1<=xs.length) :
  Calls Tryz.prog 89 #[.pointer (some ⟨g,0,none⟩)] w fun e w'=>∃ a,e = .returned a/\ST.OwnR w.heap.size w' a (NM.updR xs s).1/\RdrB w' g v (NM.updR xs s).2/\Only g w w':=by
 have hgl:g<w.heap.size:=(Array.getElem?_eq_some_iff.1 hb).1;have hC:=rdCountM 48 g v xs s w hb (h.below hW) hu;obtain ⟨N,hN,hc1,hc2⟩:=cnt_nat h.bytes hu 48;have hc1:(NM.cnt 48 xs s).1=(N:Int):=hc1;have hc2:(NM.cnt 48 xs s).2.1<=xs.length:=hc2;obtain ⟨R,hR⟩:∃ R,R=NM.updR xs s:=⟨_,rfl⟩
 rw [<- hR];unfold NM.updR at hR;rw [hc1,Int.toNat_natCast] at hR;rw [hc1] at hC;generalize (NM.cnt 48 xs s).2=s1 at hC hc2 hR;have HR:=hid hR;have HL:=hid hc2;have HC:=hid hC;have HBY:=hid h.bytes;have HU:Hid (∀ (s:St) (w':World),RdrB w' g v s->s.1<=xs.length->Below W.heap.size W w'->Calls Tryz.prog 130 #[.pointer (some ⟨g,0,none⟩),.func (.func 131) #[] #[]] w' fun e w''=>∃ a,e = .returned (uv (NM.stp NM.decUp NM.upZ xs s).1.1 (NM.stp NM.decUp NM.upZ xs s).1.2.1 (NM.stp NM.decUp NM.upZ xs s).1.2.2.1 a)/\OwnEf w'.heap.size w'' a (NM.stp NM.decUp NM.upZ xs s).1.2.2.2/\RdrB w'' g v (NM.stp NM.decUp NM.upZ xs s).2/\Only g w' w''):=
  fun s w' hr hu' q=>rdUpd g v xs s w' (hT.below q) hr (h.below q) hu'
 have HWB:=hid hW;have HGW:=hid hg;have HGL:=hid hgl;clear hT hb h hW hg hu hgl hC hc1 hc2 hR;go_enter Tryz.func89,Tryz.ntmps89
 go_wp2_with fail
 refine HC.out.mono ?_;rintro e w1 ⟨rfl,hr,ho⟩;have HRB:=hid hr;have HON:=hid ho;clear HC hr ho;go_wp2
 go_loopw [3,6] (fun c i wr=>∃ (k:Nat) (qs:List Up) (U:List SM.Fp) (s2:St),k<=N/\i = .int .i64 k/\Hid (U.length<=k)/\Hid (OwnUp w.heap.size wr c qs)/\Hid (ST.TelO w.heap.size wr qs U)/\Hid (RdrB wr g v s2)/\Hid (s2.1<=xs.length)/\Hid (Only g w wr)/\Hid (R=NM.ups xs (N - k) U s2)) (fun _ i _=>N - (intOf i).toNat)
 case atStart=>exact ⟨0,[],[],s1,Nat.zero_le _,rfl,Nat.le_refl _,OwnG.nil hlUp _ _ _,trivial,HRB.out,HL.out,HON.out,HR.out⟩
 case round=>
  obtain ⟨k,qs,U,s2,hk,rfl,hul,ho,ht,hrb,hu2,hon,he⟩:=hrel;clear HR HL HRB HON;obtain ⟨c1,c2,rfl,hc2,_⟩:=ho.out.rd.shape;have HQF:=hid ht.out.rd.len;by_cases hlt:k<N
  ·have hq:(k:Int)<(N:Int):=by omega
   have e1:R=NM.ups xs (N - (k+1)) (U ++ [(NM.stp NM.decUp NM.upZ xs s2).1]) (NM.stp NM.decUp NM.upZ xs s2).2:=by
    rw [he.out,show N - k=N - (k+1)+1 by omega];rfl
   have hus:=stpU_used (s:=s2) HBY.out hu2.out;have hD:=HU.out s2 wr hrb.out hu2.out (seen HWB.out HGW.out hon.out);generalize NM.stp NM.decUp NM.upZ xs s2=d at hD hus e1;obtain ⟨⟨a,n,t,cs⟩,s3⟩:=d;dsimp only at hD hus e1;have HD:=hid hD;have E1:=hid e1;have HUS:=hid hus;clear he hD hus e1 hrb hu2;go_wp2_with fail
   refine HD.out.mono ?_;rintro e w2 ⟨sv,rfl,hos,hr2,ho2⟩;obtain ⟨sa,sc,rfl,_,_⟩:=hos.rd.shape;have hox:=OwnG.only ho.out ho2 HGL.out;have HTX:=hid (ST.TelO.snoc (f:=(a,n,t,cs)) (q:=(a,n,t,sa,cs.length,sc)) ⟨rfl,rfl,rfl,OwnG.mono hos hon.out.size⟩ (ST.TelO.only ho2 HGL.out ht.out));have HBX:=hid (hon.out.trans ho2);have HRX:=hid hr2;have hsx:=HBX.out.size;have hlq:qs.length<=1073741824:=by have:=hul.out;have:=HQF.out;omega
   have HUL:=hid (show (U ++ [(a,n,t,cs)]).length<=k+1 by rw [List.length_append];have:=hul.out;simp;omega);clear hos hr2 ho2 ho ht hon HD hul;go_wp2_with (at_builtin;refine wp_appG1' upE (a,n,t,sa,cs.length,sc) _ rfl rfl _ _ rfl rfl hox rfl hlq hsx ?_)
   intro v3 w3 ho3 hb3 hk3;have HO3:=hid ho3;have HB3:=hid (show Only g w w3 from ⟨hb3.os.trans HBX.out.os,hb3.tape.trans HBX.out.tape,hb3.output.trans HBX.out.output,Nat.le_trans HBX.out.size hb3.size,fun i hi hne=>(hb3.block i hi).trans (HBX.out.block i hi hne)⟩);have HT3:=hid (ST.TelO.keep hk3 HTX.out);have HR3:=hid (RdrB.keep HRX.out (by decide) hk3);clear ho3 hb3 hk3 hox HTX HBX HRX hsx hlq;go_wp2
   go_roundw
   case rel=>exact ⟨k+1,_,_,s3,by omega,by go_num,HUL,HO3,HT3,HR3,HUS,HB3,E1⟩
   case measure=>simp [intOf];omega
  ·have hq:¬ ((k:Int)<(N:Int)):=by omega
   obtain rfl:k=N:=by omega
   have E1:=hid (show R=(U,s2) by rw [he.out,Nat.sub_self];rfl);have HF:=hid (show ST.OwnR w.heap.size wr (.slice c1 qs.length c2) U from ⟨qs,ho.out,ht.out⟩);clear he ho ht;go_wp2
   go_ret;exact ⟨_,rfl,by rw [E1.out];exact HF.out,by rw [E1.out];exact hrb.out,hon.out⟩
theorem rdVec (W:World) (g:Nat) (v:Value) (xs:List Int) (s:St) (w:World) (hb:RdrB w g v s) (h:Rd W v xs) (hW:Below W.heap.size W w) (hg:W.heap.size<=g) (hu:s.1<=xs.length) :
  Calls Tryz.prog 90 #[.pointer (some ⟨g,0,none⟩)] w fun e w'=>∃ a,e = .returned a/\OwnHv w.heap.size w' a (NM.vecR xs s).1/\RdrB w' g v (NM.vecR xs s).2/\Only g w w':=by
 have hgl:g<w.heap.size:=(Array.getElem?_eq_some_iff.1 hb).1;have hC:=rdCountM 100 g v xs s w hb (h.below hW) hu;obtain ⟨N,hN,hc1,hc2⟩:=cnt_nat h.bytes hu 100;have hc1:(NM.cnt 100 xs s).1=(N:Int):=hc1;have hc2:(NM.cnt 100 xs s).2.1<=xs.length:=hc2;obtain ⟨R,hR⟩:∃ R,R=NM.vecR xs s:=⟨_,rfl⟩
 rw [<- hR];unfold NM.vecR at hR;rw [hc1,Int.toNat_natCast] at hR;rw [hc1] at hC;generalize (NM.cnt 100 xs s).2=s1 at hC hc2 hR;have HR:=hid hR;have HL:=hid hc2;have HC:=hid hC;have HBY:=hid h.bytes;have HU:Hid (∀ (s:St) (w':World),RdrB w' g v s->s.1<=xs.length->Below W.heap.size W w'->Calls Tryz.prog 35 #[.pointer (some ⟨g,0,none⟩)] w' fun e w''=>e = .returned (.int .i64 (JM.step xs s).1)/\RdrB w'' g v (JM.step xs s).2/\Only g w' w''):=
  fun s w' hr hu' q=>rdNumber g v xs s w' hr (h.below q) hu'
 have HWB:=hid hW;have HGW:=hid hg;have HGL:=hid hgl;clear hb h hW hg hu hgl hC hc1 hc2 hR;go_enter Tryz.func90,Tryz.ntmps90
 go_wp2_with fail
 refine HC.out.mono ?_;rintro e w1 ⟨rfl,hr,ho⟩;have HRB:=hid hr;have HON:=hid ho;clear HC hr ho;go_wp2
 go_loopw [3,6] (fun c i wr=>∃ (k:Nat) (V:List Ent) (s2:St),k<=N/\i = .int .i64 k/\Hid (V.length<=k)/\Hid (OwnHv w.heap.size wr c V)/\Hid (RdrB wr g v s2)/\Hid (s2.1<=xs.length)/\Hid (Only g w wr)/\Hid (R=NM.vecs xs (N - k) V s2)) (fun _ i _=>N - (intOf i).toNat)
 case atStart=>exact ⟨0,[],s1,Nat.zero_le _,rfl,Nat.le_refl _,OwnG.nil hlEn _ _ _,HRB.out,HL.out,HON.out,HR.out⟩
 case round=>
  obtain ⟨k,V,s2,hk,rfl,hul,ho,hrb,hu2,hon,he⟩:=hrel;clear HR HL HRB HON;obtain ⟨c1,c2,rfl,hc2,_⟩:=ho.out.rd.shape;by_cases hlt:k<N
  ·have hq:(k:Int)<(N:Int):=by omega
   have e1:R=NM.vecs xs (N - (k+1)) (V ++ [((JM.step xs s2).1,(JM.step xs (JM.step xs s2).2).1)]) (JM.step xs (JM.step xs s2).2).2:=by
    rw [he.out,show N - k=N - (k+1)+1 by omega];rfl
   have hus:=(JM.step_small xs s2 HBY.out hu2.out).2;have hus2:=(JM.step_small xs (JM.step xs s2).2 HBY.out hus).2;have hD:=HU.out s2 wr hrb.out hu2.out (seen HWB.out HGW.out hon.out);have hD2:=fun w'=>HU.out (JM.step xs s2).2 w'
   generalize JM.step xs s2=d at hD hD2 hus hus2 e1;obtain ⟨a,s3⟩:=d;dsimp only at hD hD2 hus hus2 e1;generalize JM.step xs s3=d at hD2 hus2 e1;obtain ⟨b,s4⟩:=d;dsimp only at hD2 hus2 e1;have HD:=hid hD;have HD2:=hid hD2;have E1:=hid e1;have HUS:=hid hus;have HUS2:=hid hus2;clear he hD hD2 hus hus2 e1 hrb hu2;go_wp2_with fail
   refine HD.out.mono ?_;rintro e w2 ⟨rfl,hr2,ho2⟩;have HR2:=hid hr2;have HN2:=hid (hon.out.trans ho2);have HO2:=hid (OwnG.only ho.out ho2 HGL.out);clear hr2 ho2 ho hon HD;go_wp2_with fail
   refine (HD2.out w2 HR2.out HUS.out (seen HWB.out HGW.out HN2.out)).mono ?_;rintro e w3 ⟨rfl,hr3,ho3⟩;have hox:=OwnG.only HO2.out ho3 HGL.out;have HBX:=hid (HN2.out.trans ho3);have HRX:=hid hr3;have hsx:=HBX.out.size;have hlq:V.length<=1073741824:=by have:=hul.out;omega
   have HUL:=hid (show (V ++ [(a,b)]).length<=k+1 by rw [List.length_append];have:=hul.out;simp;omega);clear hr3 ho3 HO2 HR2 HN2 HD2 hul;go_wp2_with (at_builtin;refine wp_appG1' entHv (a,b) _ rfl rfl _ _ rfl rfl hox rfl hlq hsx ?_)
   intro v3 w4 ho3 hb3 hk3;have HO3:=hid ho3;have HB3:=hid (show Only g w w4 from ⟨hb3.os.trans HBX.out.os,hb3.tape.trans HBX.out.tape,hb3.output.trans HBX.out.output,Nat.le_trans HBX.out.size hb3.size,fun i hi hne=>(hb3.block i hi).trans (HBX.out.block i hi hne)⟩);have HR3:=hid (RdrB.keep HRX.out (by decide) hk3);clear ho3 hb3 hk3 hox HBX HRX hsx hlq;go_wp2
   go_roundw
   case rel=>exact ⟨k+1,_,s4,by omega,by go_num,HUL,HO3,HR3,HUS2,HB3,E1⟩
   case measure=>simp [intOf];omega
  ·have hq:¬ ((k:Int)<(N:Int)):=by omega
   obtain rfl:k=N:=by omega
   have E1:=hid (show R=(V,s2) by rw [he.out,Nat.sub_self];rfl);have HF:=hid ho.out;clear he ho;go_wp2
   go_ret;exact ⟨_,rfl,by rw [E1.out];exact HF.out,by rw [E1.out];exact hrb.out,hon.out⟩
end
section
open Go.ChangeShapes Go.WideShapes Go.ChangeAt Go.RowKit
open JM (Chg)
open CM (Fp)
section
variable {H:Type} {enc:TypeId×Value->H} {W:World}
end
end
end Go.Proofs.YtahcehbgfhdbjaaGreatDoor
namespace Go.Proofs.YtahcehbgfhdbjaaGreatDoor.ST
open Go.RowKit Go.Joins
open UM (Ef)
open SM (Fp)
def valid2 (xs ys:List Fp):Bool:=decide (SM.errL (0,0) xs=0) && (decide (SM.errL (0,0) ys=0) && SM.agr ys xs)
end Go.Proofs.YtahcehbgfhdbjaaGreatDoor.ST
namespace Go.Proofs.YtahcehbgfhdbjaaGreatDoor.ST
set_option maxRecDepth 100000
open Go.ChangeShapes Go.WideShapes Go.ChangeAt Go.RowKit
open UM (Ef)
open SM (Fp)
open VM (Ent)
def FitE (fs:List Fp):Prop:=∀ f∈fs,∀ e∈f.2.2.2,EfFit e
theorem FitE.n {fs:List Fp} (h:FitE fs):FitN fs:=fun f hf e he=>⟨(h f hf e he).2.1,(h f hf e he).2.2.1⟩
theorem FitE.i {fs:List Fp} (h:FitE fs):SM.Fit fs:=fun f hf e he=>(h f hf e he).1
section
variable {H:Type} {enc:TypeId×Value->H} {W:World} {n:Nat} {x:DataW H×List MemPlace}
theorem upd_cells {cs:List Value} (h:DataW.trod enc Tryz.prog W 0 (fun _=>true) true n 96 cs=some x):∃ (q:Up) (f:Fp),cs=encUp q/\Tell1 W q f /\ ∀ e∈f.2.2.2,EfFit e:=by
 have k0:Tryz.prog.cellsOf 3=1:=by kernel_rfl
 have k1:Tryz.prog.cellsOf 94=1:=by kernel_rfl
 have k4:Tryz.prog.cellsOf 96=4:=by kernel_rfl
 obtain ⟨xs,m,_,_,hl,hlen,hf⟩:=DataW.trod_struct Tryz.underlying96 h;rw [k4] at hl;match xs,hlen,cs,hl with
 | [y0,y1,y2,y3],_,[c0,c1,c2,c3],_=>
  have g0:=hf 0 _ rfl;have g1:=hf 1 _ rfl;have g2:=hf 2 _ rfl;have g3:=hf 3 _ rfl;simp [k0,k1] at g0 g1 g2 g3
  obtain ⟨a,ha,_⟩:=DataW.trod_int Tryz.underlying3 g0;obtain ⟨b,hb,_⟩:=DataW.trod_int Tryz.underlying3 g1;obtain ⟨c,hc,_⟩:=DataW.trod_int Tryz.underlying3 g2;obtain ⟨es,he,hfit⟩:=rdEf_of_trod g3;simp at ha hb hc
  obtain ⟨sa,sc,hsv,_,_⟩:=he.shape;rw [hsv] at he;exact ⟨(a,b,c,sa,es.length,sc),(a,b,c,es),by rw [ha,hb,hc,hsv];rfl,⟨rfl,rfl,rfl,he⟩,hfit⟩
theorem cellsU_snoc {xs:List Up} {e:Up} {j:Nat} {u:Value} (h:(cellsOf encUp (xs ++ [e]))[j]? = some u) :
  (cellsOf encUp xs)[j]? = some u ∨ ∃ d,d<4/\j=xs.length*4+d/\(encUp e)[d]? = some u:=by
 have hL:=cellsOf_length (enc:=encUp) hlUp.2 xs;rw [cellsOf_append] at h;rcases Nat.lt_or_ge j (cellsOf encUp xs).length with hl | hl
 ·rw [List.getElem?_append_left hl] at h;exact .inl h
 ·rw [List.getElem?_append_right hl,hL] at h;rw [hL] at hl;have e1:cellsOf encUp [e]=encUp e:=by simp [cellsOf]
  rw [e1] at h;have hd:j - xs.length*4<4:=by
   have:=(List.getElem?_eq_some_iff.1 h).1;rw [hlUp.2 e] at this;exact this
  exact .inr ⟨_,hd,by omega,h⟩
theorem rdF_of_trod {v:Value} (hf:DataW.trod enc Tryz.prog W 0 (fun _=>true) true n 29 [v]=some x):∃ fs,RdF W v fs/\FitE fs:=by
 have k4:Tryz.prog.cellsOf 96=4:=by kernel_rfl
 rcases Deep.open_slice Tryz.underlying29 hf with ⟨hcs,_⟩ | ⟨y,l,c,m,k,D,P,hcs,_,hl,hm,hmm,_,hall⟩
 ·simp at hcs
  subst hcs;exact ⟨[],RdF.nil W,fun f hf=>by cases hf⟩
 ·simp at hcs
  subst hcs;simp only [if_true] at hmm;have hbuild:∀ j,j<=l -> ∃ (qs:List Up) (fs:List Fp),qs.length=j/\Tel W qs fs/\FitE fs /\ ∀ i u,(cellsOf encUp qs)[i]? = some u->W.cell? (y.add i)=some u:=by
   intro j;induction j with
   | zero=>intro _;exact ⟨[],[],rfl,trivial,(fun f hf=>by cases hf),fun i u h=>by simp [cellsOf] at h⟩
   | succ j ih=>
    intro hj;obtain ⟨qs,fs,hp,ht,hfit,hr⟩:=ih (by omega);obtain ⟨cs',t0,t1⟩:=hall j (by omega);rw [k4] at t0;obtain ⟨_,hlen,hcell⟩:=World.cells?_some t0;obtain ⟨q,f,rfl,htell,hff⟩:=upd_cells t1;refine ⟨qs ++ [q],fs ++ [f],by simp [hp],Tel.app ht (Tel.one htell),fun z hz=>?_,fun i u hu=>?_⟩
    ·rcases List.mem_append.1 hz with h | h
     ·exact hfit z h
     ·rw [List.mem_singleton] at h;subst h;exact hff
    rcases cellsU_snoc hu with h | ⟨d,hd,rfl,h⟩
    ·exact hr i u h
    ·have:=hcell d hd;rw [Deep.add_add] at this;rw [hp,this,h]
  obtain ⟨qs,fs,hp,ht,hfit,hr⟩:=hbuild l (Nat.le_refl _);exact ⟨fs,⟨qs,⟨some y,c,by rw [hp],by omega,hm,(fun h=>by cases h),hlUp,fun z hz i u hu=>by cases hz;exact hr i u hu⟩,ht⟩,hfit⟩
theorem ents_snoc_get {xs:List Ent} {e:Ent} {j:Nat} {u:Value} (h:(VX.ents (xs ++ [e]))[j]? = some u) :
  (VX.ents xs)[j]? = some u∨(j=xs.length*2/\u = .int .i64 e.1)∨(j=xs.length*2+1/\u = .int .i64 e.2):=by
 rw [VX.ents_append] at h;rcases Nat.lt_or_ge j (VX.ents xs).length with hl | hl
 ·rw [List.getElem?_append_left hl] at h;exact .inl h
 ·rw [List.getElem?_append_right hl,VX.ents_length] at h;rw [VX.ents_length] at hl;obtain ⟨d,rfl⟩:∃ d,j=xs.length*2+d:=⟨j - xs.length*2,by omega⟩
  rw [Nat.add_sub_cancel_left] at h;match d,h with
  | 0,h=>exact .inr (.inl ⟨by omega,by simpa [VX.ents] using h.symm⟩)
  | 1,h=>exact .inr (.inr ⟨by omega,by simpa [VX.ents] using h.symm⟩)
  | d+2,h=>simp [VX.ents] at h
theorem rdV_of_trod {v:Value} (hf:DataW.trod enc Tryz.prog W 0 (fun _=>true) true n 31 [v]=some x):∃ xs,VX.RdV W v xs:=by
 rcases Deep.open_slice_pairs Tryz.underlying31 Tryz.underlying110 (by kernel_rfl) (by kernel_rfl) (by kernel_rfl) (by kernel_rfl) (by kernel_rfl) hf with ⟨hcs,_⟩ | ⟨y,l,c,m,k,V0,V1,D0,D1,P0,P1,hcs,_,hl,hm,hmm,_,hall⟩
 ·simp at hcs
  subst hcs;exact ⟨[],VX.RdV.nil W⟩
 ·simp at hcs
  subst hcs;simp only [if_true] at hmm;have hbuild:∀ j,j<=l -> ∃ xs:List Ent,xs.length=j /\ ∀ i u,(VX.ents xs)[i]? = some u->W.cell? (y.add i)=some u:=by
   intro j;induction j with
   | zero=>intro _;exact ⟨[],rfl,fun i u h=>by simp [VX.ents] at h⟩
   | succ j ih=>
    intro hj;obtain ⟨xs,hp,hr⟩:=ih (by omega);obtain ⟨k0,k1,t0,t1⟩:=hall j (by omega);obtain ⟨a,ha,_,_⟩:=DataW.trod_int Tryz.underlying3 t0;obtain ⟨b,hb,_,_⟩:=DataW.trod_int Tryz.underlying3 t1;simp at ha hb
    refine ⟨xs ++ [(a,b)],by simp [hp],fun i u hu=>?_⟩;rcases ents_snoc_get hu with h | ⟨rfl,rfl⟩ | ⟨rfl,rfl⟩
    ·exact hr i u h
    ·rw [hp,k0,ha]
    ·rw [hp,k1,hb]
  obtain ⟨xs,hp,hr⟩:=hbuild l (Nat.le_refl _);exact ⟨xs,some y,c,by rw [hp],by omega,hm,(fun h=>by cases h),fun z hz i u hu=>by cases hz;exact hr i u hu⟩
end
end Go.Proofs.YtahcehbgfhdbjaaGreatDoor.ST
namespace Go.Proofs.YtahcehbgfhdbjaaGreatDoor
section
open Go.ChangeShapes Go.WideShapes Go.ChangeAt Go.RowKit
open NM (Ms)
def NM.I64 (k:Int):Prop:=(Lit.int .i64 k).wf=true
section
variable {H:Type} {enc:TypeId×Value->H} {W:World} {n:Nat} {x:DataW H×List MemPlace}
theorem cert_cells {cs:List Value} (h:DataW.trod enc Tryz.prog W 0 (fun _=>true) true n 27 cs=some x):∃ a b f t,cs = [a,b]/\RdF W a f/\RdF W b t:=by
 have k1:Tryz.prog.cellsOf 25=1:=by kernel_rfl
 have k2:Tryz.prog.cellsOf 27=2:=by kernel_rfl
 obtain ⟨y0,y1,m,_,hl,h0,h1⟩:=Go.ChangeShapes.trod_struct2 Tryz.underlying27 h;rw [k2] at hl;match cs,hl with
 | [c0,c1],_=>
  simp only [k1] at h0 h1;obtain ⟨f,hf'⟩:=rdF_of_trod h0;obtain ⟨t,ht⟩:=rdF_of_trod h1;exact ⟨c0,c1,f,t,rfl,hf',ht⟩
theorem acc_cells {cs:List Value} (h:DataW.trod enc Tryz.prog W 0 (fun _=>true) true n 23 cs=some x):∃ p q,cs = [.int .i64 p,.int .i64 q]:=by
 have k1:Tryz.prog.cellsOf 3=1:=by kernel_rfl
 have k2:Tryz.prog.cellsOf 23=2:=by kernel_rfl
 obtain ⟨y0,y1,m,_,hl,h0,h1⟩:=Go.ChangeShapes.trod_struct2 Tryz.underlying23 h;rw [k2] at hl;match cs,hl with
 | [c0,c1],_=>
  simp only [k1] at h0 h1;obtain ⟨p,hp,_⟩:=DataW.trod_int Tryz.underlying3 h0;obtain ⟨q,hq,_⟩:=DataW.trod_int Tryz.underlying3 h1;have hp':[c0] = [Value.int .i64 p]:=hp;have hq':[c1] = [Value.int .i64 q]:=hq;injection hp' with hp' _
  injection hq' with hq' _
  exact ⟨p,q,by rw [hp',hq']⟩
theorem msg_cells {cs:List Value} (h:DataW.trod enc Tryz.prog W 0 (fun _=>true) true n 33 cs=some x):∃ (m:Ms) (y:Mv),cs=(mcell m y).toList/\RdMs W y m/\ST.FitE m.st/\NM.I64 m.k:=by
 have k0:Tryz.prog.cellsOf 3=1:=by kernel_rfl
 have kb:Tryz.prog.cellsOf 4=1:=by kernel_rfl
 have ka:Tryz.prog.cellsOf 23=2:=by kernel_rfl
 have kc:Tryz.prog.cellsOf 27=2:=by kernel_rfl
 have k1:Tryz.prog.cellsOf 25=1:=by kernel_rfl
 have k2:Tryz.prog.cellsOf 29=1:=by kernel_rfl
 have k3:Tryz.prog.cellsOf 31=1:=by kernel_rfl
 have km:Tryz.prog.cellsOf 33=18:=by kernel_rfl
 obtain ⟨xs,m,_,_,hl,hlen,hf⟩:=DataW.trod_struct Tryz.underlying33 h;rw [km] at hl;match xs,hlen,cs,hl with
 | [z0,z1,z2,z3,z4,z5,z6,z7,z8,z9,z10,z11,z12,z13],_,[c0,c1,c2,c3,c4,c5,c6,c7,c8,c9,c10,c11,c12,c13,c14,c15,c16,c17],_=>
  have g0:=hf 0 _ rfl;have g1:=hf 1 _ rfl;have g2:=hf 2 _ rfl;have g3:=hf 3 _ rfl;have g4:=hf 4 _ rfl;have g5:=hf 5 _ rfl;have g6:=hf 6 _ rfl;have g7:=hf 7 _ rfl;have g8:=hf 8 _ rfl;have g9:=hf 9 _ rfl;have g10:=hf 10 _ rfl;have g11:=hf 11 _ rfl;have g12:=hf 12 _ rfl;have g13:=hf 13 _ rfl;simp [k0,kb,ka,kc,k1,k2,k3] at g0 g1 g2 g3 g4 g5 g6 g7 g8 g9 g10 g11 g12 g13
  obtain ⟨a0,e0,_,hwf⟩:=DataW.trod_int Tryz.underlying3 g0;obtain ⟨a1,e1,_⟩:=DataW.trod_int Tryz.underlying3 g1;obtain ⟨a2,e2,_⟩:=DataW.trod_int Tryz.underlying3 g2;obtain ⟨p,q,e3⟩:=acc_cells g3;obtain ⟨a4,e4,_⟩:=DataW.trod_int Tryz.underlying3 g4;obtain ⟨a5,e5,_⟩:=DataW.trod_int Tryz.underlying3 g5;obtain ⟨s1,s2,f1,t1,e6,r1,r2⟩:=cert_cells g6;obtain ⟨s3,s4,f2,t2,e7,r3,r4⟩:=cert_cells g7;obtain ⟨b8,e8,_⟩:=DataW.trod_bool Tryz.underlying4 g8;obtain ⟨s5,s6,f3,t3,e9,r5,r6⟩:=cert_cells g9;obtain ⟨cg,r7⟩:=rdF_of_trod g10;obtain ⟨st,r8,hfe⟩:=ST.rdF_of_trod g11;obtain ⟨hv,r9⟩:=rdV_of_trod g12;obtain ⟨b13,e13,_⟩:=DataW.trod_bool Tryz.underlying4 g13;simp at e0 e1 e2 e3 e4 e5 e6 e7 e8 e9 e13
  obtain ⟨rfl,rfl⟩:=e3;obtain ⟨rfl,rfl⟩:=e6;obtain ⟨rfl,rfl⟩:=e7;obtain ⟨rfl,rfl⟩:=e9;subst e0 e1 e2 e4 e5 e8 e13;exact ⟨⟨a0,a1,a2,p,q,a4,a5,f1,t1,f2,t2,b8,f3,t3,cg,st,hv,b13⟩,⟨_,_,_,_,_,_,_,_,_⟩,rfl,⟨r1,r2,r3,r4,r5,r6,r7,r8,r9⟩,hfe,hwf⟩
theorem msg_of_trod {r:Reach} {b0:Nat} {v:Value} {d:DataW H} {p:List MemPlace} (hv:Value.okWide Tryz.prog W r b0 33 v) (h:DataW.Trod enc Tryz.prog W 0 (fun _=>true) true 33 v d p) :
  ∃ (m:Ms) (y:Mv),v=mv m y/\(RdMs W y m/\ST.FitE m.st/\NM.I64 m.k):=by
 obtain ⟨cs,rfl,hsz⟩:=okWide_struct Tryz.underlying33 hv;obtain ⟨fuel,hf⟩:=h;obtain ⟨m,y,e,hr⟩:=msg_cells hf;refine ⟨m,y,?_,hr⟩;have:cs=mcell m y:=by
  apply Array.ext'
  exact e
 rw [this]
end
end
section
open Go.RowKit
theorem fldE:IsElem Tryz.prog 50 55 1 8 encI where
 ht:=Tryz.underlying50
 info:=by
  obtain ⟨i0,hi,hz0,hz1,hz2⟩:=info_parts (show (Tryz.prog.info? 55).map (fun i=>(i.zero,i.size,i.bytes))=some (some (.int .i64 0),1,8) by kernel_rfl);exact ⟨i0,_,hi,hz0,hz1,hz2,rfl⟩
 len:=fun _=>rfl
 one:=by intro x u hu;simp [encI] at hu;subst hu;rfl
 pos:=by decide
 fits:=by decide
theorem atF {w:World} {a:Option Addr} {n c:Nat} {xs:List Int} (h:RdI w (.slice a n c) xs) (k:Nat) (x:Int) (hk:xs[k]? = some x) :
  ∃ b o,(∀ w0,(Instr.indexAt 50 (.slice a n c) (.int .i64 (k:Int))).run Tryz.prog w0 = .ok (.pointer (some ⟨b,o,none⟩)) w0)/\b<w.heap.size/\w.cell? ⟨b,o,none⟩=some (.int .i64 x):=by
 obtain ⟨b,o,h1,h2,h3⟩:=h.at_ fldE k x hk;exact ⟨b,o,h1,h2,h3 0 _ rfl⟩
theorem cIndexF (v:Value) (l:List Int) (x:Int) (w:World) (h:RdI w v l) :
  Calls Tryz.prog 110 #[v,.int .i64 x] w fun e w'=>∃ n:Int,e = .returned (.int .i64 n)/\decide (0<=n)=l.contains x/\w=w':=by
 obtain ⟨ad,c,rfl,hc,hl⟩:=h.shape;have H:=hid h;clear h;obtain ⟨R,hR⟩:∃ R,R=l.contains x:=⟨_,rfl⟩
 rw [<- hR];have HR:=hid (show R=(l.drop 0).contains x from hR);clear hR;go_enter Tryz.func110,Tryz.ntmps110
 go_wp2
 go_loop [8] (fun i=>∃ k:Nat,k<=l.length/\i = .int .i64 k/\Hid (R=(l.drop k).contains x)) (fun i=>l.length - (intOf i).toNat)
 case atStart=>exact ⟨0,Nat.zero_le _,rfl,HR⟩
 case round=>
  obtain ⟨k,hk,rfl,he⟩:=hrel;clear HR;by_cases hlt:k<l.length
  ·obtain ⟨b,o,hi,hb,c0⟩:=atF H.out k l[k] (List.getElem?_eq_getElem hlt);have hq:(k:Int)<(l.length:Int):=by omega
   have hdx:=hid (drop_get hlt);generalize l[k]=y at c0 hdx;by_cases h0:x=y
   ·have e2:=hid (show R=true by rw [he.out,hdx.out,h0];simp);have heq:(x==y)=true:=by simp [h0]
    clear he hdx h0;go_wp2
    go_ret;exact ⟨_,rfl,by rw [e2.out];exact decide_eq_true (by omega),rfl⟩
   ·have e2:=hid (show R=(l.drop (k+1)).contains x by rw [he.out,hdx.out];simp [h0]);have heq:(x==y)=false:=by simp [h0]
    clear he hdx h0;go_wp2
    go_round
    case rel=>exact ⟨k+1,by omega,by go_num,e2⟩
    case measure=>simp [intOf];omega
  ·have hq:¬ ((k:Int)<(l.length:Int)):=by omega
   have e2:=hid (show R=false by rw [he.out,List.drop_of_length_le (by omega)];rfl);clear he;go_wp2
   go_ret;exact ⟨_,rfl,by rw [e2.out];decide,rfl⟩
theorem cContainsF (v:Value) (l:List Int) (x:Int) (w:World) (h:RdI w v l) :
  Calls Tryz.prog 57 #[v,.int .i64 x] w fun e w'=>e = .returned (.bool (l.contains x))/\w=w':=by
 have H:=hid (cIndexF v l x w h);generalize l.contains x=R at H ⊢;obtain ⟨ad,c,rfl,hc,hl⟩:=h.shape;clear h;go_enter Tryz.func57,Tryz.ntmps57
 go_wp2_with fail
 refine H.out.mono ?_;rintro e w1 ⟨n,rfl,hn,rfl⟩;have HN:=hid hn;clear hn H;go_wp2
 go_ret;exact ⟨ret_bool HN.out,rfl⟩
end
section
open Go.RowKit
open CM (Fp)
theorem cIsProc (x:Int) (w:World):Calls Tryz.prog 20 #[.int .i64 x] w fun e w'=>e = .returned (.bool (NM.proc x))/\w=w':=by
 have H1:Hid (∀ w,Calls Tryz.prog 54 #[.int .i64 x] w fun e w'=>e = .returned (.bool (JM.isSrv x))/\w=w'):=fun w=>cIsSrvP x w
 have H2:Hid (∀ w,Calls Tryz.prog 55 #[.int .i64 x] w fun e w'=>e = .returned (.bool (UM.isCl x))/\w=w'):=fun w=>cIsCliP x w
 have H3:Hid (∀ w,Calls Tryz.prog 56 #[.int .i64 x] w fun e w'=>e = .returned (.bool (JM.isAdm x))/\w=w'):=fun w=>cAdmin x w
 obtain ⟨R,hR⟩:∃ R,R=NM.proc x:=⟨_,rfl⟩
 rw [<- hR];unfold NM.proc at hR;generalize JM.isSrv x=A at H1 hR;generalize UM.isCl x=B at H2 hR;generalize JM.isAdm x=C at H3 hR;cases A with
 | true=>
  obtain rfl:R=true:=hR;go_enter Tryz.func20,Tryz.ntmps20
  go_wp2_with (go_at_call 54;refine (H1.out _).mono ?_;rintro e w1 ⟨rfl,rfl⟩)
  go_ret;exact ⟨rfl,rfl⟩
 | false=>
  cases B with
  | true=>
   obtain rfl:R=true:=hR;go_enter Tryz.func20,Tryz.ntmps20
   go_wp2_with (first | (go_at_call 54;refine (H1.out _).mono ?_;rintro e w1 ⟨rfl,rfl⟩) | (go_at_call 55;refine (H2.out _).mono ?_;rintro e w1 ⟨rfl,rfl⟩))
   go_ret;exact ⟨rfl,rfl⟩
  | false=>
   obtain rfl:R=C:=hR;go_enter Tryz.func20,Tryz.ntmps20
   go_wp2_with (first | (go_at_call 54;refine (H1.out _).mono ?_;rintro e w1 ⟨rfl,rfl⟩) | (go_at_call 55;refine (H2.out _).mono ?_;rintro e w1 ⟨rfl,rfl⟩) | (go_at_call 56;refine (H3.out _).mono ?_;rintro e w1 ⟨rfl,rfl⟩))
   go_ret;exact ⟨rfl,rfl⟩
theorem cUnless (b:Bool) (c:Int) (w:World):Calls Tryz.prog 59 #[.bool b,.int .i64 c] w fun e w'=>e = .returned (.int .i64 (if b=true then 0 else c))/\w=w':=by
 cases b
 ·go_enter Tryz.func59,Tryz.ntmps59
  go_wp2
  go_ret;exact ⟨rfl,rfl⟩
 ·go_enter Tryz.func59,Tryz.ntmps59
  go_wp2
  go_ret;exact ⟨rfl,rfl⟩
theorem cInRange (n:Int) (w:World):Calls Tryz.prog 60 #[.int .i64 n] w fun e w'=>e = .returned (.bool (decide (1<=n/\n<=1000000)))/\w=w':=by
 obtain ⟨R,hR⟩:∃ R,R=decide (1<=n/\n<=1000000):=⟨_,rfl⟩
 rw [<- hR];by_cases h1:1<=n
 ·by_cases h2:n<=1000000
  ·have e:=hid (show R=true by rw [hR];exact decide_eq_true ⟨h1,h2⟩);clear hR;go_enter Tryz.func60,Tryz.ntmps60
   go_wp2
   go_ret;rw [e.out];exact ⟨rfl,rfl⟩
  ·have e:=hid (show R=false by rw [hR];exact decide_eq_false (by omega));have hd:decide (n<=1000000)=false:=decide_eq_false h2;clear hR;go_enter Tryz.func60,Tryz.ntmps60
   go_wp2
   go_ret;rw [e.out];exact ⟨rfl,rfl⟩
 ·have e:=hid (show R=false by rw [hR];exact decide_eq_false (by omega));have h2':n<1:=by omega
  clear hR h1;go_enter Tryz.func60,Tryz.ntmps60
  go_wp2
  go_ret;rw [e.out];exact ⟨rfl,rfl⟩
def NM.accE (p n:Int):Int:=if (UM.isCl p=true∨JM.isAdm p=true)/\1<=n/\n<=1000000 then 0 else 9
theorem cValAcc (p n:Int) (w:World):Calls Tryz.prog 58 #[.agg #[.int .i64 p,.int .i64 n]] w fun e w'=>e = .returned (.int .i64 (NM.accE p n))/\Below w.heap.size w w':=by
 have H2:Hid (∀ w,Calls Tryz.prog 55 #[.int .i64 p] w fun e w'=>e = .returned (.bool (UM.isCl p))/\w=w'):=fun w=>cIsCliP p w
 have H3:Hid (∀ w,Calls Tryz.prog 56 #[.int .i64 p] w fun e w'=>e = .returned (.bool (JM.isAdm p))/\w=w'):=fun w=>cAdmin p w
 have H4:=hid (cInRange n);have H5:=hid cUnless;obtain ⟨R,hR⟩:∃ R,R=NM.accE p n:=⟨_,rfl⟩
 rw [<- hR];have hR2:R=if ((UM.isCl p || JM.isAdm p) && decide (1<=n/\n<=1000000))=true then 0 else 9:=by rw [hR];unfold NM.accE;simp
 clear hR;generalize UM.isCl p=B at H2 hR2;generalize JM.isAdm p=C at H3 hR2;generalize decide (1<=n/\n<=1000000)=N at H4 hR2;have HR:=hid hR2;have hX:=heap_alloc_new w (.cells #[.int .i64 p,.int .i64 n] 23);have hb0:=below_fresh w (.cells #[.int .i64 p,.int .i64 n] 23);obtain ⟨w0,hw0⟩:∃ w0,w.alloc (.cells #[.int .i64 p,.int .i64 n] 23)=w0:=⟨_,rfl⟩
 rw [hw0] at hX hb0;have c0:w0.cell? ⟨w.heap.size,0,none⟩=some (.int .i64 p):=by simp [World.cell?,hX]
 have c1:w0.cell? ⟨w.heap.size,1,none⟩=some (.int .i64 n):=by simp [World.cell?,hX]
 have HB:=hid hb0;have HW:=hid hw0;clear hR2 hX hb0 hw0;cases B <;> cases C <;> cases N
 all_goals
  go_enter Tryz.func58,Tryz.ntmps58
  go_upto_region 1 with fail
  rw [HW.out];go_wp2_with (first | (go_at_call 55;refine (H2.out _).mono ?_;rintro e w1 ⟨rfl,rfl⟩) | (go_at_call 56;refine (H3.out _).mono ?_;rintro e w1 ⟨rfl,rfl⟩) | (go_at_call 60;refine (H4.out _).mono ?_;rintro e w1 ⟨rfl,rfl⟩) | (go_at_call 59;refine (H5.out _ _ _).mono ?_;rintro e w1 ⟨rfl,rfl⟩))
  go_ret;exact ⟨by rw [HR.out];rfl,HB.out⟩
theorem cEqCf (va vb:Value) (xs ys:List Fp) (w:World) (ha:RdF w va xs) (hb:RdF w vb ys) :
  Calls Tryz.prog 76 #[va,vb] w fun e w'=>e = .returned (.bool (decide (xs=ys)))/\Below w.heap.size w w':=by
 have H:=hid (gEqualFunc va vb xs ys w ha hb);generalize decide (xs=ys)=R at H ⊢;obtain ⟨aa,ac,rfl,_,_⟩:=ha.shape;obtain ⟨ba,bc,rfl,_,_⟩:=hb.shape;clear ha hb;go_enter Tryz.func76,Tryz.ntmps76
 go_wp2_with fail
 refine H.out.mono ?_;rintro e w1 ⟨rfl,hb⟩;have HB:=hid hb;clear hb H;go_wp2
 go_ret;exact ⟨rfl,HB.out⟩
theorem cEqCe (a b a' b':Value) (f t f' t':List Fp) (w:World) (h1:RdF w a f) (h2:RdF w b t) (h3:RdF w a' f') (h4:RdF w b' t') :
  Calls Tryz.prog 62 #[.agg #[a,b],.agg #[a',b']] w fun e w'=>e = .returned (.bool (decide (f=f') && decide (t=t')))/\Below w.heap.size w w':=by
 obtain ⟨a1,c1,rfl,_,_⟩:=h1.shape;obtain ⟨a2,c2,rfl,_,_⟩:=h2.shape;obtain ⟨a3,c3,rfl,_,_⟩:=h3.shape;obtain ⟨a4,c4,rfl,_,_⟩:=h4.shape;have b1:=below_fresh w (.cells #[.slice a1 f.length c1,.slice a2 t.length c2] 27);have x1:=XB.fresh w (.slice a1 f.length c1) (.slice a2 t.length c2);obtain ⟨w0,hw0⟩:∃ w0,w.alloc (.cells #[.slice a1 f.length c1,.slice a2 t.length c2] 27)=w0:=⟨_,rfl⟩
 rw [hw0] at b1 x1;have b2:=below_fresh w0 (.cells #[.slice a3 f'.length c3,.slice a4 t'.length c4] 27);have x2:=XB.fresh w0 (.slice a3 f'.length c3) (.slice a4 t'.length c4);obtain ⟨w1,hw1⟩:∃ w1,w0.alloc (.cells #[.slice a3 f'.length c3,.slice a4 t'.length c4] 27)=w1:=⟨_,rfl⟩
 rw [hw1] at b2 x2;have HB:=hid (bnext b1 b2);have HX:=hid (x1.below b2);have HY:=hid x2;have hbb:=bnext b1 b2;have H1:=hid (fun w' (h:Below w1.heap.size w1 w')=>cEqCf _ _ f f' w' (h1.below (bnext hbb h)) (h3.below (bnext hbb h)));have H2:=hid (fun w' (h:Below w1.heap.size w1 w')=>cEqCf _ _ t t' w' (h2.below (bnext hbb h)) (h4.below (bnext hbb h)));have HW0:=hid hw0;have HW1:=hid hw1;have hs0:w0.heap.size=w.heap.size+1:=by rw [<- hw0];simp
 obtain ⟨G,hG⟩:∃ G,G=w.heap.size+1:=⟨_,rfl⟩
 rw [hs0,<- hG] at HY;have HG:=hid hG;generalize decide (f=f')=P at H1 ⊢;generalize decide (t=t')=Q at H2 ⊢;clear h1 h2 h3 h4 b1 x1 hw0 b2 x2 hw1 hbb hG hs0;go_enter Tryz.func62,Tryz.ntmps62
 go_upto_region 1 with fail
 rw [HW0.out,HW1.out,<- HG.out];obtain ⟨p0,p1,_,_⟩:=HX.out.cells;obtain ⟨q0,q1,_,_⟩:=HY.out.cells;go_wp2_with fail
 refine (H1.out w1 (Below.refl _ _)).mono ?_;rintro e w2 ⟨rfl,hb⟩;have HB2:=hid hb;replace HX:=hid (HX.out.below hb);replace HY:=hid (HY.out.below hb);clear p0 p1 q0 q1 hb H1;obtain ⟨p0,p1,_,_⟩:=HX.out.cells;obtain ⟨q0,q1,_,_⟩:=HY.out.cells;cases P
 ·go_wp2
  go_ret;exact ⟨rfl,bnext HB.out HB2.out⟩
 ·go_wp2_with fail
  refine (H2.out w2 HB2.out).mono ?_;rintro e w3 ⟨rfl,hb⟩;have HB3:=hid (bnext HB2.out hb);clear hb p0 p1 q0 q1 H2;go_wp2
  go_ret;exact ⟨rfl,bnext HB.out HB3.out⟩
end
section
open Go.RowKit
open WideShapes ChangeMaps
def RV (v:Value):Option (DataW Value×List MemPlace):=some (.held v,[])
abbrev Tab:=List (Int×Value×List Int)
theorem lawKI:Maps.Keyed Tryz.prog 3:=Maps.int_keyed Tryz.underlying3
theorem zeroF (w:World):(zeroValue 50).run Tryz.prog w = .ok (.slice none 0 0) w:=by kernel_rfl
structure MpD (D:DataW Value) (l:Tab):Prop where
 map:Maps.IsMap D
 at_:∀ (x:Int) (z:DataW Value),D.atKey (.int .i64 x) z=match l.find? (fun p=>p.1==x) with | some p=>.held p.2.1 | none=>z
 has:∀ x:Int,Maps.has D (.int .i64 x)=(l.find? (fun p=>p.1==x)).isSome
theorem key_neI {a b:Int} (h:a≠b):(Lit.int .i64 a) ≠ .int .i64 b:=by intro e;injection e with _ e;exact h e
theorem MpD.start:MpD (.map []) []:=⟨⟨[],rfl⟩,fun _ _=>rfl,fun _=>rfl⟩
theorem MpD.put {D:DataW Value} {l:Tab} (h:MpD D l) (k:Int) (v:Value) (us:List Int):MpD (D.put (.int .i64 k) (.held v)) ((k,v,us) :: l):=by
 refine ⟨h.map.put _ _,fun x z=>?_,fun x=>?_⟩
 ·by_cases hx:x=k
  ·subst hx;rw [Maps.atKey_put_same h.map (show WideAt.IsKeyLit (.int _ _) from trivial)];simp
  ·rw [Maps.atKey_put_other (key_neI hx),h.at_,List.find?_cons_of_neg];simp;exact fun e=>hx e.symm
 ·by_cases hx:x=k
  ·subst hx;rw [Maps.has_put_same h.map (show WideAt.IsKeyLit (.int _ _) from trivial)];simp
  ·rw [Maps.has_put_other (key_neI hx),h.has,List.find?_cons_of_neg];simp;exact fun e=>hx e.symm
structure FS (w0 w:World) (B:Nat) (n:Nat) (D:DataW Value) (l:Tab):Prop where
 own:w.ownsMap Tryz.prog 3 RV B n D
 mp:MpD D l
 all:∀ p∈l,OwnG encI 55 1 (B+1) w p.2.1 p.2.2
 below:Below w0.heap.size w0 w
 base:w0.heap.size<=B
theorem FS.step {w0 w w':World} {B n:Nat} {D:DataW Value} {l:Tab} (h:FS w0 w B n D l) (k:Int) (us:List Int) (hu:us.length<=maxLen) (S:Nat) (hS:S=w.heap.size)
  (ho:w'.ownsMap Tryz.prog 3 RV B (n+1) (D.put (.int .i64 k) (.held (.slice (some ⟨S,0,none⟩) us.length us.length))))
  (hg:(w.alloc (.cells (cellsOf encI us).toArray 55)).grownBy w' (some B)) :
  FS w0 w' B (n+1) (D.put (.int .i64 k) (.held (.slice (some ⟨S,0,none⟩) us.length us.length))) ((k,.slice (some ⟨S,0,none⟩) us.length us.length,us) :: l):=by
 subst hS;have hB:=h.own.lt;have hf:=below_fresh w (.cells (cellsOf encI us).toArray 55);have hO:Only B (w.alloc (.cells (cellsOf encI us).toArray 55)) w':=⟨hg.os,hg.tape,hg.output,hg.size,fun k hk hne=>hg.block k hk (by intro e;injection e with e;exact hne e)⟩
 have hs:=hf.size;refine ⟨ho,h.mp.put k _ us,fun p hp=>?_,h.below.trans ((hf.mono h.below.size).trans (hO.below h.base (Nat.le_trans h.below.size hs))),h.base⟩;rcases List.mem_cons.1 hp with rfl | hp
 ·exact ((ownG_fresh fldE.hl 55 w us hu).mono hB).only hO (Nat.lt_succ_self B)
 ·exact ((h.all p hp).below hf).only hO (Nat.lt_succ_self B)
theorem tab_usd (v1 v2 v3 v4 v5 v6 v7 v8:Value) (k:Int):match ([(8,v8,[3]),(7,v7,[3]),(6,v6,[3]),(5,v5,[3,8,10,5,4,6]),(4,v4,[3,9]),(3,v3,[3]),(2,v2,[0,1,7,8,5,4,6]),(1,v1,[0,1,2,7,8])]:Tab).find? (fun p=>p.1==k) with | some p=>p.2.2=NM.usd k/\NM.kn k=true | none=>NM.usd k = []/\NM.kn k=false:=by
 by_cases hk:1<=k/\k<=8
 ·rcases NM.kn_cases (decide_eq_true hk) with e | e | e | e | e | e | e | e <;> subst e <;> exact ⟨rfl,rfl⟩
 ·have hn:NM.kn k=false:=decide_eq_false hk;have hu:NM.usd k = []:=by
   unfold NM.usd;rw [if_neg (by omega),if_neg (by omega),if_neg (by omega),if_neg (by omega),if_neg (by omega)]
  have hf:([(8,v8,[3]),(7,v7,[3]),(6,v6,[3]),(5,v5,[3,8,10,5,4,6]),(4,v4,[3,9]),(3,v3,[3]),(2,v2,[0,1,7,8,5,4,6]),(1,v1,[0,1,2,7,8])]:Tab).find? (fun p=>p.1==k)=none:=by
   rw [List.find?_eq_none];intro p hp;simp only [List.mem_cons,List.mem_nil_iff,or_false] at hp;simp only [beq_iff_eq];rcases hp with rfl | rfl | rfl | rfl | rfl | rfl | rfl | rfl <;> dsimp only <;> omega
  rw [hf];exact ⟨hu,hn⟩
theorem fin_fields {D:DataW Value} {l:Tab} {v:Value} {ps:List MemPlace} {k:Int} {w':World} {base:Nat} (hm:MpD D l) (hall:∀ p∈l,OwnG encI 55 1 base w' p.2.1 p.2.2)
  (ht:match l.find? (fun p=>p.1==k) with | some p=>p.2.2=NM.usd k/\NM.kn k=true | none=>NM.usd k = []/\NM.kn k=false)
  (hv:RV v=some (D.atKey (.int .i64 k) (.held (.slice none 0 0)),ps)):OwnG encI 55 1 base w' v (NM.usd k)/\Maps.has D (.int .i64 k)=NM.kn k:=by
 have ha:=hm.at_ k (.held (.slice none 0 0));have hh:=hm.has k;unfold RV at hv;injection hv with hv
 have hv:=congrArg Prod.fst hv;dsimp only at hv;cases h:l.find? (fun p=>p.1==k) with
 | none=>
  rw [h] at ha hh ht;dsimp only at ha ht;rw [ha] at hv;injection hv with hv
  rw [hv,ht.1,ht.2,hh];exact ⟨OwnG.nil fldE.hl _ _ _,rfl⟩
 | some p=>
  rw [h] at ha hh ht;dsimp only at ha ht;rw [ha] at hv;injection hv with hv
  rw [hv,<- ht.1,ht.2,hh];exact ⟨hall p (List.mem_of_find?_eq_some h),rfl⟩
theorem wpList_insert_ownF {H:Type} {P:Program} (w:World) {ops:Array Oper} {rest:List Oper} {o:Oper} {a:Act} {Q:Exit->Act->World->Prop}
  (hg:o.guard=none) (m x v:Operand) (t:TypeId) (hop:o.op=Op.insert t m x v)
  (k e:TypeId) (K:Maps.Keyed P k) (ht:P.underlying t=some (.map k e)) (R:Value->Option (DataW H×List MemPlace)) (b n:Nat) (D:DataW H)
  (hm:a.eval m = .map (some b)) (hown:w.ownsMap P k R b n D) (hn:n<maxLen) (key val:Value) (kl:Lit) (hx:a.eval x=key) (hv:a.eval v=val) (hkey:keyOf P k key=some kl)
  (d:DataW H) (ps:List MemPlace) (hval:R val=some (d,ps))
  (hK:∀ w',w'.ownsMap P k R b (n+1) (D.put kl d)->w.grownBy w' (some b)->wpList P ops Q rest (a.put o.dst undef) w') :
  wpList P ops Q (o :: rest) a w:=by
 refine wpList_plain hg fun K' hK'=>?_
 obtain ⟨w',hrun,r1,r2⟩:=hown.update K ht hn hkey hval;unfold Oper.wp;simp [execOp,hop,hm,hx,hv,hrun,Result.andThen]
 exact hK' _ _ (hK w' r1 r2)
theorem cFields (k:Int) (w:World) (hk:NM.I64 k) :
  Calls Tryz.prog 19 #[.int .i64 k] w fun e w'=>∃ v,e = .returned (.tuple #[v,.bool (NM.kn k)])/\OwnG encI 55 1 w.heap.size w' v (NM.usd k)/\Below w.heap.size w w':=by
 have HS:=hid (show FS w (w.alloc (.map #[] 0)) w.heap.size 0 (.map []) [] from ⟨World.ownsMap_made (H:=Value) w Tryz.prog 3 RV,MpD.start,(fun _ h=>by cases h),below_fresh w _,Nat.le_refl _⟩);have HK:=hid hk;have hmm:=@run_makeMap Tryz.prog;have tok1:True:=trivial;have tok2:True:=trivial;have tok3:True:=trivial;have tok4:True:=trivial;have tok5:True:=trivial;have tok6:True:=trivial;have tok7:True:=trivial;have tok8:True:=trivial;clear hk;go_enter Tryz.func19,Tryz.ntmps19
 go_wp2_with (first
  | (have _t:=tok1;clear _t tok1;refine wpList_insert_ownF _ rfl _ _ _ 100 rfl 3 50 lawKI Tryz.underlying100 RV w.heap.size _ _ rfl (HS.out.own.alloc _) (by unfold maxLen;decide) _ _ _ rfl rfl (Maps.keyOf_int_mk Tryz.underlying3 (by decide)) _ [] rfl ?_;intro w1 hown hgrow;have HSn:=hid (HS.out.step 1 [0,1,2,7,8] (by unfold maxLen;decide) _ (by first | rfl | simp) hown hgrow);clear hown hgrow HS;have HS:=HSn;clear HSn)
  | (have _t:=tok2;clear _t tok2;refine wpList_insert_ownF _ rfl _ _ _ 100 rfl 3 50 lawKI Tryz.underlying100 RV w.heap.size _ _ rfl (HS.out.own.alloc _) (by unfold maxLen;decide) _ _ _ rfl rfl (Maps.keyOf_int_mk Tryz.underlying3 (by decide)) _ [] rfl ?_;intro w2 hown hgrow;have HSn:=hid (HS.out.step 2 [0,1,7,8,5,4,6] (by unfold maxLen;decide) _ (by first | rfl | simp) hown hgrow);clear hown hgrow HS;have HS:=HSn;clear HSn)
  | (have _t:=tok3;clear _t tok3;refine wpList_insert_ownF _ rfl _ _ _ 100 rfl 3 50 lawKI Tryz.underlying100 RV w.heap.size _ _ rfl (HS.out.own.alloc _) (by unfold maxLen;decide) _ _ _ rfl rfl (Maps.keyOf_int_mk Tryz.underlying3 (by decide)) _ [] rfl ?_;intro w3 hown hgrow;have HSn:=hid (HS.out.step 3 [3] (by unfold maxLen;decide) _ (by first | rfl | simp) hown hgrow);clear hown hgrow HS;have HS:=HSn;clear HSn)
  | (have _t:=tok4;clear _t tok4;refine wpList_insert_ownF _ rfl _ _ _ 100 rfl 3 50 lawKI Tryz.underlying100 RV w.heap.size _ _ rfl (HS.out.own.alloc _) (by unfold maxLen;decide) _ _ _ rfl rfl (Maps.keyOf_int_mk Tryz.underlying3 (by decide)) _ [] rfl ?_;intro w4 hown hgrow;have HSn:=hid (HS.out.step 4 [3,9] (by unfold maxLen;decide) _ (by first | rfl | simp) hown hgrow);clear hown hgrow HS;have HS:=HSn;clear HSn)
  | (have _t:=tok5;clear _t tok5;refine wpList_insert_ownF _ rfl _ _ _ 100 rfl 3 50 lawKI Tryz.underlying100 RV w.heap.size _ _ rfl (HS.out.own.alloc _) (by unfold maxLen;decide) _ _ _ rfl rfl (Maps.keyOf_int_mk Tryz.underlying3 (by decide)) _ [] rfl ?_;intro w5 hown hgrow;have HSn:=hid (HS.out.step 5 [3,8,10,5,4,6] (by unfold maxLen;decide) _ (by first | rfl | simp) hown hgrow);clear hown hgrow HS;have HS:=HSn;clear HSn)
  | (have _t:=tok6;clear _t tok6;refine wpList_insert_ownF _ rfl _ _ _ 100 rfl 3 50 lawKI Tryz.underlying100 RV w.heap.size _ _ rfl (HS.out.own.alloc _) (by unfold maxLen;decide) _ _ _ rfl rfl (Maps.keyOf_int_mk Tryz.underlying3 (by decide)) _ [] rfl ?_;intro w6 hown hgrow;have HSn:=hid (HS.out.step 6 [3] (by unfold maxLen;decide) _ (by first | rfl | simp) hown hgrow);clear hown hgrow HS;have HS:=HSn;clear HSn)
  | (have _t:=tok7;clear _t tok7;refine wpList_insert_ownF _ rfl _ _ _ 100 rfl 3 50 lawKI Tryz.underlying100 RV w.heap.size _ _ rfl (HS.out.own.alloc _) (by unfold maxLen;decide) _ _ _ rfl rfl (Maps.keyOf_int_mk Tryz.underlying3 (by decide)) _ [] rfl ?_;intro w7 hown hgrow;have HSn:=hid (HS.out.step 7 [3] (by unfold maxLen;decide) _ (by first | rfl | simp) hown hgrow);clear hown hgrow HS;have HS:=HSn;clear HSn)
  | (have _t:=tok8;clear _t tok8;refine wpList_insert_ownF _ rfl _ _ _ 100 rfl 3 50 lawKI Tryz.underlying100 RV w.heap.size _ _ rfl (HS.out.own.alloc _) (by unfold maxLen;decide) _ _ _ rfl rfl (Maps.keyOf_int_mk Tryz.underlying3 (by decide)) _ [] rfl ?_;intro w8 hown hgrow;have HSn:=hid (HS.out.step 8 [3] (by unfold maxLen;decide) _ (by first | rfl | simp) hown hgrow);clear hown hgrow HS;have HS:=HSn;clear HSn)
  | (at_lookup;refine wpList_lookup_own_ok _ rfl _ _ 100 rfl 3 50 lawKI Tryz.underlying100 RV (zeroF _) (.held (.slice none 0 0)) [] rfl w.heap.size _ _ rfl HS.out.own _ _ rfl (Maps.keyOf_int_mk Tryz.underlying3 HK.out) ?_;intro v ps hv;have HV:=hid hv;clear hv)
  | go_in)
 have HFIN:=hid (fin_fields HS.out.mp (fun p hp=>(HS.out.all p hp).mono (Nat.le_succ _)) (tab_usd _ _ _ _ _ _ _ _ k) HV.out);have HB:=hid HS.out.below;clear HS hmm HV;go_ret2;exact ⟨v,by rw [<- HFIN.out.2];rfl,HFIN.out.1,HB.out⟩
end
end Go.Proofs.YtahcehbgfhdbjaaGreatDoor

