/-
  NOwn NPk NRt: joined texts, what nothing names left out.
-/
import Derived.Test.YtahcehbgfhdbjaaGreatDoorQMA9
import Derived.Test.YtahcehbgfhdbjaaGreatDoorQMA2
set_option maxHeartbeats 4000000
set_option maxRecDepth 100000
open Go.Lib (hid)
namespace Go.Proofs.YtahcehbgfhdbjaaGreatDoor
open Go.RowKit
open JM (Chg)
open CM (Fp)
open WM (enc dec Bytes)
theorem OwnG.only {α:Type} {enc:α->List Value} {e:TypeId} {size base:Nat} {w w':World} {v:Value} {ys:List α} {g:Nat} (h:OwnG enc e size base w v ys) (ho:Only g w w') (hg:g<base):OwnG enc e size base w' v ys:=by
 refine ⟨⟨h.1.1,?_⟩,h.2⟩;rcases h.1.2 with h6 | ⟨gg,cap,cur',hv,hgg,hh,r⟩
 ·exact .inl h6
 ·exact .inr ⟨gg,cap,cur',hv,hgg,ho.at hh (by omega),r⟩
def OwnR (base:Nat) (w:World) (v:Value) (fs:List Fp):Prop:=∃ qs,OwnQ base w v qs/\TelO base w qs fs
theorem OwnR.rd {base:Nat} {w:World} {v:Value} {fs:List Fp} (h:OwnR base w v fs):RdF w v fs:=by
 obtain ⟨qs,h1,h2⟩:=h;exact ⟨qs,h1.rd,h2.rd⟩
theorem OwnR.mono {base b2:Nat} {w:World} {v:Value} {fs:List Fp} (h:OwnR base w v fs) (hle:b2<=base):OwnR b2 w v fs:=by
 obtain ⟨qs,h1,h2⟩:=h;exact ⟨qs,h1.mono hle,h2.mono hle⟩
theorem OwnR.below {base:Nat} {w w':World} {v:Value} {fs:List Fp} (h:OwnR base w v fs) (hb:Below w.heap.size w w'):OwnR base w' v fs:=by
 obtain ⟨qs,h1,h2⟩:=h;exact ⟨qs,h1.below hb,h2.below hb⟩
theorem TelO.only {base g:Nat} {w w':World} (ho:Only g w w') (hg:g<base):∀ {qs:List Pro} {fs:List Fp},TelO base w qs fs->TelO base w' qs fs
 | [],[],_=>trivial
 | _ :: _,_ :: _,h=>⟨⟨h.1.1,h.1.2.1,OwnG.only h.1.2.2 ho hg⟩,TelO.only ho hg h.2⟩
 | [],_ :: _,h=>h.elim
 | _ :: _,[],h=>h.elim
theorem OwnR.only {base g:Nat} {w w':World} {v:Value} {fs:List Fp} (h:OwnR base w v fs) (ho:Only g w w') (hg:g<base):OwnR base w' v fs:=by
 obtain ⟨qs,h1,h2⟩:=h;exact ⟨qs,OwnG.only h1 ho hg,h2.only ho hg⟩
theorem OwnR.nil (base:Nat) (w:World):OwnR base w (.slice none 0 0) []:=⟨[],OwnG.nil hlQ _ _ _,trivial⟩
theorem OwnR.shape {base:Nat} {w:World} {v:Value} {fs:List Fp} (h:OwnR base w v fs):∃ a c,v = .slice a fs.length c/\c<=9223372036854775807/\fs.length<=c:=h.rd.shape
theorem rDecodeCO (v:Value) (xs:List Int) (w:World) (h:Rd w v xs) :
  Calls Tryz.prog 92 #[v] w fun e w'=>∃ v',e = .returned (.tuple #[v',.int .i64 ((CM.decL xs).2.1:Int),.int .i64 (CM.decL xs).1])/\OwnR w.heap.size w' v' (CM.decL xs).2.2/\Below w.heap.size w w':=by
 obtain ⟨va,vc,rfl,hvc⟩:=h.shape;have hby:=h.bytes;have hU:=rUint (.slice va xs.length vc) xs w h;obtain ⟨R,hR⟩:∃ R,R=CM.decL xs:=⟨_,rfl⟩
 rw [<- hR];have H:=hid h;clear h;rcases CM.dec_num hby with ⟨e,he,hd⟩ | ⟨N,hN,hd,hl⟩
 ·rw [hd] at hU;have HR:=hid (show R=(e,0,[]) by rw [hR,CM.decL,hd,if_pos he]);have hne:(e != 0)=true:=bne_t he;have HU:=hid hU;clear hd hU hR he;go_enter Tryz.func92,Tryz.ntmps92
  go_wp2_with fail
  refine HU.out.mono ?_;rintro e' w1 ⟨rfl,rfl⟩;go_wp2
  go_ret3;exact ⟨_,by rw [HR.out];rfl,by rw [HR.out];exact OwnR.nil _ _,Below.refl _ _⟩
 rw [hd] at hU;have HU:=hid hU;clear hU;by_cases h9:9<N
 ·have HR:=hid (show R=(3,0,[]) by rw [hR,CM.decL,hd,if_neg (by simp),if_pos (by simp only;omega)]);have hq9:(9:Int)<(N:Int):=by omega
  clear hd hR;go_enter Tryz.func92,Tryz.ntmps92
  go_wp2_with fail
  refine HU.out.mono ?_;rintro e' w1 ⟨rfl,rfl⟩;go_wp2
  go_ret3;exact ⟨_,by rw [HR.out];rfl,by rw [HR.out];exact OwnR.nil _ _,Below.refl _ _⟩
 have HR:=hid (show R=CM.finL (CM.rest xs N [] (enc N).length) by rw [hR,CM.decL,hd,if_neg (by simp),if_neg (by simp only;omega)];rfl);have hq9:¬ (9:Int)<(N:Int):=by omega
 generalize (enc N).length=u0 at HU HR hl;have HL:=hid hl;have HBY:=hid hby;clear hd hR hl hN hby;go_enter Tryz.func92,Tryz.ntmps92
 go_wp2_with fail
 refine HU.out.mono ?_;rintro e' w1 ⟨rfl,rfl⟩;clear HU;go_wp2
 go_loopw [6,8,9] (fun us c i wr=>∃ (k uu:Nat) (qs:List Pro) (U:List Fp),k<=N/\i = .int .i64 k/\us = .int .i64 uu/\Hid (uu<=xs.length)/\Hid (U.length<=k)/\Hid (OwnQ w.heap.size wr c qs)/\Hid (TelO w.heap.size wr qs U)/\Hid (Below w.heap.size w wr)/\Hid (R=CM.finL (CM.rest xs (N - k) U uu))) (fun _ _ i _=>N - (intOf i).toNat)
 case atStart=>exact ⟨0,u0,[],[],Nat.zero_le _,rfl,rfl,HL.out,Nat.le_refl _,OwnG.nil hlQ _ _ _,trivial,Below.refl _ _,HR.out⟩
 case round=>
  obtain ⟨k,uu,qs,U,hk,rfl,rfl,huu,hul,ho,ht,hbl,he⟩:=hrel;clear HR HL;obtain ⟨c1,c2,rfl,hc2,_⟩:=ho.out.rd.shape;have HQF:=hid ht.out.rd.len;by_cases hlt:k<N
  ·have hq:(k:Int)<(N:Int):=by omega
   obtain ⟨v2,hcut,hrd⟩:=(H.out.below hbl.out).cutL uu huu.out;have hD:=CO.rDecode v2 _ wr hrd;have hus:=JM.decP_used (xs.drop uu) (fun c hc=>HBY.out c (List.mem_of_mem_drop hc));have hrs:=CM.rest_succ xs (N - (k+1)) U uu;rw [show N - (k+1)+1=N - k by omega] at hrs;have e1:=he.out;rw [hrs] at e1;rw [List.length_drop] at hus;generalize JM.decP (xs.drop uu)=d at hD hus e1;obtain ⟨er,used,a,n,cs⟩:=d;simp only at hD hus e1;have HD:=hid hD;have HUS:=hid hus;have hxl:xs.length<=9223372036854775807:=by
    obtain ⟨_,n',_,hv,h1,h2,h3,_⟩:=H.out;unfold maxLen at h3;omega
   have hw1:(uu:Int)+(used:Int)<=9223372036854775807:=by have:=huu.out;omega
   clear he hrs hD hus hrd;by_cases hE:er=0
   ·subst hE;have E1:=hid (show R=CM.finL (CM.rest xs (N - (k+1)) (U ++ [(a,n,cs)]) (uu+used)) by rw [e1,if_neg (by simp)]);clear e1;go_wp2_with fail
    refine HD.out.mono ?_;rintro e w2 ⟨sv,rfl,hos,hb2⟩;obtain ⟨sa,sc,rfl,_,_⟩:=hos.rd.shape;have hbx:=below_fresh w2 (.cells #[.int .i64 a,.int .i64 n,.slice sa cs.length sc] 93);have hpx:=PBox.fresh w2 a n (.slice sa cs.length sc);have HWS:=hid (World.size_alloc w2 (.cells #[.int .i64 a,.int .i64 n,.slice sa cs.length sc] 93));have hox:=(ho.out.below hb2).below hbx;have HTX:=hid (TelO.snoc (f:=(a,n,cs)) (q:=(a,n,sa,cs.length,sc)) ⟨rfl,rfl,(OwnG.below (OwnG.mono hos hbl.out.size) hbx)⟩ ((ht.out.below hb2).below hbx));have HBX:=hid (bnext (bnext hbl.out hb2) hbx);have hsx:=HBX.out.size;have hlq:qs.length<=1073741824:=by have:=hul.out;have:=HQF.out;omega
    have HUL:=hid (show (U ++ [(a,n,cs)]).length<=k+1 by rw [List.length_append];have:=hul.out;simp;omega);have HUU:=hid (show uu+used<=xs.length by have:=HUS.out;have:=huu.out;omega);clear hbx hpx hos hb2 ho ht hbl HD HUS hul;go_wp2_with (at_builtin;refine wp_appG1' proE (a,n,sa,cs.length,sc) _ HWS.out rfl _ _ rfl rfl hox rfl hlq hsx ?_)
    intro v3 w3 ho3 hb3 hk3;have HO3:=hid ho3;have HB3:=hid (HBX.out.trans hb3);have HT3:=hid (HTX.out.keep hk3);clear ho3 hb3 hk3 hox HTX HBX hsx hlq HWS;go_wp2
    go_roundw
    case rel=>exact ⟨k+1,uu+used,_,_,by omega,by go_num,by go_num,HUU,HUL,HO3,HT3,HB3,E1⟩
    case measure=>simp [intOf];omega
   ·have E1:=hid (show R=(er,0,[]) by rw [e1,if_pos hE,CM.finL,if_pos hE]);have hne:(er != 0)=true:=bne_t hE;clear e1 hE;go_wp2_with fail
    refine HD.out.mono ?_;rintro e w2 ⟨sv,rfl,hos,hb2⟩;obtain ⟨sa,sc,rfl,_,_⟩:=hos.rd.shape;have HB2:=hid (bnext (bnext hbl.out hb2) (below_fresh w2 (.cells #[.int .i64 a,.int .i64 n,.slice sa cs.length sc] 93)));clear hos hb2 HD ho ht hbl;go_wp2
    go_ret3;exact ⟨_,by rw [E1.out];rfl,by rw [E1.out];exact OwnR.nil _ _,HB2.out⟩
  ·have hq:¬ ((k:Int)<(N:Int)):=by omega
   obtain rfl:k=N:=by omega
   have e1:R=CM.finL (0,uu,U):=by rw [he.out,Nat.sub_self,CM.rest]
   have e2:R=if CM.errL (0,0) U≠0 then (CM.errL (0,0) U,0,[]) else (0,uu,U):=by rw [e1,CM.finL,if_neg (by simp)]
   have HF:=hid (show OwnR w.heap.size wr (.slice c1 qs.length c2) U from ⟨qs,ho.out,ht.out⟩);have hV:=rValidateC _ U wr HF.out.rd;generalize CM.errL (0,0) U=E at hV e2;have HV:=hid hV;clear he e1 hV ho ht;by_cases hE:E=0
   ·subst hE;have E1:=hid (show R=(0,uu,U) by rw [e2,if_neg (by simp)]);clear e2;go_wp2_with fail
    refine HV.out.mono ?_;rintro e w2 ⟨rfl,hb2⟩;have HB2:=hid (bnext hbl.out hb2);have HF2:=hid (HF.out.below hb2);clear HV HF hb2 hbl;go_wp2
    go_ret3;exact ⟨_,by rw [E1.out];rfl,by rw [E1.out];exact HF2.out,HB2.out⟩
   ·have E1:=hid (show R=(E,0,[]) by rw [e2,if_pos hE]);have hne:(E != 0)=true:=bne_t hE;clear e2 hE;go_wp2_with fail
    refine HV.out.mono ?_;rintro e w2 ⟨rfl,hb2⟩;have HB2:=hid (bnext hbl.out hb2);clear HV HF hb2 hbl;go_wp2
    go_ret3;exact ⟨_,by rw [E1.out];rfl,by rw [E1.out];exact OwnR.nil _ _,HB2.out⟩
theorem rDecodeCertO (v:Value) (xs:List Int) (w:World) (h:Rd w v xs) :
  Calls Tryz.prog 95 #[v] w fun e w'=>∃ a b,e = .returned (.tuple #[cev a b,.int .i64 ((CM.decC xs).2.1:Int),.int .i64 (CM.decC xs).1])/\OwnR w.heap.size w' a (CM.decC xs).2.2.1/\OwnR w.heap.size w' b (CM.decC xs).2.2.2/\Below w.heap.size w w':=by
 have hby:=h.bytes;have hxl:=rd_len64 h;obtain ⟨R,hR⟩:∃ R,R=CM.decC xs:=⟨_,rfl⟩
 rw [<- hR];unfold CM.decC at hR;have hu1:=CM.decL_used hby;have hs0:=World.size_alloc w (.cells #[.slice none 0 0,.slice none 0 0] 27);have hb0:=below_fresh w (.cells #[.slice none 0 0,.slice none 0 0] 27);have hP0:=XB.fresh w (.slice none 0 0) (.slice none 0 0);obtain ⟨w0,hw0⟩:∃ w0,w.alloc (.cells #[.slice none 0 0,.slice none 0 0] 27)=w0:=⟨_,rfl⟩
 rw [hw0] at hb0 hP0 hs0;have h1:=rDecodeCO v xs w0 (h.below hb0);generalize CM.decL xs=D at hR h1 hu1;obtain ⟨e1,u1,f⟩:=D;dsimp only at hR h1 hu1;have hu2:=CM.decL_used (xs:=xs.drop u1) (fun c hc=>hby c (List.mem_of_mem_drop hc));rw [List.length_drop] at hu2;have H2:=hid (fun v' w' (hr:Rd w' v' (xs.drop u1))=>rDecodeCO v' (xs.drop u1) w' hr);generalize CM.decL (xs.drop u1)=D at hR H2 hu2;obtain ⟨e2,u2,t⟩:=D;dsimp only at hR H2 hu2;have H1:=hid h1;have HV:=hid h;have HR:=hid hR;have HB0:=hid hb0;have HP0:=hid hP0;have HW:=hid hw0;have HU:=hid (And.intro hu1 (And.intro hu2 hxl));obtain ⟨av,cv',rfl,_⟩:=h.shape;clear h hby hxl hR hb0 hP0 hw0 h1 hu1 hu2;go_enter Tryz.func95,Tryz.ntmps95
 go_wp2_with fail
 rw [HW.out];refine H1.out.mono ?_;rintro e w1 ⟨v1,rfl,hr1,hb1⟩;have HS1:=hid (show w.heap.size<w1.heap.size by have:=hb1.size;omega);have HS0:=hid hs0;clear hs0;have HP1:=hid (HP0.out.below hb1);have HB1:=hid (bnext HB0.out hb1);have HF1:=hid hr1;have HV1:=hid (HV.out.below HB1.out);obtain ⟨fa,fc,rfl,_,_⟩:=hr1.shape;clear hr1 hb1 H1 HP0 HB0 HW HV;by_cases h1:e1=0
 case neg=>
  have HFIN:=hid (show R=(e1,0,[],[]) by rw [HR.out,if_pos h1]);have hne:(e1 != 0)=true:=bne_t h1;obtain ⟨o0,o1,g0,g1⟩:=HP1.out.cells;clear h1 HR H2;go_wp2
  refine certRet3 rfl rfl rfl rfl (HP1.out.put (.slice none 0 0) (.slice none 0 0)) rfl ⟨.slice none 0 0,.slice none 0 0,?_,?_,?_,?_⟩
  ·rw [HFIN.out];rfl
  ·rw [HFIN.out];exact OwnR.nil _ _
  ·rw [HFIN.out];exact OwnR.nil _ _
  ·exact seen HB1.out (Nat.le_refl _) (only2 _ _)
 subst h1;have hu1:=HU.out.1;obtain ⟨v2,hcut,hrd⟩:=HV1.out.cutL u1 hu1;have HC2:=hid (H2.out v2 w1 hrd);clear hu1 hrd H2;go_wp2_with fail
 refine HC2.out.mono ?_;rintro e w2 ⟨v3,rfl,hr2,hb2⟩;have HP2:=hid (HP1.out.below hb2);have HB2:=hid (bnext HB1.out hb2);have HF2:=hid (HF1.out.below hb2);have HT2:=hid hr2;obtain ⟨ta,tc,rfl,_,_⟩:=hr2.shape;clear hr2 hb2 HC2 HP1 HB1 HF1 HV1 hcut;by_cases h2:e2=0
 case neg=>
  have HFIN:=hid (show R=(e2,0,[],[]) by rw [HR.out,if_neg (by simp),if_pos h2]);have hne:(e2 != 0)=true:=bne_t h2;obtain ⟨o0,o1,g0,g1⟩:=HP2.out.cells;clear h2 HR;go_wp2
  refine certRet3 rfl rfl rfl rfl (HP2.out.put (.slice none 0 0) (.slice none 0 0)) rfl ⟨.slice none 0 0,.slice none 0 0,?_,?_,?_,?_⟩
  ·rw [HFIN.out];rfl
  ·rw [HFIN.out];exact OwnR.nil _ _
  ·rw [HFIN.out];exact OwnR.nil _ _
  ·exact seen HB2.out (Nat.le_refl _) (only2 _ _)
 subst h2;have hb4:=below_fresh w2 (.cells #[.slice fa f.length fc,.slice ta t.length tc] 27);have hX4:=XB.fresh w2 (.slice fa f.length fc) (.slice ta t.length tc);obtain ⟨w4,hw4⟩:∃ w4,w2.alloc (.cells #[.slice fa f.length fc,.slice ta t.length tc] 27)=w4:=⟨_,rfl⟩
 rw [hw4] at hX4 hb4;have HX4:=hid hX4;have HP4:=hid (HP2.out.below hb4);have HB4:=hid (bnext HB2.out hb4);have HF4:=hid (HF2.out.below hb4);have HT4:=hid (HT2.out.below hb4);have HW4:=hid hw4;have hv:=rValidateCert _ _ f t w4 HF4.out.rd HT4.out.rd;clear hX4 hb4 HP2 HB2 HF2 HT2 hw4;generalize CM.errC f t=E at hv HR;have HVC:=hid hv;clear hv;go_upto_region 8 with fail
 rw [HW4.out];obtain ⟨y0,y1,_,_⟩:=HX4.out.cells;clear HW4;go_wp2_with fail
 refine HVC.out.mono ?_;rintro e w5 ⟨rfl,hb5⟩;have HX5:=hid (HX4.out.below hb5);have HP5:=hid (HP4.out.below hb5);have HB5:=hid (bnext HB4.out hb5);have HF5:=hid (HF4.out.below hb5);have HT5:=hid (HT4.out.below hb5);clear hb5 HX4 HP4 HB4 HF4 HT4 HVC y0 y1;obtain ⟨o0,o1,g0,g1⟩:=HP5.out.cells;by_cases h3:E=0
 case neg=>
  have HFIN:=hid (show R=(E,0,[],[]) by rw [HR.out,if_neg (by simp),if_neg (by simp),if_pos h3]);have hne:(E != 0)=true:=bne_t h3;clear h3 HR;go_wp2
  refine certRet3 rfl rfl rfl rfl (HP5.out.put (.slice none 0 0) (.slice none 0 0)) rfl ⟨.slice none 0 0,.slice none 0 0,?_,?_,?_,?_⟩
  ·rw [HFIN.out];rfl
  ·rw [HFIN.out];exact OwnR.nil _ _
  ·rw [HFIN.out];exact OwnR.nil _ _
  ·exact seen HB5.out (Nat.le_refl _) (only2 _ _)
 subst h3;have HSZ:=hid (show w.heap.size<w0.heap.size/\w.heap.size<w1.heap.size from ⟨by have:=HS0.out;omega,HS1.out⟩);have HFIN:=hid (show R=(0,u1+u2,f,t) by rw [HR.out,if_neg (by simp),if_neg (by simp),if_neg (by simp)]);obtain ⟨y0,y1,_,_⟩:=HX5.out.cells;have hsum:(u1:Int)+(u2:Int)<=9223372036854775807:=by have:=HU.out;omega
 clear HR;go_wp2
 refine certRet3 rfl rfl rfl rfl (HP5.out.put (.slice fa f.length fc) (.slice ta t.length tc)) rfl ⟨.slice fa f.length fc,.slice ta t.length tc,?_,?_,?_,?_⟩
 ·rw [HFIN.out];simp
 ·rw [HFIN.out];exact (HF5.out.only (only2 _ _) HSZ.out.1).mono (Nat.le_of_lt HSZ.out.1)
 ·rw [HFIN.out];exact (HT5.out.only (only2 _ _) HSZ.out.2).mono (Nat.le_of_lt HSZ.out.2)
 ·exact seen HB5.out (Nat.le_refl _) (only2 _ _)
end Go.Proofs.YtahcehbgfhdbjaaGreatDoor
namespace Go.Proofs.YtahcehbgfhdbjaaGreatDoor.ST
open Go.RowKit Go.Joins
open UM (Ef)
open SM (Fp)
open WM (enc dec Bytes)
def OwnR (base:Nat) (w:World) (v:Value) (fs:List Fp):Prop:=∃ qs,OwnUp base w v qs/\TelO base w qs fs
theorem OwnR.rd {base:Nat} {w:World} {v:Value} {fs:List Fp} (h:OwnR base w v fs):RdF w v fs:=by
 obtain ⟨qs,h1,h2⟩:=h;exact ⟨qs,h1.rd,h2.rd⟩
theorem OwnR.below {base:Nat} {w w':World} {v:Value} {fs:List Fp} (h:OwnR base w v fs) (hb:Below w.heap.size w w'):OwnR base w' v fs:=by
 obtain ⟨qs,h1,h2⟩:=h;exact ⟨qs,h1.below hb,h2.below hb⟩
theorem TelO.only {base g:Nat} {w w':World} (ho:Only g w w') (hg:g<base):∀ {qs:List Up} {fs:List Fp},TelO base w qs fs->TelO base w' qs fs
 | [],[],_=>trivial
 | _ :: _,_ :: _,h=>⟨⟨h.1.1,h.1.2.1,h.1.2.2.1,OwnG.only h.1.2.2.2 ho hg⟩,TelO.only ho hg h.2⟩
 | [],_ :: _,h=>h.elim
 | _ :: _,[],h=>h.elim
theorem OwnR.only {base g:Nat} {w w':World} {v:Value} {fs:List Fp} (h:OwnR base w v fs) (ho:Only g w w') (hg:g<base):OwnR base w' v fs:=by
 obtain ⟨qs,h1,h2⟩:=h;exact ⟨qs,OwnG.only h1 ho hg,TelO.only ho hg h2⟩
theorem OwnR.nil (base:Nat) (w:World):OwnR base w (.slice none 0 0) []:=⟨[],OwnG.nil hlUp _ _ _,trivial⟩
theorem rUpdatesO (v:Value) (xs:List Int) (w:World) (h:Rd w v xs) (N u0:Nat) (hN:N<=48) (hl:u0<=xs.length) (hd:dec 0 0 xs=((N:Int),(u0:Int),0)) :
  Calls Tryz.prog 93 #[v] w fun e w'=>∃ v',e = .returned (.tuple #[v',.int .i64 ((SM.rest xs N [] u0).2.1:Int),.int .i64 (SM.rest xs N [] u0).1])/\OwnR w.heap.size w' v' (SM.rest xs N [] u0).2.2/\Below w.heap.size w w':=by
 obtain ⟨va,vc,rfl,hvc⟩:=h.shape;have hby:=h.bytes;have hU:=rNumber (.slice va xs.length vc) xs w h;have hn31:¬ (2147483647:Int)<(N:Int):=by omega
 rw [show JM.num xs=((N:Int),(u0:Int),0) by unfold JM.num;rw [hd];simp [hn31]] at hU;obtain ⟨R,hR⟩:∃ R,R=SM.rest xs N [] u0:=⟨_,rfl⟩
 rw [<- hR];have H:=hid h;have HU:=hid hU;have HR:=hid hR;have hq9:¬ (48:Int)<(N:Int):=by omega
 have HL:=hid hl;have HBY:=hid hby;clear hd hR hl hN hby hU h hn31;go_enter Tryz.func93,Tryz.ntmps93
 go_wp2_with fail
 refine HU.out.mono ?_;rintro e' w1 ⟨rfl,rfl⟩;clear HU;go_wp2
 go_loopw [6,8,9] (fun us c i wr=>∃ (k uu:Nat) (qs:List Up) (U:List Fp),k<=N/\i = .int .i64 k/\us = .int .i64 uu/\Hid (uu<=xs.length)/\Hid (U.length<=k)/\Hid (OwnUp w.heap.size wr c qs)/\Hid (TelO w.heap.size wr qs U)/\Hid (Below w.heap.size w wr)/\Hid (R=SM.rest xs (N - k) U uu)) (fun _ _ i _=>N - (intOf i).toNat)
 case atStart=>exact ⟨0,u0,[],[],Nat.zero_le _,rfl,rfl,HL.out,Nat.le_refl _,OwnG.nil hlUp _ _ _,trivial,Below.refl _ _,HR.out⟩
 case round=>
  obtain ⟨k,uu,qs,U,hk,rfl,rfl,huu,hul,ho,ht,hbl,he⟩:=hrel;clear HR HL;obtain ⟨c1,c2,rfl,hc2,_⟩:=ho.out.rd.shape;have HQF:=hid ht.out.rd.len;by_cases hlt:k<N
  ·have hq:(k:Int)<(N:Int):=by omega
   obtain ⟨v2,hcut,hrd⟩:=(H.out.below hbl.out).cutL uu huu.out;have hD:=rDecodeUO v2 _ wr hrd;have hus:=UM.decU_used (xs:=xs.drop uu) (fun c hc=>HBY.out c (List.mem_of_mem_drop hc));have hrs:=SM.rest_succ xs (N - (k+1)) U uu;rw [show N - (k+1)+1=N - k by omega] at hrs;have e1:=he.out;rw [hrs] at e1;rw [List.length_drop] at hus;generalize UM.decU (xs.drop uu)=d at hD hus e1;obtain ⟨er,used,⟨a,n,t⟩,cs⟩:=d;simp only at hD hus e1;have HD:=hid hD;have HUS:=hid hus;have hxl:xs.length<=9223372036854775807:=by
    obtain ⟨_,n',_,hv,h1,h2,h3,_⟩:=H.out;unfold maxLen at h3;omega
   have hw1:(uu:Int)+(used:Int)<=9223372036854775807:=by have:=huu.out;omega
   clear he hrs hD hus hrd;by_cases hE:er=0
   ·subst hE;have E1:=hid (show R=SM.rest xs (N - (k+1)) (U ++ [(a,n,t,cs)]) (uu+used) by rw [e1,if_neg (by simp)]);clear e1;go_wp2_with fail
    refine HD.out.mono ?_;rintro e w2 ⟨sv,rfl,hos,hb2⟩;obtain ⟨sa,sc,rfl,_,_⟩:=hos.rd.shape;have hbx:=below_fresh w2 (.cells #[.int .i64 a,.int .i64 n,.int .i64 t,.slice sa cs.length sc] 96);have HWS:=hid (World.size_alloc w2 (.cells #[.int .i64 a,.int .i64 n,.int .i64 t,.slice sa cs.length sc] 96));have hox:=(ho.out.below hb2).below hbx;have HTX:=hid (TelO.snoc (f:=(a,n,t,cs)) (q:=(a,n,t,sa,cs.length,sc)) ⟨rfl,rfl,rfl,(OwnG.below (OwnG.mono hos hbl.out.size) hbx)⟩ ((ht.out.below hb2).below hbx));have HBX:=hid (bnext (bnext hbl.out hb2) hbx);have hsx:=HBX.out.size;have hlq:qs.length<=1073741824:=by have:=hul.out;have:=HQF.out;omega
    have HUL:=hid (show (U ++ [(a,n,t,cs)]).length<=k+1 by rw [List.length_append];have:=hul.out;simp;omega);have HUU:=hid (show uu+used<=xs.length by have:=HUS.out;have:=huu.out;omega);clear hbx hos hb2 ho ht hbl HD HUS hul;go_wp2_with (at_builtin;refine wp_appG1' upE (a,n,t,sa,cs.length,sc) _ HWS.out rfl _ _ rfl rfl hox rfl hlq hsx ?_)
    intro v3 w3 ho3 hb3 hk3;have HO3:=hid ho3;have HB3:=hid (HBX.out.trans hb3);have HT3:=hid (HTX.out.keep hk3);clear ho3 hb3 hk3 hox HTX HBX hsx hlq HWS;go_wp2
    go_roundw
    case rel=>exact ⟨k+1,uu+used,_,_,by omega,by go_num,by go_num,HUU,HUL,HO3,HT3,HB3,E1⟩
    case measure=>simp [intOf];omega
   ·have E1:=hid (show R=(er,0,[]) by rw [e1,if_pos hE]);have hne:(er != 0)=true:=bne_t hE;clear e1 hE;go_wp2_with fail
    refine HD.out.mono ?_;rintro e w2 ⟨sv,rfl,hos,hb2⟩;obtain ⟨sa,sc,rfl,_,_⟩:=hos.rd.shape;have HB2:=hid (bnext (bnext hbl.out hb2) (below_fresh w2 (.cells #[.int .i64 a,.int .i64 n,.int .i64 t,.slice sa cs.length sc] 96)));clear hos hb2 HD ho ht hbl;go_wp2
    go_ret3;exact ⟨_,by rw [E1.out];rfl,by rw [E1.out];exact OwnR.nil _ _,HB2.out⟩
  ·have hq:¬ ((k:Int)<(N:Int)):=by omega
   obtain rfl:k=N:=by omega
   have E1:=hid (show R=(0,uu,U) by rw [he.out,Nat.sub_self,SM.rest]);have HF:=hid (show OwnR w.heap.size wr (.slice c1 qs.length c2) U from ⟨qs,ho.out,ht.out⟩);clear he ho ht;go_wp2
   go_ret3;exact ⟨_,by rw [E1.out];rfl,by rw [E1.out];exact HF.out,hbl.out⟩
theorem rUpdO (v:Value) (xs:List Int) (w:World) (h:Rd w v xs) :
  Calls Tryz.prog 93 #[v] w fun e w'=>∃ v',e = .returned (.tuple #[v',.int .i64 ((NM.upd xs).2.1:Int),.int .i64 (NM.upd xs).1])/\OwnR w.heap.size w' v' (NM.upd xs).2.2/\Below w.heap.size w w':=by
 rcases JM.num_two xs h.bytes with ⟨e,he,hd⟩ | ⟨m,hm,hd,hl⟩
 ·have hu:NM.upd xs=(e,0,[]):=by
   unfold NM.upd;rw [hd,if_pos (by show e≠0;omega)]
  rw [hu];refine (rUpdN v xs w h e (by omega) hd).mono ?_;rintro e' w' ⟨rfl,rfl⟩;exact ⟨_,rfl,OwnR.nil _ _,Below.refl _ _⟩
 ·by_cases h48:48<(m:Int)
  ·have hu:NM.upd xs=(3,0,[]):=by
    unfold NM.upd;rw [hd,if_neg (by simp),if_pos h48]
   rw [hu];refine (rUpd3 v xs w h m _ h48 hd).mono ?_;rintro e' w' ⟨rfl,rfl⟩;exact ⟨_,rfl,OwnR.nil _ _,Below.refl _ _⟩
  ·have hu:NM.upd xs=SM.rest xs m [] (enc m).length:=by
    unfold NM.upd;rw [hd,if_neg (by simp),if_neg h48];simp only [Int.toNat_natCast]
   rw [hu];refine rUpdatesO v xs w h m (enc m).length (by omega) hl ?_;unfold JM.num at hd;split at hd
   ·rename_i h1
    have h2:=congrArg (fun p=>p.2.2) hd;simp only at h2;exact absurd h2 h1
   ·split at hd
    ·have h2:=congrArg (fun p=>p.2.2) hd;simp at h2
    ·exact hd
end Go.Proofs.YtahcehbgfhdbjaaGreatDoor.ST
namespace Go.Proofs.YtahcehbgfhdbjaaGreatDoor
open Go.RowKit
open JM (Chg)
open CM (Fp)
open WM (enc dec Bytes)
theorem sDecodeO (v:Value) (xs:List Int) (w:World) (h:Rd w v xs) :
  Calls Tryz.prog 128 #[(.agg #[.func (.func 141) #[] #[],.func (.func 142) #[] #[],.func (.func 143) #[] #[],.func (.func 138) #[] #[],.func (.func 113) #[] #[],.func (.func 144) #[] #[],.func (.func 145) #[] #[],.func (.func 146) #[] #[],.int .i64 9]),v] w fun e w'=>∃ v',e = .returned (.tuple #[v',.int .i64 ((CM.decL xs).2.1:Int),.int .i64 (CM.decL xs).1])/\OwnR w.heap.size w' v' (CM.decL xs).2.2/\Below w.heap.size w w':=by
 obtain ⟨va,vc,rfl,hvc⟩:=h.shape;have hby:=h.bytes;obtain ⟨w0,HX⟩:=kone w;have HW:=hid HX.eq;have HB0:=hid HX.below;have HK0:=hid HX.k;obtain ⟨K,hK⟩:∃ K,w.heap.size=K:=⟨_,rfl⟩
 rw [hK] at HK0;have HKE:=hid hK;have hU:=wUint (.slice va xs.length vc) xs w0 (h.below HX.below);obtain ⟨R,hR⟩:∃ R,R=CM.decL xs:=⟨_,rfl⟩
 rw [<- hR];have H:=hid h;clear h HX hK;rcases CM.dec_num hby with ⟨e,he,hd⟩ | ⟨N,hN,hd,hl⟩
 ·rw [hd] at hU;have HR:=hid (show R=(e,0,[]) by rw [hR,CM.decL,hd,if_pos he]);have hne:(e != 0)=true:=bne_t he;have HU:=hid hU;clear hd hU hR he;go_enter Tryz.func128,Tryz.ntmps128
  go_upto_region 1 with fail
  rw [HW.out,HKE.out];go_wp2_with fail
  refine HU.out.mono ?_;rintro e' w1 ⟨rfl,rfl⟩;go_wp2
  go_ret3;exact ⟨_,by rw [HR.out];rfl,by rw [HR.out];exact OwnR.nil _ _,HB0.out⟩
 rw [hd] at hU;have HU:=hid hU;clear hU;obtain ⟨_,_,_,_,_,_,_,_,k8⟩:=HK0.out.cells;by_cases h9:9<N
 ·have HR:=hid (show R=(3,0,[]) by rw [hR,CM.decL,hd,if_neg (by simp),if_pos (by simp only;omega)]);have hq9:(9:Int)<(N:Int):=by omega
  clear hd hR;go_enter Tryz.func128,Tryz.ntmps128
  go_upto_region 1 with fail
  rw [HW.out,HKE.out];go_wp2_with fail
  refine HU.out.mono ?_;rintro e' w1 ⟨rfl,rfl⟩;go_wp2
  go_ret3;exact ⟨_,by rw [HR.out];rfl,by rw [HR.out];exact OwnR.nil _ _,HB0.out⟩
 have HR:=hid (show R=CM.finL (CM.rest xs N [] (enc N).length) by rw [hR,CM.decL,hd,if_neg (by simp),if_neg (by simp only;omega)];rfl);have hq9:¬ (9:Int)<(N:Int):=by omega
 generalize (enc N).length=u0 at HU HR hl;have HL:=hid hl;have HBY:=hid hby;clear hd hR hl hN hby;go_enter Tryz.func128,Tryz.ntmps128
 go_upto_region 1 with fail
 rw [HW.out,HKE.out];go_wp2_with fail
 refine HU.out.mono ?_;rintro e' w1 ⟨rfl,rfl⟩;clear HU;go_wp2
 clear k8;go_loopw [8,10,30] (fun us c i wr=>∃ (k uu:Nat) (qs:List Pro) (U:List Fp),k<=N/\i = .int .u64 k/\us = .int .i64 uu/\Hid (uu<=xs.length)/\Hid (U.length<=k)/\Hid (OwnQ w.heap.size wr c qs)/\Hid (TelO w.heap.size wr qs U)/\Hid (KB wr K)/\Hid (Below w.heap.size w wr)/\Hid (R=CM.finL (CM.rest xs (N - k) U uu))) (fun _ _ i _=>N - (intOf i).toNat)
 case atStart=>exact ⟨0,u0,[],[],Nat.zero_le _,rfl,rfl,HL.out,Nat.le_refl _,OwnG.nil hlQ _ _ _,trivial,HK0.out,HB0.out,HR.out⟩
 case round=>
  obtain ⟨k,uu,qs,U,hk,rfl,rfl,huu,hul,ho,ht,hkb,hbl,he⟩:=hrel;clear HR HL HB0 HK0;obtain ⟨c1,c2,rfl,hc2,_⟩:=ho.out.rd.shape;have HQF:=hid ht.out.rd.len;by_cases hlt:k<N
  ·have hq:(k:Int)<(N:Int):=by omega
   obtain ⟨v2,hcut,hrd⟩:=(H.out.below hbl.out).cutL uu huu.out;have hus:=JM.decP_used (xs.drop uu) (fun c hc=>HBY.out c (List.mem_of_mem_drop hc));have hrs:=CM.rest_succ xs (N - (k+1)) U uu;rw [show N - (k+1)+1=N - k by omega] at hrs;have e1:=he.out;rw [hrs] at e1;rw [List.length_drop] at hus;have hD:=fun w' (hb:Below wr.heap.size wr w')=>CO.cDecode v2 _ w' (hrd.below hb)
   generalize JM.decP (xs.drop uu)=d at hD hus e1;obtain ⟨er,used,a,n,cs⟩:=d;simp only at hD hus e1;have HD:=hid hD;have HUS:=hid hus;have hxl:xs.length<=9223372036854775807:=by
    obtain ⟨_,n',_,hv,h1,h2,h3,_⟩:=H.out;unfold maxLen at h3;omega
   have hw1:(uu:Int)+(used:Int)<=9223372036854775807:=by have:=huu.out;omega
   have HE1:=hid e1;obtain ⟨a2,l2,c2',rfl⟩:∃ a l c,v2 = .slice a l c:=by obtain ⟨a,c,h,_⟩:=hrd.shape;exact ⟨a,_,c,h⟩
   have HO0:=hid (fun w' (hb:Below wr.heap.size wr w')=>ho.out.below hb);have HT0:=hid (fun w' (hb:Below wr.heap.size wr w')=>ht.out.below hb);have hsl:=hbl.out.size;clear he hrs hD hus hrd e1 ho ht;go_wp2
   refine wp_region_held_drew (S:=fun w'=>Below wr.heap.size wr w') (by kernel_rfl) ((Below.refl _ _).drew) (fun ha=>?_);replace ha:Below wr.heap.size wr wr.drew:=(Below.refl _ _).drew;generalize wr.drew=wa at ha ⊢;refine takeJ 0 ?_;refine takeG 1 (v:=?_) ?_ ?_;rotate_left
   ·(intro w hSw;(try dsimp only at hSw);obtain ⟨_,_,_,_,_,_,_,q7,_⟩:=(hkb.out.below hSw).cells;go_simp;first | done | with_reducible rfl)
   (try simp only [Act.put,lTA,lZ,lS]);refine takeJ 2 ?_;refine takeJ 3 ?_;refine takeJ 4 ?_;refine wpAnyH_ready (rs:=[5,10]) (by kernel_rfl) (by simp) ?_;refine stepH rfl (fun K hK=>?_) (stepH rfl (fun K hK=>?_) AllReadyH.nil);focus
    go_simp
    refine (HD.out wa ha).mono ?_;rintro e wb ⟨sv,rfl,hos,hq⟩;have hb:=bnext ha hq;go_wp2_with fail
    refine hK.out _ _ (hb) (fun _=>?_);clear hK K;(try simp only [Act.put,lTA,lZ,lS]);refine takeJ 6 ?_;refine takeJ 7 ?_;refine takeJ 8 ?_;refine takeJ 9 ?_;refine wpAnyH_ready (rs:=[10]) (by kernel_rfl) (by simp) ?_;refine stepH rfl (fun K hK=>?_) AllReadyH.nil;go_simp
    have hc:=bnext hb (below_fresh _ (.cells #[.int .i64 0,.int .i64 0,.slice none 0 0] 93));have hz:=OP.fresh wb 0 0 (.slice none 0 0);have hos:=(hos.mono ha.size).below (below_fresh wb (.cells #[.int .i64 0,.int .i64 0,.slice none 0 0] 93));refine hK.out _ _ (hc) (fun _=>?_);clear hK K;(try simp only [Act.put,lTA,lZ,lS]);obtain ⟨wc ,hwc ⟩:∃ wc ,(wb).alloc (.cells #[.int .i64 0,.int .i64 0,.slice none 0 0] 93)=wc :=⟨_,rfl⟩
    rw [hwc ] at hc hz hos ⊢;clear hwc;have hgl:=hb.size;generalize wb.heap.size=g at hz hgl ⊢;clear hq hb
   rotate_left;focus
    go_simp
    have hb:=bnext ha (below_fresh _ (.cells #[.int .i64 0,.int .i64 0,.slice none 0 0] 93));have hz:=OP.fresh wa 0 0 (.slice none 0 0);refine hK.out _ _ (hb) (fun _=>?_);clear hK K;(try simp only [Act.put,lTA,lZ,lS]);obtain ⟨wb ,hwb ⟩:∃ wb ,(wa).alloc (.cells #[.int .i64 0,.int .i64 0,.slice none 0 0] 93)=wb :=⟨_,rfl⟩
    rw [hwb ] at hb hz ⊢;clear hwb;have hgl:=ha.size;refine wpAnyH_ready (rs:=[5]) (by kernel_rfl) (by simp) ?_;refine stepH rfl (fun K hK=>?_) AllReadyH.nil;go_simp
    refine (HD.out wb hb).mono ?_;rintro e wc ⟨sv,rfl,hos,hq⟩;have hc:=bnext hb hq;go_wp2_with fail
    refine hK.out _ _ (hc) (fun _=>?_);clear hK K;(try simp only [Act.put,lTA,lZ,lS]);refine takeJ 6 ?_;refine takeJ 7 ?_;refine takeJ 8 ?_;refine takeJ 9 ?_;replace hz:=hz.below hq;replace hos:=hos.mono hb.size;generalize wa.heap.size=g at hz hgl ⊢;clear hq hb
   all_goals
    obtain ⟨sa,sc,rfl,_,_⟩:=hos.rd.shape;obtain ⟨z0,z1,z2,f0,f1,f2⟩:=hz.cells;have hon:=only3 (w:=wc) (B:=g) (.int .i64 a) (.int .i64 n) (.slice sa cs.length sc);have hd:=hc.trans (hon.below hgl hc.size);have hox:=hz.put3 a n (.slice sa cs.length sc);have hosx:=ownC_only hos hz (by decide) hon;refine wpAnyH_ready (rs:=[11]) (by kernel_rfl) (by simp) ?_;refine stepH rfl (fun K hK=>?_) AllReadyH.nil;go_simp
    skip
    refine hK.out _ _ (hd) (fun _=>?_);clear hK K;(try simp only [Act.put,lTA,lZ,lS]);generalize ((wc.setCell ⟨g,0,none⟩ (.int .i64 a)).setCell ⟨g,1,none⟩ (.int .i64 n)).setCell ⟨g,2,none⟩ (.slice sa cs.length sc)=wd at hd hox hosx hon ⊢;clear z0 z1 z2 f0 f1 f2 hz hos hon;refine takeJ 12 ?_;refine takeJ 13 ?_;refine wpAnyH_done (by kernel_rfl) ?_ _;have HOX:=hid (HO0.out wd hd);have HTX:=hid (HT0.out wd hd);have HKX:=hid (hkb.out.below hd);have HBX:=hid (bnext hbl.out hd);have HEX:=hid hox;have HSX:=hid (OwnG.mono hosx hsl);clear hd hox hosx hc ha;by_cases hE:er=0
    ·subst hE;have E1:=hid (show R=CM.finL (CM.rest xs (N - (k+1)) (U ++ [(a,n,cs)]) (uu+used)) by rw [HE1.out,if_neg (by simp)]);have HTY:=hid (TelO.snoc (f:=(a,n,cs)) (q:=(a,n,sa,cs.length,sc)) ⟨rfl,rfl,HSX.out⟩ HTX.out);have hsx:=HBX.out.size;have hlq:qs.length<=1073741824:=by have:=hul.out;have:=HQF.out;omega
     have HUL:=hid (show (U ++ [(a,n,cs)]).length<=k+1 by rw [List.length_append];have:=hul.out;simp;omega);have HUU:=hid (show uu+used<=xs.length by have:=HUS.out;have:=huu.out;omega);obtain ⟨p0,p1,p2,_⟩:=HEX.out.cells;clear HE1 HTX HSX HUS hul HEX HD;go_wp2_with (at_builtin;refine wp_appG1' setE (a,n,sa,cs.length,sc) _ rfl rfl _ _ rfl rfl HOX.out rfl hlq hsx ?_)
     intro v3 w3 ho3 hb3 hk3;have HO3:=hid ho3;have HB3:=hid (HBX.out.trans hb3);have HT3:=hid (HTY.out.keep hk3);have HK3:=hid (HKX.out.keep hk3);clear ho3 hb3 hk3 HOX HTY HKX HBX hsx hlq p0 p1 p2;go_wp2
     go_roundw
     case rel=>exact ⟨k+1,uu+used,_,_,by omega,by go_num,by go_num,HUU,HUL,HO3,HT3,HK3,HB3,E1⟩
     case measure=>simp [intOf];omega
    ·have E1:=hid (show R=(er,0,[]) by rw [HE1.out,if_pos hE,CM.finL,if_pos hE]);have hne:(er != 0)=true:=bne_t hE;clear HE1 hE HOX HTX HKX HEX HSX HD;go_wp2
     go_ret3;exact ⟨_,by rw [E1.out];rfl,by rw [E1.out];exact OwnR.nil _ _,HBX.out⟩
  ·have hq:¬ ((k:Int)<(N:Int)):=by omega
   obtain rfl:k=N:=by omega
   have e1:R=CM.finL (0,uu,U):=by rw [he.out,Nat.sub_self,CM.rest]
   have e2:R=if CM.errL (0,0) U≠0 then (CM.errL (0,0) U,0,[]) else (0,uu,U):=by rw [e1,CM.finL,if_neg (by simp)]
   have HF:=hid (show OwnR w.heap.size wr (.slice c1 qs.length c2) U from ⟨qs,ho.out,ht.out⟩);have hV:=sValidate _ U wr HF.out.rd;obtain ⟨j0,j1,j2,j3,j4,j5,j6,j7,j8⟩:=hkb.out.cells;generalize CM.errL (0,0) U=E at hV e2;have HV:=hid hV;clear he e1 hV ho ht;by_cases hE:E=0
   ·subst hE;have E1:=hid (show R=(0,uu,U) by rw [e2,if_neg (by simp)]);clear e2;go_wp2_with fail
    refine HV.out.mono ?_;rintro e w2 ⟨rfl,hb2⟩;have HB2:=hid (bnext hbl.out hb2);have HF2:=hid (HF.out.below hb2);clear HV HF hb2 hbl;go_wp2
    go_ret3;exact ⟨_,by rw [E1.out];rfl,by rw [E1.out];exact HF2.out,HB2.out⟩
   ·have E1:=hid (show R=(E,0,[]) by rw [e2,if_pos hE]);have hne:(E != 0)=true:=bne_t hE;clear e2 hE;go_wp2_with fail
    refine HV.out.mono ?_;rintro e w2 ⟨rfl,hb2⟩;have HB2:=hid (bnext hbl.out hb2);clear HV HF hb2 hbl;go_wp2
    go_ret3;exact ⟨_,by rw [E1.out];rfl,by rw [E1.out];exact OwnR.nil _ _,HB2.out⟩
theorem gDecodeCO (v:Value) (xs:List Int) (w:World) (h:Rd w v xs) :
  Calls Tryz.prog 88 #[v] w fun e w'=>∃ v',e = .returned (.tuple #[v',.int .i64 ((CM.decL xs).2.1:Int),.int .i64 (CM.decL xs).1])/\OwnR w.heap.size w' v' (CM.decL xs).2.2/\Below w.heap.size w w':=by
 have HE:=hid (cElements w);have HS:=hid (fun w' (hb:Below w.heap.size w w')=>sDecodeO v xs w' (h.below hb));obtain ⟨va,vc,rfl,_⟩:=h.shape;clear h;go_enter Tryz.func88,Tryz.ntmps88
 go_wp2_with fail
 refine HE.out.mono ?_;rintro e w1 ⟨rfl,hb1⟩;have HS1:=hid (HS.out w1 hb1);have HB1:=hid hb1;clear HS HE hb1;go_wp2_with fail
 refine HS1.out.mono ?_;rintro e w2 ⟨v',rfl,ho2,hb2⟩;have HO2:=hid (ho2.mono HB1.out.size);have HB2:=hid (bnext HB1.out hb2);clear ho2;go_wp2
 go_ret3;exact ⟨_,rfl,HO2.out,HB2.out⟩
theorem pDecodeO (v:Value) (xs:List Int) (w:World) (h:Rd w v xs) :
  Calls Tryz.prog 85 #[v] w fun e w'=>∃ a b,e = .returned (.tuple #[cev a b,.int .i64 ((CM.decC xs).2.1:Int),.int .i64 (CM.decC xs).1])/\OwnR w.heap.size w' a (CM.decC xs).2.2.1/\OwnR w.heap.size w' b (CM.decC xs).2.2.2/\Below w.heap.size w w':=by
 have hby:=h.bytes;have hxl:=rd_len64 h;obtain ⟨R,hR⟩:∃ R,R=CM.decC xs:=⟨_,rfl⟩
 rw [<- hR];unfold CM.decC at hR;have hu1:=CM.decL_used hby;have hs0:=World.size_alloc w (.cells #[.slice none 0 0,.slice none 0 0] 27);have hb0:=below_fresh w (.cells #[.slice none 0 0,.slice none 0 0] 27);have hP0:=XB.fresh w (.slice none 0 0) (.slice none 0 0);obtain ⟨w0,hw0⟩:∃ w0,w.alloc (.cells #[.slice none 0 0,.slice none 0 0] 27)=w0:=⟨_,rfl⟩
 rw [hw0] at hb0 hP0 hs0;have h1:=gDecodeCO v xs w0 (h.below hb0);generalize CM.decL xs=D at hR h1 hu1;obtain ⟨e1,u1,f⟩:=D;dsimp only at hR h1 hu1;have hu2:=CM.decL_used (xs:=xs.drop u1) (fun c hc=>hby c (List.mem_of_mem_drop hc));rw [List.length_drop] at hu2;have H2:=hid (fun v' w' (hr:Rd w' v' (xs.drop u1))=>gDecodeCO v' (xs.drop u1) w' hr);generalize CM.decL (xs.drop u1)=D at hR H2 hu2;obtain ⟨e2,u2,t⟩:=D;dsimp only at hR H2 hu2;have H1:=hid h1;have HV:=hid h;have HR:=hid hR;have HB0:=hid hb0;have HP0:=hid hP0;have HW:=hid hw0;have HU:=hid (And.intro hu1 (And.intro hu2 hxl));obtain ⟨av,cv',rfl,_⟩:=h.shape;clear h hby hxl hR hb0 hP0 hw0 h1 hu1 hu2;go_enter Tryz.func85,Tryz.ntmps85
 go_wp2_with fail
 rw [HW.out];refine H1.out.mono ?_;rintro e w1 ⟨v1,rfl,hr1,hb1⟩;have HSZ:=hid (show w.heap.size<w0.heap.size/\w.heap.size<w1.heap.size by have:=hb1.size;omega);clear hs0;have HP1:=hid (HP0.out.below hb1);have HB1:=hid (bnext HB0.out hb1);have HF1:=hid hr1;have HV1:=hid (HV.out.below HB1.out);obtain ⟨fa,fc,rfl,_,_⟩:=hr1.shape;clear hr1 hb1 H1 HP0 HB0 HW HV;by_cases h1:e1=0
 case neg=>
  have HFIN:=hid (show R=(e1,0,[],[]) by rw [HR.out,if_pos h1]);have hne:(e1 != 0)=true:=bne_t h1;obtain ⟨o0,o1,g0,g1⟩:=HP1.out.cells;clear h1 HR H2;go_wp2
  refine certRet3 rfl rfl rfl rfl (HP1.out.put (.slice none 0 0) (.slice none 0 0)) rfl ⟨.slice none 0 0,.slice none 0 0,?_,?_,?_,?_⟩
  ·rw [HFIN.out];rfl
  ·rw [HFIN.out];exact OwnR.nil _ _
  ·rw [HFIN.out];exact OwnR.nil _ _
  ·exact seen HB1.out (Nat.le_refl _) (only2 _ _)
 subst h1;have hu1:=HU.out.1;obtain ⟨v2,hcut,hrd⟩:=HV1.out.cutL u1 hu1;have HC2:=hid (H2.out v2 w1 hrd);clear hu1 hrd H2;go_wp2_with fail
 refine HC2.out.mono ?_;rintro e w2 ⟨v3,rfl,hr2,hb2⟩;have HP2:=hid (HP1.out.below hb2);have HB2:=hid (bnext HB1.out hb2);have HF2:=hid (HF1.out.below hb2);have HT2:=hid hr2;obtain ⟨ta,tc,rfl,_,_⟩:=hr2.shape;clear hr2 hb2 HC2 HP1 HB1 HF1 HV1 hcut;have hb4:=below_fresh w2 (.cells #[.slice fa f.length fc,.slice ta t.length tc] 27);have hX4:=XB.fresh w2 (.slice fa f.length fc) (.slice ta t.length tc);obtain ⟨w4,hw4⟩:∃ w4,w2.alloc (.cells #[.slice fa f.length fc,.slice ta t.length tc] 27)=w4:=⟨_,rfl⟩
 rw [hw4] at hX4 hb4;have HX4:=hid hX4;have HP4:=hid (HP2.out.below hb4);have HB4:=hid (bnext HB2.out hb4);have HF4:=hid (HF2.out.below hb4);have HT4:=hid (HT2.out.below hb4);have HW4:=hid hw4;have hv:=pValidate _ _ f t w4 HF4.out.rd HT4.out.rd;clear hX4 hb4 HP2 HB2 HF2 HT2 hw4;generalize CM.errC f t=E at hv HR;have HVC:=hid hv;obtain ⟨EE,hEE⟩:∃ e,e=orL [e2,E]:=⟨_,rfl⟩
 have HOR:=hid hEE.symm;have hRF:Hid ((EE=0->R=(0,u1+u2,f,t))/\(¬ EE=0->R=(EE,0,[],[]))):=hid (by
  rw [hEE,HR.out];unfold orL orL orL;by_cases h1:e2=0
  ·by_cases h2:E=0
   ·simp [h1,h2]
   ·simp [h1,h2]
  ·simp [h1])
 clear hv hEE HR;go_upto_region 6 with fail
 rw [HW4.out];obtain ⟨y0,y1,_,_⟩:=HX4.out.cells;clear HW4;go_wp2_with fail
 refine HVC.out.mono ?_;rintro e w5 ⟨rfl,hb5⟩;have hrd5:=rd2e w5 e2 E;have hb6:=below_fresh w5 (.cells #[.int .i64 e2,.int .i64 E] 36);obtain ⟨w6,hw6⟩:∃ w6,w5.alloc (.cells #[.int .i64 e2,.int .i64 E] 36)=w6:=⟨_,rfl⟩
 rw [hw6] at hrd5 hb6;have HX5:=hid ((HX4.out.below hb5).below hb6);have HP5:=hid ((HP4.out.below hb5).below hb6);have HB5:=hid (bnext (bnext HB4.out hb5) hb6);have HF5:=hid ((HF4.out.below hb5).below hb6);have HT5:=hid ((HT4.out.below hb5).below hb6);have HC6:=hid (cOrE _ _ w6 hrd5);have HW6:=hid hw6;clear hb5 hb6 hrd5 hw6 HX4 HP4 HB4 HF4 HT4 HVC y0 y1;go_wp2_with fail
 rw [HW6.out];refine HC6.out.mono ?_;rintro e w7 ⟨rfl,rfl⟩;rw [HOR.out];clear HC6 HW6 HOR;obtain ⟨o0,o1,g0,g1⟩:=HP5.out.cells;by_cases h3:EE=0
 case neg=>
  have HFIN:=hid (hRF.out.2 h3);have hne:(EE != 0)=true:=bne_t h3;clear h3 hRF;go_wp2
  refine certRet3 rfl rfl rfl rfl (HP5.out.put (.slice none 0 0) (.slice none 0 0)) rfl ⟨.slice none 0 0,.slice none 0 0,?_,?_,?_,?_⟩
  ·rw [HFIN.out];rfl
  ·rw [HFIN.out];exact OwnR.nil _ _
  ·rw [HFIN.out];exact OwnR.nil _ _
  ·exact seen HB5.out (Nat.le_refl _) (only2 _ _)
 have HFIN:=hid (hRF.out.1 h3);subst h3;obtain ⟨y0,y1,_,_⟩:=HX5.out.cells;have hsum:(u1:Int)+(u2:Int)<=9223372036854775807:=by have:=HU.out;omega
 clear hRF;go_wp2
 refine certRet3 rfl rfl rfl rfl (HP5.out.put (.slice fa f.length fc) (.slice ta t.length tc)) rfl ⟨.slice fa f.length fc,.slice ta t.length tc,?_,?_,?_,?_⟩
 ·rw [HFIN.out];simp
 ·rw [HFIN.out];exact (HF5.out.only (only2 _ _) HSZ.out.1).mono (Nat.le_of_lt HSZ.out.1)
 ·rw [HFIN.out];exact (HT5.out.only (only2 _ _) HSZ.out.2).mono (Nat.le_of_lt HSZ.out.2)
 ·exact seen HB5.out (Nat.le_refl _) (only2 _ _)
end Go.Proofs.YtahcehbgfhdbjaaGreatDoor
namespace Go.Proofs.YtahcehbgfhdbjaaGreatDoor.NM
open WM (enc dec Bytes)
open VM (Ent)
theorem emp_iff {f t:List CM.Fp}:emp f t=true ↔ f = []/\t = []:=by
 unfold emp;simp
theorem bad_iff {m:Ms} (h:bad m=false) :
  (uA m.k=false->(m.p=0/\m.n=0)/\m.r=0/\m.cg = [])/\(uM m.k=false->m.d=0)/\(uS m.k=false->m.st = [])/\(uH m.k=false->m.hv = [])/\(uO m.k=false->m.mo=false) /\
  (uB m.k=false->m.hb=false/\(m.bf = []/\m.bt = [])/\m.ef = []/\m.et = [])/\(uC m.k=false->m.cf = []/\m.ct = []):=by
 unfold bad at h;rw [Bool.or_eq_false_iff,Bool.or_eq_false_iff,Bool.or_eq_false_iff,Bool.or_eq_false_iff,Bool.or_eq_false_iff,Bool.or_eq_false_iff,Bool.or_eq_false_iff,Bool.or_eq_false_iff] at h;obtain ⟨h1,h2,h3,h4,h5,h6,h7,h8,h9⟩:=h;refine ⟨fun u=>?_,fun u=>?_,fun u=>?_,fun u=>?_,fun u=>?_,fun u=>?_,fun u=>?_⟩
 ·rw [u] at h1 h2 h4;refine ⟨by simpa using h1,by simpa using h2,by simpa using h4⟩
 ·rw [u] at h3;simpa using h3
 ·rw [u] at h5;simpa using h5
 ·rw [u] at h6;simpa using h6
 ·rw [u] at h7;simpa using h7
 ·rw [u] at h8;simp only [Bool.not_false,Bool.true_and,Bool.or_eq_false_iff,Bool.not_eq_false'] at h8;exact ⟨h8.1,emp_iff.1 h8.2.1,emp_iff.1 h8.2.2⟩
 ·rw [u] at h9;simp only [Bool.not_false,Bool.true_and,Bool.not_eq_false'] at h9;exact emp_iff.1 h9
theorem errB_ok {m:Ms} (h:errB m=0):(m.hb=false->m.bf = []/\m.bt = [])/\CM.errC m.bf m.bt=0/\CM.errC m.ef m.et=0:=by
 unfold errB at h;split at h
 ·cases h
 ·rename_i h1
  split at h
  ·rename_i h2;exact absurd h h2
  ·rename_i h2
   refine ⟨fun hb=>?_,by omega,h⟩;rw [hb] at h1;simp only [Bool.not_false,Bool.true_and,Bool.not_eq_true',Bool.not_eq_false] at h1;exact emp_iff.1 h1
theorem chR_all {l:List SM.Fp}:∀ {pr:Int×Int},chR pr l=0 -> ∀ f∈l,SM.errF f=0:=by
 induction l with
 | nil=>intro pr _ f hf;cases hf
 | cons g r ih=>
  intro pr h f hf;unfold chR at h;split at h
  ·rename_i h1;exact absurd h h1
  ·rename_i h1
   split at h
   ·cases h
   ·rcases List.mem_cons.1 hf with rfl | hf
    ·omega
    ·exact ih h f hf
theorem chk_ok {l:List SM.Fp} (h:chk l=0):l.length<=4 /\ ∀ f∈l,SM.errF f=0:=by
 unfold chk at h;split at h
 ·cases h
 ·exact ⟨by omega,chR_all h⟩
theorem cl_small {x:Int} (h:UM.isCl x=true∨JM.isAdm x=true):JM.small x:=by
 unfold JM.small;rcases h with h | h
 ·unfold UM.isCl at h;have:=of_decide_eq_true h;omega
 ·have:=JM.isAdm_iff.1 h;omega
theorem proc_small {x:Int} (h:proc x=true):JM.small x:=by
 unfold proc at h;rw [Bool.or_eq_true,Bool.or_eq_true] at h;rcases h with h | h
 ·have:=JM.isSrv_iff.1 h;unfold JM.small;omega
 ·exact cl_small h
theorem errX_ok {m:Ms} (h:errX m=0):JM.small m.p/\JM.small m.n/\JM.small m.r/\(m.k=1->JM.small m.d)/\CM.Ok m.cg/\SM.Ok m.st/\(m.k=2->errB m=0):=by
 unfold errX at h;split at h
 ·cases h
 rename_i h1
 split at h
 ·cases h
 rename_i h2
 split at h
 ·cases h
 rename_i h3
 split at h
 ·rename_i h4;exact absurd h h4
 rename_i h4
 split at h
 ·rename_i h5;exact absurd h h5
 rename_i h5
 split at h
 ·cases h
 have hp:UM.isCl m.p=true∨JM.isAdm m.p=true:=by
  cases h6:UM.isCl m.p with
  | true=>exact .inl rfl
  | false=>
   cases h7:JM.isAdm m.p with
   | true=>exact .inr rfl
   | false=>exact absurd (.inl ⟨h6,h7⟩) h1
 refine ⟨cl_small hp,by unfold JM.small;omega,by unfold JM.small;omega,fun hk=>by unfold JM.small;omega,by unfold CM.Ok;omega,by unfold SM.Ok;omega,fun hk=>?_⟩;rw [if_pos hk] at h;exact h
theorem errM_ok {m:Ms} (h:errM m=0):(1<=m.k/\m.k<=8)/\JM.small m.fr/\JM.small m.tx/\bad m=false/\(m.k=1∨m.k=2->errX m=0) /\
  (¬ (m.k=1∨m.k=2)->CM.errC m.cf m.ct=0/\(m.k=4->VM.err 0 m.hv=0)/\(m.k=5->chk m.st=0/\errB m=0)):=by
 unfold errM at h;split at h
 ·cases h
 rename_i h1
 split at h
 ·cases h
 rename_i h2
 split at h
 ·cases h
 rename_i h3
 have p1:proc m.fr=true:=by cases hx:proc m.fr with | true=>rfl | false=>exact absurd (.inl hx) h2
 have p2:proc m.tx=true:=by cases hx:proc m.tx with | true=>rfl | false=>exact absurd (.inr hx) h2
 refine ⟨by omega,proc_small p1,proc_small p2,by cases hx:bad m with | true=>exact absurd hx h3 | false=>rfl,fun hk=>?_,fun hk=>?_⟩
 ·rw [if_pos hk] at h;exact h
 ·rw [if_neg hk] at h;split at h
  ·rename_i h4;exact absurd h h4
  ·rename_i h4
   refine ⟨by omega,fun h5=>?_,fun h5=>?_⟩
   ·rw [if_pos h5] at h;exact h
   ·rw [if_neg (by omega)] at h;split at h
    ·rename_i h6;exact absurd h h6.2
    ·rename_i h6
     refine ⟨?_,h⟩;by_cases h7:chk m.st=0
     ·exact h7
     ·exact absurd ⟨h5,h7⟩ h6
def FitH (v:List Ent):Prop:=v.length<=100 /\ ∀ e∈v,JM.small e.1/\JM.small e.2
theorem good_M {m:Ms} (h:errM m=0) (hf:SM.Fit m.st) (hh:m.k=4->FitH m.hv):Good pM (encM m) m:=by
 obtain ⟨⟨k1,k8⟩,sf,st,hb,hX,hR⟩:=errM_ok h;obtain ⟨bA,bM,bS,bH,bO,bB,bC⟩:=bad_iff hb;obtain ⟨k,fr,tx,p,n,r,d,cf,ct,bf,bt,hb',ef,et,cg,su,hv,mo⟩:=m;dsimp only at *;have hn1:Good num1 (enc k.toNat) k:=good_num1 (by unfold JM.small;omega);have hn2:Good (nums 2) (JM.encN [fr,tx]) [fr,tx]:=good_nums (l:=[fr,tx]) (by intro x hx;simp only [List.mem_cons,List.mem_nil_iff,or_false] at hx;rcases hx with rfl | rfl <;> assumption);unfold pM encM;dsimp only;refine Good.seq hn1 ?_;rw [if_neg (by omega)];refine Good.seq hn2 ?_;simp only [List.getD_cons_zero,List.getD_cons_succ];by_cases e1:k=1
 ·subst e1;obtain ⟨x1,x2,x3,x4,x5,x6,_⟩:=errX_ok (hX (.inl rfl));dsimp only at x1 x2 x3 x4 x5 x6;have c1:=bH rfl;have c2:=bO rfl;obtain ⟨c3,⟨c4,c5⟩,c6,c7⟩:=bB rfl;obtain ⟨c8,c9⟩:=bC rfl;subst c1 c2 c3 c4 c5 c6 c7 c8 c9;rw [if_pos (.inl rfl),if_pos rfl];unfold pX;simp only [if_true];refine Good.seq (good_nums (l:=[p,n,r,d]) (by intro x hx;simp only [List.mem_cons,List.mem_nil_iff,or_false] at hx;rcases hx with rfl | rfl | rfl | rfl;exact x1;exact x2;exact x3;exact x4 rfl)) ?_;refine Good.seq (good_conf x5) (Good.seq (good_upd x6.all hf (by have:=x6.all48;omega)) ?_);exact Good.pure _
 by_cases e2:k=2
 ·subst e2;obtain ⟨x1,x2,x3,_,x5,x6,x7⟩:=errX_ok (hX (.inr rfl));dsimp only at x1 x2 x3 x5 x6 x7;obtain ⟨y1,y2,y3⟩:=errB_ok (x7 rfl);dsimp only at y1 y2 y3;have c0:=bM rfl;have c1:=bH rfl;have c2:=bO rfl;obtain ⟨c8,c9⟩:=bC rfl;subst c0 c1 c2 c8 c9;rw [if_pos (.inr rfl),if_neg (by decide),if_pos rfl];unfold pX;rw [if_neg (by decide)];refine Good.seq (good_nums (l:=[p,n,r]) (by intro x hx;simp only [List.mem_cons,List.mem_nil_iff,or_false] at hx;rcases hx with rfl | rfl | rfl;exact x1;exact x2;exact x3)) ?_;refine Good.seq (good_conf x5) (Good.seq (good_upd x6.all hf (by have:=x6.all48;omega)) ?_);rw [if_neg (by decide)];exact (good_B (m:=⟨2,fr,tx,p,n,r,0,[],[],bf,bt,hb',ef,et,cg,su,[],false⟩) y2 y3 y1).map
 obtain ⟨z1,z2,z3⟩:=hR (by omega);have uA0:uA k=false:=by unfold uA;exact decide_eq_false (by omega)
 have uM0:uM k=false:=by unfold uM;exact decide_eq_false (by omega)
 obtain ⟨⟨c1,c2⟩,c3,c4⟩:=bA uA0;have c5:=bM uM0;subst c1 c2 c3 c4 c5;rw [if_neg (by omega),if_neg e1,if_neg e2];unfold pR;by_cases e4:k=4
 ·subst e4;have d1:=bS rfl;have d2:=bO rfl;obtain ⟨d3,⟨d4,d5⟩,d6,d7⟩:=bB rfl;subst d1 d2 d3 d4 d5 d6 d7;rw [if_pos rfl];refine Good.seq (good_cert z1) ?_;rw [if_pos rfl];obtain ⟨g1,g2⟩:=hh rfl;exact (good_H g1 g2).map
 by_cases e5:k=5
 ·subst e5;have d1:=bH rfl;subst d1;obtain ⟨v1,v2⟩:=z3 rfl;obtain ⟨v3,v4⟩:=chk_ok v1;obtain ⟨y1,y2,y3⟩:=errB_ok v2;dsimp only at y1 y2 y3;rw [if_neg (by decide),if_pos rfl];refine Good.seq (good_cert z1) ?_;rw [if_neg (by decide),if_pos rfl];refine Good.seq (good_upd v4 hf (by omega)) (Good.seq (good_bl mo) ?_);exact (good_B (m:=⟨5,fr,tx,0,0,0,0,cf,ct,bf,bt,hb',ef,et,[],su,[],mo⟩) y2 y3 y1).map
 ·have d0:=bS (by unfold uS;exact decide_eq_false (by omega));have d1:=bH (by unfold uH;exact decide_eq_false (by omega));have d2:=bO (by unfold uO;exact decide_eq_false (by omega));obtain ⟨d3,⟨d4,d5⟩,d6,d7⟩:=bB (by unfold uB;exact decide_eq_false (by omega));subst d0 d1 d2 d3 d4 d5 d6 d7;rw [if_neg e4,if_neg e5];refine Good.seq (good_cert z1) ?_;rw [if_neg e4,if_neg e5];exact Good.pure _
theorem decM_enc {m:Ms} (h:errM m=0) (hf:SM.Fit m.st) (hh:m.k=4->FitH m.hv) (tail:List Int):decM (encM m++tail)=(0,(encM m).length,m):=by
 have:=(good_M h hf hh).1 tail;unfold decM;rw [this,if_neg (by simp),if_neg (by simp [h])]
theorem decM_cut {m:Ms} (h:errM m=0) (hf:SM.Fit m.st) (hh:m.k=4->FitH m.hv) (j:Nat) (hj:j<(encM m).length):decM ((encM m).take j)=(1,0,z 0 0 0):=by
 have:=(good_M h hf hh).2 j hj;unfold decM;rw [this,if_pos (by decide)]
end Go.Proofs.YtahcehbgfhdbjaaGreatDoor.NM

