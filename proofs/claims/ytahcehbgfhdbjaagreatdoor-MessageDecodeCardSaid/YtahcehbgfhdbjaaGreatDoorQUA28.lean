/-
  NPi NPj NLaw2 SSom NSrc NKmM NKm Set SKit NLaw3 NProg NVars: joined texts, what nothing names left out.
-/
import Derived.Test.YtahcehbgfhdbjaaGreatDoorQUA27
import Derived.Laws.EntriesVeiled
import Derived.Lib.SmallJoins
set_option maxHeartbeats 8000000
set_option maxRecDepth 100000
open Go.Lib (hid)
namespace Go.Proofs.YtahcehbgfhdbjaaGreatDoor.ST
open Go.RowKit
open UM (Ef)
open SM (Fp)
open WM (enc dec Bytes)
theorem cEncUpd (u:Value) (fs:List Fp) (w:World) (hu:RdF w u fs) (hall:∀ f∈fs,SM.errF f=0) (h9:fs.length<=48) (hfit:SM.Fit fs) :
  Calls Tryz.prog 107 #[u] w fun e w'=>∃ v',e = .returned v'/\Own w.heap.size w' v' (SM.encL fs)/\Below w.heap.size w w':=by
 obtain ⟨ad,cp,rfl,hcp,_⟩:=hu.shape;have hb0:=below_fresh w (.cells #[.int .i64 (fs.length:Int)] 3);have hri:RdI (w.alloc (.cells #[.int .i64 (fs.length:Int)] 3)) (.slice (some ⟨w.heap.size,0,none⟩) 1 1) [(fs.length:Int)]:=(ownG_fresh hlI 3 w [(fs.length:Int)] (by unfold maxLen;simp)).rd;obtain ⟨w0,hw0⟩:∃ z,w.alloc (.cells #[.int .i64 (fs.length:Int)] 3)=z:=⟨_,rfl⟩
 rw [hw0] at hb0 hri;have HW:=hid hw0;have HB0:=hid hb0;have hA:=cAppendNumbers (.slice none 0 0) _ [] [(fs.length:Int)] w0 (Rd.nil _) hri (by intro x hx;simp only [List.mem_cons,List.mem_nil_iff,or_false] at hx;subst hx;unfold JM.small;omega) (by simp) (by simp);rw [show ([]:List Int)++JM.encN [(fs.length:Int)]=enc fs.length by simp [JM.encN]] at hA;have HA:=hid hA;have HU:=hid hu;have HOK:=hid hall;have hel:=WM.enc_len10 fs.length (by omega);have hfl:=fun k=>SM.flat_len (fs:=fs.take k) (fun f hf=>hall f (List.mem_of_mem_take hf)) (fun f hf=>hfit f (List.mem_of_mem_take hf))
 have HFL:=hid (show ∀ k,(enc fs.length++SM.flat (fs.take k)).length<=1100000 from fun k=>by
  have h1:=hfl k;rw [List.length_take] at h1;rw [List.length_append];omega)
 have HFT:=hid hfit;clear hu hall hel hfl hfit hw0 hb0 hri hA;go_enter Tryz.func107,Tryz.ntmps107
 go_wp2_with fail
 rw [HW.out];refine HA.out.mono ?_;rintro e w1 ⟨v1,rfl,ho1,hb1⟩;have HO1:=hid (ho1.mono HB0.out.size);have HB1:=hid (bnext HB0.out hb1);clear ho1 hb1 HA HB0 HW;go_wp2
 go_loopw [3,12] (fun u i wr=>∃ k:Nat,k<=fs.length/\i = .int .i64 k/\Hid (Own w.heap.size wr u (enc fs.length++SM.flat (fs.take k)))/\Hid (Below w.heap.size w wr)) (fun _ i _=>fs.length - (intOf i).toNat)
 case atStart=>exact ⟨0,Nat.zero_le _,rfl,(by show Own _ _ _ _;rw [List.take_zero];simpa [SM.flat] using HO1.out),HB1.out⟩
 case round=>
  obtain ⟨k,hk,rfl,ho,hbl⟩:=hrel;clear HO1 HB1;by_cases hlt:k<fs.length
  ·have hq:(k:Int)<(fs.length:Int):=by omega
   have hk2:=List.getElem?_eq_getElem hlt;generalize fs[k]=f at hk2;have hsn:enc fs.length++SM.flat (fs.take (k+1))=(enc fs.length++SM.flat (fs.take k))++SM.encF f:=by rw [take_snocF hk2,SM.flat_snoc];simp only [List.append_assoc]
   have hef:=HOK.out f (List.mem_of_getElem? hk2);have hl2:=SM.encF_len hef (HFT.out f (List.mem_of_getElem? hk2));have hf64:=HFT.out f (List.mem_of_getElem? hk2);have hl1:=HFL.out k;obtain ⟨x,m,t,cs⟩:=f;obtain ⟨b,o,da,dl,dc,hi,hbw,c0,c1,c2,c3,hrd⟩:=(HU.out.below hbl.out).atS k x m t cs hk2;obtain ⟨wx,HX⟩:=eone wr x m t (.slice da dl dc);have hap:=cAppendU (.slice none 0 0) [] x m t (.slice da dl dc) cs wx (Rd.nil _) (hrd.below HX.below) hef hf64 (by simp);rw [List.nil_append] at hap;have HAP:=hid hap;have HWX:=hid HX.eq;have HOX:=hid (ho.out.below HX.below);have HBX:=hid (bnext hbl.out HX.below);have HPX:=hid HX.e;obtain ⟨B,hB⟩:∃ B,wr.heap.size=B:=⟨_,rfl⟩
   rw [hB] at HPX;have HBE:=hid hB;have HSN:=hid hsn;have HE:Hid (SM.encF (x,m,t,cs)=UM.encU x m t cs):=rfl;obtain ⟨p0,p1,p2,p3,_⟩:=HPX.out.cells;generalize (enc fs.length++SM.flat (fs.take k))=E at HOX HSN hl1;clear HX hap hsn hef hk2 hrd ho hbl hB hf64;go_upto_region 5 with fail
   rw [HWX.out,HBE.out];go_wp2_with fail
   refine HAP.out.mono ?_;rintro e w2 ⟨v2,rfl,ho2,hb2⟩;have hoe:=HOX.out.below hb2;have HB2:=hid (bnext HBX.out hb2);have hs2:=HB2.out.size;have hr2:=ho2;rw [<- HE.out] at hr2;have hl1':E.length<=35184372088832:=by omega
   have hl2':(SM.encF (x,m,t,cs)).length<=35184372088832:=by omega
   clear c0 c1 c2 c3 hi hbw p0 p1 p2 p3 HAP HWX HOX HBX HPX hb2 ho2 hl1 hl2;go_wp2_with (at_builtin;refine wp_appSK rfl _ _ rfl rfl hoe rfl hr2 hl1' hl2' hs2 ?_)
   intro v3 w3 ho3 hb3 hk3;have HO3:=hid (show Own w.heap.size w3 v3 (enc fs.length++SM.flat (fs.take (k+1))) by rw [HSN.out];exact ho3);have HB3:=hid (HB2.out.trans hb3);clear hoe hr2 ho3 hb3 hk3 HB2 hs2 HSN;go_wp2
   go_roundw
   case rel=>exact ⟨k+1,by omega,by go_num,HO3,HB3⟩
   case measure=>simp [intOf];omega
  ·have hq:¬ ((k:Int)<(fs.length:Int)):=by omega
   obtain rfl:k=fs.length:=by omega
   rw [List.take_length] at ho;go_wp2
   go_ret;exact ⟨_,rfl,ho.out,hbl.out⟩
end Go.Proofs.YtahcehbgfhdbjaaGreatDoor.ST
namespace Go.Proofs.YtahcehbgfhdbjaaGreatDoor
section
open Go.RowKit
open VM (Ent)
open WM (enc dec Bytes)
theorem cEncVec (u:Value) (v:List Ent) (w:World) (hu:VX.RdV w u v) (hh:NM.FitH v) :
  Calls Tryz.prog 108 #[u] w fun e w'=>∃ v',e = .returned v'/\Own w.heap.size w' v' (NM.encH v)/\Below w.heap.size w w':=by
 obtain ⟨ad,cp,rfl,hcp,_⟩:=hu.shape;obtain ⟨h9,hsm⟩:=hh;have hb0:=below_fresh w (.cells #[.int .i64 (v.length:Int)] 3);have hri:RdI (w.alloc (.cells #[.int .i64 (v.length:Int)] 3)) (.slice (some ⟨w.heap.size,0,none⟩) 1 1) [(v.length:Int)]:=(ownG_fresh hlI 3 w [(v.length:Int)] (by unfold maxLen;simp)).rd;obtain ⟨w0,hw0⟩:∃ z,w.alloc (.cells #[.int .i64 (v.length:Int)] 3)=z:=⟨_,rfl⟩
 rw [hw0] at hb0 hri;have HW:=hid hw0;have HB0:=hid hb0;have hA:=cAppendNumbers (.slice none 0 0) _ [] [(v.length:Int)] w0 (Rd.nil _) hri (by intro x hx;simp only [List.mem_cons,List.mem_nil_iff,or_false] at hx;subst hx;unfold JM.small;omega) (by simp) (by simp);rw [show ([]:List Int)++JM.encN [(v.length:Int)]=enc v.length by simp [JM.encN]] at hA;have HA:=hid hA;have HU:=hid hu;have HSM:=hid hsm;have hel:=WM.enc_len10 v.length (by omega);have HFL:=hid (show ∀ k,(enc v.length++JM.encN (NM.flatE (v.take k))).length<=1100000 from fun k=>by
  have h1:=JM.encN_len (NM.flatE (v.take k)) (fun x hx=>by
   obtain ⟨e,he,hxe⟩:=List.mem_flatMap.1 hx;have hs:=hsm e (List.mem_of_mem_take he);simp only [List.mem_cons,List.mem_nil_iff,or_false] at hxe;rcases hxe with rfl | rfl
   ·exact hs.1
   ·exact hs.2)
  rw [NM.flatE_len,List.length_take] at h1;rw [List.length_append];omega)
 clear hu hsm hel hw0 hb0 hri hA;go_enter Tryz.func108,Tryz.ntmps108
 go_wp2_with fail
 rw [HW.out];refine HA.out.mono ?_;rintro e w1 ⟨v1,rfl,ho1,hb1⟩;have HO1:=hid (ho1.mono HB0.out.size);have HB1:=hid (bnext HB0.out hb1);clear ho1 hb1 HA HB0 HW;go_wp2
 go_loopw [3,12] (fun u i wr=>∃ k:Nat,k<=v.length/\i = .int .i64 k/\Hid (Own w.heap.size wr u (enc v.length++JM.encN (NM.flatE (v.take k))))/\Hid (Below w.heap.size w wr)) (fun _ i _=>v.length - (intOf i).toNat)
 case atStart=>exact ⟨0,Nat.zero_le _,rfl,(by show Own _ _ _ _;rw [List.take_zero];simpa [NM.flatE,JM.encN] using HO1.out),HB1.out⟩
 case round=>
  obtain ⟨k,hk,rfl,ho,hbl⟩:=hrel;clear HO1 HB1;by_cases hlt:k<v.length
  ·have hq:(k:Int)<(v.length:Int):=by omega
   have hk2:=List.getElem?_eq_getElem hlt;have hsm:=HSM.out _ (List.mem_of_getElem? hk2);generalize v[k]=f at hk2 hsm;have hsn:enc v.length++JM.encN (NM.flatE (v.take (k+1)))=(enc v.length++JM.encN (NM.flatE (v.take k)))++JM.encN [f.1,f.2]:=by
    rw [List.take_add_one,hk2];simp [NM.flatE,JM.encN,List.flatMap_append]
   have hl2:(JM.encN [f.1,f.2]).length<=20:=JM.encN_len [f.1,f.2] (by intro x hx;simp only [List.mem_cons,List.mem_nil_iff,or_false] at hx;rcases hx with rfl | rfl;exact hsm.1;exact hsm.2);have hl1:=HFL.out k;obtain ⟨x,n⟩:=f;dsimp only at hsm hsn hl2;obtain ⟨b,o,hi,hbw,c0,c1⟩:=(HU.out.below hbl.out).at k _ hk2;simp only at c0 c1;have hbx:=below_fresh wr (.cells #[.int .i64 x,.int .i64 n] 110);have hox:=heap_alloc_new wr (.cells #[.int .i64 x,.int .i64 n] 110);obtain ⟨wx,hwx⟩:∃ z,wr.alloc (.cells #[.int .i64 x,.int .i64 n] 110)=z:=⟨_,rfl⟩
   rw [hwx] at hbx hox;obtain ⟨G,hG⟩:∃ G,G=wr.heap.size:=⟨_,rfl⟩
   rw [<- hG] at hox;have q0:wx.cell? ⟨G,0,none⟩=some (.int .i64 x):=by simp [World.cell?,hox]
   have q1:wx.cell? ⟨G,1,none⟩=some (.int .i64 n):=by simp [World.cell?,hox]
   have hby:=below_fresh wx (.cells #[.int .i64 x,.int .i64 n] 3);have hri:RdI (wx.alloc (.cells #[.int .i64 x,.int .i64 n] 3)) (.slice (some ⟨wx.heap.size,0,none⟩) 2 2) [x,n]:=(ownG_fresh hlI 3 wx [x,n] (by unfold maxLen;simp)).rd;obtain ⟨wy,hwy⟩:∃ z,wx.alloc (.cells #[.int .i64 x,.int .i64 n] 3)=z:=⟨_,rfl⟩
   rw [hwy] at hby hri;have hap:=cAppendNumbers (.slice none 0 0) _ [] [x,n] wy (Rd.nil _) hri (by intro y hy;simp only [List.mem_cons,List.mem_nil_iff,or_false] at hy;rcases hy with rfl | rfl;exact hsm.1;exact hsm.2) (by simp) (by simp);rw [List.nil_append] at hap;have HAP:=hid hap;have HWX:=hid hwx;have HWY:=hid hwy;have HGG:=hid hG;have HOX:=hid (ho.out.below (bnext hbx hby));have HBX:=hid (bnext hbl.out (bnext hbx hby));have HSN:=hid hsn;generalize JM.encN [x,n]=Z at HAP HSN hl2;generalize (enc v.length++JM.encN (NM.flatE (v.take k)))=E at HOX HSN hl1;clear hap hsn hk2 ho hbl hG hwx hwy hbx hby hox hri hsm;go_upto_region 5 with fail
   rw [HWX.out,<- HGG.out];clear c0 c1;go_wp2_with fail
   rw [HWY.out];refine HAP.out.mono ?_;rintro e w2 ⟨v2,rfl,ho2,hb2⟩;have hoe:=HOX.out.below hb2;have HB2:=hid (bnext HBX.out hb2);have hs2:=HB2.out.size;have hr2:=ho2.rd;have hl1':E.length<=35184372088832:=by omega
   have hl2':Z.length<=35184372088832:=by omega
   clear hi hbw q0 q1 HAP HWX HWY HGG HOX HBX hb2 ho2 hl1 hl2;go_wp2_with (at_builtin;refine wp_appSK rfl _ _ rfl rfl hoe rfl hr2 hl1' hl2' hs2 ?_)
   intro v3 w3 ho3 hb3 hk3;have HO3:=hid (show Own w.heap.size w3 v3 (enc v.length++JM.encN (NM.flatE (v.take (k+1)))) by rw [HSN.out];exact ho3);have HB3:=hid (HB2.out.trans hb3);clear hoe hr2 ho3 hb3 hk3 HB2 hs2 HSN;go_wp2
   go_roundw
   case rel=>exact ⟨k+1,by omega,by go_num,HO3,HB3⟩
   case measure=>simp [intOf];omega
  ·have hq:¬ ((k:Int)<(v.length:Int)):=by omega
   obtain rfl:k=v.length:=by omega
   rw [List.take_length] at ho;go_wp2
   go_ret;exact ⟨_,rfl,ho.out,hbl.out⟩
end
section
open Go.RowKit
open NM (Ms)
open VM (Ent)
open WM (enc dec Bytes)
structure EncOk (m:Ms) (f:Int):Prop where
 e0:f=0->JM.small m.p/\JM.small m.n
 e1:f=1->JM.small m.r
 e2:f=2->JM.small m.d
 e3:f=3->CM.Ok m.cf/\CM.Ok m.ct
 e4:f=4->CM.Ok m.bf/\CM.Ok m.bt
 e6:f=6->CM.Ok m.ef/\CM.Ok m.et
 e7:f=7->CM.Ok m.cg
 e8:f=8->(∀ g∈m.st,SM.errF g=0)/\m.st.length<=48/\SM.Fit m.st
 e9:f=9->NM.FitH m.hv
theorem certs_ok {f t:List CM.Fp} (h:CM.errC f t=0):CM.Ok f/\CM.Ok t:=⟨(CM.errC_ok h).1,(CM.errC_ok h).2.1⟩
theorem encOk_all {m:Ms} (h:NM.errM m=0) (hf:SM.Fit m.st) (hh:m.k=4->NM.FitH m.hv) {f:Int} (hm:f∈NM.usd m.k):EncOk m f:=by
 obtain ⟨⟨k1,k8⟩,_,_,hb,hX,hR⟩:=NM.errM_ok h;by_cases c1:m.k=1∨m.k=2
 ·obtain ⟨x1,x2,x3,x4,x5,x6,x7⟩:=NM.errX_ok (hX c1);have hq:m.k=2∨f≠4/\f≠6:=by
   rcases c1 with c | c
   ·right
    rw [c,show NM.usd 1 = [0,1,2,7,8] from rfl] at hm;simp only [List.mem_cons,List.mem_nil_iff,or_false] at hm;omega
   ·exact .inl c
  have hd:f=2->m.k=1:=by
   intro hf2;rcases c1 with c | c
   ·exact c
   ·rw [c,show NM.usd 2 = [0,1,7,8,5,4,6] from rfl] at hm;simp only [List.mem_cons,List.mem_nil_iff,or_false] at hm;omega
  have h39:f≠3/\f≠9:=by
   rcases c1 with c | c
   ·rw [c,show NM.usd 1 = [0,1,2,7,8] from rfl] at hm;simp only [List.mem_cons,List.mem_nil_iff,or_false] at hm;omega
   ·rw [c,show NM.usd 2 = [0,1,7,8,5,4,6] from rfl] at hm;simp only [List.mem_cons,List.mem_nil_iff,or_false] at hm;omega
  refine ⟨fun _=>⟨x1,x2⟩,fun _=>x3,fun e=>x4 (hd e),fun e=>absurd e h39.1,fun e=>?_,fun e=>?_,fun _=>x5,fun _=>⟨x6.all,x6.all48,hf⟩,fun e=>absurd e h39.2⟩
  ·rcases hq with q | q
   ·exact certs_ok (NM.errB_ok (x7 q)).2.1
   ·exact absurd e q.1
  ·rcases hq with q | q
   ·exact certs_ok (NM.errB_ok (x7 q)).2.2
   ·exact absurd e q.2
 ·obtain ⟨z1,z2,z3⟩:=hR c1;by_cases c5:m.k=5
  ·obtain ⟨v1,v2⟩:=z3 c5;obtain ⟨v3,v4⟩:=NM.chk_ok v1;obtain ⟨_,y2,y3⟩:=NM.errB_ok v2;rw [c5,show NM.usd 5 = [3,8,10,5,4,6] from rfl] at hm;simp only [List.mem_cons,List.mem_nil_iff,or_false] at hm;exact ⟨fun e=>by omega,fun e=>by omega,fun e=>by omega,fun _=>certs_ok z1,fun _=>certs_ok y2,fun _=>certs_ok y3,fun e=>by omega,fun _=>⟨v4,by omega,hf⟩,fun e=>by omega⟩
  ·have h4:f=3∨(f=9/\m.k=4):=by
    by_cases c4:m.k=4
    ·rw [c4,show NM.usd 4 = [3,9] from rfl] at hm;simp only [List.mem_cons,List.mem_nil_iff,or_false] at hm;omega
    ·have hu:NM.usd m.k = [3]:=by
      unfold NM.usd;rw [if_neg (by omega),if_neg (by omega),if_neg c4,if_neg c5,if_pos (by omega)]
     rw [hu] at hm;simp only [List.mem_cons,List.mem_nil_iff,or_false] at hm;exact .inl hm
   exact ⟨fun e=>by omega,fun e=>by omega,fun e=>by omega,fun _=>certs_ok z1,fun e=>by omega,fun e=>by omega,fun e=>by omega,fun e=>by omega,fun e=>hh (by omega)⟩
theorem encF_le {m:Ms} {f:Int} (h:EncOk m f):(NM.encF m f).length<=100000:=by
 unfold NM.encF;by_cases e:f=0
 ·rw [if_pos e];have:=JM.encN_len [m.p,m.n] (by intro x hx;simp only [List.mem_cons,List.mem_nil_iff,or_false] at hx;rcases hx with rfl | rfl;exact (h.e0 e).1;exact (h.e0 e).2);simp only [List.length_cons,List.length_nil] at this;omega
 rw [if_neg e];by_cases e:f=1
 ·rw [if_pos e];have:=JM.encN_len [m.r] (by intro x hx;simp only [List.mem_cons,List.mem_nil_iff,or_false] at hx;subst hx;exact h.e1 e);simp only [List.length_cons,List.length_nil] at this;omega
 rw [if_neg e];by_cases e:f=2
 ·rw [if_pos e];have:=JM.encN_len [m.d] (by intro x hx;simp only [List.mem_cons,List.mem_nil_iff,or_false] at hx;subst hx;exact h.e2 e);simp only [List.length_cons,List.length_nil] at this;omega
 rw [if_neg e];by_cases e:f=3
 ·rw [if_pos e];have h1:=encL_le (h.e3 e).1;have h2:=encL_le (h.e3 e).2;unfold CM.encC2;rw [List.length_append];omega
 rw [if_neg e];by_cases e:f=4
 ·rw [if_pos e];have h1:=encL_le (h.e4 e).1;have h2:=encL_le (h.e4 e).2;split
  ·unfold CM.encC2;rw [List.length_append];omega
  ·exact Nat.zero_le _
 rw [if_neg e];by_cases e:f=5
 ·rw [if_pos e];exact Nat.le_of_ble_eq_true rfl
 rw [if_neg e];by_cases e:f=6
 ·rw [if_pos e];have h1:=encL_le (h.e6 e).1;have h2:=encL_le (h.e6 e).2;unfold CM.encC2;rw [List.length_append];omega
 rw [if_neg e];by_cases e:f=7
 ·rw [if_pos e];have h1:=encL_le (h.e7 e);omega
 rw [if_neg e];by_cases e:f=8
 ·rw [if_pos e];obtain ⟨a1,a2,a3⟩:=h.e8 e;have h1:=SM.flat_len a1 a3;have h2:=WM.enc_len10 m.st.length (by omega);unfold SM.encL;rw [List.length_append];omega
 rw [if_neg e];by_cases e:f=9
 ·rw [if_pos e];obtain ⟨a1,a2⟩:=h.e9 e;have h1:=JM.encN_len (NM.flatE m.hv) (fun x hx=>by
   obtain ⟨e,he,hxe⟩:=List.mem_flatMap.1 hx;simp only [List.mem_cons,List.mem_nil_iff,or_false] at hxe;rcases hxe with rfl | rfl
   ·exact (a2 e he).1
   ·exact (a2 e he).2)
  rw [NM.flatE_len] at h1;have h2:=WM.enc_len10 m.hv.length (by omega);unfold NM.encH;rw [List.length_append];omega
 rw [if_neg e];exact Nat.le_of_ble_eq_true rfl
theorem num_enc (w:World) (l:List Int) (hs:∀ x∈l,JM.small x) (hl:l.length<=3) :
  Calls Tryz.prog 52 #[.slice none 0 0,.slice (some ⟨w.heap.size,0,none⟩) l.length l.length] (w.alloc (.cells (cellsOf encI l).toArray 3)) fun e w'=>∃ v',e = .returned v'/\Rd w' v' (JM.encN l)/\Below w.heap.size w w':=by
 have h:=cAppendNumbers (.slice none 0 0) _ [] l (w.alloc (.cells (cellsOf encI l).toArray 3)) (Rd.nil _) (ownG_fresh hlI 3 w l (by unfold maxLen;omega)).rd hs (by omega) (by simp);rw [List.nil_append] at h;refine h.mono ?_;rintro e w' ⟨v',rfl,ho,hb⟩;exact ⟨v',rfl,ho.rd,bnext (below_fresh w _) hb⟩
theorem cEncF (x:Mv) (m:Ms) (f:Int) (w:World) (h:RdMs w x m) (hf:0<=f/\f<=10) (ok:EncOk m f) :
  Calls Tryz.prog 53 #[mv m x,.int .i64 f] w fun e w'=>∃ v',e = .returned v'/\Rd w' v' (NM.encF m f)/\Below w.heap.size w w':=by
 obtain ⟨k,fr,tx,p,n,r,d,cf,ct,bf,bt,hb,ef,et,cg,st,hv,mo⟩:=m;obtain ⟨s1,s2,s3,s4,s5,s6,s7,s8,s9⟩:=x;obtain ⟨h1,h2,h3,h4,h5,h6,h7,h8,h9⟩:=h;dsimp only at h1 h2 h3 h4 h5 h6 h7 h8 h9;obtain ⟨a1,c1,rfl,_⟩:=h1.shape;obtain ⟨a2,c2,rfl,_⟩:=h2.shape;obtain ⟨a3,c3,rfl,_⟩:=h3.shape;obtain ⟨a4,c4,rfl,_⟩:=h4.shape;obtain ⟨a5,c5,rfl,_⟩:=h5.shape;obtain ⟨a6,c6,rfl,_⟩:=h6.shape;obtain ⟨a7,c7,rfl,_⟩:=h7.shape;obtain ⟨a8,c8,rfl,_⟩:=h8.shape;obtain ⟨a9,c9,rfl,_⟩:=h9.shape;obtain ⟨C,hC⟩:∃ C,C=mcell ({k,fr,tx,p,n,r,d,cf,ct,bf,bt,hb,ef,et,cg,st,hv,mo}:Ms) (⟨.slice a1 cf.length c1,.slice a2 ct.length c2,.slice a3 bf.length c3,.slice a4 bt.length c4,.slice a5 ef.length c5,.slice a6 et.length c6,.slice a7 cg.length c7,.slice a8 st.length c8,.slice a9 hv.length c9⟩:Mv):=⟨_,rfl⟩
 have b1:=below_fresh w (.cells C 33);have hXC:=heap_alloc_new w (.cells C 33);obtain ⟨w0,hw0⟩:∃ z,w.alloc (.cells C 33)=z:=⟨_,rfl⟩
 rw [hw0] at b1 hXC;have hMC:MB w0 w.heap.size ({k,fr,tx,p,n,r,d,cf,ct,bf,bt,hb,ef,et,cg,st,hv,mo}:Ms) (⟨.slice a1 cf.length c1,.slice a2 ct.length c2,.slice a3 bf.length c3,.slice a4 bt.length c4,.slice a5 ef.length c5,.slice a6 et.length c6,.slice a7 cg.length c7,.slice a8 st.length c8,.slice a9 hv.length c9⟩:Mv):=by unfold MB;rw [<- hC];exact hXC
 have hsc:C.size=18:=by rw [hC];rfl
 have HB:=hid b1;have HX:=hid hMC;have HXC:=hid hXC;have HW:=hid hw0;replace h1:=h1.below b1;replace h2:=h2.below b1;replace h3:=h3.below b1;replace h4:=h4.below b1;replace h5:=h5.below b1;replace h6:=h6.below b1;replace h7:=h7.below b1;replace h8:=h8.below b1;replace h9:=h9.below b1;dsimp only [mv];rw [<- hC];clear hC hXC hMC hw0 b1 HXC hsc;obtain ⟨Z,hZ⟩:∃ Z,Z=NM.encF ({k,fr,tx,p,n,r,d,cf,ct,bf,bt,hb,ef,et,cg,st,hv,mo}:Ms) f:=⟨_,rfl⟩
 rw [<- hZ];unfold NM.encF at hZ;dsimp only at hZ;rcases fld_cases hf with e | e | e | e | e | e | e | e | e | e | e <;> subst e
 ·have HZ:=hid (show Z=JM.encN [p,n] from hZ);have HN:=hid (num_enc w0 [p,n] (by intro y hy;simp only [List.mem_cons,List.mem_nil_iff,or_false] at hy;rcases hy with rfl | rfl;exact (ok.e0 rfl).1;exact (ok.e0 rfl).2) (by simp));clear hZ hf ok h1 h2 h3 h4 h5 h6 h7 h8 h9;go_enter Tryz.func53,Tryz.ntmps53
  go_upto_region 1 with fail
  rw [HW.out];have xs:=HX.out.cells;dsimp only at xs;go_wp2_with fail
  refine HN.out.mono ?_;rintro e w1 ⟨v1,rfl,ho,hb⟩;have HB1:=hid (bnext HB.out hb);have HO1:=hid ho;clear hb ho HN xs;go_wp2
  go_ret;exact ⟨_,rfl,by rw [HZ.out];exact HO1.out,HB1.out⟩
 ·have HZ:=hid (show Z=JM.encN [r] from hZ);have HN:=hid (num_enc w0 [r] (by intro y hy;simp only [List.mem_cons,List.mem_nil_iff,or_false] at hy;subst hy;exact ok.e1 rfl) (by simp));clear hZ hf ok h1 h2 h3 h4 h5 h6 h7 h8 h9;go_enter Tryz.func53,Tryz.ntmps53
  go_upto_region 1 with fail
  rw [HW.out];have xs:=HX.out.cells;dsimp only at xs;go_wp2_with fail
  refine HN.out.mono ?_;rintro e w1 ⟨v1,rfl,ho,hb⟩;have HB1:=hid (bnext HB.out hb);have HO1:=hid ho;clear hb ho HN xs;go_wp2
  go_ret;exact ⟨_,rfl,by rw [HZ.out];exact HO1.out,HB1.out⟩
 ·have HZ:=hid (show Z=JM.encN [d] from hZ);have HN:=hid (num_enc w0 [d] (by intro y hy;simp only [List.mem_cons,List.mem_nil_iff,or_false] at hy;subst hy;exact ok.e2 rfl) (by simp));clear hZ hf ok h1 h2 h3 h4 h5 h6 h7 h8 h9;go_enter Tryz.func53,Tryz.ntmps53
  go_upto_region 1 with fail
  rw [HW.out];have xs:=HX.out.cells;dsimp only at xs;go_wp2_with fail
  refine HN.out.mono ?_;rintro e w1 ⟨v1,rfl,ho,hb⟩;have HB1:=hid (bnext HB.out hb);have HO1:=hid ho;clear hb ho HN xs;go_wp2
  go_ret;exact ⟨_,rfl,by rw [HZ.out];exact HO1.out,HB1.out⟩
 ·have HZ:=hid (show Z=CM.encC2 cf ct from hZ);have hap:=pAppend (.slice none 0 0) [] _ _ cf ct w0 (Rd.nil _) h1 h2 (ok.e3 rfl).1 (ok.e3 rfl).2 (by simp);rw [List.nil_append] at hap;have HN:=hid hap;clear hap hZ hf ok h1 h2 h3 h4 h5 h6 h7 h8 h9;go_enter Tryz.func53,Tryz.ntmps53
  go_upto_region 1 with fail
  rw [HW.out];have xs:=HX.out.cells;dsimp only at xs;go_wp2_with fail
  refine HN.out.mono ?_;rintro e w1 ⟨v1,rfl,ho,hb⟩;have HB1:=hid (bnext HB.out hb);have HO1:=hid ho;clear hb ho HN xs;go_wp2
  go_ret;exact ⟨_,rfl,by rw [HZ.out];exact HO1.out,HB1.out⟩
 ·have HZ:=hid (show Z=if hb=true then CM.encC2 bf bt else [] from hZ);have hap:=pAppend (.slice none 0 0) [] _ _ bf bt w0 (Rd.nil _) h3 h4 (ok.e4 rfl).1 (ok.e4 rfl).2 (by simp);rw [List.nil_append] at hap;have HN:=hid hap;clear hap hZ hf ok h1 h2 h3 h4 h5 h6 h7 h8 h9;cases hb
  ·skip
   go_enter Tryz.func53,Tryz.ntmps53
   go_upto_region 1 with fail
   rw [HW.out];have xs:=HX.out.cells;dsimp only at xs;go_wp2
   go_ret;exact ⟨_,rfl,by rw [HZ.out];exact Rd.nil _,HB.out⟩
  ·skip
   go_enter Tryz.func53,Tryz.ntmps53
   go_upto_region 1 with fail
   rw [HW.out];have xs:=HX.out.cells;dsimp only at xs;go_wp2_with fail
   refine HN.out.mono ?_;rintro e w1 ⟨v1,rfl,ho,hb⟩;have HB1:=hid (bnext HB.out hb);have HO1:=hid ho;clear hb ho HN xs;go_wp2
   go_ret;exact ⟨_,rfl,by rw [HZ.out];exact HO1.out,HB1.out⟩
 ·have HZ:=hid (show Z = [bit hb] from hZ);have hap:=wAppendBool (.slice none 0 0) [] hb w0 (Rd.nil _) (by simp);rw [List.nil_append] at hap;have HN:=hid hap;clear hap hZ hf ok h1 h2 h3 h4 h5 h6 h7 h8 h9;go_enter Tryz.func53,Tryz.ntmps53
  go_upto_region 1 with fail
  rw [HW.out];have xs:=HX.out.cells;dsimp only at xs;go_wp2_with fail
  refine HN.out.mono ?_;rintro e w1 ⟨v1,rfl,ho,hb⟩;have HB1:=hid (bnext HB.out hb);have HO1:=hid ho;clear hb ho HN xs;go_wp2
  go_ret;exact ⟨_,rfl,by rw [HZ.out];exact HO1.out.rd,HB1.out⟩
 ·have HZ:=hid (show Z=CM.encC2 ef et from hZ);have hap:=pAppend (.slice none 0 0) [] _ _ ef et w0 (Rd.nil _) h5 h6 (ok.e6 rfl).1 (ok.e6 rfl).2 (by simp);rw [List.nil_append] at hap;have HN:=hid hap;clear hap hZ hf ok h1 h2 h3 h4 h5 h6 h7 h8 h9;go_enter Tryz.func53,Tryz.ntmps53
  go_upto_region 1 with fail
  rw [HW.out];have xs:=HX.out.cells;dsimp only at xs;go_wp2_with fail
  refine HN.out.mono ?_;rintro e w1 ⟨v1,rfl,ho,hb⟩;have HB1:=hid (bnext HB.out hb);have HO1:=hid ho;clear hb ho HN xs;go_wp2
  go_ret;exact ⟨_,rfl,by rw [HZ.out];exact HO1.out,HB1.out⟩
 ·have HZ:=hid (show Z=CM.encL cg from hZ);have hap:=gAppendC (.slice none 0 0) [] _ cg w0 (Rd.nil _) h7 (ok.e7 rfl) (by simp);rw [List.nil_append] at hap;have HN:=hid hap;clear hap hZ hf ok h1 h2 h3 h4 h5 h6 h7 h8 h9;go_enter Tryz.func53,Tryz.ntmps53
  go_upto_region 1 with fail
  rw [HW.out];have xs:=HX.out.cells;dsimp only at xs;go_wp2_with fail
  refine HN.out.mono ?_;rintro e w1 ⟨v1,rfl,ho,hb⟩;have HB1:=hid (bnext HB.out hb);have HO1:=hid ho;clear hb ho HN xs;go_wp2
  go_ret;exact ⟨_,rfl,by rw [HZ.out];exact HO1.out.rd,HB1.out⟩
 ·have HZ:=hid (show Z=SM.encL st from hZ);have HN:=hid (ST.cEncUpd _ st w0 h8 (ok.e8 rfl).1 (ok.e8 rfl).2.1 (ok.e8 rfl).2.2);clear hZ hf ok h1 h2 h3 h4 h5 h6 h7 h8 h9;go_enter Tryz.func53,Tryz.ntmps53
  go_upto_region 1 with fail
  rw [HW.out];have xs:=HX.out.cells;dsimp only at xs;go_wp2_with fail
  refine HN.out.mono ?_;rintro e w1 ⟨v1,rfl,ho,hb⟩;have HB1:=hid (bnext HB.out hb);have HO1:=hid ho;clear hb ho HN xs;go_wp2
  go_ret;exact ⟨_,rfl,by rw [HZ.out];exact HO1.out.rd,HB1.out⟩
 ·have HZ:=hid (show Z=NM.encH hv from hZ);have HN:=hid (cEncVec _ hv w0 h9 (ok.e9 rfl));clear hZ hf ok h1 h2 h3 h4 h5 h6 h7 h8 h9;go_enter Tryz.func53,Tryz.ntmps53
  go_upto_region 1 with fail
  rw [HW.out];have xs:=HX.out.cells;dsimp only at xs;go_wp2_with fail
  refine HN.out.mono ?_;rintro e w1 ⟨v1,rfl,ho,hb⟩;have HB1:=hid (bnext HB.out hb);have HO1:=hid ho;clear hb ho HN xs;go_wp2
  go_ret;exact ⟨_,rfl,by rw [HZ.out];exact HO1.out.rd,HB1.out⟩
 ·have HZ:=hid (show Z = [bit mo] from hZ);have hap:=wAppendBool (.slice none 0 0) [] mo w0 (Rd.nil _) (by simp);rw [List.nil_append] at hap;have HN:=hid hap;clear hap hZ hf ok h1 h2 h3 h4 h5 h6 h7 h8 h9;go_enter Tryz.func53,Tryz.ntmps53
  go_upto_region 1 with fail
  rw [HW.out];have xs:=HX.out.cells;dsimp only at xs;go_wp2_with fail
  refine HN.out.mono ?_;rintro e w1 ⟨v1,rfl,ho,hb⟩;have HB1:=hid (bnext HB.out hb);have HO1:=hid ho;clear hb ho HN xs;go_wp2
  go_ret;exact ⟨_,rfl,by rw [HZ.out];exact HO1.out.rd,HB1.out⟩
theorem pAppendM (v:Value) (bs:List Int) (x:Mv) (m:Ms) (w:World) (hv:Rd w v bs) (h:RdMs w x m) (he:NM.errM m=0) (hE:ST.FitE m.st) (hh:m.k=4->NM.FitH m.hv) (hbs:bs.length<=1000) :
  Calls Tryz.prog 18 #[v,mv m x] w fun e w'=>∃ v',e = .returned v'/\Rd w' v' (bs++NM.encM m)/\Below w.heap.size w w':=by
 obtain ⟨C,hC⟩:∃ C,C=mcell m x:=⟨_,rfl⟩
 have hsc:C.size=18:=by rw [hC];rfl
 have b1:=below_fresh w (.cells C 33);have hXC:=heap_alloc_new w (.cells C 33);obtain ⟨w0,hw0⟩:∃ z,w.alloc (.cells C 33)=z:=⟨_,rfl⟩
 rw [hw0] at b1 hXC;have HX:=hid (show MB w0 w.heap.size m x by unfold MB;rw [<- hC];exact hXC);have HXC:=hid hXC;have HB:=hid b1;have HW:=hid hw0;obtain ⟨⟨k1,k8⟩,sf,stx,_⟩:=NM.errM_ok he;have hkn:NM.kn m.k=true:=decide_eq_true ⟨k1,k8⟩;have hsm:∀ y ∈ [m.k,m.fr,m.tx],JM.small y:=by
  intro y hy;simp only [List.mem_cons,List.mem_nil_iff,or_false] at hy;rcases hy with rfl | rfl | rfl
  ·unfold JM.small;omega
  ·exact sf
  ·exact stx
 have hb2:=below_fresh w0 (.cells #[.int .i64 m.k,.int .i64 m.fr,.int .i64 m.tx] 3);have hri:RdI (w0.alloc (.cells #[.int .i64 m.k,.int .i64 m.fr,.int .i64 m.tx] 3)) (.slice (some ⟨w0.heap.size,0,none⟩) 3 3) [m.k,m.fr,m.tx]:=(ownG_fresh hlI 3 w0 [m.k,m.fr,m.tx] (by unfold maxLen;simp)).rd;obtain ⟨w1,hw1⟩:∃ z,w0.alloc (.cells #[.int .i64 m.k,.int .i64 m.fr,.int .i64 m.tx] 3)=z:=⟨_,rfl⟩
 rw [hw1] at hb2 hri;have hA:=cAppendNumbers v _ bs [m.k,m.fr,m.tx] w1 (hv.below (bnext b1 hb2)) hri hsm (by simp) (by omega);have HA:=hid hA;have HW1:=hid hw1;have HB1:=hid hb2;have HF:=hid (fun w'=>cFields m.k w' (show NM.I64 m.k from WalkArith.wf_i64 (by omega)));have HEN:=hid (fun (f:Int) w' (g:Below w0.heap.size w0 w') (hm:f∈NM.usd m.k)=>(show Calls Tryz.prog 53 #[.agg C,.int .i64 f] w' fun e w''=>∃ v',e = .returned v'/\Rd w'' v' (NM.encF m f)/\Below w'.heap.size w' w'' by
  rw [hC];exact cEncF x m f w' (h.below (bnext b1 g)) (usd_range hm) (encOk_all he hE.i hh hm)))
 have hle:=JM.encN_len [m.k,m.fr,m.tx] hsm;have hfl:∀ j,((NM.usd m.k).take j).length<=7:=fun j=>by rw [List.length_take];have:=usd_len m.k;omega
 have hfm:∀ l:List Int,(∀ f∈l,f∈NM.usd m.k)->(l.flatMap (NM.encF m)).length<=l.length*100000:=by
  intro l;induction l with
  | nil=>intro _;simp
  | cons f l ih=>
   intro hl;rw [List.flatMap_cons,List.length_append,List.length_cons];have i1:=ih (fun g hg=>hl g (by simp [hg]));have i2:=encF_le (encOk_all he hE.i hh (hl f (by simp)));omega
 have HLE:=hid (show ∀ j,(bs++JM.encN [m.k,m.fr,m.tx]++((NM.usd m.k).take j).flatMap (NM.encF m)).length<=1100000 from fun j=>by
  have h1:=hfm ((NM.usd m.k).take j) (fun f hf=>List.mem_of_mem_take hf);have h2:=hfl j;rw [List.length_append,List.length_append];simp only [List.length_cons,List.length_nil] at hle;omega)
 have HLF:=hid (fun (f:Int) (hm:f∈NM.usd m.k)=>encF_le (encOk_all he hE.i hh hm));have hul:=usd_len m.k;have hfin:bs++NM.encM m=bs++JM.encN [m.k,m.fr,m.tx]++(NM.usd m.k).flatMap (NM.encF m):=by rw [NM.encM_fld hkn,List.append_assoc]
 rw [hfin];show Calls Tryz.prog 18 #[v,.agg (mcell m x)] w _
 rw [<- hC];obtain ⟨va,vc,rfl,_⟩:=hv.shape;generalize NM.usd m.k=us at HF HEN HLE HLF hul ⊢;have HUL:=hid hul;clear hv h he hE hh hbs hC b1 hXC hw0 k1 k8 sf stx hkn hsm hb2 hri hw1 hA hle hfl hfm hfin hul;go_enter Tryz.func18,Tryz.ntmps18
 go_upto_region 1 with fail
 rw [HW.out];obtain ⟨x0,x1,x2,_⟩:=HX.out.cells;go_wp2_with fail
 rw [HW1.out];refine HA.out.mono ?_;rintro e w2 ⟨v2,rfl,ho2,hb⟩;have HO2:=hid (ho2.mono HB1.out.size);have HB2:=hid (bnext HB1.out hb);have HX2:=hid (HX.out.below HB2.out);clear x0 x1 x2 hb ho2 HA HW HW1 HB1;obtain ⟨x0,x1,x2,_⟩:=HX2.out.cells;go_wp2_with fail
 refine (HF.out w2).mono ?_;rintro e w3 ⟨v3,rfl,hv3,hb⟩;have HO3:=hid (HO2.out.below hb);have HB3:=hid (bnext HB2.out hb);have HV3:=hid (hv3.mono (Nat.zero_le _));obtain ⟨ua,uc,rfl,_,_⟩:=hv3.rd.shape;clear x0 x1 x2 hb hv3 HF HX2 HO2 HB2;have hul:=HUL.out;have hul2:(us.length:Int)<=7:=by omega
 go_wp2
 go_loopw [5,27] (fun u i wr=>∃ j:Nat,j<=us.length/\i = .int .i64 j/\Hid (Own w0.heap.size wr u (bs++JM.encN [m.k,m.fr,m.tx]++(us.take j).flatMap (NM.encF m)))/\Hid (Below w0.heap.size w0 wr)/\Hid (OwnG encI 55 1 0 wr (.slice ua us.length uc) us)) (fun _ i _=>us.length - (intOf i).toNat)
 case atStart=>exact ⟨0,Nat.zero_le _,rfl,(by show Own _ _ _ _;rw [List.take_zero];simpa using HO3.out),HB3,HV3⟩
 case round=>
  obtain ⟨j,hj,rfl,ho,hbl,hb3⟩:=hrel;clear HO3 HB3 HV3;by_cases hlt:j<us.length
  ·have hq:(j:Int)<(us.length:Int):=by omega
   have hk2:=List.getElem?_eq_getElem hlt;have hmem:=List.mem_of_getElem? hk2;have hl1:=HLE.out j;generalize us[j]=f at hk2 hmem;have hl2:=HLF.out f hmem;have hsn:bs++JM.encN [m.k,m.fr,m.tx]++(us.take (j+1)).flatMap (NM.encF m)=(bs++JM.encN [m.k,m.fr,m.tx]++(us.take j).flatMap (NM.encF m))++NM.encF m f:=by
    rw [List.take_add_one,hk2];simp [List.flatMap_append]
   obtain ⟨b,o,hi,hbw,c0⟩:=atF hb3.out.rd j f hk2;have hX1:=below_block HXC.out hbl.out;have HQ:=hid (HEN.out f wr hbl.out hmem);have HSN:=hid hsn;have hoo:=ho.out;generalize NM.encF m f=Z at HQ HSN hl2;generalize (bs++JM.encN [m.k,m.fr,m.tx]++(us.take j).flatMap (NM.encF m))=E at hoo HSN hl1;have HOO:=hid hoo;clear hk2 hmem hsn ho hoo;go_wp2_with (refine wpList_load_rowG rfl 33 _ rfl w.heap.size rfl 33 C (0,0) _ hX1 Tryz.underlying33 rfl (by rw [hsc];kernel_rfl) ?_)
   refine HQ.out.mono ?_;rintro e w4 ⟨v4,rfl,hr4,hb⟩;have hoe:=HOO.out.below hb;have HB4:=hid (bnext hbl.out hb);have HV5:=hid (hb3.out.below hb);have hs2:=HB4.out.size;have hl1':E.length<=35184372088832:=by omega
   have hl2':Z.length<=35184372088832:=by omega
   clear hb HQ hX1 c0 hi hbw hbl hb3 HOO hl1 hl2;go_wp2_with (at_builtin;refine wp_appSK rfl _ _ rfl rfl hoe rfl hr4 hl1' hl2' hs2 ?_)
   intro v5 w5 ho5 hbb hk5;have HO5:=hid (show Own w0.heap.size w5 v5 (bs++JM.encN [m.k,m.fr,m.tx]++(us.take (j+1)).flatMap (NM.encF m)) by rw [HSN.out];exact ho5);have HB6:=hid (HB4.out.trans hbb);have HV7:=hid (ownG_keep HV5.out hk5 (by decide));clear hoe hr4 ho5 hbb hk5 HB4 HV5 hs2 HSN;go_wp2
   go_roundw
   case rel=>exact ⟨j+1,by omega,by go_num,HO5,HB6,HV7⟩
   case measure=>simp [intOf];omega
  ·have hq:¬ ((j:Int)<(us.length:Int)):=by omega
   obtain rfl:j=us.length:=by omega
   rw [List.take_length] at ho;go_wp2
   go_ret;have hz:=ho.out.rd;rw [List.append_assoc] at hz;refine ⟨_,rfl,?_,bnext HB.out hbl.out⟩;first
    | exact hz
    | (rw [List.append_assoc];exact hz)
end
section
open Go.RowKit
open NM (Ms)
open VM (Ent)
theorem lMessageDecode (Tw:World->Prop) (mt:MT Tw) (v:Value) (xs:List Int) (w:World) (hT:Tw w) (hv:Rd w v xs) :
  Calls Tryz.prog 5 #[v] w fun e w'=>e = .returned (.bool true)/\Below w.heap.size w w':=by
 obtain ⟨va,vc,rfl,_⟩:=hv.shape;have HV:=hid hv;have HT:=hid hT;have HB:=hid (Below.refl w.heap.size w);clear hv hT;by_cases hl:(600:Int)<(xs.length:Int)
 case pos=>
  go_enter Tryz.func5,Tryz.ntmps5
  have HQ:=hid (cAwake14 Tw mt w HT.out);go_wp2_with fail
  refine HQ.out.mono ?_;rintro e w1 ⟨rfl,hb⟩;replace HB:=hid (bnext HB.out hb);go_wp2
  go_ret;exact ⟨rfl,HB.out⟩
 have hd1:=mt.decode (.slice va xs.length vc) xs w HT.out HV.out;have hd2:=fun w' (h:Below w.heap.size w w')=>rDecM (.slice va xs.length vc) xs w' (HV.out.below h)
 obtain ⟨M,hM⟩:∃ M,M=NM.decM xs:=⟨_,rfl⟩
 simp only [<- hM] at hd1 hd2;obtain ⟨E,U,M⟩:=M;dsimp only at hd1 hd2;have HQ:=hid (dec_cells hd1);have H2:=hid (fun w' (h:Below w.heap.size w w')=>dec_cells (hd2 w' h));clear hd1 hd2 hM;go_enter Tryz.func5,Tryz.ntmps5
 go_wp2_with fail
 refine HQ.out.mono ?_;rintro e w1 ⟨D,x1,rfl,hD,hr,hb⟩;clear HQ;have hsd:D.size=18:=by rw [hD];rfl
 have hfr:=below_fresh w1 (.cells zC 33);have hz:(w1.alloc (.cells zC 33)).heap[w1.heap.size]? = some (.cells zC 33 (0,0)):=heap_alloc_new w1 _;have hsc:=run_storeCells_row (w1.alloc (.cells zC 33)) w1.heap.size 33 zC D hz (by rw [hsd];rfl) (by rw [hD];exact arr_one hr)
 obtain ⟨w2,hw5⟩:∃ w5,(w1.alloc (.cells zC 33)).setRow w1.heap.size D=w5:=⟨_,rfl⟩
 have HX:=hid (show w2.heap[w1.heap.size]? = some (.cells D 33 (0,0)) by rw [<- hw5];exact setRow_heap _ _ _ _ _ _ hz);have hb5:Below w1.heap.size w1 w2:=by rw [<- hw5];exact seen hfr (Nat.le_refl _) (onlyRow _ _ _)
 have hb6:=bnext hb hb5;replace HB:=hid (bnext HB.out hb6);replace HT:=hid (mt.keep _ _ HT.out hb6);have HRD:=hid (hr.below hb5);have HD:=hid hD;have HW5:=hid hw5;obtain ⟨G,hG⟩:∃ G,G=w1.heap.size:=⟨_,rfl⟩
 clear hr hb hfr hw5 hb5 hb6 hz hD;go_upto_region 4 with fail
 rw [HW5.out];rw [<- hG] at HX ⊢;clear hG HW5 hsc;have HQ:=hid (H2.out w2 HB.out);go_wp2_with fail
 refine HQ.out.mono ?_;rintro e w3 ⟨C,x2,rfl,hD,hr,hb⟩;clear HQ H2;have hsz:C.size=18:=by rw [hD];rfl
 have hfr:=below_fresh w3 (.cells zC 33);have hz:(w3.alloc (.cells zC 33)).heap[w3.heap.size]? = some (.cells zC 33 (0,0)):=heap_alloc_new w3 _;have hsc:=run_storeCells_row (w3.alloc (.cells zC 33)) w3.heap.size 33 zC C hz (by rw [hsz];rfl) (by rw [hD];exact arr_one hr)
 obtain ⟨w4,hw5⟩:∃ w5,(w3.alloc (.cells zC 33)).setRow w3.heap.size C=w5:=⟨_,rfl⟩
 have HY:=hid (show w4.heap[w3.heap.size]? = some (.cells C 33 (0,0)) by rw [<- hw5];exact setRow_heap _ _ _ _ _ _ hz);have hb5:Below w3.heap.size w3 w4:=by rw [<- hw5];exact seen hfr (Nat.le_refl _) (onlyRow _ _ _)
 have hb6:=bnext hb hb5;replace HX:=hid (below_block HX.out hb6);replace HRD:=hid (HRD.out.below hb6);replace HB:=hid (bnext HB.out hb6);replace HT:=hid (mt.keep _ _ HT.out hb6);have HRC:=hid (hr.below hb5);have HC:=hid hD;have HW5:=hid hw5;obtain ⟨G2,hG2⟩:∃ G,G=w3.heap.size:=⟨_,rfl⟩
 clear hr hb hfr hw5 hb5 hb6 hz hD;go_upto_region 5 with fail
 rw [HW5.out];rw [<- hG2] at HY ⊢;clear hG2 HW5 hsc;have hQ:Calls Tryz.prog 12 #[.agg D,.agg C] w4 fun e w'=>e = .returned (.bool true)/\Below w4.heap.size w4 w':=by
  have h:=rEqM x1 M x2 M w4 HRD.out HRC.out;rw [NM.eqm_self] at h;rw [HD.out,HC.out];exact h
 have HQ:=hid hQ;clear hQ;go_wp2_with (first | (refine wpList_load_rowG rfl 33 _ rfl G rfl 33 D (0,0) _ HX.out Tryz.underlying33 rfl (by rw [hsd];kernel_rfl) ?_) | (refine wpList_load_rowG rfl 33 _ rfl G2 rfl 33 C (0,0) _ HY.out Tryz.underlying33 rfl (by rw [hsz];kernel_rfl) ?_))
 refine HQ.out.mono ?_;rintro e w5 ⟨rfl,hb⟩;replace HB:=hid (bnext HB.out hb);replace HT:=hid (mt.keep _ _ HT.out hb);clear hb HQ HX HY HRD HRC HD HC;have HQ:=hid (cAwake14 Tw mt w5 HT.out);go_wp2_with fail
 refine HQ.out.mono ?_;rintro e w6 ⟨rfl,hb⟩;replace HB:=hid (bnext HB.out hb);go_wp2
 go_ret;exact ⟨rfl,HB.out⟩
end
end Go.Proofs.YtahcehbgfhdbjaaGreatDoor
namespace Go.Proofs.YtahcehbgfhdbjaaGreatDoor.ST
open Go.RowKit Go.Joins
open UM (Ef)
open SM (Fp)
end Go.Proofs.YtahcehbgfhdbjaaGreatDoor.ST
namespace Go.Proofs.YtahcehbgfhdbjaaGreatDoor
open Go.RowKit
open JM (Chg)
open CM (Fp)
open VM (Ent)
def RdFs (ws w:World) (v:Value) (fs:List Fp):Prop:=∃ qs,RdQ w v qs/\Tel ws qs fs
end Go.Proofs.YtahcehbgfhdbjaaGreatDoor
namespace Go.Proofs.YtahcehbgfhdbjaaGreatDoor.ST
open Go.RowKit Go.Joins
open UM (Ef)
open SM (Fp)
open VM (Ent)
def RdFs (ws w:World) (v:Value) (fs:List Fp):Prop:=∃ qs,RdUp w v qs/\Tel ws qs fs
end Go.Proofs.YtahcehbgfhdbjaaGreatDoor.ST
namespace Go.Proofs.YtahcehbgfhdbjaaGreatDoor.NM
open VM (Ent)
end Go.Proofs.YtahcehbgfhdbjaaGreatDoor.NM
namespace Go.Proofs.YtahcehbgfhdbjaaGreatDoor
section
open Go.RowKit
open NM (Ms)
open VM (Ent)
end
section
open Go.RowKit Go.Joins
open WM (Bytes)
end
end Go.Proofs.YtahcehbgfhdbjaaGreatDoor
namespace Go.Proofs.YtahcehbgfhdbjaaGreatDoor.ST
open Go.RowKit
open UM (Ef)
open SM (Fp)
def Nxt (pr:Int×Int) (q:Up):Prop:=(q.1=pr.1/\q.2.1=pr.2+1)∨(pr.1<q.1/\q.2.1=1)
def Chn:Int×Int->List Up->Prop
 | _,[]=>True
 | pr,q :: r=>Nxt pr q/\Chn (q.1,q.2.1) r
def endK:Int×Int->List Up->Int×Int
 | pr,[]=>pr
 | _,q :: r=>endK (q.1,q.2.1) r
def EndAt (e:Int×Int) (j i:Nat):Prop:=(i=0/\e.1<101+(j:Int))∨(0<i/\e=(101+(j:Int),(i:Int)))
def GoodL (base:Nat) (w:World) (qs:List Up) (j i:Nat):Prop:=(∀ q∈qs,GoodU base w q)/\Chn (0,0) qs/\EndAt (endK (0,0) qs) j i
end Go.Proofs.YtahcehbgfhdbjaaGreatDoor.ST
namespace Go.Proofs.YtahcehbgfhdbjaaGreatDoor
section
open Go.RowKit
open NM (Ms)
open VM (Ent)
namespace NM
end NM
end
section
open Go.RowKit
open NM (Ms)
theorem cMT:MT Tb where
 keep:=fun _ _ h hb=>h.below hb
 validate:=fun x m w hT h hE hk=>pValidateM x m w hT h hE.n hk
 equal:=fun x m x' m' w h h'=>pEqualM x x' m m' w h h'
 append:=fun v bs x m w _ hv h he hE hh hb=>pAppendM v bs x m w hv h he hE hh hb
 decode:=fun v xs w hT hv=>pDecodeM v xs w hT hv
end
section
set_option maxRecDepth 100000
open Go.ChangeShapes Go.WideShapes Go.ChangeAt Go.RowKit
section
variable {H:Type} {enc:TypeId×Value->H} {W:World}
end
end
end Go.Proofs.YtahcehbgfhdbjaaGreatDoor

