/-
  HProg HPrd: joined texts, what nothing names left out.
-/
import Derived.Test.YtahcehbgfhdbjaaGreatDoorQUA1
import Derived.Test.YtahcehbgfhdbjaaGreatDoorQUTB4
set_option maxHeartbeats 4000000
set_option maxRecDepth 100000
open Go.Lib (hid)
namespace Go.Proofs.YtahcehbgfhdbjaaGreatDoor
section
open Go.RowKit
open JM (Chg)
open CM (Fp)
open WM (Bytes)
theorem all_any_cons (f t:List Fp):(f.all fun p=>t.any fun q=>eqP p.1 p.2.1 p.2.2 q.1 q.2.1 q.2.2)=CM.cons t f:=by
 rw [<- CM.incl_cons];unfold CM.incl;congr 1
 funext p
 congr 1
 funext q
 unfold eqP;exact decide_eq_decide.2 ⟨fun h=>⟨h.1.symm,h.2.1.symm,h.2.2.symm⟩,fun h=>⟨h.1.symm,h.2.1.symm,h.2.2.symm⟩⟩
theorem vSame (g:Nat) (x m:Int) (va:Value) (cs:List Chg) (y n:Int) (vd:Value) (ds:List Chg) (w:World) (hp:PBox w g x m va) (hc:RdC w va cs) (hd:RdC w vd ds) :
  Calls Tryz.prog 112 #[pv y n vd,.pointer (some ⟨g,0,none⟩)] w fun e w'=>e = .returned (.bool (eqP x m cs y n ds))/\Below w.heap.size w w':=by
 have hb:=below_fresh w (.cells #[.int .i64 y,.int .i64 n,vd] 93);have hq:=PBox.fresh w y n vd;have hp2:=hp.below hb;obtain ⟨w0,hw0⟩:∃ w0,w.alloc (.cells #[.int .i64 y,.int .i64 n,vd] 93)=w0:=⟨_,rfl⟩
 rw [hw0] at hb hq hp2;have HE:=hid (cEqual x m va cs y n vd ds w0 (hc.below hb) (hd.below hb));obtain ⟨a,l,c,rfl⟩:∃ a l c,va = .slice a l c:=by (obtain ⟨a,c,h,_⟩:=hc.shape;exact ⟨_,_,_,h⟩)
 obtain ⟨a2,l2,c2,rfl⟩:∃ a l c,vd = .slice a l c:=by (obtain ⟨a,c,h,_⟩:=hd.shape;exact ⟨_,_,_,h⟩)
 have HW:=hid hw0;have HB:=hid hb;obtain ⟨p0,p1,p2⟩:=hp2;obtain ⟨q0,q1,q2⟩:=hq;generalize eqP x m cs y n ds=R at HE;clear hp hc hd hb hw0;go_enter Tryz.func112,Tryz.ntmps112
 go_upto_region 1 with fail
 rw [HW.out];go_wp2_with fail
 refine HE.out.mono ?_;rintro e w1 ⟨rfl,hb1⟩;go_wp2
 go_ret;exact ⟨rfl,bnext HB.out hb1⟩
theorem vIndexFunc (v:Value) (xs:List Fp) (g:Nat) (x m:Int) (va:Value) (cs:List Chg) (w:World) (h:RdF w v xs) (hp:PBox w g x m va) (hc:RdC w va cs) :
  Calls Tryz.prog 137 #[v,.func (.func 112) #[] #[.pointer (some ⟨g,0,none⟩)]] w fun e w'=>∃ r:Int,e = .returned (.int .i64 r)/\decide (0<=r)=xs.any (fun q=>eqP x m cs q.1 q.2.1 q.2.2)/\Below w.heap.size w w':=by
 have eF:=enters_of Tryz.func112 (by kernel_rfl) rfl;obtain ⟨ad,c,rfl,hcc,hl⟩:=h.shape;obtain ⟨R,hR⟩:∃ R,R=xs.any (fun q=>eqP x m cs q.1 q.2.1 q.2.2):=⟨_,rfl⟩
 rw [<- hR];have HR:=hid hR;have HX:=hid h;have HP:=hid hp;have HC:=hid hc;clear hR h hp hc;go_enter Tryz.func137,Tryz.ntmps137
 go_wp2
 go_loopw [8] (fun i wr=>∃ k:Nat,k<=xs.length/\i = .int .i64 k/\Below w.heap.size w wr/\Hid (R=(xs.drop k).any (fun q=>eqP x m cs q.1 q.2.1 q.2.2))) (fun i _=>xs.length - (intOf i).toNat)
 case atStart=>exact ⟨0,Nat.zero_le _,rfl,Below.refl _ _,HR.out⟩
 case round=>
  obtain ⟨k,hk,rfl,hbl,he⟩:=hrel;by_cases hlt:k<xs.length
  ·have hq:(k:Int)<(xs.length:Int):=by omega
   have hdx:=hid (drop_get hlt);have hat:=List.getElem?_eq_getElem hlt;generalize xs[k]=y at hdx hat
   obtain ⟨y,n,ds⟩:=y;obtain ⟨b,o,da,dl,dc,hi,hb,d0,d1,d2,hrd⟩:=(HX.out.below hbl).at_ k _ _ _ hat
   have hS:=hid (vSame g x m va cs y n (.slice da dl dc) ds wr (HP.out.below hbl) (HC.out.below hbl) hrd);have e2:=hid (show R=(eqP x m cs y n ds || (xs.drop (k+1)).any (fun q=>eqP x m cs q.1 q.2.1 q.2.2)) by rw [he.out,hdx.out];rfl);clear he hdx hat hrd;generalize eqP x m cs y n ds=B at hS e2;cases B
   ·have e3:=hid (show R=(xs.drop (k+1)).any (fun q=>eqP x m cs q.1 q.2.1 q.2.2) by rw [e2.out,Bool.false_or]);clear e2;go_wp2_with (go_at_call 112;refine hS.out.mono ?_;rintro e w4 ⟨rfl,h4⟩)
    go_roundw
    case rel=>exact ⟨k+1,by omega,by go_num,bnext hbl h4,e3⟩
    case measure=>simp [intOf];omega
   ·have e3:=hid (show R=true by rw [e2.out,Bool.true_or]);clear e2;go_wp2_with (go_at_call 112;refine hS.out.mono ?_;rintro e w4 ⟨rfl,h4⟩)
    go_ret;exact ⟨_,rfl,by rw [e3.out];exact decide_eq_true (by omega),bnext hbl h4⟩
  ·have hq:¬ ((k:Int)<(xs.length:Int)):=by omega
   have e2:=hid (show R=false by rw [he.out,List.drop_of_length_le (by omega)];rfl);clear he HR;go_wp2
   go_ret;exact ⟨_,rfl,by rw [e2.out];rfl,hbl⟩
theorem vContainsFunc (v:Value) (xs:List Fp) (g:Nat) (x m:Int) (va:Value) (cs:List Chg) (w:World) (h:RdF w v xs) (hp:PBox w g x m va) (hc:RdC w va cs) :
  Calls Tryz.prog 111 #[v,.func (.func 112) #[] #[.pointer (some ⟨g,0,none⟩)]] w fun e w'=>e = .returned (.bool (xs.any (fun q=>eqP x m cs q.1 q.2.1 q.2.2)))/\Below w.heap.size w w':=by
 have HI:=hid (vIndexFunc v xs g x m va cs w h hp hc);generalize xs.any (fun q=>eqP x m cs q.1 q.2.1 q.2.2)=R at HI;obtain ⟨ad,c,rfl,_,_⟩:=h.shape;clear h hp hc;go_enter Tryz.func111,Tryz.ntmps111
 go_wp2_with fail
 refine HI.out.mono ?_;rintro e w1 ⟨r,rfl,hr,hb⟩;clear HI;go_wp2
 go_ret;exact ⟨rfl,hb⟩
theorem pValidate (a b:Value) (f t:List Fp) (w:World) (hfa:RdF w a f) (htb:RdF w b t) :
  Calls Tryz.prog 61 #[cev a b] w fun e w'=>e = .returned (.int .i64 (CM.errC f t))/\Below w.heap.size w w':=by
 have hmf:∀ (fn:Fn) (first cap:Array Value) (w:World),(Instr.makeFunc fn first cap).run Tryz.prog w = .ok (.func fn first cap) w:=fun _ _ _ _=>rfl
 obtain ⟨R,hR⟩:∃ R,R=CM.errC f t:=⟨_,rfl⟩
 rw [<- hR];unfold CM.errC at hR;rw [<- all_any_cons] at hR;obtain ⟨aa,ac,rfl,hac,_⟩:=hfa.shape;obtain ⟨ba,bc,rfl,hbc,_⟩:=htb.shape;have hb0:=below_fresh w (.cells #[.slice aa f.length ac,.slice ba t.length bc] 27);have hX0:=XB.fresh w (.slice aa f.length ac) (.slice ba t.length bc);obtain ⟨w0,hw0⟩:∃ w0,w.alloc (.cells #[.slice aa f.length ac,.slice ba t.length bc] 27)=w0:=⟨_,rfl⟩
 rw [hw0] at hb0 hX0;have HB0:=hid hb0;have HFA:=hid (hfa.below hb0);have HTB:=hid (htb.below hb0);have HF:=hid (fun w' (h:Below w0.heap.size w0 w')=>gValidate _ f w' ((hfa.below hb0).below h));have HT:=hid (fun w' (h:Below w0.heap.size w0 w')=>gValidate _ t w' ((htb.below hb0).below h));have HW:=hid hw0;generalize CM.errL (0,0) f=E1 at HF hR;generalize CM.errL (0,0) t=E2 at HT hR;obtain ⟨c0,c1,_⟩:=hX0.cells;obtain ⟨EE,hEE⟩:∃ e,e=orL [E1,E2]:=⟨_,rfl⟩
 have HOR:=hid hEE.symm;have HCO:=hid (fun z l w (h:RdI w z l)=>cOrE z l w h);have hRF:Hid ((EE=0->R=if (f.all fun p=>t.any fun q=>eqP p.1 p.2.1 p.2.2 q.1 q.2.1 q.2.2)=true then 0 else 2)/\(¬ EE=0->R=EE)):=hid (by
  rw [hEE,hR];unfold orL orL orL;by_cases h1:E1=0
  ·by_cases h2:E2=0
   ·simp [h1,h2]
   ·simp [h1,h2]
  ·simp [h1])
 clear hR hfa htb hb0 hX0 hw0 hEE;go_enter Tryz.func61,Tryz.ntmps61
 go_upto_region 1 with fail
 rw [HW.out];refine wp_region_held_drew (S:=fun w'=>Below w0.heap.size w0 w') (by kernel_rfl) ((Below.refl _ _).drew) (fun ha=>?_);replace ha:Below w0.heap.size w0 w0.drew:=(Below.refl _ _).drew;generalize w0.drew=wa at ha ⊢;refine takeJ 0 ?_;refine takeJ 3 ?_;refine takeG 1 (v:=?_) ?_ ?_;rotate_left
 ·(intro w hSw;(try dsimp only at hSw);have hcx:=below_cell hSw c0;go_simp;first | done | with_reducible rfl)
 (try simp only [Act.put,lTA,lZ,lS]);refine takeG 4 (v:=?_) ?_ ?_;rotate_left
 ·(intro w hSw;(try dsimp only at hSw);have hcx:=below_cell hSw c1;go_simp;first | done | with_reducible rfl)
 (try simp only [Act.put,lTA,lZ,lS]);refine wpAnyH_ready (rs:=[2]) (by kernel_rfl) (by simp) ?_;refine stepH rfl (fun K hK=>?_) AllReadyH.nil;go_simp
 refine (HF.out wa ha).mono ?_;rintro e wb ⟨rfl,hq⟩;have hb:=bnext ha hq;go_wp2_with fail
 refine hK.out _ _ (hb) (fun _=>?_);clear hK K;(try simp only [Act.put,lTA,lZ,lS]);refine wpAnyH_ready (rs:=[5]) (by kernel_rfl) (by simp) ?_;refine stepH rfl (fun K hK=>?_) AllReadyH.nil;go_simp
 refine (HT.out wb hb).mono ?_;rintro e wc ⟨rfl,hq⟩;have hc:=bnext hb hq;go_wp2_with fail
 refine hK.out _ _ (hc) (fun _=>?_);clear hK K;(try simp only [Act.put,lTA,lZ,lS]);have hrd:=rd2e wc E1 E2;refine wpAnyH_ready (rs:=[6]) (by kernel_rfl) (by simp) ?_;refine stepH rfl (fun K hK=>?_) AllReadyH.nil;go_simp
 have hd:=bnext hc (below_fresh wc (.cells #[.int .i64 E1,.int .i64 E2] 36));refine hK.out _ _ (hd) (fun _=>?_);clear hK K;(try simp only [Act.put,lTA,lZ,lS]);generalize wc.alloc (.cells #[.int .i64 E1,.int .i64 E2] 36)=wd at hd hrd ⊢;refine wpAnyH_ready (rs:=[7]) (by kernel_rfl) (by simp) ?_;refine stepH rfl (fun K hK=>?_) AllReadyH.nil;go_simp
 refine (HCO.out _ _ wd hrd).mono ?_;rintro e we ⟨rfl,rfl⟩;rw [HOR.out];go_wp2_with fail
 refine hK.out _ _ (hd) (fun _=>?_);clear hK K;(try simp only [Act.put,lTA,lZ,lS]);refine takeJ 8 ?_;refine wpAnyH_done (by kernel_rfl) ?_ _;have HBD:=hid (bnext HB0.out hd);have d0:=below_cell hd c0;have d1:=below_cell hd c1;have HFD:=hid (HFA.out.below hd);have HTD:=hid (HTB.out.below hd);clear ha hb hc hd hrd HF HT HCO HOR c0 c1 HFA HTB HB0 HW;by_cases hE:EE=0
 case neg=>
  have e:=hid (hRF.out.2 hE);have hne:(EE != 0)=true:=bne_t hE;clear hE hRF;go_wp2
  go_ret;rw [e.out];exact ⟨rfl,HBD.out⟩
 have HR:=hid (hRF.out.1 hE);subst hE;clear hRF;go_wp2
 go_loopw [20] (fun i wr=>∃ k:Nat,k<=f.length/\i = .int .i64 k/\Hid (Below wd.heap.size wd wr)/\Hid (R=if ((f.drop k).all fun p=>t.any fun q=>eqP p.1 p.2.1 p.2.2 q.1 q.2.1 q.2.2)=true then 0 else 2)) (fun i _=>f.length - (intOf i).toNat)
 case atStart=>exact ⟨0,Nat.zero_le _,rfl,Below.refl _ _,HR.out⟩
 case round=>
  obtain ⟨k,hk,rfl,hbl,he⟩:=hrel;clear HR;by_cases hlt:k<f.length
  ·have hq:(k:Int)<(f.length:Int):=by omega
   have hdx:=hid (drop_get hlt);have hat:=List.getElem?_eq_getElem hlt;generalize f[k]=y at hdx hat
   obtain ⟨x,m,cs⟩:=y;obtain ⟨b,o,da,dl,dc,hi,hbw,f0,f1,f2,hrd⟩:=(HFD.out.below hbl.out).at_ k x m cs hat
   have hbx:=below_fresh wr (.cells #[.int .i64 x,.int .i64 m,.slice da dl dc] 93);have hpx:=PBox.fresh wr x m (.slice da dl dc);obtain ⟨wx,hwx⟩:∃ wx,wr.alloc (.cells #[.int .i64 x,.int .i64 m,.slice da dl dc] 93)=wx:=⟨_,rfl⟩
   rw [hwx] at hbx hpx;have HBX:=hid (bnext hbl.out hbx);have HS:=hid (vContainsFunc _ t wr.heap.size x m _ cs wx (HTD.out.below HBX.out) hpx (hrd.below hbx));have HWX:=hid hwx;have g0:=below_cell HBX.out d0;have g1:=below_cell HBX.out d1;have e2:=hid (show R=if ((t.any fun q=>eqP x m cs q.1 q.2.1 q.2.2) && (f.drop (k+1)).all fun p=>t.any fun q=>eqP p.1 p.2.1 p.2.2 q.1 q.2.1 q.2.2)=true then 0 else 2 by rw [he.out,hdx.out];rfl);generalize (t.any fun q=>eqP x m cs q.1 q.2.1 q.2.2)=B at HS e2;clear he hdx hat hrd hbx hpx hwx;go_upto_region 7 with fail
   rw [HWX.out];go_wp2_with fail
   refine HS.out.mono ?_;rintro e w4 ⟨rfl,h4⟩;have HB4:=hid (bnext HBX.out h4);clear HS h4 HWX HBX g0 g1;cases B
   ·have e3:=hid (show R=2 by rw [e2.out];simp);clear e2;go_wp2
    go_ret;rw [e3.out];exact ⟨rfl,bnext HBD.out HB4.out⟩
   ·have e3:=hid (show R=if ((f.drop (k+1)).all fun p=>t.any fun q=>eqP p.1 p.2.1 p.2.2 q.1 q.2.1 q.2.2)=true then 0 else 2 by rw [e2.out,Bool.true_and]);clear e2;go_wp2
    go_roundw
    case rel=>exact ⟨k+1,by omega,by go_num,HB4,e3⟩
    case measure=>simp [intOf];omega
  ·have hq:¬ ((k:Int)<(f.length:Int)):=by omega
   have e2:=hid (show R=0 by rw [he.out,List.drop_of_length_le (by omega)];rfl);clear he;go_wp2
   go_ret;rw [e2.out];exact ⟨rfl,bnext HBD.out hbl.out⟩
end
section
open Go.RowKit
open JM (Chg)
open CM (Fp)
open WM (Bytes)
theorem pAppend (v:Value) (bs:List Int) (a b:Value) (f t:List Fp) (w:World) (h:Rd w v bs) (hfa:RdF w a f) (htb:RdF w b t) (hf:CM.Ok f) (ht:CM.Ok t) (hlen:bs.length<=1000) :
  Calls Tryz.prog 104 #[v,cev a b] w fun e w'=>∃ v',e = .returned v'/\Rd w' v' (bs++CM.encC2 f t)/\Below w.heap.size w w':=by
 have hle:=encL_le hf;obtain ⟨va,vc,rfl,hvc⟩:=h.shape;obtain ⟨aa,ac,rfl,hac,_⟩:=hfa.shape;obtain ⟨ba,bc,rfl,hbc,_⟩:=htb.shape;have hb0:=below_fresh w (.cells #[.slice aa f.length ac,.slice ba t.length bc] 27);have hX:=XB.fresh w (.slice aa f.length ac) (.slice ba t.length bc);obtain ⟨w0,hw0⟩:∃ w0,w.alloc (.cells #[.slice aa f.length ac,.slice ba t.length bc] 27)=w0:=⟨_,rfl⟩
 rw [hw0] at hb0 hX;have H1:=hid (fun w' (h':Below w0.heap.size w0 w')=>gAppendC _ bs _ f w' ((h.below hb0).below h') ((hfa.below hb0).below h') hf (by omega));have H2:=hid (fun v' w' (h':Below w0.heap.size w0 w') (hr:Rd w' v' (bs++CM.encL f))=>gAppendC v' (bs++CM.encL f) _ t w' hr ((htb.below hb0).below h') ht (by rw [List.length_append];omega));have HE:=hid (show (bs++CM.encL f)++CM.encL t=bs++CM.encC2 f t by unfold CM.encC2;rw [List.append_assoc]);have HB0:=hid hb0;have HW:=hid hw0;obtain ⟨x0,x1,_⟩:=hX.cells;clear h hfa htb hf ht hlen hle hb0 hw0 hX;go_enter Tryz.func104,Tryz.ntmps104
 go_wp2
 rw [HW.out];refine wp_region_held_drew (S:=fun w'=>Below w0.heap.size w0 w') (by kernel_rfl) ((Below.refl _ _).drew) (fun ha=>?_);replace ha:Below w0.heap.size w0 w0.drew:=(Below.refl _ _).drew;generalize w0.drew=wa at ha ⊢;refine takeJ 0 ?_;refine takeJ 1 ?_;refine takeJ 4 ?_;refine takeG 2 (v:=?_) ?_ ?_;rotate_left
 ·(intro w hSw;(try dsimp only at hSw);have hcx:=below_cell hSw x0;go_simp;first | done | with_reducible rfl)
 (try simp only [Act.put,lTA,lZ,lS]);refine takeG 5 (v:=?_) ?_ ?_;rotate_left
 ·(intro w hSw;(try dsimp only at hSw);have hcx:=below_cell hSw x1;go_simp;first | done | with_reducible rfl)
 (try simp only [Act.put,lTA,lZ,lS]);refine wpAnyH_ready (rs:=[3]) (by kernel_rfl) (by simp) ?_;refine stepH rfl (fun K hK=>?_) AllReadyH.nil;go_simp
 refine (H1.out wa ha).mono ?_;rintro e wb ⟨vb,rfl,hrb,hq⟩;replace hrb:=hrb.rd;obtain ⟨ab,lb,cb,rfl⟩:∃ a l c,vb = .slice a l c:=by (obtain ⟨a,c,h,_⟩:=hrb.shape;exact ⟨_,_,_,h⟩)
 have hb:=bnext ha hq;go_wp2_with fail
 refine hK.out _ _ (hb) (fun _=>?_);clear hK K;(try simp only [Act.put,lTA,lZ,lS]);refine wpAnyH_ready (rs:=[6]) (by kernel_rfl) (by simp) ?_;refine stepH rfl (fun K hK=>?_) AllReadyH.nil;go_simp
 refine (H2.out _ wb hb hrb).mono ?_;rintro e wc ⟨vcc,rfl,hrc,hq⟩;replace hrc:=hrc.rd;have hc:=bnext hb hq;go_wp2_with fail
 refine hK.out _ _ (hc) (fun _=>?_);clear hK K;(try simp only [Act.put,lTA,lZ,lS]);refine takeJ 7 ?_;refine wpAnyH_done (by kernel_rfl) ?_ _;have HC:=hid (bnext HB0.out hc);have HR:=hid hrc;clear hrb hrc ha hb hc H1 H2 HW x0 x1 HB0;go_wp2
 go_ret;exact ⟨_,rfl,by rw [<- HE.out];exact HR.out,HC.out⟩
end
end Go.Proofs.YtahcehbgfhdbjaaGreatDoor

