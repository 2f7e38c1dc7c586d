/-
  UVl UApp URdr: joined texts, what nothing names left out.
-/
import Derived.Test.YtahcehbgfhdbjaaGreatDoorQMA7
set_option maxHeartbeats 4000000
set_option maxRecDepth 100000
open Go.Lib (hid)
namespace Go.Proofs.YtahcehbgfhdbjaaGreatDoor
section
open Go.RowKit
open UM (Ef)
theorem cVal (c q t:Int) (v:Value) (es:List Ef) (w:World) (hT:Tb w) (h:RdEf w v es) (hfe:∀ e∈es,NmFit e) :
  Calls Tryz.prog 147 #[uv c q t v] w fun e w'=>e = .returned (.int .i64 (UM.errU c q t es))/\Below w.heap.size w w':=by
 obtain ⟨ad,cp,rfl,hcp,_⟩:=h.shape;obtain ⟨R,hR⟩:∃ R,R=UM.errU c q t es:=⟨_,rfl⟩
 rw [<- hR];unfold UM.errU at hR;have HX:=hid h;have HCL:=hid (fun wx=>cIsClient c wx);have HCO:=hid (fun wx (hb:Below w.heap.size w wx)=>cCommutes c q t _ es wx (h.below hb));obtain ⟨C,hC⟩:∃ C,C=UM.isCl c:=⟨_,rfl⟩
 rw [<- hC] at hR HCL;obtain ⟨M,hM⟩:∃ M,M=UM.com es:=⟨_,rfl⟩
 rw [<- hM] at hR HCO;have hx:=heap_alloc_new w (.cells #[.int .i64 c,.int .i64 q,.int .i64 t,.slice ad es.length cp] 96);have hb:=below_fresh w (.cells #[.int .i64 c,.int .i64 q,.int .i64 t,.slice ad es.length cp] 96);obtain ⟨w1,hw1⟩:∃ z,w.alloc (.cells #[.int .i64 c,.int .i64 q,.int .i64 t,.slice ad es.length cp] 96)=z:=⟨_,rfl⟩
 rw [hw1] at hx hb;have HW:=hid hw1;have HB:=hid hb;have HU:=hid hx;have hlen:es.length<=9223372036854775807:=by omega
 have HT:=hid hT;have HFE:=hid hfe;clear hw1 hb hx hC hM h hT hfe;go_enter Tryz.func147,Tryz.ntmps147
 go_upto_region 1 with fail
 rw [HW.out];clear HW;obtain ⟨c0,c1,c2,c3⟩:=ubox HU.out;by_cases hr:C=false∨q<1∨8<q∨t<0∨1000<t
 ·have HR1:=hid (hR.trans (if_pos hr));clear hR HCO HX HU;cases C with
  | false=>
   clear hr;go_wp2_with fail
   refine (HCL.out w1).mono ?_;rintro e w2 ⟨rfl,rfl⟩;go_wp2
   go_ret;exact ⟨by rw [HR1.out];rfl,HB.out⟩
  | true=>
   have hr2:q<1∨8<q∨t<0∨1000<t:=by
    rcases hr with h | h
    ·cases h
    ·exact h
   clear hr;go_wp2_with fail
   refine (HCL.out w1).mono ?_;rintro e w2 ⟨rfl,rfl⟩;clear HCL;by_cases g1:q<1
   ·go_wp2
    go_ret;exact ⟨by rw [HR1.out];rfl,HB.out⟩
   by_cases g2:8<q
   ·go_wp2
    go_ret;exact ⟨by rw [HR1.out];rfl,HB.out⟩
   by_cases g3:t<0
   ·go_wp2
    go_ret;exact ⟨by rw [HR1.out];rfl,HB.out⟩
   have g4:1000<t:=by omega
   go_wp2
   go_ret;exact ⟨by rw [HR1.out];rfl,HB.out⟩
 rw [if_neg hr] at hR;have hCt:C=true:=by cases C with | true=>rfl | false=>exact absurd (Or.inl rfl) hr
 subst hCt;have g1:¬ q<1:=fun h=>hr (by simp [h])
 have g2:¬ 8<q:=fun h=>hr (by simp [h])
 have g3:¬ t<0:=fun h=>hr (by simp [h])
 have g4:¬ 1000<t:=fun h=>hr (by simp [h])
 clear hr;have HR:=hid hR;clear hR;go_wp2_with fail
 refine (HCL.out w1).mono ?_;rintro e w2 ⟨rfl,rfl⟩;clear HCL;have HB0:=HB;by_cases h0:es = []
 ·have HR1:=hid (HR.out.trans (if_pos h0));have hz:((es.length:Int)==0)=true:=by rw [h0];rfl
  clear HR HX HU HCO h0;go_wp2
  go_ret;exact ⟨by rw [HR1.out];rfl,HB.out⟩
 have hR:=HR.out;rw [if_neg h0] at hR;have hz:((es.length:Int)==0)=false:=beq_f (by have:=List.length_pos_iff.2 h0;omega);clear HR;by_cases h4:4<es.length
 ·have HR1:=hid (hR.trans (if_pos h4));have h4':(4:Int)<(es.length:Int):=by omega
  clear hR HX HU HCO h0 h4;go_wp2
  go_ret;exact ⟨by rw [HR1.out];rfl,HB.out⟩
 rw [if_neg h4] at hR;have h4':¬ (4:Int)<(es.length:Int):=by omega
 have HR:=hid hR;clear hR h0;go_wp2
 clear hz h4' c0 c1 c2 c3 g1 g2 g3 g4;go_loopw [45] (fun i wr=>∃ k:Nat,k<=es.length/\i = .int .i64 k/\Hid (UM.errL es=UM.errL (es.drop k))/\Hid (Below w2.heap.size w2 wr)) (fun i _=>es.length - (intOf i).toNat)
 case atStart=>exact ⟨0,Nat.zero_le _,rfl,hid rfl,hid (Below.refl _ _)⟩
 case round=>
  obtain ⟨k,hk,rfl,hc,hbw⟩:=hrel;obtain ⟨c0,c1,c2,c3⟩:=ubox (below_block HU.out hbw.out);have HBW:=hid (bnext HB.out hbw.out);by_cases hlt:k<es.length
  ·have hq:(k:Int)<(es.length:Int):=by omega
   have hat:=List.getElem?_eq_getElem hlt;have hdx:=drop_get hlt;generalize es[k]=e at hat hdx;have HDX:=hid (show UM.errL es=if UM.errE e≠0 then UM.errE e else UM.errL (es.drop (k+1)) by rw [hc.out,hdx];rfl);obtain ⟨k',o',f',n',s'⟩:=e;obtain ⟨b,p,hi,hbb,d0,d1,d2,d3,d4⟩:=atEf (HX.out.below HBW.out) k _ _ _ _ _ hat
   have hfit:=HFE.out _ (List.mem_of_getElem? hat);have bx:=below_fresh wr (.cells #[.int .i64 k',.string o',.string f',.int .i64 n',.string s'] 138);have HBX:=hid bx;have HV:=hid (cValEff k' o' f' n' s' (wr.alloc (.cells #[.int .i64 k',.string o',.string f',.int .i64 n',.string s'] 138)) hfit ((HT.out.below HBW.out).below bx));obtain ⟨y0,y1,y2,y3,y4,_⟩:=(OE.fresh wr (.int .i64 k') (.string o') (.string f') (.int .i64 n') (.string s')).cells;generalize UM.errE (k',o',f',n',s')=ec at HV HDX;clear hat hdx hc hfit bx;by_cases hec0:ec=0
   ·subst hec0;have HD2:=hid (HDX.out.trans (if_neg (fun h=>h rfl)));clear HDX;go_wp2_with fail
    refine HV.out.mono ?_;rintro e w3 ⟨rfl,hb1⟩;have HB1:=hid (bnext (bnext hbw.out HBX.out) hb1);clear hb1 HV d0 d1 d2 d3 d4 hi hbb hbw c0 c1 c2 c3 y0 y1 y2 y3 y4 HBX;go_wp2
    go_roundw
    case rel=>exact ⟨k+1,by omega,by go_num,HD2,HB1⟩
    case measure=>simp [intOf];omega
   ·have HD2:=hid (HDX.out.trans (if_pos hec0));have HR1:=hid (show R=ec by rw [HR.out,if_pos (by rw [HD2.out];exact hec0),HD2.out]);have hne:(ec != 0)=true:=bne_t hec0;clear HDX HD2 hec0 HR HCO;go_wp2_with fail
    refine HV.out.mono ?_;rintro e w3 ⟨rfl,hb1⟩;have HB1:=hid (bnext (bnext HBW.out HBX.out) hb1);clear hb1 HV d0 d1 d2 d3 d4 hi hbb hbw c0 c1 c2 c3 HBW y0 y1 y2 y3 y4 HBX;go_wp2
    go_ret;exact ⟨by rw [HR1.out];rfl,HB1.out⟩
  have hq:¬ ((k:Int)<(es.length:Int)):=by omega
  have hR:=HR.out;rw [if_neg (by rw [hc.out,List.drop_of_length_le (by omega)];simp [UM.errL])] at hR;have HC1:=hid (HCO.out wr HBW.out);have HC2:=hid (fun wx (hb:Below wr.heap.size wr wx)=>HCO.out wx (bnext HBW.out hb));have HUW:=hid (fun wx (hb:Below wr.heap.size wr wx)=>ubox (below_block (below_block HU.out hbw.out) hb));clear HR HCO HU HX hc hbw;obtain ⟨c0,c1,c2,c3⟩:=HUW.out wr (Below.refl _ _);cases M with
  | false=>
   by_cases h1:1<es.length
   ·have HR1:=hid (hR.trans (if_pos (Or.inl ⟨rfl,h1⟩)));have h1':(1:Int)<(es.length:Int):=by omega
    clear hR HC2 h1;go_wp2_with fail
    refine HC1.out.mono ?_;rintro e w3 ⟨rfl,hb1⟩;have HB1:=hid (bnext HBW.out hb1);obtain ⟨d0,d1,d2,d3⟩:=HUW.out w3 hb1;clear hb1 c0 c1 c2 c3 HC1 HUW;go_wp2
    go_ret;exact ⟨by rw [HR1.out];rfl,HB1.out⟩
   ·have HR1:=hid (hR.trans (if_neg (by rintro (⟨_,h⟩ | ⟨h,_⟩);exact h1 h;cases h)));have h1':¬ (1:Int)<(es.length:Int):=by omega
    clear hR HC2 h1;go_wp2_with fail
    refine HC1.out.mono ?_;rintro e w3 ⟨rfl,hb1⟩;have HB1:=hid (bnext HBW.out hb1);obtain ⟨d0,d1,d2,d3⟩:=HUW.out w3 hb1;clear hb1 c0 c1 c2 c3 HC1 HUW;go_wp2
    go_ret;exact ⟨by rw [HR1.out];rfl,HB1.out⟩
  | true=>
   by_cases h1:t=0
   ·have HR1:=hid (hR.trans (if_neg (by rintro (⟨h,_⟩ | ⟨_,h⟩);cases h;exact h h1)));have h1':(t != 0)=false:=by simp [h1]
    clear hR HC2 h1;go_wp2_with fail
    refine HC1.out.mono ?_;rintro e w3 ⟨rfl,hb1⟩;have HB1:=hid (bnext HBW.out hb1);obtain ⟨d0,d1,d2,d3⟩:=HUW.out w3 hb1;clear hb1 c0 c1 c2 c3 HC1 HUW;go_wp2
    go_ret;exact ⟨by rw [HR1.out];rfl,HB1.out⟩
   ·have HR1:=hid (hR.trans (if_pos (Or.inr ⟨rfl,h1⟩)));have h1':(t != 0)=true:=bne_t h1;clear hR HC2 h1;go_wp2_with fail
    refine HC1.out.mono ?_;rintro e w3 ⟨rfl,hb1⟩;have HB1:=hid (bnext HBW.out hb1);obtain ⟨d0,d1,d2,d3⟩:=HUW.out w3 hb1;clear hb1 c0 c1 c2 c3 HC1 HUW;go_wp2
    go_ret;exact ⟨by rw [HR1.out];rfl,HB1.out⟩
end
section
open Go.RowKit
open UM (Ef)
open WM (enc dec zig zag Bytes)
theorem cEncEff (k:Int) (o f:ByteArray) (n:Int) (s:ByteArray) (w:World) (he:UM.errE (k,o,f,n,s)=0) (hr:UM.in64 (k,o,f,n,s)) :
  Calls Tryz.prog 155 #[ev k o f n s] w fun e w'=>∃ v',e = .returned v'/\Own w.heap.size w' v' (UM.encE (k,o,f,n,s))/\Below w.heap.size w w':=by
 obtain ⟨h1,h2,h3,h4,h5⟩:=UM.errE_ok he;obtain ⟨m,rfl⟩:=Int.eq_ofNat_of_zero_le (show 0<=k by omega);have hm:m<=5:=by omega
 have hub:IntKind.u64.wrap (m:Int)=(m:Int):=IntWalk.u64_in _ (by omega);have hb:=below_fresh w (.cells #[.int .i64 (m:Int),.string o,.string f,.int .i64 n,.string s] 138);have hx:=OE.fresh w (.int .i64 (m:Int)) (.string o) (.string f) (.int .i64 n) (.string s);obtain ⟨w1,hw1⟩:∃ z,w.alloc (.cells #[.int .i64 (m:Int),.string o,.string f,.int .i64 n,.string s] 138)=z:=⟨_,rfl⟩
 rw [hw1] at hb hx;have HW:=hid hw1;have HB:=hid hb;have HX:=hid hx;have l0:=WM.enc_len10 m (by omega);have l1:=WM.enc_len10 o.size (by omega);have l2:=WM.enc_len10 f.size (by omega);have l3:=WM.enc_len10 (zig n) (WM.zig_lt n hr.1 hr.2);have l4:(nums o).length=o.size:=nums_length o;have l5:(nums f).length=f.size:=nums_length f;have H0:=hid (fun w'=>wAppendUint (.slice none 0 0) [] m w' (Rd.nil w') (by simp) (by omega));have H1:=hid (fun w' v' (hh:Rd w' v' ([]++enc m))=>wAppendString v' _ o w' hh (by simp only [List.nil_append];omega) (by omega));have H2:=hid (fun w' v' (hh:Rd w' v' ([]++enc m++enc o.size++nums o))=>wAppendString v' _ f w' hh (by simp only [List.nil_append,List.length_append];omega) (by omega));have H3:=hid (fun w' v' (hh:Rd w' v' ([]++enc m++enc o.size++nums o++enc f.size++nums f))=>wAppendInt v' _ n w' hh (by simp only [List.nil_append,List.length_append];omega) hr.1 hr.2);have H4:=hid (fun w' v' (hh:Rd w' v' ([]++enc m++enc o.size++nums o++enc f.size++nums f++enc (zig n)))=>wAppendString v' _ s w' hh (by simp only [List.nil_append,List.length_append];omega) (by omega));have HE:=hid (show []++enc m++enc o.size++nums o++enc f.size++nums f++enc (zig n)++enc s.size++nums s=UM.encE ((m:Int),o,f,n,s) by
  show _=JM.encN [(m:Int)]++(UM.encS o++UM.encS f)++(enc (zig n)++UM.encS s)
  unfold UM.encS;rw [JM.encN_cons,show JM.encN [] = [] from rfl,Int.toNat_natCast];simp only [List.nil_append,List.append_nil,List.append_assoc])
 obtain ⟨c0,c1,c2,c3,c4,_⟩:=hx.cells;clear hw1 hb hx he hr h1 h2 h3 h4 h5 l0 l1 l2 l3 l4 l5 hm;go_enter Tryz.func155,Tryz.ntmps155
 go_upto_region 1 with fail
 rw [HW.out];clear HW;go_wp2_with fail
 refine (H0.out _).mono ?_;rintro e w2 ⟨v2,rfl,ho2,hb2⟩;have HB2:=hid (bnext HB.out hb2);have HX2:=hid (HX.out.below hb2);have HC:=hid (H1.out _ _ ho2.rd);obtain ⟨a2,n2,k2,hv2⟩:∃ a l c,v2 = .slice a l c:=by obtain ⟨a,c,h,_⟩:=ho2.rd.shape;exact ⟨a,_,c,h⟩
 subst hv2;clear ho2 hb2 c0 c1 c2 c3 c4 HX H0 H1 HB hub;obtain ⟨c0,c1,c2,c3,c4,_⟩:=HX2.out.cells;go_wp2_with fail
 refine HC.out.mono ?_;rintro e w3 ⟨v3,rfl,ho3,hb3⟩;have HB3:=hid (bnext HB2.out hb3);have HX3:=hid (HX2.out.below hb3);have HD:=hid (H2.out _ _ ho3.rd);obtain ⟨a3,n3,k3,hv3⟩:∃ a l c,v3 = .slice a l c:=by obtain ⟨a,c,h,_⟩:=ho3.rd.shape;exact ⟨a,_,c,h⟩
 subst hv3;clear ho3 hb3 c0 c1 c2 c3 c4 HX2 HC H2 HB2;obtain ⟨c0,c1,c2,c3,c4,_⟩:=HX3.out.cells;go_wp2_with fail
 refine HD.out.mono ?_;rintro e w4 ⟨v4,rfl,ho4,hb4⟩;have HB4:=hid (bnext HB3.out hb4);have HX4:=hid (HX3.out.below hb4);have HF:=hid (H3.out _ _ ho4.rd);obtain ⟨a4,n4,k4,hv4⟩:∃ a l c,v4 = .slice a l c:=by obtain ⟨a,c,h,_⟩:=ho4.rd.shape;exact ⟨a,_,c,h⟩
 subst hv4;clear ho4 hb4 c0 c1 c2 c3 c4 HX3 HD H3 HB3;obtain ⟨c0,c1,c2,c3,c4,_⟩:=HX4.out.cells;go_wp2_with fail
 refine HF.out.mono ?_;rintro e w5 ⟨v5,rfl,ho5,hb5⟩;have HB5:=hid (bnext HB4.out hb5);have HX5:=hid (HX4.out.below hb5);have HG:=hid (H4.out _ _ ho5.rd);obtain ⟨a5,n5,k5,hv5⟩:∃ a l c,v5 = .slice a l c:=by obtain ⟨a,c,h,_⟩:=ho5.rd.shape;exact ⟨a,_,c,h⟩
 subst hv5;clear ho5 hb5 c0 c1 c2 c3 c4 HX4 HF H4 HB4;obtain ⟨c0,c1,c2,c3,c4,_⟩:=HX5.out.cells;go_wp2_with fail
 refine HG.out.mono ?_;rintro e w6 ⟨v6,rfl,ho6,hb6⟩;rw [HE.out] at ho6;have HO:=hid (ho6.mono HB5.out.size);have HB6:=hid (bnext HB5.out hb6);clear ho6 hb6 HG;go_wp2
 go_ret;exact ⟨_,rfl,HO.out,HB6.out⟩
theorem cAppendU (v:Value) (bs:List Int) (c q t:Int) (u:Value) (es:List Ef) (w:World) (h:Rd w v bs) (hu:RdEf w u es) (he:UM.errU c q t es=0) (hr:∀ e∈es,UM.in64 e) (hlen:bs.length<=1073741824) :
  Calls Tryz.prog 136 #[v,uv c q t u] w fun e w'=>∃ v',e = .returned v'/\Rd w' v' (bs++UM.encU c q t es)/\Below w.heap.size w w':=by
 obtain ⟨ad,cp,rfl,hc,hl⟩:=hu.shape;obtain ⟨e1,e2,e3,e4,e5,e6,e7,e8⟩:=UM.errU_ok he;have e1':=UM.isCl_ok e1;have hsm:∀ x ∈ [c,q,t,(es.length:Int)],JM.small x:=by
  intro x hx;simp only [List.mem_cons,List.not_mem_nil,or_false] at hx;unfold JM.small;rcases hx with rfl | rfl | rfl | rfl <;> omega
 have hb0:=below_fresh w (.cells #[.int .i64 c,.int .i64 q,.int .i64 t,.slice ad es.length cp] 96);have hx0:=heap_alloc_new w (.cells #[.int .i64 c,.int .i64 q,.int .i64 t,.slice ad es.length cp] 96);have HC0:=hid (hu.below hb0);have HB0:=hid hb0;have hsz:=World.size_alloc w (.cells #[.int .i64 c,.int .i64 q,.int .i64 t,.slice ad es.length cp] 96);have hv0:=h.below hb0;generalize hw0:w.alloc (.cells #[.int .i64 c,.int .i64 q,.int .i64 t,.slice ad es.length cp] 96)=w0 at hx0 HC0 HB0 hsz hv0;have HW0:=hid hw0;have HX0:=hid hx0;have hf:=below_fresh w0 (.cells #[.int .i64 c,.int .i64 q,.int .i64 t,.int .i64 (es.length:Int)] 3);have hg:RdI (w0.alloc (.cells #[.int .i64 c,.int .i64 q,.int .i64 t,.int .i64 (es.length:Int)] 3)) (.slice (some ⟨w.heap.size+1,0,none⟩) 4 4) [c,q,t,(es.length:Int)]:=by
  rw [<- hsz];exact (ownG_fresh hlI 3 w0 [c,q,t,(es.length:Int)] (by simp [maxLen])).rd
 have HN:=hid (cAppendNumbers v _ bs _ _ (hv0.below hf) hg hsm (by simp) (by omega));have hh:=JM.encN_len _ hsm;have hall:∀ k,k<=es.length->(bs++JM.encN [c,q,t,(es.length:Int)]++UM.encEs (es.take k)).length<=2147483648:=by
  intro k hk;have h1:=UM.encEs_len (es.take k) (fun y hy=>e8 y (List.mem_of_mem_take hy)) (fun y hy=>hr y (List.mem_of_mem_take hy));rw [List.length_take] at h1;rw [List.length_append,List.length_append];simp only [List.length_cons,List.length_nil] at hh;omega
 have HALL:=hid hall;have HE8:=hid e8;have HR:=hid hr;have HF:=hid hf;obtain ⟨p0,p1,p2,p3⟩:=ubox hx0;clear h hu he hsm hb0 hw0 hx0 hlen hh hall hsz hv0 hf hg hr e1 e2 e3 e4 e5 e6 e1' e8;go_enter Tryz.func136,Tryz.ntmps136
 go_wp2_with fail
 rw [HW0.out];refine HN.out.mono ?_;rintro e w1 ⟨v1,rfl,ho1,hb1⟩;have HB1:=hid (bnext HF.out hb1);have HO1:=hid (ho1.mono HF.out.size);obtain ⟨p0',p1',p2',p3'⟩:=ubox (below_block HX0.out HB1.out);clear p0 p1 p2 p3 HN ho1 hb1 HF;go_wp2
 go_loopw [5,23] (fun u i wr=>∃ k:Nat,k<=es.length/\i = .int .i64 k/\Hid (Own w0.heap.size wr u (bs++JM.encN [c,q,t,(es.length:Int)]++UM.encEs (es.take k)))/\Hid (Below w0.heap.size w0 wr)) (fun _ i _=>es.length - (intOf i).toNat)
 case atStart=>exact ⟨0,Nat.zero_le _,rfl,(by show Own _ _ _ _;rw [List.take_zero,show UM.encEs [] = [] from rfl,List.append_nil];exact HO1.out),HB1.out⟩
 case round=>
  obtain ⟨k,hk,rfl,ho,hbl⟩:=hrel;obtain ⟨a5,l5,c5,hv5⟩:∃ a l c,u5 = .slice a l c:=by obtain ⟨a,c,h,_⟩:=ho.out.rd.shape;exact ⟨a,_,c,h⟩
  subst hv5;by_cases hlt:k<es.length
  ·have hq:(k:Int)<(es.length:Int):=by omega
   have hat:=List.getElem?_eq_getElem hlt;have hok:=HE8.out es[k] (List.getElem_mem hlt);have h64:=HR.out es[k] (List.getElem_mem hlt);generalize es[k]=y at hat hok h64;obtain ⟨k',o',f',n',s'⟩:=y;obtain ⟨b,o,hi,hbb,d0,d1,d2,d3,d4⟩:=atEf (HC0.out.below hbl.out) k _ _ _ _ _ hat
   have HSN:=hid (UM.encEs_snoc hat);have HAL:=hid (HALL.out k hk);have HEL:=hid (UM.encE_len hok h64);have hbn:=below_fresh wr (.cells #[.int .i64 k',.string o',.string f',.int .i64 n',.string s'] 138);obtain ⟨x0,x1,x2,x3,x4,_⟩:=(OE.fresh wr (.int .i64 k') (.string o') (.string f') (.int .i64 n') (.string s')).cells;have HE:=hid (cEncEff k' o' f' n' s' (wr.alloc (.cells #[.int .i64 k',.string o',.string f',.int .i64 n',.string s'] 138)) hok h64);have HBN:=hid (bnext hbl.out hbn);have HON:=hid (ho.out.below hbn);clear hat hok h64 hbn hbl ho;go_wp2_with fail
   refine HE.out.mono ?_;rintro e w4 ⟨v4,rfl,ho4,hb4⟩;have HO4:=hid (HON.out.below hb4);have HB4:=hid (bnext HBN.out hb4);have HR4:=hid ho4.rd;obtain ⟨a6,c6,rfl,_⟩:=ho4.rd.shape;have hsz:=HB4.out.size;clear x0 x1 x2 x3 x4 d0 d1 d2 d3 d4 hi hbb ho4 hb4 HE HBN HON;go_wp2_with (at_builtin;refine wp_appS rfl _ _ rfl rfl HO4.out rfl HR4.out (by have:=HAL.out;omega) (by have:=HEL.out;omega) hsz ?_)
   intro v7 w7 ho7 hb7;have HO7:=hid (show Own w0.heap.size w7 v7 (bs++JM.encN [c,q,t,(es.length:Int)]++UM.encEs (es.take (k+1))) by rw [HSN.out];simpa only [List.append_assoc] using ho7);have HB7:=hid (HB4.out.trans hb7);clear ho7 hb7 HO4 HB4 HR4 HSN HAL HEL;go_wp2
   go_roundw
   case rel=>exact ⟨k+1,by omega,by go_num,HO7,HB7⟩
   case measure=>simp [intOf];omega
  ·have hq:¬ ((k:Int)<(es.length:Int)):=by omega
   obtain rfl:k=es.length:=by omega
   have HO2:=hid (show Rd wr (.slice a5 l5 c5) (bs++UM.encU c q t es) by
    have:=ho.out.rd;rw [List.take_length,List.append_assoc] at this;exact this)
   have HB2:=hid (bnext HB0.out hbl.out);clear ho hbl;go_wp2
   go_ret;exact ⟨_,rfl,HO2.out,HB2.out⟩
end
section
open Go.RowKit
open JM (St)
open UM (Ef)
open WM (enc dec zig zag Bytes)
namespace UM
theorem jstep_used (xs:List Int) (s:St) (hb:Bytes xs) (hu:s.1<=xs.length):(JM.step xs s).2.1<=xs.length:=(JM.step_small xs s hb hu).2
def stepS (xs:List Int) (s:St):ByteArray×St:=
 if s.2≠0 then (⟨#[]⟩,s) else (strOfNums (decS (xs.drop s.1)).1,(s.1+(decS (xs.drop s.1)).2.1.toNat,(decS (xs.drop s.1)).2.2))
def stepZ (xs:List Int) (s:St):Int×St:=
 if s.2≠0 then (0,s) else (zag (dec 0 0 (xs.drop s.1)).1,(s.1+(dec 0 0 (xs.drop s.1)).2.1.toNat,(dec 0 0 (xs.drop s.1)).2.2))
theorem stepS_stop {xs:List Int} {u:Nat} {er:Int} (h:er≠0):stepS xs (u,er)=(⟨#[]⟩,(u,er)):=if_pos h
theorem stepZ_stop {xs:List Int} {u:Nat} {er:Int} (h:er≠0):stepZ xs (u,er)=(0,(u,er)):=if_pos h
theorem stepS_used (xs:List Int) (s:St) (hb:Bytes xs) (hu:s.1<=xs.length):(stepS xs s).2.1<=xs.length:=by
 unfold stepS;split
 ·exact hu
 ·rcases decS_two (bdrop hb s.1) with ⟨e1,he1,hd⟩ | ⟨l,n,hd,hl⟩
  ·rw [hd];exact hu
  ·rw [hd];rw [List.length_drop] at hl;show s.1+(n:Int).toNat<=_
   omega
theorem stepZ_used (xs:List Int) (s:St) (hb:Bytes xs) (hu:s.1<=xs.length):(stepZ xs s).2.1<=xs.length:=by
 unfold stepZ;split
 ·exact hu
 ·rcases WM.dec_two _ (bdrop hb s.1) with ⟨e1,he1,hd⟩ | ⟨m,hm,hd,hl,_⟩
  ·rw [hd];exact hu
  ·rw [hd];rw [List.length_drop] at hl;show s.1+((enc m).length:Int).toNat<=_
   omega
def ef (xs:List Int) (s:St):Ef×St:=
 let a:=JM.step xs s
 let b:=stepS xs a.2
 let c:=stepS xs b.2
 let d:=stepZ xs c.2
 let e:=stepS xs d.2
 ((a.1,b.1,c.1,d.1,e.1),e.2)
theorem ef_run {xs:List Int} {s s1 s2 s3 s4 s5:St} {k:Int} {o f:ByteArray} {n:Int} {t:ByteArray} (h1:JM.step xs s=(k,s1)) (h2:stepS xs s1=(o,s2)) (h3:stepS xs s2=(f,s3)) (h4:stepZ xs s3=(n,s4)) (h5:stepS xs s4=(t,s5)) :
  ef xs s=((k,o,f,n,t),s5):=by
 simp [ef,h1,h2,h3,h4,h5]
theorem ef_used {xs:List Int} {s:St} (hb:Bytes xs) (hu:s.1<=xs.length):(ef xs s).2.1<=xs.length:=by
 have h1:=(JM.step_small xs s hb hu).2;exact stepS_used _ _ hb (stepZ_used _ _ hb (stepS_used _ _ hb (stepS_used _ _ hb h1)))
theorem ef_stop {xs:List Int} {u:Nat} {er:Int} (h:er≠0):(ef xs (u,er)).2=(u,er):=by
 rw [ef_run (JM.step_stop h) (stepS_stop h) (stepS_stop h) (stepZ_stop h) (stepS_stop h)]
def efs (xs:List Int) (s:St):Nat->List Ef×St
 | 0=>([],s)
 | k+1=>((efs xs s k).1 ++ [(ef xs (efs xs s k).2).1],(ef xs (efs xs s k).2).2)
theorem efs_length (xs:List Int) (s:St) (k:Nat):(efs xs s k).1.length=k:=by
 induction k with
 | zero=>rfl
 | succ k ih=>simp [efs,ih]
theorem efs_used {xs:List Int} {s:St} (hb:Bytes xs) (hu:s.1<=xs.length) (k:Nat):(efs xs s k).2.1<=xs.length:=by
 induction k with
 | zero=>exact hu
 | succ k ih=>exact ef_used hb ih
theorem efs_stop {xs:List Int} {s:St} (h:s.2≠0) (k:Nat):(efs xs s k).2=s:=by
 induction k with
 | zero=>rfl
 | succ k ih=>
  show (ef xs (efs xs s k).2).2=s
  rw [ih];exact ef_stop h
theorem ef_eq {xs:List Int} (hb:Bytes xs) (u:Nat):(ef xs (u,0)).2.2=(decE (xs.drop u)).2.2/\((decE (xs.drop u)).2.2=0->(ef xs (u,0)).1=(decE (xs.drop u)).1/\(ef xs (u,0)).2.1=u+(decE (xs.drop u)).2.1):=by
 have hd0:=bdrop hb u;unfold decE;rcases JM.num_two (xs.drop u) hd0 with ⟨e1,he1,h1⟩ | ⟨m,hm,h1,hml⟩
 ·have g1:JM.step xs (u,0)=(0,(u,e1)):=by unfold JM.step;rw [if_neg (by simp),h1,if_pos (show ¬ e1=0 by omega)]
  have ne:e1≠0:=by omega
  rw [h1,if_pos ne,ef_run g1 (stepS_stop ne) (stepS_stop ne) (stepZ_stop ne) (stepS_stop ne)];exact ⟨rfl,fun h=>absurd h ne⟩
 have g1:JM.step xs (u,0)=((m:Int),(u+(enc m).length,0)):=by unfold JM.step;rw [if_neg (by simp),h1,if_neg (by simp)];rfl
 rw [h1,if_neg (by simp)];show _=(decE2 (m:Int) (xs.drop u) (enc m).length).2.2/\((decE2 (m:Int) (xs.drop u) (enc m).length).2.2=0->_=(decE2 (m:Int) (xs.drop u) (enc m).length).1/\_=u+(decE2 (m:Int) (xs.drop u) (enc m).length).2.1)
 generalize (enc m).length=a1 at g1;unfold decE2;rw [List.drop_drop];rcases decS_two (bdrop hb (u+a1)) with ⟨e1,he1,h2⟩ | ⟨l2,n2,h2,hl2⟩
 ·have ne:e1≠0:=by omega
  have g2:stepS xs (u+a1,0)=(⟨#[]⟩,(u+a1,e1)):=by unfold stepS;rw [if_neg (by simp),h2];rfl
  rw [h2,if_pos ne,ef_run g1 g2 (stepS_stop ne) (stepZ_stop ne) (stepS_stop ne)];exact ⟨rfl,fun h=>absurd h ne⟩
 have g2:stepS xs (u+a1,0)=(strOfNums l2,(u+a1+n2,0)):=by unfold stepS;rw [if_neg (by simp),h2];rfl
 rw [h2,if_neg (by simp)];show _=(decE3 (m:Int) (strOfNums l2) (xs.drop u) (a1+n2)).2.2/\((decE3 (m:Int) (strOfNums l2) (xs.drop u) (a1+n2)).2.2=0->_=(decE3 (m:Int) (strOfNums l2) (xs.drop u) (a1+n2)).1/\_=u+(decE3 (m:Int) (strOfNums l2) (xs.drop u) (a1+n2)).2.1)
 rw [Nat.add_assoc] at g2;generalize strOfNums l2=o at g2;generalize a1+n2=a2 at g2;unfold decE3;rw [List.drop_drop];rcases decS_two (bdrop hb (u+a2)) with ⟨e1,he1,h3⟩ | ⟨l3,n3,h3,hl3⟩
 ·have ne:e1≠0:=by omega
  have g3:stepS xs (u+a2,0)=(⟨#[]⟩,(u+a2,e1)):=by unfold stepS;rw [if_neg (by simp),h3];rfl
  rw [h3,if_pos ne,ef_run g1 g2 g3 (stepZ_stop ne) (stepS_stop ne)];exact ⟨rfl,fun h=>absurd h ne⟩
 have g3:stepS xs (u+a2,0)=(strOfNums l3,(u+a2+n3,0)):=by unfold stepS;rw [if_neg (by simp),h3];rfl
 rw [h3,if_neg (by simp)];show _=(decE4 (m:Int) o (strOfNums l3) (xs.drop u) (a2+n3)).2.2/\((decE4 (m:Int) o (strOfNums l3) (xs.drop u) (a2+n3)).2.2=0->_=(decE4 (m:Int) o (strOfNums l3) (xs.drop u) (a2+n3)).1/\_=u+(decE4 (m:Int) o (strOfNums l3) (xs.drop u) (a2+n3)).2.1)
 rw [Nat.add_assoc] at g3;generalize strOfNums l3=f at g3;generalize a2+n3=a3 at g3;unfold decE4;rw [List.drop_drop];rcases WM.dec_two _ (bdrop hb (u+a3)) with ⟨e1,he1,h4⟩ | ⟨m4,hm4,h4,hl4,_⟩
 ·have ne:e1≠0:=by omega
  have g4:stepZ xs (u+a3,0)=(0,(u+a3,e1)):=by unfold stepZ;rw [if_neg (by simp),h4];rfl
  rw [h4,if_pos ne,ef_run g1 g2 g3 g4 (stepS_stop ne)];exact ⟨rfl,fun h=>absurd h ne⟩
 have g4:stepZ xs (u+a3,0)=(zag (m4:Int),(u+a3+(enc m4).length,0)):=by unfold stepZ;rw [if_neg (by simp),h4];rfl
 rw [h4,if_neg (by simp)];show _=(decE5 (m:Int) o f (zag (m4:Int)) (xs.drop u) (a3+(enc m4).length)).2.2/\((decE5 (m:Int) o f (zag (m4:Int)) (xs.drop u) (a3+(enc m4).length)).2.2=0->_=(decE5 (m:Int) o f (zag (m4:Int)) (xs.drop u) (a3+(enc m4).length)).1/\_=u+(decE5 (m:Int) o f (zag (m4:Int)) (xs.drop u) (a3+(enc m4).length)).2.1)
 rw [Nat.add_assoc] at g4;generalize zag (m4:Int)=z at g4;generalize a3+(enc m4).length=a4 at g4;unfold decE5;rw [List.drop_drop];rcases decS_two (bdrop hb (u+a4)) with ⟨e1,he1,h5⟩ | ⟨l5,n5,h5,hl5⟩
 ·have ne:e1≠0:=by omega
  have g5:stepS xs (u+a4,0)=(⟨#[]⟩,(u+a4,e1)):=by unfold stepS;rw [if_neg (by simp),h5];rfl
  rw [h5,if_pos ne,ef_run g1 g2 g3 g4 g5];exact ⟨rfl,fun h=>absurd h ne⟩
 have g5:stepS xs (u+a4,0)=(strOfNums l5,(u+a4+n5,0)):=by unfold stepS;rw [if_neg (by simp),h5];rfl
 rw [h5,if_neg (by simp),ef_run g1 g2 g3 g4 g5];exact ⟨rfl,fun _=>⟨rfl,Nat.add_assoc _ _ _⟩⟩
theorem efs_eq {xs:List Int} (hb:Bytes xs) (u k:Nat):(efs xs (u,0) k).2.2=(chE xs u k).2.2/\((chE xs u k).2.2=0->(efs xs (u,0) k).1=(chE xs u k).1/\(efs xs (u,0) k).2.1=(chE xs u k).2.1):=by
 induction k with
 | zero=>exact ⟨rfl,fun _=>⟨rfl,rfl⟩⟩
 | succ k ih=>
  obtain ⟨i1,i2⟩:=ih;by_cases h:(chE xs u k).2.2=0
  ·obtain ⟨i3,i4⟩:=i2 h;have hs:(efs xs (u,0) k).2=((chE xs u k).2.1,0):=Prod.ext i4 (i1.trans h);have he:=ef_eq hb (chE xs u k).2.1;rw [<- hs] at he;show (ef xs (efs xs (u,0) k).2).2.2=_/\(_->(efs xs (u,0) k).1 ++ [(ef xs (efs xs (u,0) k).2).1]=_/\(ef xs (efs xs (u,0) k).2).2.1=_)
   rw [chE,if_neg (by simp [h])];by_cases h2:(decE (xs.drop (chE xs u k).2.1)).2.2=0
   ·rw [if_neg (by simp [h2])];obtain ⟨e1,e2⟩:=he.2 h2;refine ⟨he.1.trans h2,fun _=>⟨?_,e2⟩⟩;rw [i3,e1]
   ·rw [if_pos h2];exact ⟨he.1,fun h3=>absurd h3 h2⟩
  ·have hs:(efs xs (u,0) k).2.2≠0:=by rw [i1];exact h
   obtain ⟨p,q⟩:∃ a b,(efs xs (u,0) k).2=(a,b):=⟨_,_,rfl⟩
   obtain ⟨q,hq⟩:=q;rw [chE,if_pos h];refine ⟨?_,fun h3=>absurd h3 h⟩;show (ef xs (efs xs (u,0) k).2).2.2=_
   rw [hq] at hs i1 ⊢;rw [ef_stop hs];exact i1
end UM
theorem rdStopS (g:Nat) (v:Value) (u:Nat) (er:Int) (w:World) (hb:RdrB w g v (u,er)) (he:er≠0) (f:Value) :
  Calls Tryz.prog 183 #[.pointer (some ⟨g,0,none⟩),f] w fun e w'=>e = .returned (.string ⟨#[]⟩)/\RdrB w' g v (u,er)/\Only g w w':=by
 obtain ⟨c0,c1,c2,f0,f1,f2⟩:=hb.cells;have hne:(er != 0)=true:=bne_t he;have HB:=hid hb;simp only at c1 c2;clear he hb;go_enter Tryz.func183,Tryz.ntmps183
 go_wp2
 go_ret;exact ⟨rfl,HB.out,Only.refl _ _⟩
theorem rdReadS (g:Nat) (v v2:Value) (xs:List Int) (u:Nat) (w:World) (hb:RdrB w g v (u,0)) (h:Rd w v xs) (F:FuncId) (X:ByteArray) (N:Nat) (E:Int)
  (hcut:∀ w0:World,(Instr.slice 39 v (some (.int .i64 (u:Int))) none none).run Tryz.prog w0 = .ok v2 w0)
  (eF:∀ args w,(callFunc F args).run Tryz.prog w = .ok (.enter F args) w)
  (hD:∀ n,Calls Tryz.prog F #[v2] (w.drewN n) fun e w'=>e = .returned (.tuple #[.string X,.int .i64 (N:Int),.int .i64 E]) /\ ∃ k,w'=w.drewN k)
  (hle:u+N<=xs.length) :
  Calls Tryz.prog 183 #[.pointer (some ⟨g,0,none⟩),.func (.func F) #[] #[]] w fun e w'=>e = .returned (.string X)/\RdrB w' g v (u+N,E)/\Only g w w':=by
 obtain ⟨ad,cp,rfl,hcp⟩:=h.shape;obtain ⟨c0,c1,c2,f0,f1,f2⟩:=hb.cells;have hxl:xs.length<=9223372036854775807:=by
  obtain ⟨_,_,_,_,hn1,hn2,hcm,_⟩:=h;unfold maxLen at hcm;omega
 have HB:=hid hb;have HU:=hid hD;have hsum:=hid (show (u:Int)+(N:Int)=((u+N:Nat):Int) by omega);have HF:=hid (fun n=>((show RdrB (w.drewN n) g (.slice ad xs.length cp) (u,0) from HB.out).used (u+N)).fail E);simp only at c1 c2;have hw1:(u:Int)+(N:Int)<=9223372036854775807:=by omega
 clear h hb hcp hD;go_enter Tryz.func183,Tryz.ntmps183
 go_wp2
 go_quiet (first | (go_at_fn F;exact HU.out _))
 go_wp2
 rw [hsum.out];go_ret;exact ⟨rfl,HF.out _,((Only.drewN g w _).trans (Only.set 1 _)).trans (Only.set 2 _)⟩
theorem rdStopZ (g:Nat) (v:Value) (u:Nat) (er:Int) (w:World) (hb:RdrB w g v (u,er)) (he:er≠0) (f:Value) :
  Calls Tryz.prog 185 #[.pointer (some ⟨g,0,none⟩),f] w fun e w'=>e = .returned (.int .i64 0)/\RdrB w' g v (u,er)/\Only g w w':=by
 obtain ⟨c0,c1,c2,f0,f1,f2⟩:=hb.cells;have hne:(er != 0)=true:=bne_t he;have HB:=hid hb;simp only at c1 c2;clear he hb;go_enter Tryz.func185,Tryz.ntmps185
 go_wp2
 go_ret;exact ⟨rfl,HB.out,Only.refl _ _⟩
theorem rdReadZ (g:Nat) (v v2:Value) (xs:List Int) (u:Nat) (w:World) (hb:RdrB w g v (u,0)) (h:Rd w v xs) (F:FuncId) (X:Int) (N:Nat) (E:Int)
  (hcut:∀ w0:World,(Instr.slice 39 v (some (.int .i64 (u:Int))) none none).run Tryz.prog w0 = .ok v2 w0)
  (eF:∀ args w,(callFunc F args).run Tryz.prog w = .ok (.enter F args) w)
  (hD:∀ n,Calls Tryz.prog F #[v2] (w.drewN n) fun e w'=>e = .returned (.tuple #[.int .i64 X,.int .i64 (N:Int),.int .i64 E]) /\ ∃ k,w'=w.drewN k)
  (hle:u+N<=xs.length) :
  Calls Tryz.prog 185 #[.pointer (some ⟨g,0,none⟩),.func (.func F) #[] #[]] w fun e w'=>e = .returned (.int .i64 X)/\RdrB w' g v (u+N,E)/\Only g w w':=by
 obtain ⟨ad,cp,rfl,hcp⟩:=h.shape;obtain ⟨c0,c1,c2,f0,f1,f2⟩:=hb.cells;have hxl:xs.length<=9223372036854775807:=by
  obtain ⟨_,_,_,_,hn1,hn2,hcm,_⟩:=h;unfold maxLen at hcm;omega
 have HB:=hid hb;have HU:=hid hD;have hsum:=hid (show (u:Int)+(N:Int)=((u+N:Nat):Int) by omega);have HF:=hid (fun n=>((show RdrB (w.drewN n) g (.slice ad xs.length cp) (u,0) from HB.out).used (u+N)).fail E);simp only at c1 c2;have hw1:(u:Int)+(N:Int)<=9223372036854775807:=by omega
 clear h hb hcp hD;go_enter Tryz.func185,Tryz.ntmps185
 go_wp2
 go_quiet (first | (go_at_fn F;exact HU.out _))
 go_wp2
 rw [hsum.out];go_ret;exact ⟨rfl,HF.out _,((Only.drewN g w _).trans (Only.set 1 _)).trans (Only.set 2 _)⟩
theorem rdText (g:Nat) (v:Value) (xs:List Int) (s:St) (w:World) (hb:RdrB w g v s) (h:Rd w v xs) (hu:s.1<=xs.length) :
  Calls Tryz.prog 169 #[.pointer (some ⟨g,0,none⟩)] w fun e w'=>e = .returned (.string (UM.stepS xs s).1)/\RdrB w' g v (UM.stepS xs s).2/\Only g w w':=by
 have HC:Hid (Calls Tryz.prog 183 #[.pointer (some ⟨g,0,none⟩),.func (.func 184) #[] #[]] w fun e w'=>e = .returned (.string (UM.stepS xs s).1)/\RdrB w' g v (UM.stepS xs s).2/\Only g w w'):=by
  refine hid ?_;obtain ⟨u,er⟩:=s;by_cases he:er=0
  ·subst he;obtain ⟨ad,cp,rfl,hcp⟩:=h.shape;obtain ⟨v2,hcut,hrd⟩:=h.cutL u hu;have hHD:=fun n=>(wString v2 _ (w.drewN n) hrd).mono (fun e w' (h:_/\_)=>(⟨h.1,n,h.2.symm⟩:_ /\ ∃ k,w'=w.drewN k))
   have hxd:(xs.drop u).length=xs.length - u:=List.length_drop;simp only at hu;rcases decS_two hrd.bytes with ⟨e1,he1,hd⟩ | ⟨l,n,hd,hl⟩
   ·have HS:UM.stepS xs (u,0)=(⟨#[]⟩,(u,e1)):=by unfold UM.stepS;rw [if_neg (by simp),hd];rfl
    rw [HS];rw [hd] at hHD;exact rdReadS g _ v2 xs u w hb h 184 ⟨#[]⟩ 0 e1 hcut (fun _ _=>rfl) (fun n=>hHD n) (by omega)
   ·have HS:UM.stepS xs (u,0)=(strOfNums l,(u+n,0)):=by unfold UM.stepS;rw [if_neg (by simp),hd];rfl
    rw [HS];rw [hd] at hHD;exact rdReadS g _ v2 xs u w hb h 184 _ n 0 hcut (fun _ _=>rfl) (fun n=>hHD n) (by omega)
  ·rw [UM.stepS_stop he];exact rdStopS g v u er w hb he _
 clear hb h hu;generalize UM.stepS xs s=p at HC;obtain ⟨x,s'⟩:=p;go_enter Tryz.func169,Tryz.ntmps169
 go_wp2_with fail
 refine HC.out.mono ?_;rintro e w1 ⟨rfl,hr,ho⟩;clear HC;go_wp2
 go_ret;exact ⟨rfl,hr,ho⟩
theorem rdSigned (g:Nat) (v:Value) (xs:List Int) (s:St) (w:World) (hb:RdrB w g v s) (h:Rd w v xs) (hu:s.1<=xs.length) :
  Calls Tryz.prog 170 #[.pointer (some ⟨g,0,none⟩)] w fun e w'=>e = .returned (.int .i64 (UM.stepZ xs s).1)/\RdrB w' g v (UM.stepZ xs s).2/\Only g w w':=by
 have HC:Hid (Calls Tryz.prog 185 #[.pointer (some ⟨g,0,none⟩),.func (.func 186) #[] #[]] w fun e w'=>e = .returned (.int .i64 (UM.stepZ xs s).1)/\RdrB w' g v (UM.stepZ xs s).2/\Only g w w'):=by
  refine hid ?_;obtain ⟨u,er⟩:=s;by_cases he:er=0
  ·subst he;obtain ⟨ad,cp,rfl,hcp⟩:=h.shape;obtain ⟨v2,hcut,hrd⟩:=h.cutL u hu;have hHD:=fun n=>(wInt v2 _ (w.drewN n) hrd).mono (fun e w' (h:_/\_)=>(⟨h.1,n,h.2.symm⟩:_ /\ ∃ k,w'=w.drewN k))
   have hxd:(xs.drop u).length=xs.length - u:=List.length_drop;simp only at hu;rcases WM.dec_two (xs.drop u) hrd.bytes with ⟨e1,he1,hd⟩ | ⟨m,hm,hd,hml,_⟩
   ·have HS:UM.stepZ xs (u,0)=(0,(u,e1)):=by unfold UM.stepZ;rw [if_neg (by simp),hd];rfl
    rw [HS];rw [hd] at hHD;exact rdReadZ g _ v2 xs u w hb h 186 0 0 e1 hcut (fun _ _=>rfl) (fun n=>hHD n) (by omega)
   ·have HS:UM.stepZ xs (u,0)=(zag (m:Int),(u+(enc m).length,0)):=by unfold UM.stepZ;rw [if_neg (by simp),hd];rfl
    rw [HS];rw [hd] at hHD;exact rdReadZ g _ v2 xs u w hb h 186 _ (enc m).length 0 hcut (fun _ _=>rfl) (fun n=>hHD n) (by omega)
  ·rw [UM.stepZ_stop he];exact rdStopZ g v u er w hb he _
 clear hb h hu;generalize UM.stepZ xs s=p at HC;obtain ⟨x,s'⟩:=p;go_enter Tryz.func170,Tryz.ntmps170
 go_wp2_with fail
 refine HC.out.mono ?_;rintro e w1 ⟨rfl,hr,ho⟩;clear HC;go_wp2
 go_ret;exact ⟨rfl,hr,ho⟩
theorem rdCount4 (g:Nat) (v:Value) (xs:List Int) (s:St) (w:World) (hb:RdrB w g v s) (h:Rd w v xs) (hu:s.1<=xs.length) :
  Calls Tryz.prog 129 #[.pointer (some ⟨g,0,none⟩),.int .i64 4] w fun e w'=>e = .returned (.int .i64 (if 4<(JM.step xs s).1 then 0 else (JM.step xs s).1))/\RdrB w' g v (if 4<(JM.step xs s).1 then ((JM.step xs s).2.1,3) else (JM.step xs s).2)/\Only g w w':=by
 have HN:=hid (rdNumber g v xs s w hb h hu);generalize JM.step xs s=p at HN;obtain ⟨x,s'⟩:=p;clear hb h hu;by_cases hx:4<x
 ·simp only [if_pos hx];go_enter Tryz.func129,Tryz.ntmps129
  go_wp2_with fail
  refine HN.out.mono ?_;rintro e w1 ⟨rfl,hr,ho⟩;obtain ⟨u,er⟩:=s';have c0:=hr.cells;obtain ⟨c0,c1,c2,f0,f1,f2⟩:=c0;have HF:=hid (RdrB.fail hr 3);have HO:=hid ho;clear hr ho HN;go_wp2
  go_ret;exact ⟨rfl,HF.out,HO.out.trans (Only.set 2 _)⟩
 ·simp only [if_neg hx];have hx:decide (4<x)=false:=decide_eq_false hx;go_enter Tryz.func129,Tryz.ntmps129
  go_wp2_with fail
  refine HN.out.mono ?_;rintro e w1 ⟨rfl,hr,ho⟩;clear HN;go_wp2
  go_ret;exact ⟨rfl,hr,ho⟩
theorem eff_ret {R:Ending->World->Prop} {a:Act} {w:World} {g:Nat} {x0 x1 x2 x3 x4:Value} (hp:a.tmps.getD 2 undef = .pointer (some ⟨g,0,none⟩)) (hg:OE w g x0 x1 x2 x3 x4)
  (hd:a.defers = []) (hR:R (.returned (.agg #[x0,x1,x2,x3,x4])) w):bodyPost Tryz.prog Tryz.f153 R .ret a w:=
 bodyPost_ret (results_cell_row (P:=Tryz.prog) rfl a.tmps w g 138 _ _ _ hp hg Tryz.underlying138 rfl (by kernel_rfl)) hd hR
theorem onlyE5 {w:World} {B:Nat} (a b c d e:Value):Only B w (((((w.setCell ⟨B,0,none⟩ a).setCell ⟨B,1,none⟩ b).setCell ⟨B,2,none⟩ c).setCell ⟨B,3,none⟩ d).setCell ⟨B,4,none⟩ e):=
 ((((Only.set 0 a).trans (Only.set 1 b)).trans (Only.set 2 c)).trans (Only.set 3 d)).trans (Only.set 4 e)
theorem rdEff (W:World) (g:Nat) (v:Value) (xs:List Int) (s:St) (w:World) (hb:RdrB w g v s) (h:Rd W v xs) (hW:Below W.heap.size W w) (hg:W.heap.size<=g) (hu:s.1<=xs.length) :
  Calls Tryz.prog 153 #[.pointer (some ⟨g,0,none⟩)] w fun e w'=>e = .returned (efv (UM.ef xs s).1)/\RdrB w' g v (UM.ef xs s).2/\Only g w w':=by
 obtain ⟨⟨x1,s1⟩,h1⟩:∃ p,JM.step xs s=p:=⟨_,rfl⟩
 obtain ⟨⟨o,s2⟩,h2⟩:∃ p,UM.stepS xs s1=p:=⟨_,rfl⟩
 obtain ⟨⟨f,s3⟩,h3⟩:∃ p,UM.stepS xs s2=p:=⟨_,rfl⟩
 obtain ⟨⟨n,s4⟩,h4⟩:∃ p,UM.stepZ xs s3=p:=⟨_,rfl⟩
 obtain ⟨⟨t,s5⟩,h5⟩:∃ p,UM.stepS xs s4=p:=⟨_,rfl⟩
 have u1:s1.1<=xs.length:=by have:=UM.jstep_used xs s h.bytes hu;rw [h1] at this;exact this
 have u2:s2.1<=xs.length:=by have:=UM.stepS_used xs s1 h.bytes u1;rw [h2] at this;exact this
 have u3:s3.1<=xs.length:=by have:=UM.stepS_used xs s2 h.bytes u2;rw [h3] at this;exact this
 have u4:s4.1<=xs.length:=by have:=UM.stepZ_used xs s3 h.bytes u3;rw [h4] at this;exact this
 have u5:s5.1<=xs.length:=by have:=UM.stepS_used xs s4 h.bytes u4;rw [h5] at this;exact this
 rw [UM.ef_run h1 h2 h3 h4 h5];show Calls _ _ _ _ fun e w'=>e = .returned (ev x1 o f n t)/\RdrB w' g v s5/\Only g w w'
 have N1:Hid (∀ w,RdrB w g v s->Below W.heap.size W w->Calls Tryz.prog 35 #[.pointer (some ⟨g,0,none⟩)] w fun e w'=>e = .returned (.int .i64 x1)/\RdrB w' g v s1/\Only g w w'):=by
  intro w hr hb;have:=rdNumber g v xs s w hr (h.below hb) hu;rw [h1] at this;exact this
 have N2:Hid (∀ w,RdrB w g v s1->Below W.heap.size W w->Calls Tryz.prog 169 #[.pointer (some ⟨g,0,none⟩)] w fun e w'=>e = .returned (.string o)/\RdrB w' g v s2/\Only g w w'):=by
  intro w hr hb;have:=rdText g v xs s1 w hr (h.below hb) u1;rw [h2] at this;exact this
 have N3:Hid (∀ w,RdrB w g v s2->Below W.heap.size W w->Calls Tryz.prog 169 #[.pointer (some ⟨g,0,none⟩)] w fun e w'=>e = .returned (.string f)/\RdrB w' g v s3/\Only g w w'):=by
  intro w hr hb;have:=rdText g v xs s2 w hr (h.below hb) u2;rw [h3] at this;exact this
 have N4:Hid (∀ w,RdrB w g v s3->Below W.heap.size W w->Calls Tryz.prog 170 #[.pointer (some ⟨g,0,none⟩)] w fun e w'=>e = .returned (.int .i64 n)/\RdrB w' g v s4/\Only g w w'):=by
  intro w hr hb;have:=rdSigned g v xs s3 w hr (h.below hb) u3;rw [h4] at this;exact this
 have N5:Hid (∀ w,RdrB w g v s4->Below W.heap.size W w->Calls Tryz.prog 169 #[.pointer (some ⟨g,0,none⟩)] w fun e w'=>e = .returned (.string t)/\RdrB w' g v s5/\Only g w w'):=by
  intro w hr hb;have:=rdText g v xs s4 w hr (h.below hb) u4;rw [h5] at this;exact this
 have hgl:g<w.heap.size:=(Array.getElem?_eq_some_iff.1 hb).1;obtain ⟨Z,hZ⟩:∃ Z,Z=Obj.cells #[.int .i64 0,.string ⟨#[]⟩,.string ⟨#[]⟩,.int .i64 0,.string ⟨#[]⟩] 138:=⟨_,rfl⟩
 have hfr:=below_fresh w Z;have hzb:(w.alloc Z).heap[w.heap.size]? = some Z:=heap_alloc_new w _;have HBN:=hid (bnext hW hfr);have HRN:=hid (show RdrB (w.alloc Z) g v s by unfold RdrB;rw [hfr.block g hgl];exact hb);have HFR:=hid (Only.of (g:=g) hfr);have HZB:=hid hzb;have HZ:=hid hZ;have HGL:=hid hgl;have HGW:=hid hg;clear hb h hW hg hu h1 h2 h3 h4 h5 u1 u2 u3 u4 u5 hfr hzb hZ hgl;go_enter Tryz.func153,Tryz.ntmps153
 go_wp2_with fail
 rw [<- HZ.out];generalize w.alloc Z=w0 at HBN HRN HFR HZB ⊢;refine (N1.out _ HRN.out HBN.out).mono ?_;rintro e w1 ⟨rfl,hr,ho⟩;have HB1:=hid (seen HBN.out HGW.out ho);have HO1:=hid ho;have HR1:=hid hr;clear hr ho N1;go_wp2_with fail
 refine (N2.out _ HR1.out HB1.out).mono ?_;rintro e w2 ⟨rfl,hr,ho⟩;have HB2:=hid (seen HB1.out HGW.out ho);have HO2:=hid (HO1.out.trans ho);have HR2:=hid hr;clear hr ho N2;go_wp2_with fail
 refine (N3.out _ HR2.out HB2.out).mono ?_;rintro e w3 ⟨rfl,hr,ho⟩;have HB3:=hid (seen HB2.out HGW.out ho);have HO3:=hid (HO2.out.trans ho);have HR3:=hid hr;clear hr ho N3;go_wp2_with fail
 refine (N4.out _ HR3.out HB3.out).mono ?_;rintro e w4 ⟨rfl,hr,ho⟩;have HB4:=hid (seen HB3.out HGW.out ho);have HO4:=hid (HO3.out.trans ho);have HR4:=hid hr;clear hr ho N4;go_wp2_with fail
 refine (N5.out _ HR4.out HB4.out).mono ?_;rintro e w5 ⟨rfl,hr,ho⟩;have hne:w.heap.size≠g:=Nat.ne_of_gt HGL.out;have hz7:OE w5 w.heap.size (.int .i64 0) (.string ⟨#[]⟩) (.string ⟨#[]⟩) (.int .i64 0) (.string ⟨#[]⟩):=by
  show w5.heap[w.heap.size]? = some _
  have:=(HO4.out.trans ho).at HZB.out hne;rw [HZ.out] at this;exact this
 have HPUT:=hid (hz7.put5 (.int .i64 x1) (.string o) (.string f) (.int .i64 n) (.string t));have HON:=hid (onlyE5 (w:=w5) (B:=w.heap.size) (.int .i64 x1) (.string o) (.string f) (.int .i64 n) (.string t));obtain ⟨z0,z1,z2,z3,z4,f0,f1,f2,f3,f4⟩:=hz7.cells;have HO7:=hid (HFR.out.trans (HO4.out.trans ho));have HR7:=hid hr;have HN7:=hid hne;clear hr ho N5 hne hz7 HO1 HO2 HO3 HO4 HR1 HR2 HR3 HR4 HB1 HB2 HB3 HB4 HZB HZ;go_wp2
 refine eff_ret rfl HPUT.out rfl ⟨rfl,?_,?_⟩
 ·exact HON.out.at HR7.out (Ne.symm HN7.out)
 ·have h:=HON.out;exact ⟨h.os.trans HO7.out.os,h.tape.trans HO7.out.tape,h.output.trans HO7.out.output,Nat.le_trans HO7.out.size h.size,
   fun k hk hne=>(h.block k (Nat.lt_of_lt_of_le hk HO7.out.size) (Nat.ne_of_lt hk)).trans (HO7.out.block k hk hne)⟩
end
end Go.Proofs.YtahcehbgfhdbjaaGreatDoor

