/-
  UDec YBas SBey SDec NRd: joined texts, what nothing names left out.
-/
import Derived.Deep.RegionHeld3
import Derived.Test.YtahcehbgfhdbjaaGreatDoorQUA8
import Derived.Test.YtahcehbgfhdbjaaGreatDoorQUA7
import Derived.Laws.EntriesVeiled
set_option maxHeartbeats 4000000
set_option maxRecDepth 100000
open Go.Lib (hid)
namespace Go.Proofs.YtahcehbgfhdbjaaGreatDoor
open Go.RowKit
open JM (St)
open UM (Ef)
open WM (enc dec zig zag Bytes)
namespace UM
theorem many4 {xs:List Int} {s s1 s2 s3 s4:St} {x1 x2 x3 x4:Int} (h1:JM.step xs s=(x1,s1)) (h2:JM.step xs s1=(x2,s2)) (h3:JM.step xs s2=(x3,s3)) (h4:JM.step xs s3=(x4,s4)):JM.many xs s 4=([x1,x2,x3,x4],s4):=by
 simp [JM.many,h1,h2,h3,h4]
theorem jstep_zero {xs:List Int} {s s':St} {x:Int} (h:JM.step xs s=(x,s')) (hx:0<x):s'.2=0:=by
 unfold JM.step at h;split at h
 ·cases h;omega
 split at h
 ·cases h;omega
 ·cases h;rfl
theorem finU_congr {c q t:Int} {a b:List Ef×Nat×Int} (h:a.2.2=b.2.2/\(b.2.2=0->a.1=b.1/\a.2.1=b.2.1)):finU c q t a=finU c q t b:=by
 unfold finU;by_cases hb:b.2.2=0
 ·obtain ⟨h1,h2⟩:=h.2 hb;rw [h.1,h1,h2]
 ·rw [h.1,if_pos hb,if_pos hb]
theorem decU_run {xs:List Int} (hb:Bytes xs) {s1 s2 s3 s4:St} {x1 x2 x3 x4:Int} (h1:JM.step xs (0,0)=(x1,s1)) (h2:JM.step xs s1=(x2,s2)) (h3:JM.step xs s2=(x3,s3)) (h4:JM.step xs s3=(x4,s4)) :
  decU xs=finU x1 x2 x3 (efs xs (if 4<x4 then (s4.1,3) else s4) (if 4<x4 then 0 else x4).toNat):=by
 have hm:=many4 h1 h2 h3 h4;unfold decU;rw [hm];show (if s4.2≠0 then badU s4.2 else if 4<x4 then badU 3 else finU x1 x2 x3 (chE xs s4.1 x4.toNat))=_
 by_cases h6:4<x4
 ·have hz:=jstep_zero h4 (by omega);rw [if_neg (by rw [hz];simp),if_pos h6];simp only [if_pos h6];rfl
 ·simp only [if_neg h6];by_cases hs:s4.2=0
  ·rw [if_neg (by rw [hs];simp)];have:s4=(s4.1,0):=Prod.ext rfl hs;rw [this];exact (finU_congr (efs_eq hb s4.1 x4.toNat)).symm
  ·rw [if_pos hs];unfold finU;rw [efs_stop hs,if_pos hs]
theorem str_fit (xs:List Int) (s:St) (hl:xs.length<=maxLen):(stepS xs s).1.size<=maxLen:=by
 unfold stepS;split
 ·exact Nat.zero_le _
 ·show (strOfNums (decS (xs.drop s.1)).1).size<=maxLen
  have h1:(strOfNums (decS (xs.drop s.1)).1).size=(decS (xs.drop s.1)).1.length:=by simp [strOfNums,ByteArray.size]
  rw [h1];unfold decS;(repeat' split)
  ·exact Nat.zero_le _
  ·simp only [List.length_take,List.length_drop];omega
  ·exact Nat.zero_le _
end UM
theorem efs_fit (xs:List Int) (q:St) (hl:xs.length<=maxLen) (k:Nat):∀ e∈(UM.efs xs q k).1,NmFit e:=by
 induction k with
 | zero=>intro e he;cases he
 | succ k ih=>
  intro e he;have he':e∈(UM.efs xs q k).1 ++ [(UM.ef xs (UM.efs xs q k).2).1]:=he;rcases List.mem_append.1 he' with h | h
  ·exact ih e h
  ·rw [List.mem_singleton] at h;subst h;exact ⟨UM.str_fit _ _ hl,UM.str_fit _ _ hl⟩
theorem Rd.lenM {w:World} {v:Value} {xs:List Int} (h:Rd w v xs):xs.length<=maxLen:=by
 obtain ⟨_,_,_,_,hn1,hn2,hcm,_⟩:=h;omega
theorem udec_ret {R:Ending->World->Prop} {a:Act} {w:World} {g:Nat} {c q t:Int} {s:Value} {u er:Int} (hp:a.tmps.getD 2 undef = .pointer (some ⟨g,0,none⟩)) (h3:a.tmps.getD 3 undef = .int .i64 u) (h4:a.tmps.getD 4 undef = .int .i64 er) (hg:OU w g c q t s)
  (hd:a.defers = []) (hR:R (.returned (.tuple #[uv c q t s,.int .i64 u,.int .i64 er])) w):bodyPost Tryz.prog Tryz.f131 R .ret a w:=by
 have:=results_cell_tmp_tmp (P:=Tryz.prog) (fn:=Tryz.f131) rfl a.tmps w g 96 _ _ _ hp hg Tryz.underlying96 rfl (by kernel_rfl);rw [h3,h4] at this;exact bodyPost_ret this hd hR
theorem uDecodeO (v:Value) (xs:List Int) (w:World) (hT:Tb w) (h:Rd w v xs) :
  Calls Tryz.prog 131 #[v] w fun e w'=>∃ sv,e = .returned (.tuple #[uv (UM.decU xs).2.2.1.1 (UM.decU xs).2.2.1.2.1 (UM.decU xs).2.2.1.2.2 sv,.int .i64 ((UM.decU xs).2.1:Int),.int .i64 (UM.decU xs).1])/\OwnEf w.heap.size w' sv (UM.decU xs).2.2.2/\Below w.heap.size w w':=by
 have hby:=h.bytes;obtain ⟨⟨x1,s1⟩,h1⟩:∃ p,JM.step xs (0,0)=p:=⟨_,rfl⟩
 obtain ⟨⟨x2,s2⟩,h2⟩:∃ p,JM.step xs s1=p:=⟨_,rfl⟩
 obtain ⟨⟨x3,s3⟩,h3⟩:∃ p,JM.step xs s2=p:=⟨_,rfl⟩
 obtain ⟨⟨x4,s4⟩,h4⟩:∃ p,JM.step xs s3=p:=⟨_,rfl⟩
 have u1:s1.1<=xs.length:=by have:=(JM.step_small xs (0,0) hby (Nat.zero_le _)).2;rw [h1] at this;exact this
 have u2:s2.1<=xs.length:=by have:=(JM.step_small xs s1 hby u1).2;rw [h2] at this;exact this
 have u3:s3.1<=xs.length:=by have:=(JM.step_small xs s2 hby u2).2;rw [h3] at this;exact this
 have u4:s4.1<=xs.length:=by have:=(JM.step_small xs s3 hby u3).2;rw [h4] at this;exact this
 have hx4:JM.small x4:=by have:=(JM.step_small xs s3 hby u3).1;rw [h4] at this;exact this
 rw [UM.decU_run hby h1 h2 h3 h4];obtain ⟨q,hq⟩:∃ q:St,q=if 4<x4 then (s4.1,3) else s4:=⟨_,rfl⟩
 obtain ⟨C,hC⟩:∃ C:Nat,C=(if 4<x4 then 0 else x4).toNat:=⟨_,rfl⟩
 have hCi:(if 4<x4 then 0 else x4)=(C:Int):=by unfold JM.small at hx4;rw [hC];split <;> omega
 have hC4:C<=4:=by rw [hC];split <;> omega
 have huq:q.1<=xs.length:=by rw [hq];split <;> exact u4
 rw [<- hq,<- hC];obtain ⟨R,hR⟩:∃ R,R=UM.finU x1 x2 x3 (UM.efs xs q C):=⟨_,rfl⟩
 rw [<- hR];have HR:=hid hR;clear hR;obtain ⟨ZP,hZP⟩:∃ Z,Z=Obj.cells #[.int .i64 0,.int .i64 0,.int .i64 0,.slice none 0 0] 96:=⟨_,rfl⟩
 obtain ⟨ZR,hZR⟩:∃ Z,Z=Obj.cells #[v,.int .i64 0,.int .i64 0] 66:=⟨_,rfl⟩
 have b0:=below_fresh w ZP;have hP0:OU (w.alloc ZP) w.heap.size 0 0 0 (.slice none 0 0):=by rw [hZP];exact OU.fresh w 0 0 0 _
 have hs0:=World.size_alloc w ZP;have b1:=below_fresh (w.alloc ZP) ZR;have hR1:RdrB ((w.alloc ZP).alloc ZR) (w.heap.size+1) v (0,0):=by rw [hZR,<- hs0];exact heap_alloc_new (w.alloc ZP) _
 have hP1:=hP0.below b1;have hB1:=bnext b0 b1;generalize hw1:(w.alloc ZP).alloc ZR=w1 at hB1 hR1 hP1;have HW1:=hid hw1;have HZP:=hid hZP;have HZR:=hid hZR;have HB1:=hid hB1;have HR1:=hid hR1;have HP1:=hid hP1;have HV:=hid h;have N1:Hid (∀ w',RdrB w' (w.heap.size+1) v (0,0)->Below w.heap.size w w'->Calls Tryz.prog 35 #[.pointer (some ⟨w.heap.size+1,0,none⟩)] w' fun e w''=>e = .returned (.int .i64 x1)/\RdrB w'' (w.heap.size+1) v s1/\Only (w.heap.size+1) w' w''):=by
  intro w' hr hb;have:=rdNumber _ v xs (0,0) w' hr (h.below hb) (Nat.zero_le _);rw [h1] at this;exact this
 have N2:Hid (∀ w',RdrB w' (w.heap.size+1) v s1->Below w.heap.size w w'->Calls Tryz.prog 35 #[.pointer (some ⟨w.heap.size+1,0,none⟩)] w' fun e w''=>e = .returned (.int .i64 x2)/\RdrB w'' (w.heap.size+1) v s2/\Only (w.heap.size+1) w' w''):=by
  intro w' hr hb;have:=rdNumber _ v xs s1 w' hr (h.below hb) u1;rw [h2] at this;exact this
 have N3:Hid (∀ w',RdrB w' (w.heap.size+1) v s2->Below w.heap.size w w'->Calls Tryz.prog 35 #[.pointer (some ⟨w.heap.size+1,0,none⟩)] w' fun e w''=>e = .returned (.int .i64 x3)/\RdrB w'' (w.heap.size+1) v s3/\Only (w.heap.size+1) w' w''):=by
  intro w' hr hb;have:=rdNumber _ v xs s2 w' hr (h.below hb) u2;rw [h3] at this;exact this
 have N4:Hid (∀ w',RdrB w' (w.heap.size+1) v s3->Below w.heap.size w w'->Calls Tryz.prog 129 #[.pointer (some ⟨w.heap.size+1,0,none⟩),.int .i64 4] w' fun e w''=>e = .returned (.int .i64 (C:Int))/\RdrB w'' (w.heap.size+1) v q/\Only (w.heap.size+1) w' w''):=by
  intro w' hr hb;have:=rdCount4 _ v xs s3 w' hr (h.below hb) u3;rw [h4] at this;simp only at this;rw [hCi,<- hq] at this;exact this
 have N5:Hid (∀ (k:Nat) w',RdrB w' (w.heap.size+1) v (UM.efs xs q k).2->Below w.heap.size w w'->Calls Tryz.prog 153 #[.pointer (some ⟨w.heap.size+1,0,none⟩)] w' fun e w''=>e = .returned (efv (UM.ef xs (UM.efs xs q k).2).1)/\RdrB w'' (w.heap.size+1) v (UM.efs xs q (k+1)).2/\Only (w.heap.size+1) w' w''):=by
  intro k w' hr hb;exact rdEff w _ v xs _ w' hr h hb (Nat.le_succ _) (UM.efs_used hby huq k)
 have HFT:=hid (fun k=>efs_fit xs q (Rd.lenM h) k);have HTB:=hid hT;have hlg:w.heap.size+1<w1.heap.size:=(Array.getElem?_eq_some_iff.1 hR1).1;have HLG:=hid hlg;clear hT h hby h1 h2 h3 h4 u1 u2 u3 u4 hx4 hq hC hCi huq hZP hZR b0 hP0 hs0 b1 hR1 hP1 hB1 hw1 hlg;obtain ⟨av,nv,cv',rfl⟩:∃ a n c,v = .slice a n c:=by obtain ⟨a,c,hv,_⟩:=HV.out.shape;exact ⟨_,_,_,hv⟩
 go_enter Tryz.func131,Tryz.ntmps131
 go_wp2_with fail
 rw [<- HZP.out,<- HZR.out,HW1.out];refine (N1.out _ HR1.out HB1.out).mono ?_;rintro e w2 ⟨rfl,hr,ho⟩;have HB2:=hid (seen HB1.out (Nat.le_succ _) ho);have HP2:=hid (HP1.out.only ho (by omega));have HL2:=hid (Nat.lt_of_lt_of_le HLG.out ho.size);have HR2:=hid hr;clear hr ho N1 HR1 HP1 HB1 HLG HW1 HZR;go_wp2_with fail
 refine (N2.out _ HR2.out HB2.out).mono ?_;rintro e w3 ⟨rfl,hr,ho⟩;have HB3:=hid (seen HB2.out (Nat.le_succ _) ho);have HP3:=hid (HP2.out.only ho (by omega));have HL3:=hid (Nat.lt_of_lt_of_le HL2.out ho.size);have HR3:=hid hr;clear hr ho N2 HR2 HP2 HB2 HL2;go_wp2_with fail
 refine (N3.out _ HR3.out HB3.out).mono ?_;rintro e w9 ⟨rfl,hr,ho⟩;have HB9:=hid (seen HB3.out (Nat.le_succ _) ho);have HP9:=hid (HP3.out.only ho (by omega));have HL9:=hid (Nat.lt_of_lt_of_le HL3.out ho.size);have HR9:=hid hr;clear hr ho N3 HR3 HP3 HB3 HL3;go_wp2_with fail
 have b4:=below_fresh w9 (.cells #[.int .i64 x1,.int .i64 x2,.int .i64 x3,.slice none 0 0] 96);have hX4:=OU.fresh w9 x1 x2 x3 (.slice none 0 0);have hP4:=HP9.out.below b4;have hR4:RdrB (w9.alloc (.cells #[.int .i64 x1,.int .i64 x2,.int .i64 x3,.slice none 0 0] 96)) (w.heap.size+1) _ s3:=below_block HR9.out b4;have hB4:=bnext HB9.out b4;generalize w9.alloc (.cells #[.int .i64 x1,.int .i64 x2,.int .i64 x3,.slice none 0 0] 96)=w4 at b4 hX4 hP4 hR4 hB4 ⊢;obtain ⟨pb,hpb⟩:∃ pb,pb=w9.heap.size:=⟨_,rfl⟩
 rw [<- hpb] at hX4 ⊢;have HPB:=hid (show w.heap.size+1<pb by rw [hpb];exact HL9.out);have hne:pb≠w.heap.size+1:=Nat.ne_of_gt HPB.out;refine (N4.out _ hR4 hB4).mono ?_;rintro e w5 ⟨rfl,hr,ho⟩;have HX5:=hid (hX4.only ho hne);have HP5:=hid (hP4.only ho (by omega));have HR5:=hid hr;have HB5:=hid (seen hB4 (Nat.le_succ _) ho);clear hr ho N4 HR9 HP9 HB9 HL9 b4 hX4 hP4 hR4 hB4 hne hpb;go_wp2
 go_loopw [15] (fun i wr=>∃ (k:Nat) (sv:Value),k<=C/\i = .int .i64 k/\Hid (RdrB wr (w.heap.size+1) (.slice av nv cv') (UM.efs xs q k).2)/\Hid (OU wr pb x1 x2 x3 sv)/\Hid (OU wr w.heap.size 0 0 0 (.slice none 0 0))/\Hid (OwnEf w.heap.size wr sv (UM.efs xs q k).1)/\Hid (Below w.heap.size w wr)) (fun i _=>C - (intOf i).toNat)
 case atStart=>exact ⟨0,_,Nat.zero_le _,rfl,HR5.out,HX5.out,HP5.out,OwnG.nil hlEf _ _ _,HB5.out⟩
 case round=>
  obtain ⟨k,sv,hk,rfl,hr,hx,hp,ho,hb⟩:=hrel;clear HR5 HX5 HP5 HB5;by_cases hlt:k<C
  ·have hq2:(k:Int)<(C:Int):=by omega
   obtain ⟨⟨k',o',f',n',t'⟩,hy⟩:∃ y,(UM.ef xs (UM.efs xs q k).2).1=y:=⟨_,rfl⟩
   have hyl:=UM.efs_length xs q k;have hsn:(UM.efs xs q (k+1)).1=(UM.efs xs q k).1 ++ [(k',o',f',n',t')]:=by
    show (UM.efs xs q k).1 ++ [(UM.ef xs (UM.efs xs q k).2).1]=_
    rw [hy]
   have hcall:=N5.out k;rw [hy] at hcall;have HC:Hid (∀ w',RdrB w' (w.heap.size+1) (.slice av nv cv') (UM.efs xs q k).2->Below w.heap.size w w'->Calls Tryz.prog 153 #[.pointer (some ⟨w.heap.size+1,0,none⟩)] w' fun e w''=>e = .returned (ev k' o' f' n' t')/\RdrB w'' (w.heap.size+1) (.slice av nv cv') (UM.efs xs q (k+1)).2/\Only (w.heap.size+1) w' w''):=hcall;have HSN:=hid hsn;clear hy hcall hsn;generalize (UM.efs xs q k).1=ys at ho hyl HSN;obtain ⟨asv,csv,rfl,hcsv,_⟩:=ho.out.rd.shape;have hyb:ys.length<=1073741824:=by omega
   rw [hyl] at hx ho;have HYB:=hid hyb;have HYL:=hid hyl;have c0:wr.drew.cell? ⟨pb,3,none⟩=some (.slice asv k csv):=hx.out.cells.2.2.2.1;have hpn:pb≠w.heap.size+1:=Nat.ne_of_gt HPB.out;have HPN:=hid hpn;clear hyb hyl hpn;have A5:Hid (∀ w5,Only (w.heap.size+1) wr.drew w5->OU w5 pb x1 x2 x3 (.slice asv k csv)/\OU w5 w.heap.size 0 0 0 (.slice none 0 0)/\OwnEf w.heap.size w5 (.slice asv k csv) ys/\Below w.heap.size w w5):=by
    intro w5 ho5;have hx':OU wr.drew pb x1 x2 x3 (.slice asv k csv):=hx.out;have hp':OU wr.drew w.heap.size 0 0 0 (.slice none 0 0):=hp.out;have ho':OwnEf w.heap.size wr.drew (.slice asv k csv) ys:=ho.out;have hr':wr.drew.heap[w.heap.size+1]? = some (.cells #[.slice av nv cv',.int .i64 ((UM.efs xs q k).2.1:Int),.int .i64 (UM.efs xs q k).2.2] 66 (0,0)):=hr.out;have hb':Below w.heap.size w wr.drew:=hb.out.drew;exact ⟨hx'.only ho5 HPN.out,hp'.only ho5 (Nat.ne_of_lt (Nat.lt_succ_self _)),ownG_only ho' hr' (by decide) ho5,seen hb' (Nat.le_succ _) ho5⟩
   go_wp2
   go_region_law (first
    | (go_simp;go_at_call 153;refine (HC.out wr.drew hr.out hb.out.drew).mono ?_;rintro e w5 ⟨rfl,hr5,ho5⟩;obtain ⟨hX5,hP5,hO5,hB5⟩:=A5.out w5 ho5;have HR5:=hid hr5;have HX5:=hid hX5;have HP5:=hid hP5;have HO5:=hid hO5;have HB5:=hid hB5;have hsz5:=hB5.size;have c5:=hX5.cells.2.2.2.1;have c6:=below_cell (below_fresh w5 (.cells #[.int .i64 k',.string o',.string f',.int .i64 n',.string t'] 138)) c5;clear hr5 ho5 hX5 hP5 hO5 hB5)
    | (refine step_appG1 efE (k',o',f',n',t') rfl _ _ rfl rfl HO5.out rfl HYB.out hsz5 ?_;intro v6 w6 ho6 hb6 hk6;obtain ⟨av6,cv6,rfl,_,_⟩:=ho6.rd.shape;have x6:=(OU.keep (e:=138) HX5.out (by decide) hk6).cells;have x60:=x6.2.2.2.1;have x6f:=x6.2.2.2.2.2.2.2))
   all_goals
    have hpb:=HPB.out;have hx6:OU w6 pb x1 x2 x3 (.slice asv k csv):=OU.keep (e:=138) HX5.out (by decide) hk6;have hon:Only pb w6 (w6.setCell ⟨pb,3,none⟩ (.slice av6 (ys.length+1) cv6)):=Only.set 3 _;have el:(ys ++ [(k',o',f',n',t')]).length=ys.length+1:=by simp
    rw [el] at ho6;have HX6:=hid (hx6.put (.slice av6 (ys.length+1) cv6));have HP6:=hid ((OU.keep (e:=138) HP5.out (by decide) hk6).only hon (by omega));have HR6:=hid ((RdrB.keep (e:=138) HR5.out (by decide) hk6).only hon (by omega));have HO6:=hid (show OwnEf w.heap.size (w6.setCell ⟨pb,3,none⟩ (.slice av6 (ys.length+1) cv6)) (.slice av6 (ys.length+1) cv6) (UM.efs xs q (k+1)).1 by rw [HSN.out];exact ownG_only ho6 hx6 (by decide) hon);have HB6:=hid (seen (HB5.out.trans hb6) (by omega) hon);clear hx6 hon el ho6 hb6 hk6 x6 x60 x6f c0 c5 c6 hr hx hp ho hb HR5 HX5 HP5 HO5 HB5 hsz5 A5 HC hpb;generalize w6.setCell ⟨pb,3,none⟩ (.slice av6 (ys.length+1) cv6)=w7 at HX6 HP6 HR6 HO6 HB6 ⊢;go_wp2
    go_roundw
    case rel=>exact ⟨k+1,_,by omega,by go_num,HR6,HX6,HP6,HO6,HB6⟩
    case measure=>simp [intOf];omega
  ·have hq2:¬ (k:Int)<(C:Int):=by omega
   obtain rfl:k=C:=by omega
   have hyl:=UM.efs_length xs q k;have hfin:=HR.out;have HFY:=hid (HFT.out k);clear HR N5;generalize UM.efs xs q k=p at hr ho hyl hfin HFY;obtain ⟨ys,u,er⟩:=p;simp only at hyl;obtain ⟨asv,csv,rfl,hcsv,_⟩:=ho.out.rd.shape;obtain ⟨r0,r1,r2,_,_,_⟩:=hr.out.cells;simp only at r1 r2;obtain ⟨p0,p1,p2,p3,_⟩:=hx.out.cells;obtain ⟨o0,o1,o2,o3,g0,g1,g2,g3⟩:=hp.out.cells;have hpb:=HPB.out;clear hyl;clear r0 r1 r2 p0 p1 p2 p3 o0 o1 o2 o3 g0 g1 g2 g3;have hbb:Below w.heap.size w wr:=hb.out;have HVL:=hid (fun w' (hb:Below wr.heap.size wr w')=>cVal x1 x2 x3 (.slice asv ys.length csv) ys w' ((HTB.out.below hbb).below hb) (ho.out.below hb).rd HFY.out);obtain ⟨EG,hEG⟩:∃ e,e=UM.errU x1 x2 x3 ys:=⟨_,rfl⟩
   rw [<- hEG] at HVL;obtain ⟨EE,hEE⟩:∃ e,e=orL [er,EG]:=⟨_,rfl⟩
   have HOR:=hid hEE.symm;have HCO:=hid (fun z l w (h:RdI w z l)=>cOrE z l w h);have hRF:Hid ((EE=0->er=0/\EG=0)/\(EE=0->R=(0,u,(x1,x2,x3),ys))/\(¬ EE=0->R=UM.badU EE)):=hid (by
    rw [hfin,hEE];unfold UM.finU orL orL orL;rw [<- hEG];by_cases h1:er=0
    ·by_cases h2:EG=0
     ·simp [h1,h2]
     ·simp [h1,h2]
    ·simp [h1])
   clear hfin hEG hEE;go_wp2
   refine wp_region_held_drew (S:=fun w'=>Below wr.heap.size wr w') (by kernel_rfl) ((Below.refl _ _).drew) (fun ha=>?_);replace ha:Below wr.heap.size wr wr.drew:=(Below.refl _ _).drew;generalize wr.drew=wa at ha ⊢;refine takeJ 0 ?_;refine takeG 1 (v:=?_) ?_ ?_;rotate_left
   ·(intro w hSw;(try dsimp only at hSw);obtain ⟨r0,r1,r2,_,_,_⟩:=RdrB.cells (show RdrB w _ _ _ from below_block hr.out hSw) ;simp only at r2;go_simp;first | done | with_reducible rfl)
   (try simp only [Act.put,lTA,lZ,lS]);refine takeG 2 (v:=?_) ?_ ?_;rotate_left
   ·(intro w hSw;(try dsimp only at hSw);obtain ⟨p0,p1,p2,p3,_⟩:=(hx.out.below hSw).cells;go_simp;first | done | with_reducible rfl)
   (try simp only [Act.put,lTA,lZ,lS]);refine wpAnyH_ready (rs:=[3]) (by kernel_rfl) (by simp) ?_;refine stepH rfl (fun K hK=>?_) AllReadyH.nil;go_simp
   refine (HVL.out wa ha).mono ?_;rintro e wb ⟨rfl,hq⟩;have hc:=bnext ha hq;go_wp2_with fail
   refine hK.out _ _ (hc) (fun _=>?_);clear hK K;(try simp only [Act.put,lTA,lZ,lS]);have hrd:=rd2e wb er EG;refine wpAnyH_ready (rs:=[4]) (by kernel_rfl) (by simp) ?_;refine stepH rfl (fun K hK=>?_) AllReadyH.nil;go_simp
   have hd:=bnext hc (below_fresh wb (.cells #[.int .i64 er,.int .i64 EG] 36));refine hK.out _ _ (hd) (fun _=>?_);clear hK K;(try simp only [Act.put,lTA,lZ,lS]);generalize wb.alloc (.cells #[.int .i64 er,.int .i64 EG] 36)=wd at hd hrd ⊢;refine wpAnyH_ready (rs:=[5]) (by kernel_rfl) (by simp) ?_;refine stepH rfl (fun K hK=>?_) AllReadyH.nil;go_simp
   refine (HCO.out _ _ wd hrd).mono ?_;rintro e we ⟨rfl,rfl⟩;rw [HOR.out];go_wp2_with fail
   refine hK.out _ _ (hd) (fun _=>?_);clear hK K;(try simp only [Act.put,lTA,lZ,lS]);refine takeJ 6 ?_;refine wpAnyH_done (by kernel_rfl) ?_ _;have HX5:=hid (hx.out.below hd);have HP5:=hid (hp.out.below hd);have HR5:=hid (show RdrB wd (w.heap.size+1) (.slice av nv cv') (u,er) from below_block hr.out hd);have HO5:=hid (ho.out.below hd);have HB5:=hid (bnext hb.out hd);clear hr hx hp ho hb ha hc hd hrd HVL HCO HOR;by_cases hE:EE=0
   ·have HFIN:=hid (hRF.out.2.1 hE);have HZZ:=hid (hRF.out.1 hE);have hneb:(EE != 0)=false:=by simp [hE]
    clear hRF hE;obtain ⟨r0,r1,r2,_,_,_⟩:=HR5.out.cells;obtain ⟨p0,p1,p2,p3,_⟩:=HX5.out.cells;obtain ⟨o0,o1,o2,o3,g0,g1,g2,g3⟩:=HP5.out.cells;simp only at r1 r2;have hsub:er=0/\EG=0:=HZZ.out;obtain ⟨he0,_⟩:=hsub;subst he0;go_wp2
    obtain ⟨w5,hw5⟩:∃ w5,w5=wd:=⟨_,rfl⟩
    subst hw5;refine wp_region_held_drew (S:=fun w'=>OU w' pb x1 x2 x3 (.slice asv ys.length csv)/\RdrB w' (w.heap.size+1) (.slice av nv cv') (u,0)) (by kernel_rfl) ⟨HX5.out,HR5.out⟩ (fun hHeld=>?_);refine takeG 0 (v:=?_) ?_ ?_;rotate_left
    ·(intro w hSw;(try dsimp only at hSw);obtain ⟨p0,p1,p2,p3,_⟩:=hSw.1.cells;go_simp;first | done | with_reducible rfl)
    (try simp only [Act.put,lTA,lZ,lS]);refine takeJ 1 ?_;refine takeG 2 (v:=?_) ?_ ?_;rotate_left
    ·(intro w hSw;(try dsimp only at hSw);obtain ⟨r0,r1,r2,_,_,_⟩:=hSw.2.cells;simp only at r1;go_simp;first | done | with_reducible rfl)
    (try simp only [Act.put,lTA,lZ,lS]);have hs5:OU w5.drew pb x1 x2 x3 (.slice asv ys.length csv)/\RdrB w5.drew (w.heap.size+1) (.slice av nv cv') (u,0):=⟨HX5.out,HR5.out⟩
    have HP6:=hid (show OU w5.drew w.heap.size 0 0 0 (.slice none 0 0) from HP5.out);have HO6:=hid (show OwnEf w.heap.size w5.drew (.slice asv ys.length csv) ys from HO5.out);have HB6:=hid HB5.out.drew;clear HX5 HP5 HR5 HO5 HB5 r0 r1 r2 p0 p1 p2 p3 o0 o1 o2 o3 g0 g1 g2 g3 hHeld;generalize w5.drew=w6 at HP6 HO6 HB6 hs5 ⊢;obtain ⟨o0,o1,o2,o3,g0,g1,g2,g3⟩:=HP6.out.cells;refine wpAnyH_ready (rs:=[3]) (by kernel_rfl) (by simp) ?_;refine stepH rfl (fun K hK=>?_) AllReadyH.nil;go_simp
    refine hK.out _ _ ⟨hs5.1.only (only4 _ _ _ _) (by omega),hs5.2.only (only4 _ _ _ _) (by omega)⟩ (fun hHeld=>?_);clear hK K;(try simp only [Act.put,lTA,lZ,lS]);refine takeJ 4 ?_;refine takeJ 5 ?_;refine wpAnyH_done (by kernel_rfl) ?_ _;go_wp2
    refine udec_ret rfl rfl rfl (HP6.out.put4 x1 x2 x3 _) rfl ⟨.slice asv ys.length csv,?_,?_,?_⟩
    ·rw [HFIN.out]
    ·rw [HFIN.out];exact (ownG_only HO6.out HP6.out (by decide) (only4 _ _ _ _))
    ·exact seen HB6.out (Nat.le_refl _) (only4 _ _ _ _)
   ·have HFIN:=hid (hRF.out.2.2 hE);have hneb:(EE != 0)=true:=by simpa using hE
    clear hRF hE;obtain ⟨o0,o1,o2,o3,g0,g1,g2,g3⟩:=HP5.out.cells;go_wp2
    refine udec_ret rfl rfl rfl (HP5.out.put4 0 0 0 (.slice none 0 0)) rfl ⟨.slice none 0 0,?_,?_,?_⟩
    ·rw [HFIN.out];rfl
    ·rw [HFIN.out];exact OwnG.nil hlEf _ _ _
    ·exact seen HB5.out (Nat.le_refl _) (only4 _ _ _ _)
end Go.Proofs.YtahcehbgfhdbjaaGreatDoor
namespace Go.Proofs.YtahcehbgfhdbjaaGreatDoor.ST
open Go.RowKit
open UM (Ef)
open SM (Fp)
open VM (Ent)
theorem setE:IsElem Tryz.prog 28 96 4 48 encUp:={ upE with ht:=Tryz.underlying28 }
theorem RdF.atS {w:World} {a:Option Addr} {n c:Nat} {fs:List Fp} (h:RdF w (.slice a n c) fs) (k:Nat) (x m t:Int) (cs:List Ef) (hk:fs[k]? = some (x,m,t,cs)) :
  ∃ b o ad l cp,(∀ w0,(Instr.indexAt 28 (.slice a n c) (.int .i64 (k:Int))).run Tryz.prog w0 = .ok (.pointer (some ⟨b,o,none⟩)) w0)/\b<w.heap.size /\
   w.cell? ⟨b,o,none⟩=some (.int .i64 x)/\w.cell? ⟨b,o+1,none⟩=some (.int .i64 m)/\w.cell? ⟨b,o+2,none⟩=some (.int .i64 t)/\w.cell? ⟨b,o+3,none⟩=some (.slice ad l cp)/\RdEf w (.slice ad l cp) cs:=by
 obtain ⟨qs,h1,h2⟩:=h;obtain ⟨⟨x',m',t',ad,l,cp⟩,h3,h4,h5,h7,h6⟩:=h2.get hk;simp only at h4 h5 h7;subst h4 h5 h7;obtain ⟨b,o,g1,g2,g3⟩:=RdG.at_ setE h1 k _ h3;exact ⟨b,o,ad,l,cp,g1,g2,g3 0 _ rfl,g3 1 _ rfl,g3 2 _ rfl,g3 3 _ rfl,h6⟩
theorem RdF.cut0S {w:World} {a:Option Addr} {n c:Nat} {fs:List Fp} (h:RdF w (.slice a n c) fs) (hi:Nat) (h2:hi<=fs.length) :
  ∃ v',(∀ w0:World,(Instr.slice 28 (.slice a n c) none (some (.int .i64 (hi:Int))) none).run Tryz.prog w0 = .ok v' w0)/\RdF w v' (fs.take hi):=by
 obtain ⟨qs,h3,h4⟩:=h;obtain ⟨v',h5,h6⟩:=h3.cut0 setE hi (by rw [h4.len];exact h2);exact ⟨v',h5,_,h6,h4.take hi⟩
def KB (w:World) (K:Nat):Prop:=w.heap[K]? = some (.cells #[.func (.func 164) #[] #[],.func (.func 165) #[] #[],.func (.func 147) #[] #[],.func (.func 123) #[] #[],.func (.func 78) #[] #[],.func (.func 166) #[] #[],.func (.func 136) #[] #[],.func (.func 131) #[] #[],.int .i64 48] 185 (0,0))
theorem KB.fresh (w:World):KB (w.alloc (.cells #[.func (.func 164) #[] #[],.func (.func 165) #[] #[],.func (.func 147) #[] #[],.func (.func 123) #[] #[],.func (.func 78) #[] #[],.func (.func 166) #[] #[],.func (.func 136) #[] #[],.func (.func 131) #[] #[],.int .i64 48] 185)) w.heap.size:=heap_alloc_new w _
theorem KB.below {w w':World} {K:Nat} (h:KB w K) (hb:Below w.heap.size w w'):KB w' K:=below_block h hb
theorem KB.lt {w:World} {K:Nat} (h:KB w K):K<w.heap.size:=(Array.getElem?_eq_some_iff.1 h).1
theorem KB.cells {w:World} {K:Nat} (h:KB w K):w.cell? ⟨K,0,none⟩=some (.func (.func 164) #[] #[])/\w.cell? ⟨K,1,none⟩=some (.func (.func 165) #[] #[]) /\
  w.cell? ⟨K,2,none⟩=some (.func (.func 147) #[] #[])/\w.cell? ⟨K,3,none⟩=some (.func (.func 123) #[] #[])/\w.cell? ⟨K,4,none⟩=some (.func (.func 78) #[] #[]) /\
  w.cell? ⟨K,5,none⟩=some (.func (.func 166) #[] #[])/\w.cell? ⟨K,6,none⟩=some (.func (.func 136) #[] #[])/\w.cell? ⟨K,7,none⟩=some (.func (.func 131) #[] #[])/\w.cell? ⟨K,8,none⟩=some (.int .i64 48):=by
 unfold KB at h;refine ⟨?_,?_,?_,?_,?_,?_,?_,?_,?_⟩ <;> simp [World.cell?,h]
theorem KB.later {w:World} {K:Nat} (h:KB w K):(∀ p:Later w,p.val.cell? ⟨K,0,none⟩=some (.func (.func 164) #[] #[]))/\(∀ p:Later w,p.val.cell? ⟨K,1,none⟩=some (.func (.func 165) #[] #[])) /\
  (∀ p:Later w,p.val.cell? ⟨K,2,none⟩=some (.func (.func 147) #[] #[]))/\(∀ p:Later w,p.val.cell? ⟨K,3,none⟩=some (.func (.func 123) #[] #[]))/\(∀ p:Later w,p.val.cell? ⟨K,4,none⟩=some (.func (.func 78) #[] #[])) /\
  (∀ p:Later w,p.val.cell? ⟨K,5,none⟩=some (.func (.func 166) #[] #[]))/\(∀ p:Later w,p.val.cell? ⟨K,6,none⟩=some (.func (.func 136) #[] #[]))/\(∀ p:Later w,p.val.cell? ⟨K,7,none⟩=some (.func (.func 131) #[] #[]))/\(∀ p:Later w,p.val.cell? ⟨K,8,none⟩=some (.int .i64 48)):=by
 obtain ⟨k0,k1,k2,k3,k4,k5,k6,k7,k8⟩:=h.cells;exact ⟨fun p=>below_cell p.h k0,fun p=>below_cell p.h k1,fun p=>below_cell p.h k2,fun p=>below_cell p.h k3,fun p=>below_cell p.h k4,fun p=>below_cell p.h k5,fun p=>below_cell p.h k6,fun p=>below_cell p.h k7,fun p=>below_cell p.h k8⟩
theorem lat_e {w:World} {B:Nat} {x m t:Int} {s:Value} (h:OU w B x m t s):(∀ p:Later w,p.val.cell? ⟨B,0,none⟩=some (.int .i64 x))/\(∀ p:Later w,p.val.cell? ⟨B,1,none⟩=some (.int .i64 m))/\(∀ p:Later w,p.val.cell? ⟨B,2,none⟩=some (.int .i64 t)) /\ ∀ p:Later w,p.val.cell? ⟨B,3,none⟩=some s:=by
 obtain ⟨c0,c1,c2,c3,_⟩:=h.cells;exact ⟨fun p=>below_cell p.h c0,fun p=>below_cell p.h c1,fun p=>below_cell p.h c2,fun p=>below_cell p.h c3⟩
structure KBox (w w2:World) (x m t:Int) (s:Value):Prop where
 eq:(w.alloc (.cells #[.func (.func 164) #[] #[],.func (.func 165) #[] #[],.func (.func 147) #[] #[],.func (.func 123) #[] #[],.func (.func 78) #[] #[],.func (.func 166) #[] #[],.func (.func 136) #[] #[],.func (.func 131) #[] #[],.int .i64 48] 185)).alloc (.cells #[.int .i64 x,.int .i64 m,.int .i64 t,s] 96)=w2
 k:KB w2 w.heap.size
 e:OU w2 (w.heap.size+1) x m t s
 below:Below w.heap.size w w2
 size:w2.heap.size=w.heap.size+2
theorem kbox (w:World) (x m t:Int) (s:Value):∃ w2,KBox w w2 x m t s:=by
 have b1:=below_fresh w (.cells #[.func (.func 164) #[] #[],.func (.func 165) #[] #[],.func (.func 147) #[] #[],.func (.func 123) #[] #[],.func (.func 78) #[] #[],.func (.func 166) #[] #[],.func (.func 136) #[] #[],.func (.func 131) #[] #[],.int .i64 48] 185);have k1:=KB.fresh w;have z1:=World.size_alloc w (.cells #[.func (.func 164) #[] #[],.func (.func 165) #[] #[],.func (.func 147) #[] #[],.func (.func 123) #[] #[],.func (.func 78) #[] #[],.func (.func 166) #[] #[],.func (.func 136) #[] #[],.func (.func 131) #[] #[],.int .i64 48] 185);obtain ⟨w1,hw1⟩:∃ z,w.alloc (.cells #[.func (.func 164) #[] #[],.func (.func 165) #[] #[],.func (.func 147) #[] #[],.func (.func 123) #[] #[],.func (.func 78) #[] #[],.func (.func 166) #[] #[],.func (.func 136) #[] #[],.func (.func 131) #[] #[],.int .i64 48] 185)=z:=⟨_,rfl⟩
 rw [hw1] at b1 k1 z1;have b2:=below_fresh w1 (.cells #[.int .i64 x,.int .i64 m,.int .i64 t,s] 96);have o2:=OU.fresh w1 x m t s;rw [z1] at o2;exact ⟨_,by rw [hw1],k1.below b2,o2,bnext b1 b2,by rw [World.size_alloc,z1]⟩
structure KOne (w w1:World):Prop where
 eq:w.alloc (.cells #[.func (.func 164) #[] #[],.func (.func 165) #[] #[],.func (.func 147) #[] #[],.func (.func 123) #[] #[],.func (.func 78) #[] #[],.func (.func 166) #[] #[],.func (.func 136) #[] #[],.func (.func 131) #[] #[],.int .i64 48] 185)=w1
 k:KB w1 w.heap.size
 below:Below w.heap.size w w1
theorem kone (w:World):∃ w1,KOne w w1:=⟨_,rfl,KB.fresh w,below_fresh w _⟩
structure EOne (w w1:World) (x m t:Int) (s:Value):Prop where
 eq:w.alloc (.cells #[.int .i64 x,.int .i64 m,.int .i64 t,s] 96)=w1
 e:OU w1 w.heap.size x m t s
 below:Below w.heap.size w w1
 size:w1.heap.size=w.heap.size+1
theorem eone (w:World) (x m t:Int) (s:Value):∃ w1,EOne w w1 x m t s:=⟨_,rfl,OU.fresh w x m t s,below_fresh w _,World.size_alloc w _⟩
theorem el_ret {R:Ending->World->Prop} {a:Act} {w:World} {g:Nat} (hp:a.tmps.getD 0 undef = .pointer (some ⟨g,0,none⟩)) (hg:KB w g)
  (hd:a.defers = []) (hR:R (.returned (.agg #[.func (.func 164) #[] #[],.func (.func 165) #[] #[],.func (.func 147) #[] #[],.func (.func 123) #[] #[],.func (.func 78) #[] #[],.func (.func 166) #[] #[],.func (.func 136) #[] #[],.func (.func 131) #[] #[],.int .i64 48])) w):bodyPost Tryz.prog Tryz.f149 R .ret a w:=
 bodyPost_ret (results_cell_row (P:=Tryz.prog) rfl a.tmps w g 185 _ _ _ hp hg Tryz.underlying185 rfl (by kernel_rfl)) hd hR
theorem cElements (w:World):Calls Tryz.prog 149 #[] w fun e w'=>e = .returned (.agg #[.func (.func 164) #[] #[],.func (.func 165) #[] #[],.func (.func 147) #[] #[],.func (.func 123) #[] #[],.func (.func 78) #[] #[],.func (.func 166) #[] #[],.func (.func 136) #[] #[],.func (.func 131) #[] #[],.int .i64 48])/\Below w.heap.size w w':=by
 have hb:=below_fresh w (.cells #[.func (.func 164) #[] #[],.func (.func 165) #[] #[],.func (.func 147) #[] #[],.func (.func 123) #[] #[],.func (.func 78) #[] #[],.func (.func 166) #[] #[],.func (.func 136) #[] #[],.func (.func 131) #[] #[],.int .i64 48] 185);have hk:=KB.fresh w;obtain ⟨w1,hw1⟩:∃ z,w.alloc (.cells #[.func (.func 164) #[] #[],.func (.func 165) #[] #[],.func (.func 147) #[] #[],.func (.func 123) #[] #[],.func (.func 78) #[] #[],.func (.func 166) #[] #[],.func (.func 136) #[] #[],.func (.func 131) #[] #[],.int .i64 48] 185)=z:=⟨_,rfl⟩
 rw [hw1] at hb hk;have HW:=hid hw1;have HB:=hid hb;have HK:=hid hk;clear hw1 hb hk;go_enter Tryz.func149,Tryz.ntmps149
 go_wp2
 rw [HW.out];refine el_ret rfl HK.out rfl ?_;exact ⟨rfl,HB.out⟩
theorem cAuth (x m t:Int) (a:Option Addr) (l c:Nat) (w:World):Calls Tryz.prog 164 #[uv x m t (.slice a l c)] w fun e w'=>e = .returned (.int .i64 x)/\Below w.heap.size w w':=by
 have hb:=below_fresh w (.cells #[.int .i64 x,.int .i64 m,.int .i64 t,.slice a l c] 96);go_enter Tryz.func164,Tryz.ntmps164
 go_wp2
 go_ret;exact ⟨rfl,hb⟩
theorem cNumb (x m t:Int) (a:Option Addr) (l c:Nat) (w:World):Calls Tryz.prog 165 #[uv x m t (.slice a l c)] w fun e w'=>e = .returned (.int .i64 m)/\Below w.heap.size w w':=by
 have hb:=below_fresh w (.cells #[.int .i64 x,.int .i64 m,.int .i64 t,.slice a l c] 96);go_enter Tryz.func165,Tryz.ntmps165
 go_wp2
 go_ret;exact ⟨rfl,hb⟩
section
variable {α:Type} {P:Program} {t e:TypeId} {size bytes:Nat} {enc:α->List Value}
variable {w:World} {ops:Array Oper} {o:Oper} {a:Act} {K:Act->World->Prop} {Q:Exit->Act->World->Prop} {F:Prop} {base:Nat} {v:Value} {ys:List α}
end
theorem pCmp (x m t:Int) (ua:Option Addr) (ul uc:Nat) (y n u:Int) (va:Option Addr) (vl vc:Nat) (w:World) :
  Calls Tryz.prog 123 #[uv x m t (.slice ua ul uc),uv y n u (.slice va vl vc)] w fun e w'=>e = .returned (.int .i64 (UM.cmpU x m y n))/\Below w.heap.size w w':=
 uCompare x m t _ y n u _ w ⟨_,_,_,rfl⟩ ⟨_,_,_,rfl⟩
def OwnD (base:Nat) (w:World) (v:Value) (fs:List Fp):Prop:=∃ qs,OwnUp base w v qs/\TelO base w qs fs
end Go.Proofs.YtahcehbgfhdbjaaGreatDoor.ST
namespace Go.Proofs.YtahcehbgfhdbjaaGreatDoor.ST
open Go.RowKit Go.Joins
open UM (Ef)
open SM (Fp)
open VM (Ent)
end Go.Proofs.YtahcehbgfhdbjaaGreatDoor.ST
namespace Go.Proofs.YtahcehbgfhdbjaaGreatDoor.SM
end Go.Proofs.YtahcehbgfhdbjaaGreatDoor.SM
namespace Go.Proofs.YtahcehbgfhdbjaaGreatDoor.ST
open Go.RowKit Go.Joins
open UM (Ef)
open SM (Fp)
open VM (Ent)
end Go.Proofs.YtahcehbgfhdbjaaGreatDoor.ST
namespace Go.Proofs.YtahcehbgfhdbjaaGreatDoor.ST
open Go.RowKit Go.Joins
open UM (Ef)
open SM (Fp)
open WM (enc dec Bytes)
end Go.Proofs.YtahcehbgfhdbjaaGreatDoor.ST
namespace Go.Proofs.YtahcehbgfhdbjaaGreatDoor.ST
open Go.RowKit Go.Joins
open SM (Fp)
open WM (enc dec Bytes)
theorem rUpdN (v:Value) (xs:List Int) (w:World) (h:Rd w v xs) (e0:Int) (he:e0≠0) (hd:JM.num xs=(0,0,e0)) :
  Calls Tryz.prog 93 #[v] w fun e w'=>e = .returned (.tuple #[.slice none 0 0,.int .i64 0,.int .i64 e0])/\w=w':=by
 have hU:=rNumber v xs w h;rw [hd] at hU;have HU:=hid hU;have hne:(e0 != 0)=true:=bne_t he;clear hU hd he h;go_enter Tryz.func93,Tryz.ntmps93
 go_wp2_with fail
 refine HU.out.mono ?_;rintro e' w1 ⟨rfl,rfl⟩;go_wp2
 go_ret3;exact ⟨rfl,rfl⟩
theorem rUpd3 (v:Value) (xs:List Int) (w:World) (h:Rd w v xs) (N u0:Int) (hN:48<N) (hd:JM.num xs=(N,u0,0)) :
  Calls Tryz.prog 93 #[v] w fun e w'=>e = .returned (.tuple #[.slice none 0 0,.int .i64 0,.int .i64 3])/\w=w':=by
 have hU:=rNumber v xs w h;rw [hd] at hU;have HU:=hid hU;clear hU hd h;go_enter Tryz.func93,Tryz.ntmps93
 go_wp2_with fail
 refine HU.out.mono ?_;rintro e' w1 ⟨rfl,rfl⟩;go_wp2
 go_ret3;exact ⟨rfl,rfl⟩
end Go.Proofs.YtahcehbgfhdbjaaGreatDoor.ST

