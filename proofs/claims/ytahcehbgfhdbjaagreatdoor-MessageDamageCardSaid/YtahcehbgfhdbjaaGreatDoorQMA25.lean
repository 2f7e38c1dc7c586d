/-
  NShort NLaw1 NPo NPi: joined texts, what nothing names left out.
-/
import Derived.Test.YtahcehbgfhdbjaaGreatDoorQMA20
import Derived.Test.YtahcehbgfhdbjaaGreatDoorQMA24
set_option maxHeartbeats 8000000
set_option maxRecDepth 100000
open Go.Lib (hid)
namespace Go.Proofs.YtahcehbgfhdbjaaGreatDoor
section
open Go.RowKit
open NM (Ms)
open VM (Ent)
def NM.shrt (m:Ms):Bool:=decide (m.cg.length<=30/\m.st.length<=60/\m.hv.length<=60/\m.cf.length<=30/\m.ct.length<=30/\m.bf.length<=30/\m.bt.length<=30/\m.ef.length<=30/\m.et.length<=30)
end
section
open Go.RowKit
open NM (Ms)
open VM (Ent)
theorem load_yields {P:Program} {a:Act} {d:Option Tmp} {ty':TypeId} {pos:String} {after:Array Edge} {gd:Option (Nat×Bool)} (ty:TypeId) (x:Operand) (g:Nat) (hx:a.eval x = .pointer (some ⟨g,0,none⟩)) (t:TypeId) (cs:Array Value) (fr:Nat×Nat) (dd:TypeDesc)
  (hu:P.underlying ty=some dd) (hd:(match dd with | .struct _ | .array _ _=>true | _=>false)=true) (hi:(P.info? ty).map (·.size)=some cs.size) {w:World} (hg:w.heap[g]? = some (.cells cs t fr)) :
  (execOp a.eval ⟨d,.load ty x,ty',pos,after,gd⟩).run P w = .ok (.value (.agg cs)) w:=by
 unfold execOp;simp only [hx,Instr.loadAt,Instr.sureAddr,Sem.run_bind,Sem.run_pure,Result.andThen_ok,run_loadVar_row w g t ty cs fr dd hg hu hd hi]
theorem dec_cells {F:FuncId} {v:Value} {w:World} {U E:Int} {M:Ms} (h:Calls Tryz.prog F #[v] w fun e w'=>∃ x m',e = .returned (.tuple #[mv m' x,.int .i64 U,.int .i64 E])/\RdMs w' x m'/\m'=M/\Below w.heap.size w w') :
  Calls Tryz.prog F #[v] w fun e w'=>∃ (D:Array Value) (x:Mv),e = .returned (.tuple #[.agg D,.int .i64 U,.int .i64 E])/\D=mcell M x/\RdMs w' x M/\Below w.heap.size w w':=by
 refine h.mono ?_;rintro e w' ⟨x,m',rfl,hr,rfl,hb⟩;exact ⟨_,x,rfl,rfl,hr,hb⟩
end
section
open Go.RowKit
open JM (St)
open NM (Ms)
open VM (Ent)
open WM (enc dec Bytes)
namespace NM
theorem stp_used {α:Type} {P:Par α} (d:α) (hP:Used P) {xs:List Int} (hb:Bytes xs) {s:St} (hu:s.1<=xs.length):(stp P d xs s).2.1<=xs.length:=by
 unfold stp;split
 ·exact hu
 ·have:=hP (xs.drop s.1) (drop_bytes hb s.1);rw [List.length_drop] at this;show s.1+(P (xs.drop s.1)).2.1<=_
  omega
theorem ups_used {xs:List Int} (hb:Bytes xs) (n:Nat):∀ (U:List SM.Fp) (s:St),s.1<=xs.length->(ups xs n U s).2.1<=xs.length:=by
 induction n with
 | zero=>intro U s h;exact h
 | succ n ih=>intro U s h;exact ih _ _ (stpU_used hb h)
theorem vecs_used {xs:List Int} (hb:Bytes xs) (n:Nat):∀ (V:List Ent) (s:St),s.1<=xs.length->(vecs xs n V s).2.1<=xs.length:=by
 induction n with
 | zero=>intro U s h;exact h
 | succ n ih=>intro U s h;exact ih _ _ (JM.step_small xs _ hb (JM.step_small xs _ hb h).2).2
theorem cnt_used {xs:List Int} (hb:Bytes xs) {s:St} (hu:s.1<=xs.length) (most:Int):(cnt most xs s).2.1<=xs.length:=by
 have h:=(JM.step_small xs s hb hu).2;unfold cnt;split
 ·exact h
 ·exact h
theorem rdF_used {xs:List Int} (hb:Bytes xs) {s:St} (hu:s.1<=xs.length) (m:Ms) {f:Int} (hf:0<=f/\f<=10):(rdF xs m f s).2.1<=xs.length:=by
 have hC:=stp_used cx0 (P:=CM.decC) (fun _ hb=>decC_used hb) hb hu;have hB:=stp_used false used_bl hb hu;have h1:=(JM.step_small xs s hb hu).2;rcases fld_cases hf with e | e | e | e | e | e | e | e | e | e | e <;> subst e
 ·rw [rdF_0];exact (JM.step_small xs _ hb h1).2
 ·rw [rdF_1];exact h1
 ·rw [rdF_2];exact h1
 ·rw [rdF_3];exact hC
 ·rw [rdF_4];by_cases hh:m.hb=true
  ·rw [if_pos hh];exact hC
  ·rw [if_neg hh];exact hu
 ·rw [rdF_5];exact hB
 ·rw [rdF_6];exact hC
 ·rw [rdF_7];exact stp_used [] (P:=CM.decL) (fun _ hb=>CM.decL_used hb) hb hu
 ·rw [rdF_8];exact ups_used hb _ _ _ (cnt_used hb hu 48)
 ·rw [rdF_9];exact vecs_used hb _ _ _ (cnt_used hb hu 100)
 ·rw [rdF_10];exact hB
theorem rdF_k (xs:List Int) (m:Ms) (f:Int) (s:St) (hf:0<=f/\f<=10):(rdF xs m f s).1.k=m.k:=by
 rcases fld_cases hf with e | e | e | e | e | e | e | e | e | e | e <;> subst e
 ·rw [rdF_0]
 ·rw [rdF_1]
 ·rw [rdF_2]
 ·rw [rdF_3]
 ·rw [rdF_4];by_cases hh:m.hb=true
  ·rw [if_pos hh]
  ·rw [if_neg hh]
 ·rw [rdF_5]
 ·rw [rdF_6]
 ·rw [rdF_7]
 ·rw [rdF_8]
 ·rw [rdF_9]
 ·rw [rdF_10]
theorem ups_fit {xs:List Int} (hb:Bytes xs) (hl:xs.length<=maxLen) (n:Nat):∀ (U:List SM.Fp) (s:St),ST.FitN U->ST.FitN (ups xs n U s).1:=by
 induction n with
 | zero=>intro U s h;exact h
 | succ n ih=>
  intro U s h;refine ih _ _ (fun f hf=>?_);rcases List.mem_append.1 hf with h1 | h1
  ·exact h f h1
  ·rw [List.mem_singleton] at h1;subst h1;unfold stp;split
   ·intro e he;cases he
   ·exact decU_fit (drop_bytes hb s.1) (by rw [List.length_drop];omega)
theorem rdF_fit {xs:List Int} (hb:Bytes xs) (hl:xs.length<=maxLen) (m:Ms) (f:Int) (s:St) (hf:0<=f/\f<=10) (h:ST.FitN m.st):ST.FitN (rdF xs m f s).1.st:=by
 rcases fld_cases hf with e | e | e | e | e | e | e | e | e | e | e <;> subst e
 ·rw [rdF_0];exact h
 ·rw [rdF_1];exact h
 ·rw [rdF_2];exact h
 ·rw [rdF_3];exact h
 ·rw [rdF_4];by_cases hh:m.hb=true
  ·rw [if_pos hh];exact h
  ·rw [if_neg hh];exact h
 ·rw [rdF_5];exact h
 ·rw [rdF_6];exact h
 ·rw [rdF_7];exact h
 ·rw [rdF_8];exact ups_fit hb hl _ [] _ (fun _ hf=>by cases hf)
 ·rw [rdF_9];exact h
 ·rw [rdF_10];exact h
end NM
theorem pDecodeM (v:Value) (xs:List Int) (w:World) (hT:Tb w) (hv:Rd w v xs) :
  Calls Tryz.prog 13 #[v] w fun e w'=>∃ x m',e = .returned (.tuple #[mv m' x,.int .i64 ((NM.decM xs).2.1:Int),.int .i64 (NM.decM xs).1])/\RdMs w' x m'/\m'=(NM.decM xs).2.2/\Below w.heap.size w w':=by
 have hby:=hv.bytes;have hlM:=hv.lenM;have hxl:=rd_len64 hv;have hb0:=below_fresh w (.cells zC 33);have hZ0:=MB.fresh w (NM.z 0 0 0) ({}:Mv);obtain ⟨w0,hw0⟩:∃ z,w.alloc (.cells zC 33)=z:=⟨_,rfl⟩
 rw [show w.alloc (.cells (mcell (NM.z 0 0 0) ({}:Mv)) 33)=w0 from hw0] at hZ0;have hs0:=World.size_alloc w (.cells zC 33);rw [hw0] at hb0 hs0;obtain ⟨va,vc,rfl,_⟩:=hv.shape;have hb1:=below_fresh w0 (.cells #[.slice va xs.length vc,.int .i64 0,.int .i64 0] 66);have hr1:=heap_alloc_new w0 (.cells #[.slice va xs.length vc,.int .i64 0,.int .i64 0] 66);have hs1:=World.size_alloc w0 (.cells #[.slice va xs.length vc,.int .i64 0,.int .i64 0] 66);obtain ⟨w1,hw1⟩:∃ z,w0.alloc (.cells #[.slice va xs.length vc,.int .i64 0,.int .i64 0] 66)=z:=⟨_,rfl⟩
 rw [hw1] at hb1 hr1 hs1;obtain ⟨g,hg⟩:∃ g,g=w.heap.size+1:=⟨_,rfl⟩
 rw [hs0,<- hg] at hr1;have hrb:RdrB w1 g (.slice va xs.length vc) (0,0):=hr1;have hbw:=bnext hb0 hb1;have HN0:=hid (rdNumber g _ xs (0,0) w1 hrb (hv.below hbw) (Nat.zero_le _));have hks:=JM.step_small xs (0,0) hby (Nat.zero_le _);have hdec:=NM.decM_run xs;obtain ⟨R,hR⟩:∃ R,R=NM.decM xs:=⟨_,rfl⟩
 rw [<- hR] at hdec ⊢;clear hR;generalize JM.step xs (0,0)=d at HN0 hks hdec;obtain ⟨k,s1⟩:=d;dsimp only at HN0 hks hdec;unfold JM.small at hks;obtain ⟨⟨hk0,hk1⟩,hu1⟩:=hks;have HV:=hid hv;have HT:=hid hT;have HBY:=hid hby;have HLM:=hid hlM;have HXL:=hid hxl;have HW0:=hid hw0;have HW1:=hid hw1;have HG:=hid hg;have HZ1:=hid (hZ0.below hb1);have HBW:=hid hbw;have HU1:=hid hu1;have HDEC:=hid hdec;have HOR:=hid or2;have hgw1:g<w1.heap.size:=by omega
 have HGW1:=hid hgw1;clear hv hT hby hlM hxl hb0 hZ0 hw0 hs0 hb1 hr1 hs1 hw1 hg hrb hbw hu1 hdec hgw1;go_enter Tryz.func13,Tryz.ntmps13
 go_upto_region 2 with fail
 rw [HW0.out,HW1.out,<- HG.out];go_wp2_with fail
 refine HN0.out.mono ?_;rintro e w2 ⟨rfl,hr,ho⟩;have hgl:=HG.out;have hb3:=below_fresh w2 (.cells #[.int .i64 k,.int .i64 0,.int .i64 0,.int .i64 0,.int .i64 0,.int .i64 0,.int .i64 0,.slice none 0 0,.slice none 0 0,.slice none 0 0,.slice none 0 0,.bool false,.slice none 0 0,.slice none 0 0,.slice none 0 0,.slice none 0 0,.slice none 0 0,.bool false] 33);have hm3:=MB.fresh w2 (NM.z k 0 0) ({}:Mv);have hs3:=World.size_alloc w2 (.cells #[.int .i64 k,.int .i64 0,.int .i64 0,.int .i64 0,.int .i64 0,.int .i64 0,.int .i64 0,.slice none 0 0,.slice none 0 0,.slice none 0 0,.slice none 0 0,.bool false,.slice none 0 0,.slice none 0 0,.slice none 0 0,.slice none 0 0,.slice none 0 0,.bool false] 33);obtain ⟨w3,hw3⟩:∃ z,w2.alloc (.cells #[.int .i64 k,.int .i64 0,.int .i64 0,.int .i64 0,.int .i64 0,.int .i64 0,.int .i64 0,.slice none 0 0,.slice none 0 0,.slice none 0 0,.slice none 0 0,.bool false,.slice none 0 0,.slice none 0 0,.slice none 0 0,.slice none 0 0,.slice none 0 0,.bool false] 33)=z:=⟨_,rfl⟩
 rw [show w2.alloc (.cells (mcell (NM.z k 0 0) ({}:Mv)) 33)=w3 from hw3] at hm3;rw [hw3] at hb3 hs3;have hz2:=HZ1.out.only ho (show w.heap.size≠g by omega);have HZ3:=hid (hz2.below hb3);have HR3:=hid (show RdrB w3 g (.slice va xs.length vc) s1 from below_block hr hb3);have HB3:=hid (bnext (seen HBW.out (show w.heap.size<=g by omega) ho) hb3);have hsz:=ho.size;have hg2:=HGW1.out;obtain ⟨b,hbb⟩:∃ b,b=w2.heap.size:=⟨_,rfl⟩
 rw [<- hbb] at hm3 hs3;have HM3:=hid hm3;have HIX:=hid (show w.heap.size<g/\g<b/\b<w3.heap.size by omega);have HW3:=hid hw3;have HBB:=hid hbb;clear HN0 hr ho hgl hb3 hm3 hs3 hw3 hz2 hsz hg2 hbb HZ1 HBW HGW1 HW0 HW1 HG;go_upto_region 3 with fail
 rw [HW3.out,<- HBB.out];clear HW3 HBB;have HF:=hid (cFields k w3 (show NM.I64 k from WalkArith.wf_i64 (by omega)));obtain ⟨x0,_⟩:=HM3.out.cells;go_wp2_with fail
 refine HF.out.mono ?_;rintro e w4 ⟨v4,rfl,hv4,hb4⟩;have HV4:=hid hv4;have HZ4:=hid (HZ3.out.below hb4);have HR4:=hid (show RdrB w4 g (.slice va xs.length vc) s1 from below_block HR3.out hb4);have HM4:=hid (HM3.out.below hb4);have HB4:=hid (bnext HB3.out hb4);have HS4:=hid hb4.size;obtain ⟨ua,uc,rfl,_,_⟩:=hv4.rd.shape;clear x0 hb4 hv4 HF HZ3 HR3 HM3 HB3;by_cases hkn:NM.kn k=true
 case neg=>
  have hknf:NM.kn k=false:=by simpa using hkn
  rw [hknf];obtain ⟨u1,e1⟩:=s1;have HR:=hid (show R=((if e1≠0 then e1 else 10),0,(NM.z 0 0 0)) by
   rw [HDEC.out];unfold NM.restM NM.finM;rw [if_pos hknf];dsimp only;by_cases he:e1=0
   ·rw [if_neg (show ¬ e1≠0 by simp [he]),if_neg (show ¬ e1≠0 by simp [he])];rfl
   ·rw [if_pos he,if_pos he];dsimp only;rw [if_pos he])
  obtain ⟨c0,c1,c2,f0,f1,f2⟩:=HR4.out.cells;have hz5:=HZ4.out.below (below_fresh w4 (.cells #[.int .i64 e1,.int .i64 10] 36));have HB5:=hid (bnext HB4.out (below_fresh w4 (.cells #[.int .i64 e1,.int .i64 10] 36)));have HZ5:=hid hz5;clear hkn hknf HDEC HV4 HM4 c0 c1 f0 f1 f2 HZ4 HR4 hz5;go_wp2_with (first
   | (go_at_call 36;refine (HOR.out _ _ _).mono ?_;rintro e w5 ⟨rfl,rfl⟩)
   | (refine wpList_store_row rfl 33 _ _ rfl w.heap.size zC rfl rfl 33 _ HZ5.out (by kernel_rfl) rfl zone ?_))
  refine msgRet3 (m:=(NM.z 0 0 0)) (x:=({}:Mv)) rfl rfl rfl rfl (HZ5.out.put (NM.z 0 0 0) ({}:Mv)) rfl ⟨({}:Mv),(NM.z 0 0 0),?_,rdMs_nil _ _ ⟨rfl,rfl,rfl,rfl,rfl,rfl,rfl,rfl,rfl⟩,?_,?_⟩
  ·rw [HR.out];by_cases he:e1=0
   ·rw [if_neg (show ¬ e1≠0 by simp [he])];subst he;rfl
   ·rw [if_pos he];unfold orL;rw [if_neg he];rfl
  ·rw [HR.out]
  ·exact seen HB5.out (Nat.le_refl _) (onlyRow _ _ _)
 rw [hkn];have hkr:=of_decide_eq_true hkn;have hdc:=HDEC.out;unfold NM.restM at hdc;rw [if_neg (show ¬ NM.kn k=false by rw [hkn];decide)] at hdc;have HRN:Hid (∀ (s:St) (w':World),RdrB w' g (.slice va xs.length vc) s->s.1<=xs.length->Below w.heap.size w w'->Calls Tryz.prog 35 #[.pointer (some ⟨g,0,none⟩)] w' fun e w''=>e = .returned (.int .i64 (JM.step xs s).1)/\RdrB w'' g (.slice va xs.length vc) (JM.step xs s).2/\Only g w' w''):=
  fun s w' hr hu' q=>rdNumber g _ xs s w' hr (HV.out.below q) hu'
 have hu2:=(JM.step_small xs s1 HBY.out HU1.out).2;have hu3:=(JM.step_small xs _ HBY.out hu2).2;have hN1:=HRN.out s1 w4 HR4.out HU1.out HB4.out;have hN2:=fun w'=>HRN.out (JM.step xs s1).2 w'
 generalize JM.step xs s1=d at hN1 hN2 hu2 hu3 hdc;obtain ⟨fr,s2⟩:=d;dsimp only at hN1 hN2 hu2 hu3 hdc;generalize JM.step xs s2=d at hN2 hu3 hdc;obtain ⟨tx,s3⟩:=d;dsimp only at hN2 hu3 hdc;have HN1:=hid hN1;have HN2:=hid hN2;have HU2:=hid hu2;have HU3:=hid hu3;have HD:=hid hdc;have HKR:=hid hkr;clear hN1 hN2 hu2 hu3 hdc HDEC HRN HU1 hkn;go_wp2_with fail
 refine HN1.out.mono ?_;rintro e w5 ⟨rfl,hr5,ho5⟩;have hix:=HIX.out;have HO5:=hid ho5;have HC6:=hid (HN2.out w5 hr5 HU2.out (seen HB4.out (Nat.le_of_lt hix.1) ho5));clear hr5 ho5 HN1 HN2 hix;go_wp2_with fail
 refine HC6.out.mono ?_;rintro e w6 ⟨rfl,hr6,ho6⟩;have hix:=HIX.out;have hon:=HO5.out.trans ho6;have hm6:=HM4.out.only hon (show b≠g by omega);have hon2:=onlyTwo (w:=w6) (g:=b) (i:=1) (j:=2) (.int .i64 fr) (.int .i64 tx);have htw:=Two.of hon hon2;obtain ⟨w7,hw7⟩:∃ z,(w6.setCell ⟨b,1,none⟩ (.int .i64 fr)).setCell ⟨b,2,none⟩ (.int .i64 tx)=z:=⟨_,rfl⟩
 have hm7:=hm6.setFrTo fr tx;rw [hw7] at hon2 htw hm7;have HM7:=hid (show MB w7 b (NM.z k fr tx) ({}:Mv) from hm7);have HR7:=hid (hr6.only hon2 (show g≠b by omega));have HZ7:=hid (show MB w7 w.heap.size (NM.z 0 0 0) ({}:Mv) from htw.at HZ4.out (by omega) (by omega));have HV7:=hid (OwnG.two HV4.out htw (by omega) (by omega));have HB7:=hid (HB4.out.trans (htw.below (by omega) (by omega) HB4.out.size));have HS7:=hid (Nat.le_trans HS4.out htw.size);have HW7:=hid hw7;obtain ⟨x0,x1,x2,_⟩:=hm6.cells;have f1:=hm6.free 1;have f2:=hm6.free 2;clear hr6 ho6 hon hm6 hon2 htw hw7 hm7 hix HO5 HC6 HM4 HR4 HZ4 HV4 HB4 HS4 HU2 x0;go_upto_region 7 with fail
 rw [HW7.out];clear x1 x2 f1 f2 HW7;have hul:=usd_len k;have HUR:=hid (fun (f:Int) (hf:f∈NM.usd k)=>usd_range hf);have HRD:Hid (∀ (m:Ms) (x:Mv) (s:St) (f:Int) (w':World),RdrB w' g (.slice va xs.length vc) s->MB w' b m x->OwnMs w3.heap.size w' x m->Below w.heap.size w w'->w3.heap.size<=w'.heap.size->s.1<=xs.length->0<=f/\f<=10 ->
   Calls Tryz.prog 37 #[.pointer (some ⟨g,0,none⟩),.pointer (some ⟨b,0,none⟩),.int .i64 f] w' fun e w''=>∃ x',e = .returned (.tuple #[])/\MB w'' b (NM.rdF xs m f s).1 x'/\OwnMs w3.heap.size w'' x' (NM.rdF xs m f s).1/\RdrB w'' g (.slice va xs.length vc) (NM.rdF xs m f s).2/\Two g b w' w''):=
  fun m x s f w' hr hm ho hB hs hu hf=>cRead w g b w3.heap.size _ xs s m x f w' HT.out hr hm ho HV.out hB (by have:=HIX.out;omega) (by have:=HIX.out;omega) (by have:=HIX.out;omega) (by have:=HIX.out;omega) hs hu hf
 generalize NM.usd k=us at HV7 HD hul HUR ⊢;have hul2:(us.length:Int)<=7:=by omega
 go_wp2
 go_loopw [35] (fun i wr=>∃ (j:Nat) (m:Ms) (x:Mv) (s:St),j<=us.length/\i = .int .i64 j/\Hid (MB wr b m x)/\Hid (OwnMs w3.heap.size wr x m)/\Hid (RdrB wr g (.slice va xs.length vc) s)/\Hid (s.1<=xs.length)/\Hid (OwnG encI 55 1 w3.heap.size wr (.slice ua us.length uc) us)/\Hid (MB wr w.heap.size (NM.z 0 0 0) ({}:Mv))/\Hid (Below w.heap.size w wr)/\Hid (w3.heap.size<=wr.heap.size)/\Hid (R=NM.finM (NM.rds xs (us.drop j) m s))/\Hid (m.k=k)/\Hid (ST.FitN m.st)) (fun i _=>us.length - (intOf i).toNat)
 case atStart=>exact ⟨0,_,_,s3,Nat.zero_le _,rfl,HM7,hid (OwnMs.nil ⟨rfl,rfl,rfl,rfl,rfl,rfl,rfl,rfl,rfl⟩),HR7,HU3,HV7,HZ7,HB7,HS7,HD,hid rfl,hid (fun _ hf=>by cases hf)⟩
 case round=>
  obtain ⟨j,m,x,s,hj,rfl,hm,hom,hrd,hus,hown,hz,hbl,hsz,he,hk,hfit⟩:=hrel;clear HM7 HR7 HU3 HV7 HZ7 HB7 HS7 HD;by_cases hlt:j<us.length
  ·have hq:(j:Int)<(us.length:Int):=by omega
   have hk2:=List.getElem?_eq_getElem hlt;have hd:=drop_get hlt;have hfr:=HUR.out _ (List.mem_of_getElem? hk2);generalize us[j]=f at hk2 hd hfr;have E1:=hid (show R=NM.finM (NM.rds xs (us.drop (j+1)) (NM.rdF xs m f s).1 (NM.rdF xs m f s).2) by rw [he.out,hd];rfl);obtain ⟨bb,oo,hi,hbwr,c0⟩:=atF hown.out.rd j f hk2;have HQ:=hid (HRD.out m x s f wr hrd.out hm.out hom.out hbl.out hsz.out hus.out hfr);have HUS:=hid (NM.rdF_used HBY.out hus.out m hfr);have HKK:=hid ((NM.rdF_k xs m f s hfr).trans hk.out);have HFF:=hid (NM.rdF_fit HBY.out HLM.out m f s hfr hfit.out);generalize NM.rdF xs m f s=d at HQ HUS HKK HFF E1;obtain ⟨m2,s2⟩:=d;dsimp only at HQ HUS HKK HFF E1;clear he hk2 hd hfr hm hom hrd hus hk hfit;go_wp2_with fail
   refine HQ.out.mono ?_;rintro e w8 ⟨x2,rfl,hm8,ho8,hr8,ht8⟩;have hix:=HIX.out;have HM8:=hid hm8;have HO8:=hid ho8;have HR8:=hid hr8;have HV8:=hid (OwnG.two hown.out ht8 (by omega) (by omega));have HZ8:=hid (show MB w8 w.heap.size (NM.z 0 0 0) ({}:Mv) from ht8.at hz.out (by omega) (by omega));have HB8:=hid (hbl.out.trans (ht8.below (by omega) (by omega) hbl.out.size));have HS8:=hid (Nat.le_trans hsz.out ht8.size);clear hm8 ho8 hr8 ht8 hix HQ hown hz hbl hsz c0 hi hbwr;go_wp2
   go_roundw
   case rel=>exact ⟨j+1,m2,x2,s2,by omega,by go_num,HM8,HO8,HR8,HUS,HV8,HZ8,HB8,HS8,E1,HKK,HFF⟩
   case measure=>simp [intOf];omega
  have hq:¬ ((j:Int)<(us.length:Int)):=by omega
  obtain rfl:j=us.length:=by omega
  have HFN:=hid (show R=NM.finM (m,s) by rw [he.out,List.drop_length];rfl);obtain ⟨u,er⟩:=s;clear he hown HUR HRD hj hlt;have hrm:=hom.out.rd;obtain ⟨C,hC⟩:∃ C,C=mcell m x:=⟨_,rfl⟩
  have hsc:C.size=18:=by rw [hC];rfl
  have hXC:wr.heap[b]? = some (.cells C 33 (0,0)):=by rw [hC];exact hm.out
  have HVA:=hid (fun w' (q:Below wr.heap.size wr w')=>(show Calls Tryz.prog 9 #[.agg C] w' fun e w''=>e = .returned (.int .i64 (NM.errM m))/\Below w'.heap.size w' w'' by
   rw [hC];exact pValidateM x m w' (HT.out.below (bnext hbl.out q)) (hrm.below q) hfit.out (by rw [hk.out];exact WalkArith.wf_i64 (by have:=HKR.out;omega))))
  generalize hEM:NM.errM m=E at HVA;have HEM:=hid hEM;have HXC:=hid hXC;have HRM:=hid hrm;have HCC:=hid hC;obtain ⟨c0,c1,c2,f0,f1,f2⟩:=hrd.out.cells;simp only at c1 c2;clear hrm hC hEM hXC c0 c1 f0 f1 f2 hk hfit;go_wp2
  clear hq;refine wp_region_held_drew (S:=fun w'=>Below wr.heap.size wr w') (by kernel_rfl) ((Below.refl _ _).drew) (fun ha=>?_);replace ha:Below wr.heap.size wr wr.drew:=(Below.refl _ _).drew;generalize wr.drew=wa at ha ⊢;refine takeJ 0 ?_;refine takeG 1 (v:=?_) ?_ ?_;rotate_left
  ·(intro w hSw;(try dsimp only at hSw);have hcx:=below_cell hSw c2;go_simp;first | done | with_reducible rfl)
  (try simp only [Act.put,lTA,lZ,lS]);refine takeG 2 (v:=?_) ?_ ?_;rotate_left
  ·(intro w' hSw;refine load_yields 33 _ b ?_ 33 C (0,0) _ Tryz.underlying33 rfl (by rw [hsc];kernel_rfl) (below_block HXC.out hSw);rfl)
  (try simp only [Act.put,lTA,lZ,lS]);refine wpAnyH_ready (rs:=[3]) (by kernel_rfl) (by simp) ?_;refine stepH rfl (fun K hK=>?_) AllReadyH.nil;go_simp
  refine (HVA.out wa ha).mono ?_;rintro e wb ⟨rfl,hq⟩;have hb:=bnext ha hq;go_wp2_with fail
  refine hK.out _ _ (hb) (fun _=>?_);clear hK K;(try simp only [Act.put,lTA,lZ,lS]);refine wpAnyH_ready (rs:=[4]) (by kernel_rfl) (by simp) ?_;refine stepH rfl (fun K hK=>?_) AllReadyH.nil;go_simp
  have hc:=bnext hb (below_fresh _ (.cells #[.int .i64 er,.int .i64 E] 36));have hrde:=rd2e wb er E;refine hK.out _ _ (hc) (fun _=>?_);clear hK K;(try simp only [Act.put,lTA,lZ,lS]);obtain ⟨wc ,hwc ⟩:∃ wc ,(wb).alloc (.cells #[.int .i64 er,.int .i64 E] 36)=wc :=⟨_,rfl⟩
  rw [hwc ] at hc hrde ⊢;clear hwc;refine wpAnyH_ready (rs:=[5]) (by kernel_rfl) (by simp) ?_;refine stepH rfl (fun K hK=>?_) AllReadyH.nil;go_simp
  refine (cOrE _ _ wc hrde).mono ?_;rintro e w9 ⟨rfl,rfl⟩;go_wp2_with fail
  refine hK.out _ _ (hc) (fun _=>?_);clear hK K;(try simp only [Act.put,lTA,lZ,lS]);refine takeJ 6 ?_;refine wpAnyH_done (by kernel_rfl) ?_ _;have HZC:=hid (hz.out.below hc);have HRC:=hid (show RdrB wc g (.slice va xs.length vc) (u,er) from below_block hrd.out hc);have HXD:=hid (below_block HXC.out hc);have HRMC:=hid (hom.out.below hc);have HBC:=hid (bnext hbl.out hc);obtain ⟨EE,hEE⟩:∃ z,z=orL [er,E]:=⟨_,rfl⟩
  have HEE:=hid hEE;rw [<- hEE];clear hEE hrde ha hb hc hq c2 HVA HXC HRM hz hrd hbl;by_cases h0:EE=0
  case neg=>
   have hne:(EE != 0)=true:=bne_t h0;have HRF:=hid (show R=(EE,0,(NM.z 0 0 0)) by
    rw [HFN.out];have h1:=HEE.out;unfold NM.finM;dsimp only;rw [HEM.out];by_cases he:er=0
    ·have h2:EE=E:=by rw [h1];unfold orL;rw [if_pos he];unfold orL;by_cases hE:E=0 <;> simp [hE,orL]
     rw [if_neg (show ¬ er≠0 from fun k=>k he),h2,if_pos (by rw [<- h2];exact h0)]
    ·have h2:EE=er:=by rw [h1];unfold orL;rw [if_neg he]
     rw [if_pos he,h2])
   clear h0 HFN HEM HEE;go_wp2_with (refine wpList_store_row rfl 33 _ _ rfl w.heap.size zC rfl rfl 33 _ HZC.out (by kernel_rfl) rfl zone ?_)
   refine msgRet3 (m:=(NM.z 0 0 0)) (x:=({}:Mv)) rfl rfl rfl rfl (HZC.out.put (NM.z 0 0 0) ({}:Mv)) rfl ⟨({}:Mv),(NM.z 0 0 0),?_,rdMs_nil _ _ ⟨rfl,rfl,rfl,rfl,rfl,rfl,rfl,rfl,rfl⟩,?_,?_⟩
   ·rw [HRF.out];rfl
   ·rw [HRF.out]
   ·exact seen HBC.out (Nat.le_refl _) (onlyRow _ _ _)
  subst h0;have HRF:=hid (show R=(0,u,m) by
   rw [HFN.out];have h1:=HEE.out;unfold NM.finM;dsimp only;rw [HEM.out];by_cases he:er=0
   ·have h2:E=0:=by
     unfold orL at h1;rw [if_pos he] at h1;unfold orL at h1;by_cases hE:E=0
     ·exact hE
     ·rw [if_neg hE] at h1;exact h1.symm
    rw [if_neg (show ¬ er≠0 from fun k=>k he),if_neg (show ¬ E≠0 from fun k=>k h2)]
   ·exfalso;unfold orL at h1;rw [if_neg he] at h1;exact he h1.symm)
  have hix:=HIX.out;clear HFN HEM HEE;go_wp2
  refine wp_region_held_drew (S:=fun w'=>w'.heap[b]? = some (.cells C 33 (0,0))/\RdrB w' g (.slice va xs.length vc) (u,er)) (by kernel_rfl) ⟨HXD.out,HRC.out⟩ (fun ha=>?_);have HBD:=hid (show Below w.heap.size w wc.drew from HBC.out.trans (below_drewN _ _ 1));have HZD:=hid (show MB wc.drew w.heap.size (NM.z 0 0 0) ({}:Mv) from HZC.out);have HRD:=hid (show OwnMs w3.heap.size wc.drew x m from HRMC.out.below (below_drewN _ _ 1));clear HBC HZC HRMC;generalize wc.drew=wd at ha HBD HZD HRD ⊢;refine takeG 0 (v:=?_) ?_ ?_;rotate_left
  ·(intro w' hSw;refine load_yields 33 _ b ?_ 33 C (0,0) _ Tryz.underlying33 rfl (by rw [hsc];kernel_rfl) hSw.1;rfl)
  (try simp only [Act.put,lTA,lZ,lS]);refine takeJ 1 ?_;refine takeG 2 (v:=?_) ?_ ?_;rotate_left
  ·(intro w' hSw;obtain ⟨_,q1,_⟩:=hSw.2.cells;simp only at q1;go_simp;first | done | with_reducible rfl)
  (try simp only [Act.put,lTA,lZ,lS]);have hor:=onlyRow wd w.heap.size C;have hzp:wd.heap[w.heap.size]? = some (.cells zC 33 (0,0)):=HZD.out;have hpr:(wd.setRow w.heap.size C).heap[w.heap.size]? = some (.cells C 33 (0,0)):=setRow_heap _ _ _ _ _ _ hzp;obtain ⟨we,hwe⟩:∃ z,wd.setRow w.heap.size C=z:=⟨_,rfl⟩
  rw [hwe] at hor hpr;have hone:C.all (·.oneCell')=true:=by rw [HCC.out];exact arr_one HRD.out.rd
  refine wpAnyH_ready (rs:=[3]) (by kernel_rfl) (by simp) ?_;refine stepH rfl (fun K hK=>?_) AllReadyH.nil;rw [if_pos (by rfl)];refine wp_store_row 33 _ _ rfl w.heap.size C rfl rfl 33 _ hzp (by rw [hsc];kernel_rfl) (by rw [hsc];rfl) hone ?_;rw [hwe];refine hK.out _ _ ⟨hor.at ha.1 (by omega),hor.at ha.2 (by omega)⟩ (fun _=>?_);clear hK K;refine takeJ 4 ?_;refine takeJ 5 ?_;refine wpAnyH_done (by kernel_rfl) ?_ _;have HPR:=hid (show MB we w.heap.size m x by unfold MB;rw [<- HCC.out];exact hpr);have HBE:=hid (seen HBD.out (Nat.le_refl _) hor);have HRE:=hid ((HRD.out.only hor (show w.heap.size<w3.heap.size by omega)).rd);go_wp2
  refine msgRet3 (m:=m) (x:=x) rfl rfl rfl rfl HPR.out rfl ⟨x,m,?_,HRE.out,?_,HBE.out⟩
  ·rw [HRF.out]
  ·rw [HRF.out]
end
end Go.Proofs.YtahcehbgfhdbjaaGreatDoor
namespace Go.Proofs.YtahcehbgfhdbjaaGreatDoor.ST
open Go.RowKit
open UM (Ef)
open SM (Fp)
open WM (enc dec Bytes)
theorem cEncUpd (u:Value) (fs:List Fp) (w:World) (hu:RdF w u fs) (hall:∀ f∈fs,SM.errF f=0) (h9:fs.length<=48) (hfit:SM.Fit fs) :
  Calls Tryz.prog 107 #[u] w fun e w'=>∃ v',e = .returned v'/\Own w.heap.size w' v' (SM.encL fs)/\Below w.heap.size w w':=by
 obtain ⟨ad,cp,rfl,hcp,_⟩:=hu.shape;have hb0:=below_fresh w (.cells #[.int .i64 (fs.length:Int)] 3);have hri:RdI (w.alloc (.cells #[.int .i64 (fs.length:Int)] 3)) (.slice (some ⟨w.heap.size,0,none⟩) 1 1) [(fs.length:Int)]:=(ownG_fresh hlI 3 w [(fs.length:Int)] (by unfold maxLen;simp)).rd;obtain ⟨w0,hw0⟩:∃ z,w.alloc (.cells #[.int .i64 (fs.length:Int)] 3)=z:=⟨_,rfl⟩
 rw [hw0] at hb0 hri;have HW:=hid hw0;have HB0:=hid hb0;have hA:=cAppendNumbers (.slice none 0 0) _ [] [(fs.length:Int)] w0 (Rd.nil _) hri (by intro x hx;simp only [List.mem_cons,List.mem_nil_iff,or_false] at hx;subst hx;unfold JM.small;omega) (by simp) (by simp);rw [show ([]:List Int)++JM.encN [(fs.length:Int)]=enc fs.length by simp [JM.encN]] at hA;have HA:=hid hA;have HU:=hid hu;have HOK:=hid hall;have hel:=WM.enc_len10 fs.length (by omega);have hfl:=fun k=>SM.flat_len (fs:=fs.take k) (fun f hf=>hall f (List.mem_of_mem_take hf)) (fun f hf=>hfit f (List.mem_of_mem_take hf))
 have HFL:=hid (show ∀ k,(enc fs.length++SM.flat (fs.take k)).length<=1100000 from fun k=>by
  have h1:=hfl k;rw [List.length_take] at h1;rw [List.length_append];omega)
 have HFT:=hid hfit;clear hu hall hel hfl hfit hw0 hb0 hri hA;go_enter Tryz.func107,Tryz.ntmps107
 go_wp2_with fail
 rw [HW.out];refine HA.out.mono ?_;rintro e w1 ⟨v1,rfl,ho1,hb1⟩;have HO1:=hid (ho1.mono HB0.out.size);have HB1:=hid (bnext HB0.out hb1);clear ho1 hb1 HA HB0 HW;go_wp2
 go_loopw [3,12] (fun u i wr=>∃ k:Nat,k<=fs.length/\i = .int .i64 k/\Hid (Own w.heap.size wr u (enc fs.length++SM.flat (fs.take k)))/\Hid (Below w.heap.size w wr)) (fun _ i _=>fs.length - (intOf i).toNat)
 case atStart=>exact ⟨0,Nat.zero_le _,rfl,(by show Own _ _ _ _;rw [List.take_zero];simpa [SM.flat] using HO1.out),HB1.out⟩
 case round=>
  obtain ⟨k,hk,rfl,ho,hbl⟩:=hrel;clear HO1 HB1;by_cases hlt:k<fs.length
  ·have hq:(k:Int)<(fs.length:Int):=by omega
   have hk2:=List.getElem?_eq_getElem hlt;generalize fs[k]=f at hk2;have hsn:enc fs.length++SM.flat (fs.take (k+1))=(enc fs.length++SM.flat (fs.take k))++SM.encF f:=by rw [take_snocF hk2,SM.flat_snoc];simp only [List.append_assoc]
   have hef:=HOK.out f (List.mem_of_getElem? hk2);have hl2:=SM.encF_len hef (HFT.out f (List.mem_of_getElem? hk2));have hf64:=HFT.out f (List.mem_of_getElem? hk2);have hl1:=HFL.out k;obtain ⟨x,m,t,cs⟩:=f;obtain ⟨b,o,da,dl,dc,hi,hbw,c0,c1,c2,c3,hrd⟩:=(HU.out.below hbl.out).atS k x m t cs hk2;obtain ⟨wx,HX⟩:=eone wr x m t (.slice da dl dc);have hap:=cAppendU (.slice none 0 0) [] x m t (.slice da dl dc) cs wx (Rd.nil _) (hrd.below HX.below) hef hf64 (by simp);rw [List.nil_append] at hap;have HAP:=hid hap;have HWX:=hid HX.eq;have HOX:=hid (ho.out.below HX.below);have HBX:=hid (bnext hbl.out HX.below);have HPX:=hid HX.e;obtain ⟨B,hB⟩:∃ B,wr.heap.size=B:=⟨_,rfl⟩
   rw [hB] at HPX;have HBE:=hid hB;have HSN:=hid hsn;have HE:Hid (SM.encF (x,m,t,cs)=UM.encU x m t cs):=rfl;obtain ⟨p0,p1,p2,p3,_⟩:=HPX.out.cells;generalize (enc fs.length++SM.flat (fs.take k))=E at HOX HSN hl1;clear HX hap hsn hef hk2 hrd ho hbl hB hf64;go_upto_region 5 with fail
   rw [HWX.out,HBE.out];go_wp2_with fail
   refine HAP.out.mono ?_;rintro e w2 ⟨v2,rfl,ho2,hb2⟩;have hoe:=HOX.out.below hb2;have HB2:=hid (bnext HBX.out hb2);have hs2:=HB2.out.size;have hr2:=ho2;rw [<- HE.out] at hr2;have hl1':E.length<=35184372088832:=by omega
   have hl2':(SM.encF (x,m,t,cs)).length<=35184372088832:=by omega
   clear c0 c1 c2 c3 hi hbw p0 p1 p2 p3 HAP HWX HOX HBX HPX hb2 ho2 hl1 hl2;go_wp2_with (at_builtin;refine wp_appSK rfl _ _ rfl rfl hoe rfl hr2 hl1' hl2' hs2 ?_)
   intro v3 w3 ho3 hb3 hk3;have HO3:=hid (show Own w.heap.size w3 v3 (enc fs.length++SM.flat (fs.take (k+1))) by rw [HSN.out];exact ho3);have HB3:=hid (HB2.out.trans hb3);clear hoe hr2 ho3 hb3 hk3 HB2 hs2 HSN;go_wp2
   go_roundw
   case rel=>exact ⟨k+1,by omega,by go_num,HO3,HB3⟩
   case measure=>simp [intOf];omega
  ·have hq:¬ ((k:Int)<(fs.length:Int)):=by omega
   obtain rfl:k=fs.length:=by omega
   rw [List.take_length] at ho;go_wp2
   go_ret;exact ⟨_,rfl,ho.out,hbl.out⟩
end Go.Proofs.YtahcehbgfhdbjaaGreatDoor.ST
namespace Go.Proofs.YtahcehbgfhdbjaaGreatDoor
open Go.RowKit
open VM (Ent)
open WM (enc dec Bytes)
theorem cEncVec (u:Value) (v:List Ent) (w:World) (hu:VX.RdV w u v) (hh:NM.FitH v) :
  Calls Tryz.prog 108 #[u] w fun e w'=>∃ v',e = .returned v'/\Own w.heap.size w' v' (NM.encH v)/\Below w.heap.size w w':=by
 obtain ⟨ad,cp,rfl,hcp,_⟩:=hu.shape;obtain ⟨h9,hsm⟩:=hh;have hb0:=below_fresh w (.cells #[.int .i64 (v.length:Int)] 3);have hri:RdI (w.alloc (.cells #[.int .i64 (v.length:Int)] 3)) (.slice (some ⟨w.heap.size,0,none⟩) 1 1) [(v.length:Int)]:=(ownG_fresh hlI 3 w [(v.length:Int)] (by unfold maxLen;simp)).rd;obtain ⟨w0,hw0⟩:∃ z,w.alloc (.cells #[.int .i64 (v.length:Int)] 3)=z:=⟨_,rfl⟩
 rw [hw0] at hb0 hri;have HW:=hid hw0;have HB0:=hid hb0;have hA:=cAppendNumbers (.slice none 0 0) _ [] [(v.length:Int)] w0 (Rd.nil _) hri (by intro x hx;simp only [List.mem_cons,List.mem_nil_iff,or_false] at hx;subst hx;unfold JM.small;omega) (by simp) (by simp);rw [show ([]:List Int)++JM.encN [(v.length:Int)]=enc v.length by simp [JM.encN]] at hA;have HA:=hid hA;have HU:=hid hu;have HSM:=hid hsm;have hel:=WM.enc_len10 v.length (by omega);have HFL:=hid (show ∀ k,(enc v.length++JM.encN (NM.flatE (v.take k))).length<=1100000 from fun k=>by
  have h1:=JM.encN_len (NM.flatE (v.take k)) (fun x hx=>by
   obtain ⟨e,he,hxe⟩:=List.mem_flatMap.1 hx;have hs:=hsm e (List.mem_of_mem_take he);simp only [List.mem_cons,List.mem_nil_iff,or_false] at hxe;rcases hxe with rfl | rfl
   ·exact hs.1
   ·exact hs.2)
  rw [NM.flatE_len,List.length_take] at h1;rw [List.length_append];omega)
 clear hu hsm hel hw0 hb0 hri hA;go_enter Tryz.func108,Tryz.ntmps108
 go_wp2_with fail
 rw [HW.out];refine HA.out.mono ?_;rintro e w1 ⟨v1,rfl,ho1,hb1⟩;have HO1:=hid (ho1.mono HB0.out.size);have HB1:=hid (bnext HB0.out hb1);clear ho1 hb1 HA HB0 HW;go_wp2
 go_loopw [3,12] (fun u i wr=>∃ k:Nat,k<=v.length/\i = .int .i64 k/\Hid (Own w.heap.size wr u (enc v.length++JM.encN (NM.flatE (v.take k))))/\Hid (Below w.heap.size w wr)) (fun _ i _=>v.length - (intOf i).toNat)
 case atStart=>exact ⟨0,Nat.zero_le _,rfl,(by show Own _ _ _ _;rw [List.take_zero];simpa [NM.flatE,JM.encN] using HO1.out),HB1.out⟩
 case round=>
  obtain ⟨k,hk,rfl,ho,hbl⟩:=hrel;clear HO1 HB1;by_cases hlt:k<v.length
  ·have hq:(k:Int)<(v.length:Int):=by omega
   have hk2:=List.getElem?_eq_getElem hlt;have hsm:=HSM.out _ (List.mem_of_getElem? hk2);generalize v[k]=f at hk2 hsm;have hsn:enc v.length++JM.encN (NM.flatE (v.take (k+1)))=(enc v.length++JM.encN (NM.flatE (v.take k)))++JM.encN [f.1,f.2]:=by
    rw [List.take_add_one,hk2];simp [NM.flatE,JM.encN,List.flatMap_append]
   have hl2:(JM.encN [f.1,f.2]).length<=20:=JM.encN_len [f.1,f.2] (by intro x hx;simp only [List.mem_cons,List.mem_nil_iff,or_false] at hx;rcases hx with rfl | rfl;exact hsm.1;exact hsm.2);have hl1:=HFL.out k;obtain ⟨x,n⟩:=f;dsimp only at hsm hsn hl2;obtain ⟨b,o,hi,hbw,c0,c1⟩:=(HU.out.below hbl.out).at k _ hk2;simp only at c0 c1;have hbx:=below_fresh wr (.cells #[.int .i64 x,.int .i64 n] 110);have hox:=heap_alloc_new wr (.cells #[.int .i64 x,.int .i64 n] 110);obtain ⟨wx,hwx⟩:∃ z,wr.alloc (.cells #[.int .i64 x,.int .i64 n] 110)=z:=⟨_,rfl⟩
   rw [hwx] at hbx hox;obtain ⟨G,hG⟩:∃ G,G=wr.heap.size:=⟨_,rfl⟩
   rw [<- hG] at hox;have q0:wx.cell? ⟨G,0,none⟩=some (.int .i64 x):=by simp [World.cell?,hox]
   have q1:wx.cell? ⟨G,1,none⟩=some (.int .i64 n):=by simp [World.cell?,hox]
   have hby:=below_fresh wx (.cells #[.int .i64 x,.int .i64 n] 3);have hri:RdI (wx.alloc (.cells #[.int .i64 x,.int .i64 n] 3)) (.slice (some ⟨wx.heap.size,0,none⟩) 2 2) [x,n]:=(ownG_fresh hlI 3 wx [x,n] (by unfold maxLen;simp)).rd;obtain ⟨wy,hwy⟩:∃ z,wx.alloc (.cells #[.int .i64 x,.int .i64 n] 3)=z:=⟨_,rfl⟩
   rw [hwy] at hby hri;have hap:=cAppendNumbers (.slice none 0 0) _ [] [x,n] wy (Rd.nil _) hri (by intro y hy;simp only [List.mem_cons,List.mem_nil_iff,or_false] at hy;rcases hy with rfl | rfl;exact hsm.1;exact hsm.2) (by simp) (by simp);rw [List.nil_append] at hap;have HAP:=hid hap;have HWX:=hid hwx;have HWY:=hid hwy;have HGG:=hid hG;have HOX:=hid (ho.out.below (bnext hbx hby));have HBX:=hid (bnext hbl.out (bnext hbx hby));have HSN:=hid hsn;generalize JM.encN [x,n]=Z at HAP HSN hl2;generalize (enc v.length++JM.encN (NM.flatE (v.take k)))=E at HOX HSN hl1;clear hap hsn hk2 ho hbl hG hwx hwy hbx hby hox hri hsm;go_upto_region 5 with fail
   rw [HWX.out,<- HGG.out];clear c0 c1;go_wp2_with fail
   rw [HWY.out];refine HAP.out.mono ?_;rintro e w2 ⟨v2,rfl,ho2,hb2⟩;have hoe:=HOX.out.below hb2;have HB2:=hid (bnext HBX.out hb2);have hs2:=HB2.out.size;have hr2:=ho2.rd;have hl1':E.length<=35184372088832:=by omega
   have hl2':Z.length<=35184372088832:=by omega
   clear hi hbw q0 q1 HAP HWX HWY HGG HOX HBX hb2 ho2 hl1 hl2;go_wp2_with (at_builtin;refine wp_appSK rfl _ _ rfl rfl hoe rfl hr2 hl1' hl2' hs2 ?_)
   intro v3 w3 ho3 hb3 hk3;have HO3:=hid (show Own w.heap.size w3 v3 (enc v.length++JM.encN (NM.flatE (v.take (k+1)))) by rw [HSN.out];exact ho3);have HB3:=hid (HB2.out.trans hb3);clear hoe hr2 ho3 hb3 hk3 HB2 hs2 HSN;go_wp2
   go_roundw
   case rel=>exact ⟨k+1,by omega,by go_num,HO3,HB3⟩
   case measure=>simp [intOf];omega
  ·have hq:¬ ((k:Int)<(v.length:Int)):=by omega
   obtain rfl:k=v.length:=by omega
   rw [List.take_length] at ho;go_wp2
   go_ret;exact ⟨_,rfl,ho.out,hbl.out⟩
end Go.Proofs.YtahcehbgfhdbjaaGreatDoor

