/-
  NRr: joined texts, what nothing names left out.
-/
import Derived.Test.YtahcehbgfhdbjaaGreatDoorQUA16
set_option maxHeartbeats 8000000
set_option maxRecDepth 100000
open Go.Lib (hid)
namespace Go.Proofs.YtahcehbgfhdbjaaGreatDoor
open Go.RowKit
open NM (Ms)
open VM (Ent)
def encEn (e:Ent):List Value:=[.int .i64 e.1,.int .i64 e.2]
theorem hlEn:0<2 /\ ∀ x:Ent,(encEn x).length=2:=⟨by decide,fun _=>rfl⟩
theorem entHv:IsElem Tryz.prog 31 110 2 16 encEn where
 ht:=Tryz.underlying31
 info:=by
  obtain ⟨i0,hi,hz0,hz1,hz2⟩:=info_parts (show (Tryz.prog.info? 110).map (fun i=>(i.zero,i.size,i.bytes))=some (some (.agg #[.int .i64 0,.int .i64 0]),2,16) by kernel_rfl);exact ⟨i0,_,hi,hz0,hz1,hz2,rfl⟩
 len:=fun _=>rfl
 one:=by intro x u hu;simp [encEn] at hu;rcases hu with rfl | rfl <;> rfl
 pos:=by decide
 fits:=by decide
abbrev OwnHv:=OwnG encEn 110 2
theorem ents_cellsH (xs:List Ent):VX.ents xs=cellsOf encEn xs:=by
 induction xs with
 | nil=>rfl
 | cons x l ih=>unfold cellsOf at ih ⊢;rw [List.flatMap_cons,<- ih];rfl
theorem ownV_of {base:Nat} {w:World} {v:Value} {xs:List Ent} (h:OwnHv base w v xs):VX.OwnV base w v xs:=by
 unfold VX.OwnV;rw [ents_cellsH];exact h.1
theorem only_low {g:Nat} {w w1 w2:World} (h:Only g w w1) (hl:Below w.heap.size w1 w2):Only g w w2:=
 ⟨hl.os.trans h.os,hl.tape.trans h.tape,hl.output.trans h.output,Nat.le_trans h.size hl.size,fun k hk hne=>(hl.block k hk).trans (h.block k hk hne)⟩
theorem below_low {n:Nat} {w w1 w2:World} (h:Below w.heap.size w w1) (hl:Below n w1 w2) (hn:w.heap.size<=n):Below w.heap.size w w2:=
 ⟨hl.os.trans h.os,hl.tape.trans h.tape,hl.output.trans h.output,Nat.le_trans h.size hl.size,fun k hk=>(hl.block k (by omega)).trans (h.block k hk)⟩
theorem mb_low {n g:Nat} {w w':World} {m:Ms} {x:Mv} (h:MB w g m x) (hl:Below n w w') (hg:g<n):MB w' g m x:=by
 unfold MB at h ⊢;rw [hl.block g hg];exact h
namespace NM
theorem pairs_len:∀ (m:Nat) (l:List Int),l.length=2*m->(pairs l).length=m
 | 0,[],_=>rfl
 | m+1,a :: b :: r,h=>by
  show (pairs r).length+1=m+1
  rw [pairs_len m r (by simp at h;omega)]
 | 0,_ :: _,h=>by simp at h
 | m+1,[],h=>by simp at h
 | m+1,[_],h=>by simp at h;omega
theorem pairs_get:∀ (l:List Int) (j:Nat) (a b:Int),(pairs l)[j]? = some (a,b)->l[2*j]? = some a/\l[2*j+1]? = some b
 | [],_,_,_,h=>by simp [pairs] at h
 | [_],_,_,_,h=>by simp [pairs] at h
 | x :: y :: r,0,a,b,h=>by
  have h':some (x,y)=some (a,b):=h;cases h'
  exact ⟨rfl,rfl⟩
 | x :: y :: r,j+1,a,b,h=>by
  have h':(pairs r)[j]? = some (a,b):=h;have:=pairs_get r j a b h';rw [show 2*(j+1)=2*j+1+1 by omega];simpa using this
section
variable {xs l:List Int} {u0 u1 u2 m:Nat} {e:Int}
theorem num1_ok (hd:JM.num (xs.drop u0)=((m:Int),(u1:Int),0)):num1 (xs.drop u0)=(0,u1,(m:Int)):=by unfold num1;rw [hd];simp
theorem pH_e0 (hd:JM.num (xs.drop u0)=(0,0,e)) (he:e≠0):(pH (xs.drop u0)).1=e:=congrArg Prod.fst (seq_err (by unfold num1;rw [hd]) he)
theorem pH_e3 (hd:JM.num (xs.drop u0)=((m:Int),(u1:Int),0)) (h:(100:Int)<(m:Int)):(pH (xs.drop u0)).1=3:=
 congrArg Prod.fst (seq_fail (num1_ok hd) (by decide) (by rw [if_pos h];rfl))
theorem pH_e2 (hd:JM.num (xs.drop u0)=((m:Int),(u1:Int),0)) (h:¬ (100:Int)<(m:Int)) (hM:JM.many (xs.drop (u0+u1)) (0,0) (2*m)=(l,u2,e)) (he:e≠0):(pH (xs.drop u0)).1=e:=by
 rw [<- List.drop_drop] at hM;exact congrArg Prod.fst (seq_fail (num1_ok hd) he (by rw [if_neg h,Int.toNat_natCast];unfold pmap nums;rw [hM,if_pos he]))
theorem pH_ok (hd:JM.num (xs.drop u0)=((m:Int),(u1:Int),0)) (h:¬ (100:Int)<(m:Int)) (hM:JM.many (xs.drop (u0+u1)) (0,0) (2*m)=(l,u2,0)):pH (xs.drop u0)=(0,u1+u2,pairs l):=by
 rw [<- List.drop_drop] at hM;exact seq_good (num1_ok hd) (by rw [if_neg h,Int.toNat_natCast];unfold pmap;rw [nums_ok hM])
end
end NM
theorem rReadRo (k:Int) (n4:k≠4) (n5:k≠5) (fr tx:Int) (v:Value) (xs:List Int) (w:World) (hv0:Rd w v xs) :
  Calls Tryz.prog 41 #[mv ({k,fr,tx}:Ms) ({}:Mv),v] w fun e w'=>∃ (x':Mv) (m':Ms) (n':Int),e = .returned (.tuple #[mv m' x',.int .i64 n',.int .i64 (NM.pR k fr tx xs).1])/\((NM.pR k fr tx xs).1=0->n'=((NM.pR k fr tx xs).2.1:Int)/\OwnMs w.heap.size w' x' m'/\m'=(NM.pR k fr tx xs).2.2)/\SlX x'/\Below w.heap.size w w':=by
 obtain ⟨va,vc,rfl,_⟩:=hv0.shape;have hby:=hv0.bytes;have hxl:=rd_len64 hv0;obtain ⟨w0,hw0,hX,hZ,hb0⟩:=twoM w ({k,fr,tx}:Ms) ({}:Mv) ({}:Ms) ({}:Mv);have HX:=hid hX;have HZ:=hid hZ;have HB:=hid hb0;have HG:=hid (show w.heap.size+1<w0.heap.size from hZ.lt);have HW:=hid (show (w.alloc (.cells #[.int .i64 k,.int .i64 fr,.int .i64 tx,.int .i64 0,.int .i64 0,.int .i64 0,.int .i64 0,.slice none 0 0,.slice none 0 0,.slice none 0 0,.slice none 0 0,.bool false,.slice none 0 0,.slice none 0 0,.slice none 0 0,.slice none 0 0,.slice none 0 0,.bool false] 33)).alloc (.cells zC 33)=w0 from hw0);obtain ⟨R,hR⟩:∃ R,R=NM.pR k fr tx xs:=⟨_,rfl⟩
 rw [<- hR];have h0u:=decC_used hby;have hC0:=rDecodeCertO _ xs w0 (hv0.below hb0);generalize hD0:CM.decC xs=D0 at h0u hC0;obtain ⟨e0,u0,cf,ct⟩:=D0;dsimp only at h0u hC0;have HU:=hid (show u0<=xs.length/\xs.length<=9223372036854775807 from ⟨h0u,hxl⟩);have n4b:(k==4)=false:=by simp [n4]
 have n5b:(k==5)=false:=by simp [n5]
 have HN:=hid (And.intro n4 n5);clear n4 n5;have HR:=hid hR;have HD0:=hid hD0;have HC0:=hid hC0;have HV:=hid hv0;clear hv0 hby hxl hw0 hX hZ hb0 hR h0u hC0 hD0;dsimp only [mv,mcell];go_enter Tryz.func41,Tryz.ntmps41
 go_upto_region 1 with fail
 rw [HW.out];go_wp2_with fail
 refine HC0.out.mono ?_;rintro e w2 ⟨v1,v2,rfl,ho1,ho2,hb2⟩;obtain ⟨ca,cc,rfl,_⟩:=ho1.shape;obtain ⟨da,dc,rfl,_⟩:=ho2.shape;have hfr:=below_fresh w2 (.cells #[.slice ca cf.length cc,.slice da ct.length dc] 27);have hY:=XB.fresh w2 (.slice ca cf.length cc) (.slice da ct.length dc);obtain ⟨w3,hw3⟩:∃ w3,w2.alloc (.cells #[.slice ca cf.length cc,.slice da ct.length dc] 27)=w3:=⟨_,rfl⟩
 rw [hw3] at hfr hY;have hb3:=bnext hb2 hfr;have HX3:=hid (HX.out.below hb3);have HZ3:=hid (HZ.out.below hb3);have HB3:=hid (bnext HB.out hb3);have HO1:=hid (ho1.below hfr);have HO2:=hid (ho2.below hfr);have HS3:=hid (show w0.heap.size<=w3.heap.size from hb3.size);have HY:=hid hY;have HW3:=hid hw3;clear hfr hY hw3 hb3 hb2 ho1 ho2 HX HZ HB HW HC0;go_upto_region 2 with fail
 rw [HW3.out];clear HW3;by_cases he:e0=0
 case neg=>
  have HRE:=hid (HR.out.trans (NM.pR_e0 HD0.out he));have HE:=hid he;have hne':(e0 != 0)=true:=bne_t he;clear he HR HD0;obtain ⟨C,hC⟩:∃ C,C=mcell ({k,fr,tx}:Ms) ({}:Mv):=⟨_,rfl⟩
  have hx:w3.heap[w.heap.size]? = some (.cells C 33 (0,0)):=by rw [hC];exact HX3.out
  have hsz:C.size=18:=by rw [hC];rfl
  have hsc:=run_storeCells_row w3 (w.heap.size+1) 33 _ C HZ3.out (by rw [hC];rfl) (by rw [hC];simp [mcell,Value.oneCell']);have HC:=hid hC;clear hC;go_upto_region 3 with fail
  go_wp2_with (refine wpList_load_row rfl 33 _ rfl w.heap.size rfl 33 C (0,0) _ hx Tryz.underlying33 rfl (by rw [hsz];kernel_rfl) ?_)
  refine msgRet3 (m:=({k,fr,tx}:Ms)) (x:=({}:Mv)) rfl rfl rfl rfl (by rw [HC.out];exact HZ3.out.put _ _) rfl ⟨({}:Mv),({k,fr,tx}:Ms),0,?_,?_,⟨⟨_,_,_,rfl⟩,⟨_,_,_,rfl⟩,⟨_,_,_,rfl⟩,⟨_,_,_,rfl⟩,⟨_,_,_,rfl⟩,⟨_,_,_,rfl⟩,⟨_,_,_,rfl⟩,⟨_,_,_,rfl⟩,⟨_,_,_,rfl⟩⟩,?_⟩
  ·first | (rw [HRE.out];done) | (rw [HRE.out];rfl)
  ·rw [HRE.out];intro h;exact absurd h HE.out
  ·exact seen HB3.out (by omega) (onlyRow _ _ _)
 subst he;obtain ⟨y0,y1,_⟩:=HY.out.cells;have x7:=HX3.out.cells.2.2.2.2.2.2.2.1;dsimp only at x7;have f7:=HX3.out.free 7;have x8:=HX3.out.cells.2.2.2.2.2.2.2.2.1;dsimp only at x8;have f8:=HX3.out.free 8;obtain ⟨w4,hw4⟩:∃ w4,(w3.setCell ⟨w.heap.size,7,none⟩ (.slice ca cf.length cc)).setCell ⟨w.heap.size,8,none⟩ (.slice da ct.length dc)=w4:=⟨_,rfl⟩
 have ho4:Only w.heap.size w3 w4:=by rw [<- hw4];exact onlyTwo _ _
 have HX4:=hid (show MB w4 w.heap.size ({k,fr,tx,cf,ct}:Ms) ({cf:=.slice ca cf.length cc,ct:=.slice da ct.length dc}:Mv) by rw [<- hw4];exact HX3.out.setCert cf ct _ _);have HZ4:=hid (HZ3.out.only ho4 (by omega));have HB4:=hid (seen HB3.out (Nat.le_refl _) ho4);replace HO1:=hid (HO1.out.only ho4 (by have:=HG.out;omega));replace HO2:=hid (HO2.out.only ho4 (by have:=HG.out;omega));have HS4:=hid (show w0.heap.size<=w4.heap.size by have:=HS3.out;have:=ho4.size;omega);have HW4:=hid hw4;clear hw4 ho4 HX3 HZ3 HB3 HS3 HY;go_upto_region 5 with fail
 rw [HW4.out];clear x7 x8 f7 f8 y0 y1 HW4;have x0:=HX4.out.cells.1;dsimp only at x0;have HRE:=hid (HR.out.trans (NM.pR_o HD0.out HN.out.1 HN.out.2));clear HR HD0;obtain ⟨C,hC⟩:∃ C,C=mcell ({k,fr,tx,cf,ct}:Ms) ({cf:=.slice ca cf.length cc,ct:=.slice da ct.length dc}:Mv):=⟨_,rfl⟩
 have hx:w4.heap[w.heap.size]? = some (.cells C 33 (0,0)):=by rw [hC];exact HX4.out
 have hsz:C.size=18:=by rw [hC];rfl
 have hsc:=run_storeCells_row w4 (w.heap.size+1) 33 _ C HZ4.out (by rw [hC];rfl) (by rw [hC];simp [mcell,Value.oneCell']);have HC:=hid hC;clear hC;go_upto_region 34 with fail
 go_wp2_with (refine wpList_load_row rfl 33 _ rfl w.heap.size rfl 33 C (0,0) _ hx Tryz.underlying33 rfl (by rw [hsz];kernel_rfl) ?_)
 refine msgRet3 (m:=({k,fr,tx,cf,ct}:Ms)) (x:=({cf:=.slice ca cf.length cc,ct:=.slice da ct.length dc}:Mv)) rfl rfl rfl rfl (by rw [HC.out];exact HZ4.out.put _ _) rfl ⟨({cf:=.slice ca cf.length cc,ct:=.slice da ct.length dc}:Mv),({k,fr,tx,cf,ct}:Ms),(u0:Int),?_,?_,⟨⟨_,_,_,rfl⟩,⟨_,_,_,rfl⟩,⟨_,_,_,rfl⟩,⟨_,_,_,rfl⟩,⟨_,_,_,rfl⟩,⟨_,_,_,rfl⟩,⟨_,_,_,rfl⟩,⟨_,_,_,rfl⟩,⟨_,_,_,rfl⟩⟩,?_⟩
 ·rw [HRE.out]
 ·rw [HRE.out];intro _;exact ⟨rfl,⟨(HO1.out.only (onlyRow _ _ _) HG.out).mono (by have:=HG.out;omega),(HO2.out.only (onlyRow _ _ _) HG.out).mono (by have:=HG.out;omega),OwnR.nil _ _,OwnR.nil _ _,OwnR.nil _ _,OwnR.nil _ _,OwnR.nil _ _,ST.OwnR.nil _ _,VX.OwnV.nil _ _⟩,rfl⟩
 ·exact seen HB4.out (by omega) (onlyRow _ _ _)
theorem rReadR5 (fr tx:Int) (v:Value) (xs:List Int) (w:World) (hv0:Rd w v xs) :
  Calls Tryz.prog 41 #[mv ({k:=5,fr,tx}:Ms) ({}:Mv),v] w fun e w'=>∃ (x':Mv) (m':Ms) (n':Int),e = .returned (.tuple #[mv m' x',.int .i64 n',.int .i64 (NM.pR 5 fr tx xs).1])/\((NM.pR 5 fr tx xs).1=0->n'=((NM.pR 5 fr tx xs).2.1:Int)/\OwnMs w.heap.size w' x' m'/\m'=(NM.pR 5 fr tx xs).2.2)/\SlX x'/\Below w.heap.size w w':=by
 obtain ⟨va,vc,rfl,_⟩:=hv0.shape;have hby:=hv0.bytes;have hxl:=rd_len64 hv0;obtain ⟨w0,hw0,hX,hZ,hb0⟩:=twoM w ({k:=5,fr,tx}:Ms) ({}:Mv) ({}:Ms) ({}:Mv);have HX:=hid hX;have HZ:=hid hZ;have HB:=hid hb0;have HG:=hid (show w.heap.size+1<w0.heap.size from hZ.lt);have HW:=hid (show (w.alloc (.cells #[.int .i64 5,.int .i64 fr,.int .i64 tx,.int .i64 0,.int .i64 0,.int .i64 0,.int .i64 0,.slice none 0 0,.slice none 0 0,.slice none 0 0,.slice none 0 0,.bool false,.slice none 0 0,.slice none 0 0,.slice none 0 0,.slice none 0 0,.slice none 0 0,.bool false] 33)).alloc (.cells zC 33)=w0 from hw0);obtain ⟨R,hR⟩:∃ R,R=NM.pR 5 fr tx xs:=⟨_,rfl⟩
 rw [<- hR];have h0u:=decC_used hby;have hC0:=rDecodeCertO _ xs w0 (hv0.below hb0);generalize hD0:CM.decC xs=D0 at h0u hC0;obtain ⟨e0,u0,cf,ct⟩:=D0;dsimp only at h0u hC0;have h1u:=NM.upd_used (NM.drop_bytes hby u0);have hC1:=fun v' w' (g:Rd w' v' (xs.drop u0))=>ST.rUpdO v' (xs.drop u0) w' g
 generalize hD1:NM.upd (xs.drop u0)=D1 at h1u hC1;obtain ⟨e1,u1,st⟩:=D1;rw [List.length_drop] at h1u;dsimp only at h1u hC1;have hC2:=fun v' w' (g:Rd w' v' (xs.drop (u0+u1)))=>rBool v' (xs.drop (u0+u1)) w' g
 have hB2:=decB_two (xs.drop (u0+u1));rw [List.length_drop] at hB2;have h3u:=NM.used_B _ (NM.drop_bytes hby (u0+u1+1));have hC3:=fun x m v' w' (h:RdMs w' x m) (g:Rd w' v' (xs.drop (u0+u1+1)))=>rReadB x m v' (xs.drop (u0+u1+1)) w' h g
 generalize hD3:NM.pB (xs.drop (u0+u1+1))=D3 at h3u hC3;obtain ⟨e3,u3,bs⟩:=D3;rw [List.length_drop] at h3u;dsimp only at h3u hC3;have HC1:=hid hC1;have HC2:=hid hC2;have HC3:=hid hC3;have HD1:=hid hD1;have HD3:=hid hD3;have HB2:=hid hB2;have HU3:=hid h3u;have HU:=hid (show u0+u1<=xs.length/\xs.length<=9223372036854775807 from ⟨by omega,hxl⟩);clear h1u hC1 hD1 hC2 hB2 h3u hC3 hD3;have HR:=hid hR;have HD0:=hid hD0;have HC0:=hid hC0;have HV:=hid hv0;clear hv0 hby hxl hw0 hX hZ hb0 hR h0u hC0 hD0;dsimp only [mv,mcell];go_enter Tryz.func41,Tryz.ntmps41
 go_upto_region 1 with fail
 rw [HW.out];go_wp2_with fail
 refine HC0.out.mono ?_;rintro e w2 ⟨v1,v2,rfl,ho1,ho2,hb2⟩;obtain ⟨ca,cc,rfl,_⟩:=ho1.shape;obtain ⟨da,dc,rfl,_⟩:=ho2.shape;have hfr:=below_fresh w2 (.cells #[.slice ca cf.length cc,.slice da ct.length dc] 27);have hY:=XB.fresh w2 (.slice ca cf.length cc) (.slice da ct.length dc);obtain ⟨w3,hw3⟩:∃ w3,w2.alloc (.cells #[.slice ca cf.length cc,.slice da ct.length dc] 27)=w3:=⟨_,rfl⟩
 rw [hw3] at hfr hY;have hb3:=bnext hb2 hfr;have HX3:=hid (HX.out.below hb3);have HZ3:=hid (HZ.out.below hb3);have HB3:=hid (bnext HB.out hb3);have HO1:=hid (ho1.below hfr);have HO2:=hid (ho2.below hfr);have HS3:=hid (show w0.heap.size<=w3.heap.size from hb3.size);have HY:=hid hY;have HW3:=hid hw3;clear hfr hY hw3 hb3 hb2 ho1 ho2 HX HZ HB HW HC0;go_upto_region 2 with fail
 rw [HW3.out];clear HW3;by_cases he:e0=0
 case neg=>
  have HRE:=hid (HR.out.trans (NM.pR_e0 HD0.out he));have HE:=hid he;have hne':(e0 != 0)=true:=bne_t he;clear he HR HD0;obtain ⟨C,hC⟩:∃ C,C=mcell ({k:=5,fr,tx}:Ms) ({}:Mv):=⟨_,rfl⟩
  have hx:w3.heap[w.heap.size]? = some (.cells C 33 (0,0)):=by rw [hC];exact HX3.out
  have hsz:C.size=18:=by rw [hC];rfl
  have hsc:=run_storeCells_row w3 (w.heap.size+1) 33 _ C HZ3.out (by rw [hC];rfl) (by rw [hC];simp [mcell,Value.oneCell']);have HC:=hid hC;clear hC;go_upto_region 3 with fail
  go_wp2_with (refine wpList_load_row rfl 33 _ rfl w.heap.size rfl 33 C (0,0) _ hx Tryz.underlying33 rfl (by rw [hsz];kernel_rfl) ?_)
  refine msgRet3 (m:=({k:=5,fr,tx}:Ms)) (x:=({}:Mv)) rfl rfl rfl rfl (by rw [HC.out];exact HZ3.out.put _ _) rfl ⟨({}:Mv),({k:=5,fr,tx}:Ms),0,?_,?_,⟨⟨_,_,_,rfl⟩,⟨_,_,_,rfl⟩,⟨_,_,_,rfl⟩,⟨_,_,_,rfl⟩,⟨_,_,_,rfl⟩,⟨_,_,_,rfl⟩,⟨_,_,_,rfl⟩,⟨_,_,_,rfl⟩,⟨_,_,_,rfl⟩⟩,?_⟩
  ·first | (rw [HRE.out];done) | (rw [HRE.out];rfl)
  ·rw [HRE.out];intro h;exact absurd h HE.out
  ·exact seen HB3.out (by omega) (onlyRow _ _ _)
 subst he;obtain ⟨y0,y1,_⟩:=HY.out.cells;have x7:=HX3.out.cells.2.2.2.2.2.2.2.1;dsimp only at x7;have f7:=HX3.out.free 7;have x8:=HX3.out.cells.2.2.2.2.2.2.2.2.1;dsimp only at x8;have f8:=HX3.out.free 8;obtain ⟨w4,hw4⟩:∃ w4,(w3.setCell ⟨w.heap.size,7,none⟩ (.slice ca cf.length cc)).setCell ⟨w.heap.size,8,none⟩ (.slice da ct.length dc)=w4:=⟨_,rfl⟩
 have ho4:Only w.heap.size w3 w4:=by rw [<- hw4];exact onlyTwo _ _
 have HX4:=hid (show MB w4 w.heap.size ({k:=5,fr,tx,cf,ct}:Ms) ({cf:=.slice ca cf.length cc,ct:=.slice da ct.length dc}:Mv) by rw [<- hw4];exact HX3.out.setCert cf ct _ _);have HZ4:=hid (HZ3.out.only ho4 (by omega));have HB4:=hid (seen HB3.out (Nat.le_refl _) ho4);replace HO1:=hid (HO1.out.only ho4 (by have:=HG.out;omega));replace HO2:=hid (HO2.out.only ho4 (by have:=HG.out;omega));have HS4:=hid (show w0.heap.size<=w4.heap.size by have:=HS3.out;have:=ho4.size;omega);have HW4:=hid hw4;clear hw4 ho4 HX3 HZ3 HB3 HS3 HY;go_upto_region 5 with fail
 rw [HW4.out];clear x7 x8 f7 f8 y0 y1 HW4;have x0:=HX4.out.cells.1;dsimp only at x0;obtain ⟨v3,hcut0,hrd⟩:=(HV.out.below HB4.out).cutL (u0) (by have:=HU.out;omega);have hcut:∀ w0:World,(Instr.slice 39 (.slice va xs.length vc) (some (.int .i64 ((u0:Int)))) none none).run Tryz.prog w0 = .ok v3 w0:=by
  intro w0;have h:=hcut0 w0;rwa [show ((u0:Nat):Int)=(u0:Int) by omega] at h
 clear hcut0;have HQ:=hid (HC1.out v3 w4 hrd);clear hrd HC1;go_wp2_with fail
 refine HQ.out.mono ?_;rintro e w5 ⟨v5,rfl,ho5,hb5⟩;obtain ⟨sa,sc,rfl,_⟩:=ho5.rd.shape;have HX5:=hid (HX4.out.below hb5);have HZ5:=hid (HZ4.out.below hb5);have HB5:=hid (bnext HB4.out hb5);replace HO1:=hid (HO1.out.below hb5);replace HO2:=hid (HO2.out.below hb5);have HO3:=hid (ho5.mono HS4.out);have HS5:=hid (show w0.heap.size<=w5.heap.size by have:=HS4.out;have:=hb5.size;omega);clear HX4 HZ4 HB4 HQ hcut ho5 hb5 x0 HS4;by_cases he:e1=0
 case neg=>
  have HRE:=hid (HR.out.trans (NM.pR_5e1 HD0.out rfl HD1.out he));have HE:=hid he;have hne':(e1 != 0)=true:=bne_t he;clear he HR HD0 HD1 HC2 HC3;obtain ⟨C,hC⟩:∃ C,C=mcell ({k:=5,fr,tx,cf,ct}:Ms) ({cf:=.slice ca cf.length cc,ct:=.slice da ct.length dc}:Mv):=⟨_,rfl⟩
  have hx:w5.heap[w.heap.size]? = some (.cells C 33 (0,0)):=by rw [hC];exact HX5.out
  have hsz:C.size=18:=by rw [hC];rfl
  have hsc:=run_storeCells_row w5 (w.heap.size+1) 33 _ C HZ5.out (by rw [hC];rfl) (by rw [hC];simp [mcell,Value.oneCell']);have HC:=hid hC;clear hC;go_upto_region 24 with fail
  go_wp2_with (refine wpList_load_row rfl 33 _ rfl w.heap.size rfl 33 C (0,0) _ hx Tryz.underlying33 rfl (by rw [hsz];kernel_rfl) ?_)
  refine msgRet3 (m:=({k:=5,fr,tx,cf,ct}:Ms)) (x:=({cf:=.slice ca cf.length cc,ct:=.slice da ct.length dc}:Mv)) rfl rfl rfl rfl (by rw [HC.out];exact HZ5.out.put _ _) rfl ⟨({cf:=.slice ca cf.length cc,ct:=.slice da ct.length dc}:Mv),({k:=5,fr,tx,cf,ct}:Ms),0,?_,?_,⟨⟨_,_,_,rfl⟩,⟨_,_,_,rfl⟩,⟨_,_,_,rfl⟩,⟨_,_,_,rfl⟩,⟨_,_,_,rfl⟩,⟨_,_,_,rfl⟩,⟨_,_,_,rfl⟩,⟨_,_,_,rfl⟩,⟨_,_,_,rfl⟩⟩,?_⟩
  ·first | (rw [HRE.out];done) | (rw [HRE.out];rfl)
  ·rw [HRE.out];intro h;exact absurd h HE.out
  ·exact seen HB5.out (by omega) (onlyRow _ _ _)
 subst he;have hsum1:(u0:Int)+(u1:Int)<=9223372036854775807:=by have:=HU.out;omega
 obtain ⟨v4,hcut0,hrd⟩:=(HV.out.below HB5.out).cutL (u0+u1) (by have:=HU.out;omega);have hcut:∀ w0:World,(Instr.slice 39 (.slice va xs.length vc) (some (.int .i64 ((u0:Int)+(u1:Int)))) none none).run Tryz.prog w0 = .ok v4 w0:=by
  intro w0;have h:=hcut0 w0;rwa [show ((u0+u1:Nat):Int)=(u0:Int)+(u1:Int) by omega] at h
 clear hcut0;rcases HB2.out with ⟨e2,he,hd⟩ | ⟨b,hd,hl⟩
 ·have hQ:=HC2.out v4 w5 hrd;rw [hd] at hQ;have HRE:=hid (HR.out.trans (NM.pR_5e2 HD0.out rfl HD1.out (show (NM.bl (xs.drop (u0+u1))).1=e2 by unfold NM.bl;rw [hd]) he));have HE:=hid he;have hne':(e2 != 0)=true:=bne_t he;have HQ:=hid hQ;clear he HR HD0 HD1 HC2 HC3 hd hrd hQ;go_wp2_with fail
  refine HQ.out.mono ?_;rintro e w6 ⟨rfl,rfl⟩;clear HQ;obtain ⟨C,hC⟩:∃ C,C=mcell ({k:=5,fr,tx,cf,ct}:Ms) ({cf:=.slice ca cf.length cc,ct:=.slice da ct.length dc}:Mv):=⟨_,rfl⟩
  have hx:w5.heap[w.heap.size]? = some (.cells C 33 (0,0)):=by rw [hC];exact HX5.out
  have hsz:C.size=18:=by rw [hC];rfl
  have hsc:=run_storeCells_row w5 (w.heap.size+1) 33 _ C HZ5.out (by rw [hC];rfl) (by rw [hC];simp [mcell,Value.oneCell']);have HC:=hid hC;clear hC;go_upto_region 28 with fail
  go_wp2_with (refine wpList_load_row rfl 33 _ rfl w.heap.size rfl 33 C (0,0) _ hx Tryz.underlying33 rfl (by rw [hsz];kernel_rfl) ?_)
  refine msgRet3 (m:=({k:=5,fr,tx,cf,ct}:Ms)) (x:=({cf:=.slice ca cf.length cc,ct:=.slice da ct.length dc}:Mv)) rfl rfl rfl rfl (by rw [HC.out];exact HZ5.out.put _ _) rfl ⟨({cf:=.slice ca cf.length cc,ct:=.slice da ct.length dc}:Mv),({k:=5,fr,tx,cf,ct}:Ms),0,?_,?_,⟨⟨_,_,_,rfl⟩,⟨_,_,_,rfl⟩,⟨_,_,_,rfl⟩,⟨_,_,_,rfl⟩,⟨_,_,_,rfl⟩,⟨_,_,_,rfl⟩,⟨_,_,_,rfl⟩,⟨_,_,_,rfl⟩,⟨_,_,_,rfl⟩⟩,?_⟩
  ·first | (rw [HRE.out];done) | (rw [HRE.out];rfl)
  ·rw [HRE.out];intro h;exact absurd h HE.out
  ·exact seen HB5.out (by omega) (onlyRow _ _ _)
 have hQ:=HC2.out v4 w5 hrd;rw [hd] at hQ;have HBL:=hid (show NM.bl (xs.drop (u0+u1))=(0,1,b) by unfold NM.bl;rw [hd];rfl);have HU1:=hid (show u0+u1+1+u3<=xs.length by have:=HU.out;have:=HU3.out;omega);have HQ:=hid hQ;clear HC2 hd hl hrd hQ;go_wp2_with fail
 refine HQ.out.mono ?_;rintro e w6 ⟨rfl,rfl⟩;clear HQ hcut;have hsum2:(u0:Int)+(u1:Int)+1<=9223372036854775807:=by have:=HU.out;have:=HU1.out;omega
 have x15:=HX5.out.cells.2.2.2.2.2.2.2.2.2.2.2.2.2.2.2.1;dsimp only at x15;have f15:=HX5.out.free 15;have x17:=HX5.out.cells.2.2.2.2.2.2.2.2.2.2.2.2.2.2.2.2.2;dsimp only at x17;have f17:=HX5.out.free 17;obtain ⟨w8,hw8⟩:∃ w8,(w5.setCell ⟨w.heap.size,15,none⟩ (.slice sa st.length sc)).setCell ⟨w.heap.size,17,none⟩ (.bool b)=w8:=⟨_,rfl⟩
 have ho8:Only w.heap.size w5 w8:=by rw [<- hw8];exact onlyTwo _ _
 have HX8:=hid (show MB w8 w.heap.size ({k:=5,fr,tx,cf,ct,st,mo:=b}:Ms) ({cf:=.slice ca cf.length cc,ct:=.slice da ct.length dc,st:=.slice sa st.length sc}:Mv) by rw [<- hw8];exact HX5.out.setStMo st _ b);have HZ8:=hid (HZ5.out.only ho8 (by omega));have HB8:=hid (seen HB5.out (Nat.le_refl _) ho8);replace HO1:=hid (HO1.out.only ho8 (by have:=HG.out;omega));replace HO2:=hid (HO2.out.only ho8 (by have:=HG.out;omega));replace HO3:=hid (HO3.out.only ho8 (by have:=HG.out;omega));have HS8:=hid (show w0.heap.size<=w8.heap.size by have:=HS5.out;have:=ho8.size;omega);have HW8:=hid hw8;clear hw8 ho8 HX5 HZ5 HB5 HS5;go_upto_region 32 with fail
 rw [HW8.out];clear x15 x17 f15 f17 HW8;obtain ⟨v5,hcut0,hrd⟩:=(HV.out.below HB8.out).cutL (u0+u1+1) (by have:=HU1.out;omega);have hcut:∀ w0:World,(Instr.slice 39 (.slice va xs.length vc) (some (.int .i64 ((u0:Int)+(u1:Int)+(1:Int)))) none none).run Tryz.prog w0 = .ok v5 w0:=by
  intro w0;have h:=hcut0 w0;rwa [show ((u0+u1+1:Nat):Int)=(u0:Int)+(u1:Int)+(1:Int) by omega] at h
 clear hcut0;obtain ⟨C,hC⟩:∃ C,C=mcell ({k:=5,fr,tx,cf,ct,st,mo:=b}:Ms) ({cf:=.slice ca cf.length cc,ct:=.slice da ct.length dc,st:=.slice sa st.length sc}:Mv):=⟨_,rfl⟩
 have hsz:C.size=18:=by rw [hC];rfl
 have HC:=hid hC;have tok:True:=trivial;clear hC;go_wp2
 refine wp_region_held_drew (S:=fun _=>True) (by kernel_rfl) trivial (fun _=>?_);have ha:Below w8.heap.size w8 w8.drew:=(Below.refl _ _).drew;generalize w8.drew=wa at ha ⊢;have HXa:=hid (HX8.out.below ha);have HZa:=hid (HZ8.out.below ha);have HBa:=hid (bnext HB8.out ha);have hx:wa.heap[w.heap.size]? = some (.cells C 33 (0,0)):=by rw [HC.out];exact HXa.out
 have HQ:=hid (show Calls Tryz.prog 94 #[.agg C,v5] wa _ by rw [HC.out];exact HC3.out ({cf:=.slice ca cf.length cc,ct:=.slice da ct.length dc,st:=.slice sa st.length sc}:Mv) ({k:=5,fr,tx,cf,ct,st,mo:=b}:Ms) v5 wa (⟨HO1.out.rd.below ha,HO2.out.rd.below ha,RdF.nil _,RdF.nil _,RdF.nil _,RdF.nil _,RdF.nil _,HO3.out.rd.below ha,VX.RdV.nil _⟩) (hrd.below ha));refine takeJ 1 ?_;refine takeJ 2 ?_;refine takeG 3 (v:=?_) ?_ ?_;rotate_left
 ·(intro w hSw;(try dsimp only at hSw);have hcx:=hcut;go_simp;first | done | with_reducible rfl)
 (try simp only [Act.put,lTA,lZ,lS]);refine wpAnyH_ready (rs:=[0]) (by kernel_rfl) (by simp) ?_;refine stepH rfl (fun K hK=>?_) AllReadyH.nil;rw [if_pos (by rfl)];refine wp_load_row 33 _ rfl w.heap.size rfl 33 C (0,0) _ hx Tryz.underlying33 rfl (by rw [hsz];kernel_rfl) ?_;refine hK.out _ _ trivial (fun _=>?_);clear hK K;(try simp only [Act.put,lTA,lZ,lS]);refine wpAnyH_ready (rs:=[4]) (by kernel_rfl) (by simp) ?_;refine stepH rfl (fun K hK=>?_) AllReadyH.nil;go_simp
 refine HQ.out.mono ?_;rintro e wb ⟨x',m',rfl,hok,hsl,hb9⟩;go_wp2_with fail
 refine hK.out _ _ trivial (fun _=>?_);clear hK K;(try simp only [Act.put,lTA,lZ,lS]);refine takeJ 5 ?_;refine takeJ 6 ?_;refine takeJ 7 ?_;refine takeJ 8 ?_;have hgb:wb.heap[w.heap.size]? = some (.cells C 33 (0,0)):=below_block hx hb9;obtain ⟨w9,hw9⟩:∃ w9,wb.setRow w.heap.size (mcell m' x')=w9:=⟨_,rfl⟩
 refine wpAnyH_ready (rs:=[9]) (by kernel_rfl) (by simp) ?_;refine stepH rfl (fun K hK=>?_) AllReadyH.nil;rw [if_pos (by rfl)];refine wp_store_row 33 _ _ rfl w.heap.size (mcell m' x') rfl rfl 33 C hgb (by kernel_rfl) (by rw [hsz];rfl) hsl.cells ?_;rw [hw9];refine hK.out _ _ trivial (fun _=>?_);clear hK K;refine takeJ 10 ?_;refine takeJ 11 ?_;refine wpAnyH_done (by kernel_rfl) ?_ _;have ho9:Only w.heap.size wb w9:=by rw [<- hw9];exact onlyRow _ _ _
 have HX9:=hid (show MB w9 w.heap.size m' x' by rw [<- hw9];exact setRow_heap _ _ _ _ _ _ hgb);have HZ9:=hid ((HZa.out.below hb9).only ho9 (by omega));have HB9:=hid (seen (bnext HBa.out hb9) (Nat.le_refl _) ho9);have HO9:=hid ho9;have HA:=hid ha;have Hb9:=hid hb9;have HSL:=hid hsl;have HOK:=hid hok;clear hx hgb ho9 ha hb9 hok hw9 HQ HXa HZa hcut hrd hsl HC hsz;have hsum3:(u0:Int)+(u1:Int)+1+(u3:Int)<=9223372036854775807:=by have:=HU.out;have:=HU1.out;omega
 have HRE:Hid (R.1=e3/\(e3=0->R=(0,u0+u1+1+u3,NM.addB ({k:=5,fr,tx,cf,ct,st,mo:=b}:Ms) bs))):=hid (by
  have hd3:=HD3.out;by_cases q3:e3=0
  ·subst q3;have h:=HR.out.trans (NM.pR_5 HD0.out rfl HD1.out HBL.out hd3);exact ⟨by rw [h],fun _=>h⟩
  ·have h:=HR.out.trans (NM.pR_5e3 HD0.out rfl HD1.out HBL.out hd3 q3);exact ⟨by rw [h],fun h0=>absurd h0 q3⟩)
 clear HR HD0 HD1 HD3 HBL hsum1 hsum2;obtain ⟨C,hC⟩:∃ C,C=mcell m' x':=⟨_,rfl⟩
 have hx:w9.heap[w.heap.size]? = some (.cells C 33 (0,0)):=by rw [hC];exact HX9.out
 have hsz:C.size=18:=by rw [hC];rfl
 have hsc:=run_storeCells_row w9 (w.heap.size+1) 33 _ C HZ9.out (by rw [hC];rfl) (by rw [hC];exact HSL.out.cells);have HC:=hid hC;clear hC;go_wp2_with (refine wpList_load_row rfl 33 _ rfl w.heap.size rfl 33 C (0,0) _ hx Tryz.underlying33 rfl (by rw [hsz];kernel_rfl) ?_)
 refine msgRet3 (m:=m') (x:=x') rfl rfl rfl rfl (by rw [HC.out];exact HZ9.out.put _ _) rfl ⟨x',m',(u0:Int)+(u1:Int)+1+(u3:Int),?_,?_,HSL.out,?_⟩
 ·rw [HRE.out.1]
 ·rw [HRE.out.1];intro h0;have hre:=HRE.out.2 h0;obtain ⟨nb,hm⟩:=HOK.out h0 (by trivial) (by trivial) (by trivial) (by trivial);rw [hre,hm];have hbb:=HA.out;have hgg:=HG.out;have hss:=HS8.out;have hsa:=hbb.size;have q1:w.heap.size<wa.heap.size:=by omega
  have q2:w.heap.size+1<wa.heap.size:=by omega
  rw [hm] at nb;refine ⟨by show (u0:Int)+(u1:Int)+1+(u3:Int)=((u0+u1+1+u3:Nat):Int);omega,⟨?_,?_,((nb.bf.only HO9.out q1).only (onlyRow _ _ _) q2).mono (by omega),((nb.bt.only HO9.out q1).only (onlyRow _ _ _) q2).mono (by omega),((nb.ef.only HO9.out q1).only (onlyRow _ _ _) q2).mono (by omega),((nb.et.only HO9.out q1).only (onlyRow _ _ _) q2).mono (by omega),OwnR.of_nil nb.cg,?_,?_⟩,rfl⟩
  ·rw [nb.cf];exact ((((HO1.out.below hbb).below Hb9.out).only HO9.out (by omega)).only (onlyRow _ _ _) (by omega)).mono (by omega)
  ·rw [nb.ct];exact ((((HO2.out.below hbb).below Hb9.out).only HO9.out (by omega)).only (onlyRow _ _ _) (by omega)).mono (by omega)
  ·rw [nb.st];exact ((((HO3.out.below hbb).below Hb9.out).only HO9.out (by omega)).only (onlyRow _ _ _) (by omega)).mono (by omega)
  ·rw [nb.hv];exact VX.OwnV.nil _ _
 ·exact seen HB9.out (by omega) (onlyRow _ _ _)
theorem rReadR4 (fr tx:Int) (v:Value) (xs:List Int) (w:World) (hv0:Rd w v xs) :
  Calls Tryz.prog 41 #[mv ({k:=4,fr,tx}:Ms) ({}:Mv),v] w fun e w'=>∃ (x':Mv) (m':Ms) (n':Int),e = .returned (.tuple #[mv m' x',.int .i64 n',.int .i64 (NM.pR 4 fr tx xs).1])/\((NM.pR 4 fr tx xs).1=0->n'=((NM.pR 4 fr tx xs).2.1:Int)/\OwnMs w.heap.size w' x' m'/\m'=(NM.pR 4 fr tx xs).2.2)/\SlX x'/\Below w.heap.size w w':=by
 obtain ⟨va,vc,rfl,_⟩:=hv0.shape;have hby:=hv0.bytes;have hxl:=rd_len64 hv0;obtain ⟨w0,hw0,hX,hZ,hb0⟩:=twoM w ({k:=4,fr,tx}:Ms) ({}:Mv) ({}:Ms) ({}:Mv);have HX:=hid hX;have HZ:=hid hZ;have HB:=hid hb0;have HG:=hid (show w.heap.size+1<w0.heap.size from hZ.lt);have HW:=hid (show (w.alloc (.cells #[.int .i64 4,.int .i64 fr,.int .i64 tx,.int .i64 0,.int .i64 0,.int .i64 0,.int .i64 0,.slice none 0 0,.slice none 0 0,.slice none 0 0,.slice none 0 0,.bool false,.slice none 0 0,.slice none 0 0,.slice none 0 0,.slice none 0 0,.slice none 0 0,.bool false] 33)).alloc (.cells zC 33)=w0 from hw0);obtain ⟨R,hR⟩:∃ R,R=NM.pR 4 fr tx xs:=⟨_,rfl⟩
 rw [<- hR];have h0u:=decC_used hby;have hC0:=rDecodeCertO _ xs w0 (hv0.below hb0);generalize hD0:CM.decC xs=D0 at h0u hC0;obtain ⟨e0,u0,cf,ct⟩:=D0;dsimp only at h0u hC0;have hC1:=fun v' w' (g:Rd w' v' (xs.drop u0))=>rNumber v' (xs.drop u0) w' g
 have hN1:=JM.num_two (xs.drop u0) (NM.drop_bytes hby u0);rw [List.length_drop] at hN1;have HC1:=hid hC1;have HN1:=hid hN1;have HU:=hid (show u0<=xs.length/\xs.length<=9223372036854775807 from ⟨by omega,hxl⟩);have HBY:=hid hby;clear hC1 hN1;have HR:=hid hR;have HD0:=hid hD0;have HC0:=hid hC0;have HV:=hid hv0;clear hv0 hby hxl hw0 hX hZ hb0 hR h0u hC0 hD0;dsimp only [mv,mcell];go_enter Tryz.func41,Tryz.ntmps41
 go_upto_region 1 with fail
 rw [HW.out];go_wp2_with fail
 refine HC0.out.mono ?_;rintro e w2 ⟨v1,v2,rfl,ho1,ho2,hb2⟩;obtain ⟨ca,cc,rfl,_⟩:=ho1.shape;obtain ⟨da,dc,rfl,_⟩:=ho2.shape;have hfr:=below_fresh w2 (.cells #[.slice ca cf.length cc,.slice da ct.length dc] 27);have hY:=XB.fresh w2 (.slice ca cf.length cc) (.slice da ct.length dc);obtain ⟨w3,hw3⟩:∃ w3,w2.alloc (.cells #[.slice ca cf.length cc,.slice da ct.length dc] 27)=w3:=⟨_,rfl⟩
 rw [hw3] at hfr hY;have hb3:=bnext hb2 hfr;have HX3:=hid (HX.out.below hb3);have HZ3:=hid (HZ.out.below hb3);have HB3:=hid (bnext HB.out hb3);have HO1:=hid (ho1.below hfr);have HO2:=hid (ho2.below hfr);have HS3:=hid (show w0.heap.size<=w3.heap.size from hb3.size);have HY:=hid hY;have HW3:=hid hw3;clear hfr hY hw3 hb3 hb2 ho1 ho2 HX HZ HB HW HC0;go_upto_region 2 with fail
 rw [HW3.out];clear HW3;by_cases he:e0=0
 case neg=>
  have HRE:=hid (HR.out.trans (NM.pR_e0 HD0.out he));have HE:=hid he;have hne':(e0 != 0)=true:=bne_t he;clear he HR HD0;obtain ⟨C,hC⟩:∃ C,C=mcell ({k:=4,fr,tx}:Ms) ({}:Mv):=⟨_,rfl⟩
  have hx:w3.heap[w.heap.size]? = some (.cells C 33 (0,0)):=by rw [hC];exact HX3.out
  have hsz:C.size=18:=by rw [hC];rfl
  have hsc:=run_storeCells_row w3 (w.heap.size+1) 33 _ C HZ3.out (by rw [hC];rfl) (by rw [hC];simp [mcell,Value.oneCell']);have HC:=hid hC;clear hC;go_upto_region 3 with fail
  go_wp2_with (refine wpList_load_row rfl 33 _ rfl w.heap.size rfl 33 C (0,0) _ hx Tryz.underlying33 rfl (by rw [hsz];kernel_rfl) ?_)
  refine msgRet3 (m:=({k:=4,fr,tx}:Ms)) (x:=({}:Mv)) rfl rfl rfl rfl (by rw [HC.out];exact HZ3.out.put _ _) rfl ⟨({}:Mv),({k:=4,fr,tx}:Ms),0,?_,?_,⟨⟨_,_,_,rfl⟩,⟨_,_,_,rfl⟩,⟨_,_,_,rfl⟩,⟨_,_,_,rfl⟩,⟨_,_,_,rfl⟩,⟨_,_,_,rfl⟩,⟨_,_,_,rfl⟩,⟨_,_,_,rfl⟩,⟨_,_,_,rfl⟩⟩,?_⟩
  ·first | (rw [HRE.out];done) | (rw [HRE.out];rfl)
  ·rw [HRE.out];intro h;exact absurd h HE.out
  ·exact seen HB3.out (by omega) (onlyRow _ _ _)
 subst he;obtain ⟨y0,y1,_⟩:=HY.out.cells;have x7:=HX3.out.cells.2.2.2.2.2.2.2.1;dsimp only at x7;have f7:=HX3.out.free 7;have x8:=HX3.out.cells.2.2.2.2.2.2.2.2.1;dsimp only at x8;have f8:=HX3.out.free 8;obtain ⟨w4,hw4⟩:∃ w4,(w3.setCell ⟨w.heap.size,7,none⟩ (.slice ca cf.length cc)).setCell ⟨w.heap.size,8,none⟩ (.slice da ct.length dc)=w4:=⟨_,rfl⟩
 have ho4:Only w.heap.size w3 w4:=by rw [<- hw4];exact onlyTwo _ _
 have HX4:=hid (show MB w4 w.heap.size ({k:=4,fr,tx,cf,ct}:Ms) ({cf:=.slice ca cf.length cc,ct:=.slice da ct.length dc}:Mv) by rw [<- hw4];exact HX3.out.setCert cf ct _ _);have HZ4:=hid (HZ3.out.only ho4 (by omega));have HB4:=hid (seen HB3.out (Nat.le_refl _) ho4);replace HO1:=hid (HO1.out.only ho4 (by have:=HG.out;omega));replace HO2:=hid (HO2.out.only ho4 (by have:=HG.out;omega));have HS4:=hid (show w0.heap.size<=w4.heap.size by have:=HS3.out;have:=ho4.size;omega);have HW4:=hid hw4;clear hw4 ho4 HX3 HZ3 HB3 HS3 HY;go_upto_region 5 with fail
 rw [HW4.out];clear x7 x8 f7 f8 y0 y1 HW4;have x0:=HX4.out.cells.1;dsimp only at x0;obtain ⟨v3,hcut0,hrd⟩:=(HV.out.below HB4.out).cutL (u0) (by have:=HU.out;omega);have hcut:∀ w0:World,(Instr.slice 39 (.slice va xs.length vc) (some (.int .i64 ((u0:Int)))) none none).run Tryz.prog w0 = .ok v3 w0:=by
  intro w0;have h:=hcut0 w0;rwa [show ((u0:Nat):Int)=(u0:Int) by omega] at h
 clear hcut0;rcases HN1.out with ⟨e1,he0,hd⟩ | ⟨m,hm,hd,hl⟩
 ·have he:e1≠0:=by omega
  have hQ:=HC1.out v3 w4 hrd;rw [hd] at hQ;have HRE:=hid (HR.out.trans (NM.pR_4e HD0.out rfl (NM.pH_e0 hd he) he));have HE:=hid he;have hne':(e1 != 0)=true:=bne_t he;have HQ:=hid hQ;clear he he0 HR HD0 hd hrd hQ HC1 HN1;go_wp2_with fail
  refine HQ.out.mono ?_;rintro e w5 ⟨rfl,rfl⟩;clear HQ x0;obtain ⟨C,hC⟩:∃ C,C=mcell ({k:=4,fr,tx,cf,ct}:Ms) ({cf:=.slice ca cf.length cc,ct:=.slice da ct.length dc}:Mv):=⟨_,rfl⟩
  have hx:w4.heap[w.heap.size]? = some (.cells C 33 (0,0)):=by rw [hC];exact HX4.out
  have hsz:C.size=18:=by rw [hC];rfl
  have hsc:=run_storeCells_row w4 (w.heap.size+1) 33 _ C HZ4.out (by rw [hC];rfl) (by rw [hC];simp [mcell,Value.oneCell']);have HC:=hid hC;clear hC;go_upto_region 9 with fail
  go_wp2_with (refine wpList_load_row rfl 33 _ rfl w.heap.size rfl 33 C (0,0) _ hx Tryz.underlying33 rfl (by rw [hsz];kernel_rfl) ?_)
  refine msgRet3 (m:=({k:=4,fr,tx,cf,ct}:Ms)) (x:=({cf:=.slice ca cf.length cc,ct:=.slice da ct.length dc}:Mv)) rfl rfl rfl rfl (by rw [HC.out];exact HZ4.out.put _ _) rfl ⟨({cf:=.slice ca cf.length cc,ct:=.slice da ct.length dc}:Mv),({k:=4,fr,tx,cf,ct}:Ms),0,?_,?_,⟨⟨_,_,_,rfl⟩,⟨_,_,_,rfl⟩,⟨_,_,_,rfl⟩,⟨_,_,_,rfl⟩,⟨_,_,_,rfl⟩,⟨_,_,_,rfl⟩,⟨_,_,_,rfl⟩,⟨_,_,_,rfl⟩,⟨_,_,_,rfl⟩⟩,?_⟩
  ·first | (rw [HRE.out];done) | (rw [HRE.out];rfl)
  ·rw [HRE.out];intro h;exact absurd h HE.out
  ·exact seen HB4.out (by omega) (onlyRow _ _ _)
 obtain ⟨u1,hu1⟩:∃ u,u=(WM.enc m).length:=⟨_,rfl⟩
 rw [<- hu1] at hd hl;have hQ:=HC1.out v3 w4 hrd;rw [hd] at hQ;have HQ:=hid hQ;have HL1:=hid hl;have HD1:=hid hd;clear hd hl hrd hQ HC1 HN1 hu1;go_wp2_with fail
 refine HQ.out.mono ?_;rintro e w5 ⟨rfl,rfl⟩;clear HQ x0 hcut;by_cases h100:(100:Int)<(m:Int)
 case pos=>
  have HRE:=hid (HR.out.trans (NM.pR_4e HD0.out rfl (NM.pH_e3 HD1.out h100) (by decide)));have HE:=hid (show (3:Int)≠0 by decide);clear HR HD0 HD1;obtain ⟨C,hC⟩:∃ C,C=mcell ({k:=4,fr,tx,cf,ct}:Ms) ({cf:=.slice ca cf.length cc,ct:=.slice da ct.length dc}:Mv):=⟨_,rfl⟩
  have hx:w4.heap[w.heap.size]? = some (.cells C 33 (0,0)):=by rw [hC];exact HX4.out
  have hsz:C.size=18:=by rw [hC];rfl
  have hsc:=run_storeCells_row w4 (w.heap.size+1) 33 _ C HZ4.out (by rw [hC];rfl) (by rw [hC];simp [mcell,Value.oneCell']);have HC:=hid hC;clear hC;go_upto_region 11 with fail
  go_wp2_with (refine wpList_load_row rfl 33 _ rfl w.heap.size rfl 33 C (0,0) _ hx Tryz.underlying33 rfl (by rw [hsz];kernel_rfl) ?_)
  refine msgRet3 (m:=({k:=4,fr,tx,cf,ct}:Ms)) (x:=({cf:=.slice ca cf.length cc,ct:=.slice da ct.length dc}:Mv)) rfl rfl rfl rfl (by rw [HC.out];exact HZ4.out.put _ _) rfl ⟨({cf:=.slice ca cf.length cc,ct:=.slice da ct.length dc}:Mv),({k:=4,fr,tx,cf,ct}:Ms),0,?_,?_,⟨⟨_,_,_,rfl⟩,⟨_,_,_,rfl⟩,⟨_,_,_,rfl⟩,⟨_,_,_,rfl⟩,⟨_,_,_,rfl⟩,⟨_,_,_,rfl⟩,⟨_,_,_,rfl⟩,⟨_,_,_,rfl⟩,⟨_,_,_,rfl⟩⟩,?_⟩
  ·first | (rw [HRE.out];done) | (rw [HRE.out];rfl)
  ·rw [HRE.out];intro h;exact absurd h HE.out
  ·exact seen HB4.out (by omega) (onlyRow _ _ _)
 have hsum1:(u0:Int)+(u1:Int)<=9223372036854775807:=by have:=HU.out;have:=HL1.out;omega
 have hm1 : -9223372036854775808<=2*(m:Int):=by omega
 have hm2:2*(m:Int)<=9223372036854775807:=by omega
 have hw1:IntKind.i64.wrap (2*(m:Int))=2*(m:Int):=IntWalk.i64_in _ (by omega);obtain ⟨v4,hcut0,hrd⟩:=(HV.out.below HB4.out).cutL (u0+u1) (by have:=HU.out;have:=HL1.out;omega);have hcut:∀ w0:World,(Instr.slice 39 (.slice va xs.length vc) (some (.int .i64 ((u0:Int)+(u1:Int)))) none none).run Tryz.prog w0 = .ok v4 w0:=by
  intro w0;have h:=hcut0 w0;rwa [show ((u0+u1:Nat):Int)=(u0:Int)+(u1:Int) by omega] at h
 clear hcut0;have hQ:=rRead v4 (xs.drop (u0+u1)) (2*m) w4 hrd (by omega);have hml:=JM.many_length (xs.drop (u0+u1)) (0,0) (2*m);have hmu:=(JM.many_small (xs.drop (u0+u1)) (0,0) (NM.drop_bytes HBY.out (u0+u1)) (Nat.zero_le _) (2*m)).2;rw [show ((2*m:Nat):Int)=2*(m:Int) by omega] at hQ;generalize hM:JM.many (xs.drop (u0+u1)) (0,0) (2*m)=M at hQ hml hmu;obtain ⟨l,u2,e2⟩:=M;rw [List.length_drop] at hmu;dsimp only at hQ hml hmu;have HQ:Hid (Calls Tryz.prog 39 #[v4,.int .i64 (2*(m:Int))] w4 _):=hQ;have HM:=hid hM;have HML:=hid hml;have HMU:=hid hmu;have H100:=hid h100;clear hrd hQ hM hml hmu h100;have h100b:¬ (100:Int)<(m:Int):=H100.out;go_wp2_with fail
 refine HQ.out.mono ?_;rintro e w5 (⟨hne,rfl,hb5⟩ | ⟨rfl,lv,rfl,hoh,hb5⟩)
 ·have HX5:=hid (HX4.out.below hb5);have HZ5:=hid (HZ4.out.below hb5);have HB5:=hid (bnext HB4.out hb5);have HRE:=hid (HR.out.trans (NM.pR_4e HD0.out rfl (NM.pH_e2 HD1.out (by have:=H100.out;omega) HM.out hne) hne));have HE:=hid hne;have hne':(e2 != 0)=true:=bne_t hne;clear hne hb5 HR HD0 HD1 HM HX4 HZ4 HB4 HQ hcut;obtain ⟨C,hC⟩:∃ C,C=mcell ({k:=4,fr,tx,cf,ct}:Ms) ({cf:=.slice ca cf.length cc,ct:=.slice da ct.length dc}:Mv):=⟨_,rfl⟩
  have hx:w5.heap[w.heap.size]? = some (.cells C 33 (0,0)):=by rw [hC];exact HX5.out
  have hsz:C.size=18:=by rw [hC];rfl
  have hsc:=run_storeCells_row w5 (w.heap.size+1) 33 _ C HZ5.out (by rw [hC];rfl) (by rw [hC];simp [mcell,Value.oneCell']);have HC:=hid hC;clear hC;go_upto_region 15 with fail
  go_wp2_with (refine wpList_load_row rfl 33 _ rfl w.heap.size rfl 33 C (0,0) _ hx Tryz.underlying33 rfl (by rw [hsz];kernel_rfl) ?_)
  refine msgRet3 (m:=({k:=4,fr,tx,cf,ct}:Ms)) (x:=({cf:=.slice ca cf.length cc,ct:=.slice da ct.length dc}:Mv)) rfl rfl rfl rfl (by rw [HC.out];exact HZ5.out.put _ _) rfl ⟨({cf:=.slice ca cf.length cc,ct:=.slice da ct.length dc}:Mv),({k:=4,fr,tx,cf,ct}:Ms),0,?_,?_,⟨⟨_,_,_,rfl⟩,⟨_,_,_,rfl⟩,⟨_,_,_,rfl⟩,⟨_,_,_,rfl⟩,⟨_,_,_,rfl⟩,⟨_,_,_,rfl⟩,⟨_,_,_,rfl⟩,⟨_,_,_,rfl⟩,⟨_,_,_,rfl⟩⟩,?_⟩
  ·first | (rw [HRE.out];done) | (rw [HRE.out];rfl)
  ·rw [HRE.out];intro h;exact absurd h HE.out
  ·exact seen HB5.out (by omega) (onlyRow _ _ _)
 have HX5:=hid (HX4.out.below hb5);have HZ5:=hid (HZ4.out.below hb5);have HB5:=hid (bnext HB4.out hb5);replace HO1:=hid (HO1.out.below hb5);replace HO2:=hid (HO2.out.below hb5);have HL:=hid (hoh.mono HS4.out);have HS5:=hid (show w0.heap.size<=w5.heap.size by have:=HS4.out;have:=hb5.size;omega);obtain ⟨hda,hdc,rfl⟩:∃ a c,lv = .slice a (2*m) c:=by obtain ⟨a,c,h,_⟩:=hoh.rd.shape;rw [HML.out] at h;exact ⟨a,c,h⟩
 obtain ⟨ps,hps⟩:∃ ps,ps=NM.pairs l:=⟨_,rfl⟩
 have HPL:=hid (show ps.length=m by rw [hps];exact NM.pairs_len m l HML.out);have HPG:=hid (show ∀ (j:Nat) (a b:Int),ps[j]? = some (a,b)->l[2*j]? = some a/\l[2*j+1]? = some b by rw [hps];exact NM.pairs_get l);have HRE:=hid (HR.out.trans (NM.pR_4 HD0.out rfl (NM.pH_ok HD1.out (by have:=H100.out;omega) HM.out)));rw [<- hps] at HRE;have HUU:=hid (show u0+u1+u2<=xs.length by have:=HU.out;have:=HL1.out;have:=HMU.out;omega);clear hb5 hoh HR HD0 HD1 HM HX4 HZ4 HB4 HQ hcut hps HS4;go_wp2
 go_loopw [14] (fun i wr=>∃ (j:Nat) (hv:Value),j<=m/\i = .int .i64 j/\Hid (MB wr w.heap.size ({k:=4,fr,tx,cf,ct,hv:=ps.take j}:Ms) ({cf:=.slice ca cf.length cc,ct:=.slice da ct.length dc,hv}:Mv))/\Hid (MB wr (w.heap.size+1) ({}:Ms) ({}:Mv))/\Hid (OwnHv w5.heap.size wr hv (ps.take j))/\Hid (Only w.heap.size w5 wr)/\Hid (Below w.heap.size w wr)) (fun i _=>m - (intOf i).toNat)
 case atStart=>exact ⟨0,_,Nat.zero_le _,rfl,HX5.out,HZ5.out,OwnG.nil hlEn _ _ _,Only.refl _ _,HB5.out⟩
 case round=>
  obtain ⟨j,hv,hj,rfl,hx,hz,ho,hon,hbl⟩:=hrel;clear HX5 HZ5 HB5;by_cases hlt:j<m
  case neg=>
   obtain rfl:j=m:=by omega
   have hq:¬ (j:Int)<(j:Int):=by omega
   have htk:ps.take j=ps:=List.take_of_length_le (by rw [HPL.out];exact Nat.le_refl _);rw [htk] at hx ho;obtain ⟨ha',hc',rfl,_⟩:=ho.out.rd.shape;have hsum2:(u0:Int)+(u1:Int)+(u2:Int)<=9223372036854775807:=by have:=HU.out;have:=HUU.out;omega
   have P1:=hid (HO1.out.only hon.out (by have:=HG.out;omega));have P2:=hid (HO2.out.only hon.out (by have:=HG.out;omega));clear htk;obtain ⟨C,hC⟩:∃ C,C=mcell ({k:=4,fr,tx,cf,ct,hv:=ps}:Ms) ({cf:=.slice ca cf.length cc,ct:=.slice da ct.length dc,hv:=.slice ha' ps.length hc'}:Mv):=⟨_,rfl⟩
   have hx:wr.heap[w.heap.size]? = some (.cells C 33 (0,0)):=by rw [hC];exact hx.out
   have hsz:C.size=18:=by rw [hC];rfl
   have hsc:=run_storeCells_row wr (w.heap.size+1) 33 _ C hz.out (by rw [hC];rfl) (by rw [hC];simp [mcell,Value.oneCell']);have HC:=hid hC;clear hC;go_upto_region 20 with fail
   go_wp2_with (refine wpList_load_row rfl 33 _ rfl w.heap.size rfl 33 C (0,0) _ hx Tryz.underlying33 rfl (by rw [hsz];kernel_rfl) ?_)
   refine msgRet3 (m:=({k:=4,fr,tx,cf,ct,hv:=ps}:Ms)) (x:=({cf:=.slice ca cf.length cc,ct:=.slice da ct.length dc,hv:=.slice ha' ps.length hc'}:Mv)) rfl rfl rfl rfl (by rw [HC.out];exact hz.out.put _ _) rfl ⟨({cf:=.slice ca cf.length cc,ct:=.slice da ct.length dc,hv:=.slice ha' ps.length hc'}:Mv),({k:=4,fr,tx,cf,ct,hv:=ps}:Ms),(u0:Int)+(u1:Int)+(u2:Int),?_,?_,⟨⟨_,_,_,rfl⟩,⟨_,_,_,rfl⟩,⟨_,_,_,rfl⟩,⟨_,_,_,rfl⟩,⟨_,_,_,rfl⟩,⟨_,_,_,rfl⟩,⟨_,_,_,rfl⟩,⟨_,_,_,rfl⟩,⟨_,_,_,rfl⟩⟩,?_⟩
   ·rw [HRE.out]
   ·rw [HRE.out];intro _;refine ⟨by show (u0:Int)+(u1:Int)+(u2:Int)=((u0+(u1+u2):Nat):Int);omega,⟨(P1.out.only (onlyRow _ _ _) HG.out).mono (by have:=HG.out;omega),(P2.out.only (onlyRow _ _ _) HG.out).mono (by have:=HG.out;omega),OwnR.nil _ _,OwnR.nil _ _,OwnR.nil _ _,OwnR.nil _ _,OwnR.nil _ _,ST.OwnR.nil _ _,ownV_of ((OwnG.only ho.out (onlyRow _ _ _) (by have:=HG.out;have:=HS5.out;omega)).mono (by have:=HG.out;have:=HS5.out;omega))⟩,rfl⟩
   ·exact seen hbl.out (by omega) (onlyRow _ _ _)
  have hq:(j:Int)<(m:Int):=by omega
  obtain ⟨⟨a,b⟩,hat⟩:∃ y,ps[j]? = some y:=⟨_,List.getElem?_eq_getElem (show j<ps.length by rw [HPL.out];exact hlt)⟩
  obtain ⟨g0,g1⟩:=HPG.out j a b hat
  have htk:ps.take (j+1)=ps.take j ++ [(a,b)]:=by rw [List.take_add_one,hat];rfl
  have hjl:(ps.take j).length=j:=by rw [List.length_take,HPL.out];exact Nat.min_eq_left (by omega)
  obtain ⟨ah,ch,rfl,_⟩:=ho.out.rd.shape;rw [hjl] at hx ho;have hsm1 : -9223372036854775808<=2*(j:Int):=by omega
  have hsm2:2*(j:Int)+1<=9223372036854775807:=by have:=H100.out;omega
  have hw2:IntKind.i64.wrap (2*(j:Int))=2*(j:Int):=IntWalk.i64_in _ (by have:=H100.out;omega);have hw3:IntKind.i64.wrap (2*(j:Int)+1)=2*(j:Int)+1:=IntWalk.i64_in _ (by have:=H100.out;omega);have hS0:OwnI w0.heap.size wr (.slice hda (2*m) hdc) l:=OwnG.only HL.out hon.out (by have:=HG.out;omega);obtain ⟨bx0,ox0,hi0,_,_⟩:=atI hS0.rd (2*j) a g0;obtain ⟨bx1,ox1,hi1,_,_⟩:=atI hS0.rd (2*j+1) b g1;have hj0:=hi0;have hj1:=hi1;rw [show ((2*j:Nat):Int)=2*(j:Int) by omega] at hj0;rw [show ((2*j+1:Nat):Int)=2*(j:Int)+1 by omega] at hj1;have G0:=hid g0;have G1:=hid g1;have HI0:=hid hi0;have HI1:=hid hi1;have HTK:=hid htk;clear hat g0 g1 hi0 hi1 htk hjl;go_wp2
  replace hS0:OwnI w0.heap.size wr.drew (.slice hda (2*m) hdc) l:=hS0.drewN 1;refine wp_region_held_drew (S:=fun w'=>OwnI w0.heap.size w' (.slice hda (2*m) hdc) l) (by kernel_rfl) hS0 (fun _=>?_);replace hx:=hid (show MB wr.drew w.heap.size ({k:=4,fr,tx,cf,ct,hv:=ps.take j}:Ms) ({cf:=.slice ca cf.length cc,ct:=.slice da ct.length dc,hv:=.slice ah j ch}:Mv) from hx.out);replace hz:=hid (show MB wr.drew (w.heap.size+1) ({}:Ms) ({}:Mv) from hz.out);replace ho:=hid (show OwnHv w5.heap.size wr.drew (.slice ah j ch) (ps.take j) from ho.out.drewN 1);replace hon:=hid (show Only w.heap.size w5 wr.drew from hon.out.trans (Only.drewN _ _ 1));replace hbl:=hid (show Below w.heap.size w wr.drew from hbl.out.drew);generalize wr.drew=wq at hS0 hx hz ho hon hbl ⊢;refine takeJ 0 ?_;refine takeJ 2 ?_;refine takeJ 3 ?_;refine takeJ 4 ?_;refine takeG 5 (v:=?_) ?_ ?_;rotate_left
  ·(intro w hSw;(try dsimp only at hSw);have hcx:=hj0;go_simp;first | done | with_reducible rfl)
  (try simp only [Act.put,lTA,lZ,lS]);refine takeG 6 (v:=?_) ?_ ?_;rotate_left
  ·(intro w hSw;(try dsimp only at hSw);have hcx:=atI_cell hSw.rd (2*j) a G0.out HI0.out;go_simp;first | done | with_reducible rfl)
  (try simp only [Act.put,lTA,lZ,lS]);refine takeJ 7 ?_;refine takeJ 8 ?_;refine takeJ 9 ?_;refine takeJ 10 ?_;refine takeG 11 (v:=?_) ?_ ?_;rotate_left
  ·(intro w hSw;(try dsimp only at hSw);have hcx:=hj1;go_simp;first | done | with_reducible rfl)
  (try simp only [Act.put,lTA,lZ,lS]);refine takeG 12 (v:=?_) ?_ ?_;rotate_left
  ·(intro w hSw;(try dsimp only at hSw);have hcx:=atI_cell hSw.rd (2*j+1) b G1.out HI1.out;go_simp;first | done | with_reducible rfl)
  (try simp only [Act.put,lTA,lZ,lS]);refine takeJ 13 ?_;refine wpAnyH_ready (rs:=[1,14]) (by kernel_rfl) (by simp) ?_;refine stepH rfl (fun K hK=>?_) (stepH rfl (fun K hK=>?_) AllReadyH.nil)
  ·have hcl:=hx.out.cells.2.2.2.2.2.2.2.2.2.2.2.2.2.2.2.2.1;dsimp only at hcl;go_simp
   refine hK.out _ _ hS0 (fun _=>?_);clear hK K;(try simp only [Act.put,lTA,lZ,lS]);refine wpAnyH_ready (rs:=[14]) (by kernel_rfl) (by simp) ?_;refine stepH rfl (fun K hK=>?_) AllReadyH.nil;go_simp
   refine hK.out _ _ (hS0.below (below_fresh _ _)) (fun _=>?_);clear hK K;(try simp only [Act.put,lTA,lZ,lS]);refine wpAnyH_ready (rs:=[15]) (by kernel_rfl) (by simp) ?_;refine stepH rfl (fun K hK=>?_) AllReadyH.nil;refine step_appG1 entHv (a,b) rfl _ _ rfl rfl ho.out rfl (by rw [List.length_take];have:=H100.out;omega) (by have:=hon.out.size;exact this) ?_;intro v6 w6 ho6' hl6' _;have hl6:Below w5.heap.size wq w6:=hl6';have ho6:OwnHv w5.heap.size w6 v6 (ps.take (j+1)):=by rw [HTK.out];exact ho6'
   obtain ⟨av6,cv6,rfl,_⟩:∃ a c,v6 = .slice a (j+1) c/\True:=by obtain ⟨a,c,h,_⟩:=ho6.rd.shape;rw [List.length_take,HPL.out,Nat.min_eq_left (by omega)] at h;exact ⟨a,c,h,trivial⟩
   have hx6:=mb_low hx.out hl6 (by have:=HG.out;have:=HS5.out;omega);have hz6:=mb_low hz.out hl6 (by have:=HG.out;have:=HS5.out;omega);have hS6:OwnI w0.heap.size w6 (.slice hda (2*m) hdc) l:=OwnG.only HL.out (only_low hon.out hl6) (by have:=HG.out;omega);clear ho6';refine hK.out _ _ hS6 (fun _=>?_);clear hK K;(try simp only [Act.put,lTA,lZ,lS]);refine takeJ 16 ?_;obtain ⟨x16,f16⟩:=(And.intro hx6.cells.2.2.2.2.2.2.2.2.2.2.2.2.2.2.2.2.1 (hx6.free 16))
   dsimp only at x16;obtain ⟨w7,hw7⟩:∃ w7,w6.setCell ⟨w.heap.size,16,none⟩ (.slice av6 (j+1) cv6)=w7:=⟨_,rfl⟩
   have ho7:Only w.heap.size w6 w7:=by rw [<- hw7];exact Only.set 16 _
   have hS7:OwnI w0.heap.size w7 (.slice hda (2*m) hdc) l:=OwnG.only hS6 ho7 (by have:=HG.out;omega);refine wpAnyH_ready (rs:=[17]) (by kernel_rfl) (by simp) ?_;refine stepH rfl (fun K hK=>?_) AllReadyH.nil;go_simp
   refine hK.out _ _ hS7 (fun _=>?_);clear hK K;refine wpAnyH_done (by kernel_rfl) ?_ _;have HX7:=hid (show MB w7 w.heap.size ({k:=4,fr,tx,cf,ct,hv:=ps.take (j+1)}:Ms) ({cf:=.slice ca cf.length cc,ct:=.slice da ct.length dc,hv:=.slice av6 (j+1) cv6}:Mv) by rw [<- hw7];exact hx6.setHv (ps.take (j+1)) _);have HZ7:=hid (hz6.only ho7 (by omega));have HE7:=hid (OwnG.only ho6 ho7 (by have:=HG.out;have:=HS5.out;omega));have HN7:=hid ((only_low hon.out hl6).trans ho7);have HB7:=hid (seen (below_low hbl.out hl6 (by have:=HG.out;have:=HS5.out;omega)) (Nat.le_refl _) ho7);clear x16 f16 hw7 ho7 hS6 hS7 ho6 hl6 hx6 hz6 hx hz ho hon hbl hS0 hj0 hj1;go_wp2
   go_roundw
   case rel=>exact ⟨j+1,_,by omega,by go_num,HX7,HZ7,HE7,HN7,HB7⟩
   case measure=>simp [intOf];omega
  ·go_simp
   refine hK.out _ _ (hS0.below (below_fresh _ _)) (fun _=>?_);clear hK K;(try simp only [Act.put,lTA,lZ,lS]);refine wpAnyH_ready (rs:=[1]) (by kernel_rfl) (by simp) ?_;refine stepH rfl (fun K hK=>?_) AllReadyH.nil;have hcl:=below_cell (below_fresh wq (.cells #[.int .i64 a,.int .i64 b] 110)) (show wq.cell? ⟨w.heap.size,16,none⟩=some (.slice ah j ch) from hx.out.cells.2.2.2.2.2.2.2.2.2.2.2.2.2.2.2.2.1);go_simp
   refine hK.out _ _ (hS0.below (below_fresh _ _)) (fun _=>?_);clear hK K;(try simp only [Act.put,lTA,lZ,lS]);refine wpAnyH_ready (rs:=[15]) (by kernel_rfl) (by simp) ?_;refine stepH rfl (fun K hK=>?_) AllReadyH.nil;refine step_appG1 entHv (a,b) rfl _ _ rfl rfl ho.out rfl (by rw [List.length_take];have:=H100.out;omega) (by have:=hon.out.size;exact this) ?_;intro v6 w6 ho6' hl6' _;have hl6:Below w5.heap.size wq w6:=hl6';have ho6:OwnHv w5.heap.size w6 v6 (ps.take (j+1)):=by rw [HTK.out];exact ho6'
   obtain ⟨av6,cv6,rfl,_⟩:∃ a c,v6 = .slice a (j+1) c/\True:=by obtain ⟨a,c,h,_⟩:=ho6.rd.shape;rw [List.length_take,HPL.out,Nat.min_eq_left (by omega)] at h;exact ⟨a,c,h,trivial⟩
   have hx6:=mb_low hx.out hl6 (by have:=HG.out;have:=HS5.out;omega);have hz6:=mb_low hz.out hl6 (by have:=HG.out;have:=HS5.out;omega);have hS6:OwnI w0.heap.size w6 (.slice hda (2*m) hdc) l:=OwnG.only HL.out (only_low hon.out hl6) (by have:=HG.out;omega);clear ho6';refine hK.out _ _ hS6 (fun _=>?_);clear hK K;(try simp only [Act.put,lTA,lZ,lS]);refine takeJ 16 ?_;obtain ⟨x16,f16⟩:=(And.intro hx6.cells.2.2.2.2.2.2.2.2.2.2.2.2.2.2.2.2.1 (hx6.free 16))
   dsimp only at x16;obtain ⟨w7,hw7⟩:∃ w7,w6.setCell ⟨w.heap.size,16,none⟩ (.slice av6 (j+1) cv6)=w7:=⟨_,rfl⟩
   have ho7:Only w.heap.size w6 w7:=by rw [<- hw7];exact Only.set 16 _
   have hS7:OwnI w0.heap.size w7 (.slice hda (2*m) hdc) l:=OwnG.only hS6 ho7 (by have:=HG.out;omega);refine wpAnyH_ready (rs:=[17]) (by kernel_rfl) (by simp) ?_;refine stepH rfl (fun K hK=>?_) AllReadyH.nil;go_simp
   refine hK.out _ _ hS7 (fun _=>?_);clear hK K;refine wpAnyH_done (by kernel_rfl) ?_ _;have HX7:=hid (show MB w7 w.heap.size ({k:=4,fr,tx,cf,ct,hv:=ps.take (j+1)}:Ms) ({cf:=.slice ca cf.length cc,ct:=.slice da ct.length dc,hv:=.slice av6 (j+1) cv6}:Mv) by rw [<- hw7];exact hx6.setHv (ps.take (j+1)) _);have HZ7:=hid (hz6.only ho7 (by omega));have HE7:=hid (OwnG.only ho6 ho7 (by have:=HG.out;have:=HS5.out;omega));have HN7:=hid ((only_low hon.out hl6).trans ho7);have HB7:=hid (seen (below_low hbl.out hl6 (by have:=HG.out;have:=HS5.out;omega)) (Nat.le_refl _) ho7);clear x16 f16 hw7 ho7 hS6 hS7 ho6 hl6 hx6 hz6 hx hz ho hon hbl hS0 hj0 hj1;go_wp2
   go_roundw
   case rel=>exact ⟨j+1,_,by omega,by go_num,HX7,HZ7,HE7,HN7,HB7⟩
   case measure=>simp [intOf];omega
end Go.Proofs.YtahcehbgfhdbjaaGreatDoor

