/-
  NPl: joined texts, what nothing names left out.
-/
import Derived.Deep.RegionHeld3
import Derived.Test.YtahcehbgfhdbjaaGreatDoorQUA13
set_option maxHeartbeats 4000000
set_option maxRecDepth 100000
open Go.Lib (hid)
namespace Go.Proofs.YtahcehbgfhdbjaaGreatDoor
open Go.RowKit
open JM (St)
open CM (Fp)
open WM (enc dec Bytes)
theorem Only.ge {g P:Nat} {w w' w2:World} (h:Only g w w') (k:Only P w' w2) (hP:w.heap.size<=P):Only g w w2:=
 ⟨k.os.trans h.os,k.tape.trans h.tape,k.output.trans h.output,Nat.le_trans h.size k.size,fun i hi hne=>(k.block i (Nat.lt_of_lt_of_le hi h.size) (by omega)).trans (h.block i hi hne)⟩
theorem keepsX_only {B:Nat} {e:TypeId} {w w':World} {c:Array Value} {fr:Nat×Nat} (h:w.heap[B]? = some (.cells c e fr)) (ho:Only B w w'):KeepsX e w w':=by
 intro k hk hne;by_cases e1:k=B
 ·subst e1;exact absurd h (hne c fr)
 ·exact ho.block k hk e1
theorem OwnR.keepX {base:Nat} {e:TypeId} {w w':World} {v:Value} {fs:List Fp} (h:OwnR base w v fs) (hk:KeepsX e w w') (h1:93≠e) (h2:89≠e):OwnR base w' v fs:=by
 obtain ⟨qs,a1,a2⟩:=h;exact ⟨qs,ownG_keep a1 hk h1,a2.keepX hk h2⟩
theorem stp_run {α:Type} (P:NM.Par α) (d:α) (xs:List Int) (u:Nat):NM.stp P d xs (u,0)=((P (xs.drop u)).2.2,(u+(P (xs.drop u)).2.1,(P (xs.drop u)).1)):=if_neg (by simp)
theorem stp_no {α:Type} (P:NM.Par α) (d:α) (xs:List Int) (u:Nat) (e:Int) (h:e≠0):NM.stp P d xs (u,e)=(d,(u,e)):=if_pos h
theorem rdStopB (g:Nat) (v:Value) (u:Nat) (er:Int) (w:World) (hb:RdrB w g v (u,er)) (he:er≠0) (f:Value) :
  Calls Tryz.prog 126 #[.pointer (some ⟨g,0,none⟩),f] w fun e w'=>e = .returned (.bool false)/\RdrB w' g v (u,er)/\Only g w w':=by
 obtain ⟨c0,c1,c2,f0,f1,f2⟩:=hb.cells;have hne:(er != 0)=true:=bne_t he;have HB:=hid hb;simp only at c1 c2;clear he hb;go_enter Tryz.func126,Tryz.ntmps126
 go_wp2
 go_ret;exact ⟨rfl,HB.out,Only.refl _ _⟩
theorem rdReadB (g:Nat) (v v2:Value) (xs:List Int) (u:Nat) (w:World) (hb:RdrB w g v (u,0)) (h:Rd w v xs) (F:FuncId) (X:Bool) (N:Nat) (E:Int)
  (hcut:∀ w0:World,(Instr.slice 39 v (some (.int .i64 (u:Int))) none none).run Tryz.prog w0 = .ok v2 w0)
  (eF:∀ args w,(callFunc F args).run Tryz.prog w = .ok (.enter F args) w)
  (hD:∀ n,Calls Tryz.prog F #[v2] (w.drewN n) fun e w'=>e = .returned (.tuple #[.bool X,.int .i64 (N:Int),.int .i64 E]) /\ ∃ k,w'=w.drewN k)
  (hle:u+N<=xs.length) :
  Calls Tryz.prog 126 #[.pointer (some ⟨g,0,none⟩),.func (.func F) #[] #[]] w fun e w'=>e = .returned (.bool X)/\RdrB w' g v (u+N,E)/\Only g w w':=by
 obtain ⟨ad,cp,rfl,hcp⟩:=h.shape;obtain ⟨c0,c1,c2,f0,f1,f2⟩:=hb.cells;have hxl:xs.length<=9223372036854775807:=by
  obtain ⟨_,_,_,_,hn1,hn2,hcm,_⟩:=h;unfold maxLen at hcm;omega
 have HB:=hid hb;have HU:=hid hD;have hsum:=hid (show (u:Int)+(N:Int)=((u+N:Nat):Int) by omega);have HF:=hid (fun n=>((show RdrB (w.drewN n) g (.slice ad xs.length cp) (u,0) from HB.out).used (u+N)).fail E);simp only at c1 c2;have hw1:(u:Int)+(N:Int)<=9223372036854775807:=by omega
 clear h hb hcp hD;go_enter Tryz.func126,Tryz.ntmps126
 go_wp2
 go_quiet (first | (go_at_fn F;exact HU.out _))
 go_wp2
 rw [hsum.out];go_ret;exact ⟨rfl,HF.out _,((Only.drewN g w _).trans (Only.set 1 _)).trans (Only.set 2 _)⟩
theorem rdFlag (g:Nat) (v:Value) (xs:List Int) (s:St) (w:World) (hb:RdrB w g v s) (h:Rd w v xs) (hu:s.1<=xs.length) :
  Calls Tryz.prog 86 #[.pointer (some ⟨g,0,none⟩)] w fun e w'=>e = .returned (.bool (NM.stp NM.bl false xs s).1)/\RdrB w' g v (NM.stp NM.bl false xs s).2/\Only g w w':=by
 have HC:Hid (Calls Tryz.prog 126 #[.pointer (some ⟨g,0,none⟩),.func (.func 127) #[] #[]] w fun e w'=>e = .returned (.bool (NM.stp NM.bl false xs s).1)/\RdrB w' g v (NM.stp NM.bl false xs s).2/\Only g w w'):=by
  refine hid ?_;obtain ⟨u,er⟩:=s;by_cases he:er=0
  ·subst he;obtain ⟨ad,cp,rfl,hcp⟩:=h.shape;obtain ⟨v2,hcut,hrd⟩:=h.cutL u hu;have hHD:=fun n=>(wBool v2 _ (w.drewN n) hrd).mono (fun e w' (h:_/\_)=>(⟨h.1,n,h.2.symm⟩:_ /\ ∃ k,w'=w.drewN k))
   have hxd:(xs.drop u).length=xs.length - u:=List.length_drop;simp only at hu;rw [stp_run];have hN:((NM.bl (xs.drop u)).2.1:Int)=(decB (xs.drop u)).2.1/\u+(NM.bl (xs.drop u)).2.1<=xs.length:=by
    unfold NM.bl;cases hq:xs.drop u with
    | nil=>exact ⟨rfl,hu⟩
    | cons c l=>
     rw [hq] at hxd;simp only [List.length_cons] at hxd;unfold decB;dsimp only;by_cases h1:1<c
     ·simp only [if_pos h1];exact ⟨rfl,hu⟩
     ·simp only [if_neg h1];exact ⟨rfl,by show u+1<=_;omega⟩
   have:=rdReadB g _ v2 xs u w hb h 127 (NM.bl (xs.drop u)).2.2 (NM.bl (xs.drop u)).2.1 (NM.bl (xs.drop u)).1 hcut (fun _ _=>rfl) (fun n=>by rw [hN.1];exact hHD n) hN.2;exact this
  ·rw [stp_no _ _ _ _ _ he];exact rdStopB g v u er w hb he _
 clear hb h hu;generalize NM.stp NM.bl false xs s=p at HC;obtain ⟨x,s'⟩:=p;go_enter Tryz.func86,Tryz.ntmps86
 go_wp2_with fail
 refine HC.out.mono ?_;rintro e w1 ⟨rfl,hr,ho⟩;clear HC;go_wp2
 go_ret;exact ⟨rfl,hr,ho⟩
theorem rdCountM (most:Int) (g:Nat) (v:Value) (xs:List Int) (s:St) (w:World) (hb:RdrB w g v s) (h:Rd w v xs) (hu:s.1<=xs.length) :
  Calls Tryz.prog 129 #[.pointer (some ⟨g,0,none⟩),.int .i64 most] w fun e w'=>e = .returned (.int .i64 (NM.cnt most xs s).1)/\RdrB w' g v (NM.cnt most xs s).2/\Only g w w':=by
 have HN:=hid (rdNumber g v xs s w hb h hu);unfold NM.cnt;generalize JM.step xs s=p at HN;obtain ⟨x,s'⟩:=p;clear hb h hu;by_cases hx:most<x
 ·simp only [if_pos hx];go_enter Tryz.func129,Tryz.ntmps129
  go_wp2_with fail
  refine HN.out.mono ?_;rintro e w1 ⟨rfl,hr,ho⟩;obtain ⟨u,er⟩:=s';have c0:=hr.cells;obtain ⟨c0,c1,c2,f0,f1,f2⟩:=c0;have HF:=hid (RdrB.fail hr 3);have HO:=hid ho;clear hr ho HN;go_wp2
  go_ret;exact ⟨rfl,HF.out,HO.out.trans (Only.set 2 _)⟩
 ·simp only [if_neg hx];have hx:decide (most<x)=false:=decide_eq_false hx;go_enter Tryz.func129,Tryz.ntmps129
  go_wp2_with fail
  refine HN.out.mono ?_;rintro e w1 ⟨rfl,hr,ho⟩;clear HN;go_wp2
  go_ret;exact ⟨rfl,hr,ho⟩
theorem rdStopC (g:Nat) (v:Value) (u:Nat) (er:Int) (w:World) (hb:RdrB w g v (u,er)) (he:er≠0) (f:Value) :
  Calls Tryz.prog 87 #[.pointer (some ⟨g,0,none⟩),f] w fun e w'=>e = .returned (.slice none 0 0)/\RdrB w' g v (u,er)/\Only g w w':=by
 obtain ⟨c0,c1,c2,f0,f1,f2⟩:=hb.cells;have hne:(er != 0)=true:=bne_t he;have HB:=hid hb;simp only at c1 c2;clear he hb;go_enter Tryz.func87,Tryz.ntmps87
 go_wp2
 go_ret;exact ⟨rfl,HB.out,Only.refl _ _⟩
theorem rdConf (g:Nat) (v:Value) (xs:List Int) (s:St) (w:World) (hb:RdrB w g v s) (h:Rd w v xs) (hu:s.1<=xs.length) :
  Calls Tryz.prog 87 #[.pointer (some ⟨g,0,none⟩),.func (.func 88) #[] #[]] w fun e w'=>∃ a,e = .returned a/\OwnR w.heap.size w' a (NM.stp CM.decL [] xs s).1/\RdrB w' g v (NM.stp CM.decL [] xs s).2/\Only g w w':=by
 obtain ⟨u,er⟩:=s;by_cases he:er=0
 case neg=>
  rw [stp_no _ _ _ _ _ he];refine (rdStopC g v u er w hb he _).mono ?_;rintro e w' ⟨rfl,hr,ho⟩;exact ⟨_,rfl,OwnR.nil _ _,hr,ho⟩
 subst he;rw [stp_run];simp only at hu;have hgl:g<w.heap.size:=(Array.getElem?_eq_some_iff.1 hb).1;obtain ⟨c0,c1,c2,f0,f1,f2⟩:=hb.cells;simp only at c1 c2;have hxl:=rd_len64 h;have hus:=CM.decL_used (xs:=xs.drop u) (fun c hc=>h.bytes c (List.mem_of_mem_drop hc));rw [List.length_drop] at hus;obtain ⟨ad,cp,rfl,hcp⟩:=h.shape;obtain ⟨v2,hcut,hrd⟩:=h.cutL u hu;have HD:=hid (fun w' (q:Below w.heap.size w w')=>gDecodeCO v2 _ w' (hrd.below q));generalize CM.decL (xs.drop u)=R at HD hus ⊢;obtain ⟨E,N,fs⟩:=R;dsimp only at HD hus ⊢;have hsum:=hid (show (u:Int)+(N:Int)=((u+N:Nat):Int) by omega);have hw1:(u:Int)+(N:Int)<=9223372036854775807:=by omega
 have HB:=hid hb;have HGL:=hid hgl;obtain ⟨a2,l2,c2',rfl⟩:∃ a l c,v2 = .slice a l c:=by obtain ⟨a,c,h,_⟩:=hrd.shape;exact ⟨a,_,c,h⟩
 clear h hb hcp hrd hus hxl hgl hu;go_enter Tryz.func87,Tryz.ntmps87
 go_wp2
 refine wp_region_held_drew (S:=fun w'=>Below w.heap.size w w') (by kernel_rfl) ((Below.refl _ _).drew) (fun ha=>?_);replace ha:Below w.heap.size w w.drew:=(Below.refl _ _).drew;generalize w.drew=wa at ha ⊢;refine takeJ 0 ?_;refine takeJ 1 ?_;refine takeJ 2 ?_;refine takeJ 3 ?_;refine takeJ 5 ?_;refine takeJ 6 ?_;refine takeJ 7 ?_;refine takeG 4 (v:=?_) ?_ ?_;rotate_left
 ·(intro w hSw;(try dsimp only at hSw);have hcx:=below_cell hSw c0;go_simp;first | done | with_reducible rfl)
 (try simp only [Act.put,lTA,lZ,lS]);refine takeG 8 (v:=?_) ?_ ?_;rotate_left
 ·(intro w hSw;(try dsimp only at hSw);have hcx:=below_cell hSw c1;go_simp;first | done | with_reducible rfl)
 (try simp only [Act.put,lTA,lZ,lS]);refine takeJ 9 ?_;refine wpAnyH_ready (rs:=[10]) (by kernel_rfl) (by simp) ?_;refine stepH rfl (fun K hK=>?_) AllReadyH.nil;go_simp
 refine (HD.out wa ha).mono ?_;rintro e wb ⟨sv,rfl,hos,hq⟩;replace hos:=hos.mono ha.size;have hb:=bnext ha hq;go_wp2_with fail
 refine hK.out _ _ (hb) (fun _=>?_);clear hK K;(try simp only [Act.put,lTA,lZ,lS]);refine takeJ 11 ?_;refine takeJ 12 ?_;refine takeJ 13 ?_;refine takeJ 14 ?_;refine takeJ 15 ?_;refine takeJ 16 ?_;refine takeJ 17 ?_;refine wpAnyH_done (by kernel_rfl) ?_ _;have HOS:=hid hos;have hrb:=below_block HB.out hb;have hrr:RdrB wb g (.slice ad xs.length cp) (u,0):=hrb;obtain ⟨d0,d1,d2,g0,g1,g2⟩:=hrr.cells;simp only at d1 d2;have HR2:=hid ((hrr.used (u+N)).fail E);have HBB:=hid hb;obtain ⟨sa,sl,sc,rfl⟩:∃ a l c,sv = .slice a l c:=by obtain ⟨a,c,h,_⟩:=hos.rd.shape;exact ⟨a,_,c,h⟩
 clear c0 c1 c2 f0 f1 f2 hq ha hb hos hrb hrr;go_wp2
 rw [hsum.out];go_ret;exact ⟨_,rfl,(HOS.out.only (Only.set 1 _) HGL.out).only (Only.set 2 _) HGL.out,HR2.out,((Only.of HBB.out).trans (Only.set 1 _)).trans (Only.set 2 _)⟩
theorem rdCert (g:Nat) (v:Value) (xs:List Int) (s:St) (w:World) (hb:RdrB w g v s) (h:Rd w v xs) (hu:s.1<=xs.length) :
  Calls Tryz.prog 84 #[.pointer (some ⟨g,0,none⟩),.func (.func 85) #[] #[]] w fun e w'=>∃ a b,e = .returned (cev a b)/\OwnR w.heap.size w' a (NM.stp CM.decC NM.cx0 xs s).1.1/\OwnR w.heap.size w' b (NM.stp CM.decC NM.cx0 xs s).1.2/\RdrB w' g v (NM.stp CM.decC NM.cx0 xs s).2/\Only g w w':=by
 obtain ⟨u,er⟩:=s;have hgl:g<w.heap.size:=(Array.getElem?_eq_some_iff.1 hb).1;have hb0:=below_fresh w (.cells #[.slice none 0 0,.slice none 0 0] 27);have hP0:=XB.fresh w (.slice none 0 0) (.slice none 0 0);have hs0:=World.size_alloc w (.cells #[.slice none 0 0,.slice none 0 0] 27);obtain ⟨w0,hw0⟩:∃ z,w.alloc (.cells #[.slice none 0 0,.slice none 0 0] 27)=z:=⟨_,rfl⟩
 rw [hw0] at hb0 hP0 hs0;have hrb:RdrB w0 g v (u,er):=below_block hb hb0;have HW:=hid hw0;by_cases he:er=0
 case neg=>
  rw [stp_no _ _ _ _ _ he];obtain ⟨c0,c1,c2,f0,f1,f2⟩:=hrb.cells;have hne:(er != 0)=true:=bne_t he;simp only at c1 c2;have hb1:=below_fresh w0 (.cells #[.slice none 0 0,.slice none 0 0] 27);have hZ1:=XB.fresh w0 (.slice none 0 0) (.slice none 0 0);have hs1:=World.size_alloc w0 (.cells #[.slice none 0 0,.slice none 0 0] 27);obtain ⟨w1,hw1⟩:∃ z,w0.alloc (.cells #[.slice none 0 0,.slice none 0 0] 27)=z:=⟨_,rfl⟩
  rw [hw1] at hb1 hZ1 hs1;have HW1:=hid hw1;have HP1:=hid (hP0.below hb1);have HRB:=hid (show RdrB w1 g v (u,er) from below_block hrb hb1);have HON:=hid (Only.of (g:=g) (bnext hb0 hb1));have HLT:=hid (Nat.ne_of_lt hgl);obtain ⟨G,hG⟩:∃ G,G=w0.heap.size:=⟨_,rfl⟩
  rw [<- hG] at hZ1;have HGG:=hid hG;have HZ1:=hid hZ1;clear he hb hrb hw0 hw1 h hu hb0 hb1 hP0 hs0 hs1 hZ1 hG hgl;go_enter Tryz.func84,Tryz.ntmps84
  go_upto_region 1 with fail
  rw [HW.out];go_upto_region 3 with fail
  rw [HW1.out,<- HGG.out];clear c0 c1 c2 f0 f1 f2;obtain ⟨z0,z1,_,_⟩:=HZ1.out.cells;obtain ⟨q0,q1,g0,g1⟩:=HP1.out.cells;go_wp2
  refine certRet rfl rfl (HP1.out.put (.slice none 0 0) (.slice none 0 0)) rfl ?_;exact ⟨_,_,rfl,OwnR.nil _ _,OwnR.nil _ _,(only2 _ _).at HRB.out HLT.out,HON.out.ge (only2 _ _) (Nat.le_refl _)⟩
 subst he;rw [stp_run];simp only at hu;obtain ⟨c0,c1,c2,f0,f1,f2⟩:=hrb.cells;simp only at c1 c2;have hxl:=rd_len64 h;have hus:=decC_used (xs:=xs.drop u) (fun c hc=>h.bytes c (List.mem_of_mem_drop hc));rw [List.length_drop] at hus;obtain ⟨ad,cp,rfl,hcp⟩:=h.shape;obtain ⟨v2,hcut,hrd⟩:=h.cutL u hu;have HD:=hid (fun w' (q:Below w0.heap.size w0 w')=>pDecodeO v2 _ w' ((hrd.below hb0).below q));generalize CM.decC (xs.drop u)=R at HD hus ⊢;obtain ⟨E,N,fs,ts⟩:=R;dsimp only at HD hus ⊢;have hsum:=hid (show (u:Int)+(N:Int)=((u+N:Nat):Int) by omega);have hw1:(u:Int)+(N:Int)<=9223372036854775807:=by omega
 have HRB:=hid hrb;have HP:=hid hP0;have HGL:=hid hgl;have HB0:=hid hb0;have HS0:=hid hs0;obtain ⟨a2,l2,c2',rfl⟩:∃ a l c,v2 = .slice a l c:=by obtain ⟨a,c,h,_⟩:=hrd.shape;exact ⟨a,_,c,h⟩
 clear h hb hcp hrd hus hxl hgl hu hb0 hP0 hs0 hw0 hrb;go_enter Tryz.func84,Tryz.ntmps84
 go_upto_region 1 with fail
 rw [HW.out];go_wp2
 refine wp_region_held_drew (S:=fun w'=>Below w0.heap.size w0 w') (by kernel_rfl) ((Below.refl _ _).drew) (fun ha=>?_);replace ha:Below w0.heap.size w0 w0.drew:=(Below.refl _ _).drew;generalize w0.drew=wa at ha ⊢;refine takeJ 0 ?_;refine takeJ 1 ?_;refine takeJ 2 ?_;refine takeJ 3 ?_;refine takeJ 5 ?_;refine takeJ 6 ?_;refine takeJ 7 ?_;refine takeG 4 (v:=?_) ?_ ?_;rotate_left
 ·(intro w hSw;(try dsimp only at hSw);have hcx:=below_cell hSw c0;go_simp;first | done | with_reducible rfl)
 (try simp only [Act.put,lTA,lZ,lS]);refine takeG 8 (v:=?_) ?_ ?_;rotate_left
 ·(intro w hSw;(try dsimp only at hSw);have hcx:=below_cell hSw c1;go_simp;first | done | with_reducible rfl)
 (try simp only [Act.put,lTA,lZ,lS]);refine takeJ 9 ?_;refine wpAnyH_ready (rs:=[10,15]) (by kernel_rfl) (by simp) ?_;refine stepH rfl (fun K hK=>?_) (stepH rfl (fun K hK=>?_) AllReadyH.nil);focus
  go_simp
  refine (HD.out wa ha).mono ?_;rintro e wb ⟨sv,tv,rfl,hos,hot,hq⟩;have hb:=bnext ha hq;go_wp2_with fail
  refine hK.out _ _ (hb) (fun _=>?_);clear hK K;(try simp only [Act.put,lTA,lZ,lS]);refine takeJ 11 ?_;refine takeJ 12 ?_;refine takeJ 13 ?_;refine takeJ 14 ?_;refine wpAnyH_ready (rs:=[15]) (by kernel_rfl) (by simp) ?_;refine stepH rfl (fun K hK=>?_) AllReadyH.nil;go_simp
  have hc:=bnext hb (below_fresh _ (.cells #[.slice none 0 0,.slice none 0 0] 27));have hz:=XB.fresh wb (.slice none 0 0) (.slice none 0 0);have hos:=(hos.mono ha.size).below (below_fresh wb (.cells #[.slice none 0 0,.slice none 0 0] 27));have hot:=(hot.mono ha.size).below (below_fresh wb (.cells #[.slice none 0 0,.slice none 0 0] 27));refine hK.out _ _ (hc) (fun _=>?_);clear hK K;(try simp only [Act.put,lTA,lZ,lS]);obtain ⟨wc ,hwc ⟩:∃ wc ,(wb).alloc (.cells #[.slice none 0 0,.slice none 0 0] 27)=wc :=⟨_,rfl⟩
  rw [hwc ] at hc hz hos hot ⊢;clear hwc;have hgB:=hb.size;generalize wb.heap.size=B at hz hgB ⊢;clear hq hb
 rotate_left;focus
  go_simp
  have hb:=bnext ha (below_fresh _ (.cells #[.slice none 0 0,.slice none 0 0] 27));have hz:=XB.fresh wa (.slice none 0 0) (.slice none 0 0);refine hK.out _ _ (hb) (fun _=>?_);clear hK K;(try simp only [Act.put,lTA,lZ,lS]);obtain ⟨wb ,hwb ⟩:∃ wb ,(wa).alloc (.cells #[.slice none 0 0,.slice none 0 0] 27)=wb :=⟨_,rfl⟩
  rw [hwb ] at hb hz ⊢;clear hwb;have hgB:=ha.size;refine wpAnyH_ready (rs:=[10]) (by kernel_rfl) (by simp) ?_;refine stepH rfl (fun K hK=>?_) AllReadyH.nil;go_simp
  refine (HD.out wb hb).mono ?_;rintro e wc ⟨sv,tv,rfl,hos,hot,hq⟩;have hc:=bnext hb hq;go_wp2_with fail
  refine hK.out _ _ (hc) (fun _=>?_);clear hK K;(try simp only [Act.put,lTA,lZ,lS]);refine takeJ 11 ?_;refine takeJ 12 ?_;refine takeJ 13 ?_;refine takeJ 14 ?_;replace hz:=hz.below hq;replace hos:=hos.mono hb.size;replace hot:=hot.mono hb.size;generalize wa.heap.size=B at hz hgB ⊢;clear hq hb
 all_goals
  obtain ⟨sa,sc,rfl,_,_⟩:=hos.shape;obtain ⟨ta,tc,rfl,_,_⟩:=hot.shape;obtain ⟨z0,z1,y0,y1⟩:=hz.cells;have hon:=only2 (w:=wc) (g:=B) (.slice sa fs.length sc) (.slice ta ts.length tc);have hkx:=keepsX_only hz hon;have hd:=hc.trans (hon.below hgB hc.size);have hox:=hz.put (.slice sa fs.length sc) (.slice ta ts.length tc);have hosx:=hos.keepX hkx (by decide) (by decide);have hotx:=hot.keepX hkx (by decide) (by decide);refine wpAnyH_ready (rs:=[16]) (by kernel_rfl) (by simp) ?_;refine stepH rfl (fun K hK=>?_) AllReadyH.nil;go_simp
  skip
  refine hK.out _ _ (hd) (fun _=>?_);clear hK K;(try simp only [Act.put,lTA,lZ,lS]);generalize (wc.setCell ⟨B,0,none⟩ (.slice sa fs.length sc)).setCell ⟨B,1,none⟩ (.slice ta ts.length tc)=wd at hd hox hosx hotx hon hkx ⊢;clear z0 z1 y0 y1 hz hos hot hon hkx;refine takeJ 17 ?_;refine takeJ 18 ?_;refine wpAnyH_done (by kernel_rfl) ?_ _;have HO:=hid hosx;have HT:=hid hotx;have HPD:=hid (HP.out.below hd);have HXD:=hid hox;have hrd0:RdrB wd g (.slice ad xs.length cp) (u,0):=below_block HRB.out hd;have HBD:=hid (Only.of (g:=g) (bnext HB0.out hd));have HGB:=hid (show g<w0.heap.size by have:=HS0.out;have:=HGL.out;omega);have HBB:=hid (show g≠B by have:=HS0.out;have:=HGL.out;omega);obtain ⟨d0,d1,d2,g0,g1,g2⟩:=hrd0.cells;simp only at d1 d2;have HR2:=hid ((hrd0.used (u+N)).fail E);clear c0 c1 c2 f0 f1 f2 ha hc hd hox hosx hotx hrd0 hgB;go_upto_region 7 with fail
  rw [hsum.out];have ho2:=(Only.set (g:=g) (w:=wd) 1 (.int .i64 ((u+N:Nat):Int))).trans (Only.set 2 (.int .i64 E));generalize (wd.setCell ⟨g,1,none⟩ (.int .i64 ((u+N:Nat):Int))).setCell ⟨g,2,none⟩ (.int .i64 E)=we at ho2 HR2 ⊢;have hxe:XB we B (.slice sa fs.length sc) (.slice ta ts.length tc):=ho2.at HXD.out (Ne.symm HBB.out);have hpe:XB we w.heap.size (.slice none 0 0) (.slice none 0 0):=ho2.at HPD.out (Ne.symm (Nat.ne_of_lt HGL.out));have HOE:=hid (HO.out.only ho2 HGB.out);have HTE:=hid (HT.out.only ho2 HGB.out);have HON:=hid (HBD.out.trans ho2);have HPE:=hid hpe;obtain ⟨z0,z1,_,_⟩:=hxe.cells;obtain ⟨q0,q1,k0,k1⟩:=hpe.cells;clear d0 d1 d2 g0 g1 g2 ho2 hxe hpe HO HT HPD HXD HBD;go_wp2
  refine certRet rfl rfl (HPE.out.put (.slice sa fs.length sc) (.slice ta ts.length tc)) rfl ?_;have hpk:=keepsX_only HPE.out (only2 (w:=we) (g:=w.heap.size) (.slice sa fs.length sc) (.slice ta ts.length tc));have hle:w.heap.size<=w0.heap.size:=by have:=HS0.out;omega
  exact ⟨_,_,rfl,(HOE.out.keepX hpk (by decide) (by decide)).mono hle,(HTE.out.keepX hpk (by decide) (by decide)).mono hle,(only2 _ _).at HR2.out (Nat.ne_of_lt HGL.out),HON.out.ge (only2 _ _) (Nat.le_refl _)⟩
theorem updRet {fn:Func} {p:Tmp} {R:Ending->World->Prop} {a:Act} {w:World} {g:Nat} {c q t:Int} {s:Value} (h:fn.results = #[.cell p 96]) (hp:a.tmps.getD p undef = .pointer (some ⟨g,0,none⟩)) (hg:OU w g c q t s)
  (hd:a.defers = []) (hR:R (.returned (uv c q t s)) w):bodyPost Tryz.prog fn R .ret a w:=
 bodyPost_ret (results_cell_row (P:=Tryz.prog) h a.tmps w g 96 _ _ _ hp hg Tryz.underlying96 rfl (by kernel_rfl)) hd hR
theorem decU_fit {xs:List Int} (hb:Bytes xs) (hl:xs.length<=maxLen):∀ e∈(UM.decU xs).2.2.2,NmFit e:=by
 obtain ⟨⟨x1,s1⟩,h1⟩:∃ p,JM.step xs (0,0)=p:=⟨_,rfl⟩
 obtain ⟨⟨x2,s2⟩,h2⟩:∃ p,JM.step xs s1=p:=⟨_,rfl⟩
 obtain ⟨⟨x3,s3⟩,h3⟩:∃ p,JM.step xs s2=p:=⟨_,rfl⟩
 obtain ⟨⟨x4,s4⟩,h4⟩:∃ p,JM.step xs s3=p:=⟨_,rfl⟩
 rw [UM.decU_run hb h1 h2 h3 h4];have hf:=efs_fit xs (if 4<x4 then (s4.1,3) else s4) hl (if 4<x4 then 0 else x4).toNat
 generalize UM.efs xs (if 4<x4 then (s4.1,3) else s4) (if 4<x4 then 0 else x4).toNat=L at hf ⊢;unfold UM.finU;by_cases e1:L.2.2=0
 ·rw [if_neg (fun k=>k e1)];by_cases e2:UM.errU x1 x2 x3 L.1=0
  ·rw [if_neg (fun k=>k e2)];exact hf
  ·rw [if_pos e2];intro e he;cases he
 ·rw [if_pos e1];intro e he;cases he
theorem rdUpd (g:Nat) (v:Value) (xs:List Int) (s:St) (w:World) (hT:Tb w) (hb:RdrB w g v s) (h:Rd w v xs) (hu:s.1<=xs.length) :
  Calls Tryz.prog 130 #[.pointer (some ⟨g,0,none⟩),.func (.func 131) #[] #[]] w fun e w'=>∃ a,e = .returned (uv (NM.stp NM.decUp NM.upZ xs s).1.1 (NM.stp NM.decUp NM.upZ xs s).1.2.1 (NM.stp NM.decUp NM.upZ xs s).1.2.2.1 a)/\OwnEf w.heap.size w' a (NM.stp NM.decUp NM.upZ xs s).1.2.2.2/\RdrB w' g v (NM.stp NM.decUp NM.upZ xs s).2/\Only g w w':=by
 obtain ⟨u,er⟩:=s;have hgl:g<w.heap.size:=(Array.getElem?_eq_some_iff.1 hb).1;have hb0:=below_fresh w (.cells #[.int .i64 0,.int .i64 0,.int .i64 0,.slice none 0 0] 96);have hP0:=OU.fresh w 0 0 0 (.slice none 0 0);have hs0:=World.size_alloc w (.cells #[.int .i64 0,.int .i64 0,.int .i64 0,.slice none 0 0] 96);obtain ⟨w0,hw0⟩:∃ z,w.alloc (.cells #[.int .i64 0,.int .i64 0,.int .i64 0,.slice none 0 0] 96)=z:=⟨_,rfl⟩
 rw [hw0] at hb0 hP0 hs0;have hrb:RdrB w0 g v (u,er):=below_block hb hb0;have HW:=hid hw0;by_cases he:er=0
 case neg=>
  rw [stp_no _ _ _ _ _ he];obtain ⟨c0,c1,c2,f0,f1,f2⟩:=hrb.cells;have hne:(er != 0)=true:=bne_t he;simp only at c1 c2;have hb1:=below_fresh w0 (.cells #[.int .i64 0,.int .i64 0,.int .i64 0,.slice none 0 0] 96);have hZ1:=OU.fresh w0 0 0 0 (.slice none 0 0);have hs1:=World.size_alloc w0 (.cells #[.int .i64 0,.int .i64 0,.int .i64 0,.slice none 0 0] 96);obtain ⟨w1,hw1⟩:∃ z,w0.alloc (.cells #[.int .i64 0,.int .i64 0,.int .i64 0,.slice none 0 0] 96)=z:=⟨_,rfl⟩
  rw [hw1] at hb1 hZ1 hs1;have HW1:=hid hw1;have HP1:=hid (hP0.below hb1);have HRB:=hid (show RdrB w1 g v (u,er) from below_block hrb hb1);have HON:=hid (Only.of (g:=g) (bnext hb0 hb1));have HLT:=hid (Nat.ne_of_lt hgl);obtain ⟨G,hG⟩:∃ G,G=w0.heap.size:=⟨_,rfl⟩
  rw [<- hG] at hZ1;have HGG:=hid hG;have HZ1:=hid hZ1;clear he hb hrb hw0 hw1 h hu hb0 hb1 hP0 hs0 hs1 hZ1 hG hgl;go_enter Tryz.func130,Tryz.ntmps130
  go_upto_region 1 with fail
  rw [HW.out];go_upto_region 3 with fail
  rw [HW1.out,<- HGG.out];clear c0 c1 c2 f0 f1 f2;obtain ⟨z0,z1,z2,z3,_⟩:=HZ1.out.cells;obtain ⟨q0,q1,q2,q3,g0,g1,g2,g3⟩:=HP1.out.cells;go_wp2
  refine updRet rfl rfl (HP1.out.put4 0 0 0 (.slice none 0 0)) rfl ?_;exact ⟨_,rfl,OwnG.nil efE.hl _ _ _,(only4 _ _ _ _).at HRB.out HLT.out,HON.out.ge (only4 _ _ _ _) (Nat.le_refl _)⟩
 subst he;rw [stp_run];simp only at hu;obtain ⟨c0,c1,c2,f0,f1,f2⟩:=hrb.cells;simp only at c1 c2;have hxl:=rd_len64 h;have hus:=UM.decU_used (xs:=xs.drop u) (fun c hc=>h.bytes c (List.mem_of_mem_drop hc));rw [List.length_drop] at hus;obtain ⟨ad,cp,rfl,hcp⟩:=h.shape;obtain ⟨v2,hcut,hrd⟩:=h.cutL u hu;have HD:=hid (fun w' (q:Below w0.heap.size w0 w')=>uDecodeO v2 _ w' ((hT.below hb0).below q) ((hrd.below hb0).below q));unfold NM.decUp;dsimp only;generalize UM.decU (xs.drop u)=R at HD hus ⊢;obtain ⟨E,N,⟨uc,uq,ut⟩,fs⟩:=R;dsimp only at HD hus ⊢;have hsum:=hid (show (u:Int)+(N:Int)=((u+N:Nat):Int) by omega);have hw1:(u:Int)+(N:Int)<=9223372036854775807:=by omega
 have HRB:=hid hrb;have HP:=hid hP0;have HGL:=hid hgl;have HB0:=hid hb0;have HS0:=hid hs0;obtain ⟨a2,l2,c2',rfl⟩:∃ a l c,v2 = .slice a l c:=by obtain ⟨a,c,h,_⟩:=hrd.shape;exact ⟨a,_,c,h⟩
 clear h hb hcp hrd hus hxl hgl hu hb0 hP0 hs0 hw0 hrb;go_enter Tryz.func130,Tryz.ntmps130
 go_upto_region 1 with fail
 rw [HW.out];go_wp2
 refine wp_region_held_drew (S:=fun w'=>Below w0.heap.size w0 w') (by kernel_rfl) ((Below.refl _ _).drew) (fun ha=>?_);replace ha:Below w0.heap.size w0 w0.drew:=(Below.refl _ _).drew;generalize w0.drew=wa at ha ⊢;refine takeJ 0 ?_;refine takeJ 1 ?_;refine takeJ 2 ?_;refine takeJ 3 ?_;refine takeJ 5 ?_;refine takeJ 6 ?_;refine takeJ 7 ?_;refine takeG 4 (v:=?_) ?_ ?_;rotate_left
 ·(intro w hSw;(try dsimp only at hSw);have hcx:=below_cell hSw c0;go_simp;first | done | with_reducible rfl)
 (try simp only [Act.put,lTA,lZ,lS]);refine takeG 8 (v:=?_) ?_ ?_;rotate_left
 ·(intro w hSw;(try dsimp only at hSw);have hcx:=below_cell hSw c1;go_simp;first | done | with_reducible rfl)
 (try simp only [Act.put,lTA,lZ,lS]);refine takeJ 9 ?_;refine wpAnyH_ready (rs:=[10,15]) (by kernel_rfl) (by simp) ?_;refine stepH rfl (fun K hK=>?_) (stepH rfl (fun K hK=>?_) AllReadyH.nil);focus
  go_simp
  refine (HD.out wa ha).mono ?_;rintro e wb ⟨sv,rfl,hos,hq⟩;have hb:=bnext ha hq;go_wp2_with fail
  refine hK.out _ _ (hb) (fun _=>?_);clear hK K;(try simp only [Act.put,lTA,lZ,lS]);refine takeJ 11 ?_;refine takeJ 12 ?_;refine takeJ 13 ?_;refine takeJ 14 ?_;refine wpAnyH_ready (rs:=[15]) (by kernel_rfl) (by simp) ?_;refine stepH rfl (fun K hK=>?_) AllReadyH.nil;go_simp
  have hc:=bnext hb (below_fresh _ (.cells #[.int .i64 0,.int .i64 0,.int .i64 0,.slice none 0 0] 96));have hz:=OU.fresh wb 0 0 0 (.slice none 0 0);have hos:=(hos.mono ha.size).below (below_fresh wb (.cells #[.int .i64 0,.int .i64 0,.int .i64 0,.slice none 0 0] 96));refine hK.out _ _ (hc) (fun _=>?_);clear hK K;(try simp only [Act.put,lTA,lZ,lS]);obtain ⟨wc ,hwc ⟩:∃ wc ,(wb).alloc (.cells #[.int .i64 0,.int .i64 0,.int .i64 0,.slice none 0 0] 96)=wc :=⟨_,rfl⟩
  rw [hwc ] at hc hz hos ⊢;clear hwc;have hgB:=hb.size;generalize wb.heap.size=B at hz hgB ⊢;clear hq hb
 rotate_left;focus
  go_simp
  have hb:=bnext ha (below_fresh _ (.cells #[.int .i64 0,.int .i64 0,.int .i64 0,.slice none 0 0] 96));have hz:=OU.fresh wa 0 0 0 (.slice none 0 0);refine hK.out _ _ (hb) (fun _=>?_);clear hK K;(try simp only [Act.put,lTA,lZ,lS]);obtain ⟨wb ,hwb ⟩:∃ wb ,(wa).alloc (.cells #[.int .i64 0,.int .i64 0,.int .i64 0,.slice none 0 0] 96)=wb :=⟨_,rfl⟩
  rw [hwb ] at hb hz ⊢;clear hwb;have hgB:=ha.size;refine wpAnyH_ready (rs:=[10]) (by kernel_rfl) (by simp) ?_;refine stepH rfl (fun K hK=>?_) AllReadyH.nil;go_simp
  refine (HD.out wb hb).mono ?_;rintro e wc ⟨sv,rfl,hos,hq⟩;have hc:=bnext hb hq;go_wp2_with fail
  refine hK.out _ _ (hc) (fun _=>?_);clear hK K;(try simp only [Act.put,lTA,lZ,lS]);refine takeJ 11 ?_;refine takeJ 12 ?_;refine takeJ 13 ?_;refine takeJ 14 ?_;replace hz:=hz.below hq;replace hos:=hos.mono hb.size;generalize wa.heap.size=B at hz hgB ⊢;clear hq hb
 all_goals
  obtain ⟨sa,sc,rfl,_,_⟩:=hos.rd.shape;obtain ⟨z0,z1,z2,z3,y0,y1,y2,y3⟩:=hz.cells;have hon:=only4 (w:=wc) (B:=B) (.int .i64 uc) (.int .i64 uq) (.int .i64 ut) (.slice sa fs.length sc);have hkx:=keepsX_only hz hon;have hd:=hc.trans (hon.below hgB hc.size);have hox:=hz.put4 uc uq ut (.slice sa fs.length sc);have hosx:=ownG_keep hos hkx (by decide);refine wpAnyH_ready (rs:=[16]) (by kernel_rfl) (by simp) ?_;refine stepH rfl (fun K hK=>?_) AllReadyH.nil;go_simp
  skip
  refine hK.out _ _ (hd) (fun _=>?_);clear hK K;(try simp only [Act.put,lTA,lZ,lS]);generalize (((wc.setCell ⟨B,0,none⟩ (.int .i64 uc)).setCell ⟨B,1,none⟩ (.int .i64 uq)).setCell ⟨B,2,none⟩ (.int .i64 ut)).setCell ⟨B,3,none⟩ (.slice sa fs.length sc)=wd at hd hox hosx hon hkx ⊢;clear z0 z1 z2 z3 y0 y1 y2 y3 hz hos hon hkx;refine takeJ 17 ?_;refine takeJ 18 ?_;refine wpAnyH_done (by kernel_rfl) ?_ _;have HO:=hid hosx;have HPD:=hid (HP.out.below hd);have HXD:=hid hox;have hrd0:RdrB wd g (.slice ad xs.length cp) (u,0):=below_block HRB.out hd;have HBD:=hid (Only.of (g:=g) (bnext HB0.out hd));have HGB:=hid (show g<w0.heap.size by have:=HS0.out;have:=HGL.out;omega);have HBB:=hid (show g≠B by have:=HS0.out;have:=HGL.out;omega);obtain ⟨d0,d1,d2,g0,g1,g2⟩:=hrd0.cells;simp only at d1 d2;have HR2:=hid ((hrd0.used (u+N)).fail E);clear c0 c1 c2 f0 f1 f2 ha hc hd hox hosx hrd0 hgB;go_upto_region 7 with fail
  rw [hsum.out];have ho2:=(Only.set (g:=g) (w:=wd) 1 (.int .i64 ((u+N:Nat):Int))).trans (Only.set 2 (.int .i64 E));generalize (wd.setCell ⟨g,1,none⟩ (.int .i64 ((u+N:Nat):Int))).setCell ⟨g,2,none⟩ (.int .i64 E)=we at ho2 HR2 ⊢;have hxe:OU we B uc uq ut (.slice sa fs.length sc):=ho2.at HXD.out (Ne.symm HBB.out);have hpe:OU we w.heap.size 0 0 0 (.slice none 0 0):=ho2.at HPD.out (Ne.symm (Nat.ne_of_lt HGL.out));have HOE:=hid (OwnG.only HO.out ho2 HGB.out);have HON:=hid (HBD.out.trans ho2);have HPE:=hid hpe;obtain ⟨z0,z1,z2,z3,_⟩:=hxe.cells;obtain ⟨q0,q1,q2,q3,k0,k1,k2,k3⟩:=hpe.cells;clear d0 d1 d2 g0 g1 g2 ho2 hxe hpe HO HPD HXD HBD;go_wp2
  refine updRet rfl rfl (HPE.out.put4 uc uq ut (.slice sa fs.length sc)) rfl ?_;have hpk:=keepsX_only HPE.out (only4 (w:=we) (B:=w.heap.size) (.int .i64 uc) (.int .i64 uq) (.int .i64 ut) (.slice sa fs.length sc));have hle:w.heap.size<=w0.heap.size:=by have:=HS0.out;omega
  exact ⟨_,rfl,(ownG_keep HOE.out hpk (by decide)).mono hle,(only4 _ _ _ _).at HR2.out (Nat.ne_of_lt HGL.out),HON.out.ge (only4 _ _ _ _) (Nat.le_refl _)⟩
end Go.Proofs.YtahcehbgfhdbjaaGreatDoor

