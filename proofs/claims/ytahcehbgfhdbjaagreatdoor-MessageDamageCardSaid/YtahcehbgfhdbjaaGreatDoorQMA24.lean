/-
  NDm: joined texts, what nothing names left out.
-/
import Derived.Test.YtahcehbgfhdbjaaGreatDoorQMA17
import Derived.Test.YtahcehbgfhdbjaaGreatDoorQMA23
set_option maxHeartbeats 8000000
set_option maxRecDepth 100000
open Go.Lib (hid)
namespace Go.Proofs.YtahcehbgfhdbjaaGreatDoor
open Go.RowKit
open NM (Ms)
open VM (Ent)
namespace NM
section
variable {k:Int} {xs l:List Int} {u0 u1:Nat} {e:Int} {r:Int×Nat×Ms}
theorem num1_k (hd:JM.num xs=(k,(u0:Int),0)):num1 xs=(0,u0,k):=by unfold num1;rw [hd];simp
theorem pM_e0 (hd:JM.num xs=(0,0,e)) (he:e≠0):decM xs=(e,0,z 0 0 0):=by
 have h:pM xs=(e,0,z 0 0 0):=seq_err (by unfold num1;rw [hd]) he;unfold decM;rw [h,if_pos he]
theorem pM_k (hd:JM.num xs=(k,(u0:Int),0)) (hk:k<1∨8<k):decM xs=(10,0,z 0 0 0):=by
 have h:pM xs=(10,0,z 0 0 0):=seq_fail (num1_k hd) (by decide) (by rw [if_pos hk];rfl);unfold decM;rw [h,if_pos (by show (10:Int)≠0;decide)]
theorem pM_e1 (hd:JM.num xs=(k,(u0:Int),0)) (hk:¬ (k<1∨8<k)) (hn:JM.many (xs.drop u0) (0,0) 2=(l,u1,e)) (he:e≠0):decM xs=(e,0,z 0 0 0):=by
 have h:pM xs=(e,0,z 0 0 0):=seq_fail (num1_k hd) he (by rw [if_neg hk];exact congrArg Prod.fst (seq_err (by unfold nums;rw [hn,if_pos he]) he));unfold decM;rw [h,if_pos he]
theorem pM_r (hd:JM.num xs=(k,(u0:Int),0)) (hk:¬ (k<1∨8<k)) (hn:JM.many (xs.drop u0) (0,0) 2=(l,u1,0)) (hr:(if k=1∨k=2 then pX k (l.getD 0 0) (l.getD 1 0) else pR k (l.getD 0 0) (l.getD 1 0)) (xs.drop (u0+u1))=r) :
  (r.1≠0->decM xs=(r.1,0,z 0 0 0))/\(r.1=0->errM r.2.2≠0->decM xs=(errM r.2.2,0,z 0 0 0))/\(r.1=0->errM r.2.2=0->decM xs=(0,u0+u1+r.2.1,r.2.2)):=by
 obtain ⟨e,n,m⟩:=r;rw [<- List.drop_drop] at hr;have hq:∀ {P:Par Ms},P=(if k<1∨8<k then fail0 10 (z 0 0 0) else NM.seq (z 0 0 0) (nums 2) fun l=>if k=1∨k=2 then pX k (l.getD 0 0) (l.getD 1 0) else pR k (l.getD 0 0) (l.getD 1 0))->(e≠0->(P (xs.drop u0)).1=e)/\(e=0->P (xs.drop u0)=(0,u1+n,m)):=by
  intro P hP;rw [hP,if_neg hk];refine ⟨fun he=>congrArg Prod.fst (seq_fail (nums_ok hn) he (congrArg Prod.fst hr)),fun he=>?_⟩;subst he;exact seq_good (nums_ok hn) hr
 refine ⟨fun he=>?_,fun he hv=>?_,fun he hv=>?_⟩
 ·have h:pM xs=(e,0,z 0 0 0):=seq_fail (num1_k hd) he ((hq rfl).1 he);unfold decM;rw [h,if_pos he]
 ·have h:pM xs=(0,u0+(u1+n),m):=seq_good (num1_k hd) ((hq rfl).2 he);unfold decM;rw [h,if_neg (by simp),if_pos hv]
 ·have h:pM xs=(0,u0+(u1+n),m):=seq_good (num1_k hd) ((hq rfl).2 he);unfold decM;rw [h,if_neg (by simp),if_neg (by simpa using hv),Nat.add_assoc]
theorem num_k (hb:WM.Bytes xs):(∃ e:Int,e≠0/\JM.num xs=(0,0,e)) ∨ ∃ (k:Int) (u0:Nat),JM.num xs=(k,(u0:Int),0)/\u0<=xs.length:=by
 rcases JM.num_two xs hb with ⟨e,he,hd⟩ | ⟨m,hm,hd,hl⟩
 ·exact .inl ⟨e,by omega,hd⟩
 ·exact .inr ⟨_,_,hd,hl⟩
theorem list2 {l:List Int} (h:l.length=2):∃ a b,l = [a,b]:=by
 match l,h with
 | [a,b],_=>exact ⟨a,b,rfl⟩
end
end NM
theorem zone:(zC:Array Value).all (·.oneCell')=true:=by simp [Value.oneCell']
theorem zone3 (k fr tx:Int):(#[.int .i64 k,.int .i64 fr,.int .i64 tx,.int .i64 0,.int .i64 0,.int .i64 0,.int .i64 0,.slice none 0 0,.slice none 0 0,.slice none 0 0,.slice none 0 0,.bool false,.slice none 0 0,.slice none 0 0,.slice none 0 0,.slice none 0 0,.slice none 0 0,.bool false]:Array Value).all (·.oneCell')=true:=by simp [Value.oneCell']
theorem rReadRA (k:Int) (fr tx:Int) (v:Value) (xs:List Int) (w:World) (hv0:Rd w v xs) :
  Calls Tryz.prog 41 #[mv ({k,fr,tx}:Ms) ({}:Mv),v] w fun e w'=>∃ (x':Mv) (m':Ms) (n':Int),e = .returned (.tuple #[mv m' x',.int .i64 n',.int .i64 (NM.pR k fr tx xs).1])/\((NM.pR k fr tx xs).1=0->n'=((NM.pR k fr tx xs).2.1:Int)/\OwnMs w.heap.size w' x' m'/\m'=(NM.pR k fr tx xs).2.2)/\SlX x'/\Below w.heap.size w w':=by
 by_cases h4:k=4
 ·subst h4;exact rReadR4 fr tx v xs w hv0
 ·by_cases h5:k=5
  ·subst h5;exact rReadR5 fr tx v xs w hv0
  ·exact rReadRo k h4 h5 fr tx v xs w hv0
theorem rDecM (v:Value) (xs:List Int) (w:World) (hv0:Rd w v xs) :
  Calls Tryz.prog 14 #[v] w fun e w'=>∃ x m',e = .returned (.tuple #[mv m' x,.int .i64 ((NM.decM xs).2.1:Int),.int .i64 (NM.decM xs).1])/\RdMs w' x m'/\m'=(NM.decM xs).2.2/\Below w.heap.size w w':=by
 obtain ⟨va,vc,rfl,_⟩:=hv0.shape;have hby:=hv0.bytes;have hxl:=rd_len64 hv0;have hb0:=below_fresh w (.cells zC 33);have hZ:=MB.fresh w ({}:Ms) ({}:Mv);obtain ⟨w0,hw0⟩:∃ w0,w.alloc (.cells zC 33)=w0:=⟨_,rfl⟩
 rw [show w.alloc (.cells (mcell ({}:Ms) ({}:Mv)) 33)=w0 from hw0] at hZ;rw [hw0] at hb0;have HZ:=hid hZ;have HB:=hid hb0;have HW:=hid hw0;have HV:=hid hv0;have HBY:=hid hby;have HC0:=hid (rNumber _ xs w0 (hv0.below hb0));clear hb0 hZ hw0 hv0;rcases NM.num_k hby with ⟨e0,he0,hd⟩ | ⟨k,u0,hd,hl0⟩
 ·have hQ:=HC0.out;rw [hd] at hQ;have HQ:=hid hQ;have HRE:=hid (NM.pM_e0 hd he0);have hne:(e0 != 0)=true:=bne_t he0;clear hQ hd he0 hby hxl HC0;go_enter Tryz.func14,Tryz.ntmps14
  go_wp2_with fail
  rw [HW.out];refine HQ.out.mono ?_;rintro e w1 ⟨rfl,rfl⟩;clear HW HQ;go_upto_region 3 with fail
  go_wp2_with (refine wpList_store_row rfl 33 _ _ rfl w.heap.size zC rfl rfl 33 _ HZ.out (by kernel_rfl) rfl zone ?_)
  refine msgRet3 (m:=({}:Ms)) (x:=({}:Mv)) rfl rfl rfl rfl (HZ.out.put ({}:Ms) ({}:Mv)) rfl ⟨({}:Mv),({}:Ms),?_,rdMs_nil _ _ ⟨rfl,rfl,rfl,rfl,rfl,rfl,rfl,rfl,rfl⟩,?_,?_⟩
  ·rw [HRE.out];first | done | rfl
  ·rw [HRE.out];first | done | rfl
  ·exact seen HB.out (Nat.le_refl _) (onlyRow _ _ _)
 have hQ:=HC0.out;rw [hd] at hQ;have HQ:=hid hQ;have HD:=hid hd;have HU:=hid (show u0<=xs.length/\xs.length<=9223372036854775807 from ⟨hl0,hxl⟩);clear hQ hd hby hxl HC0 hl0;go_enter Tryz.func14,Tryz.ntmps14
 go_wp2_with fail
 rw [HW.out];refine HQ.out.mono ?_;rintro e w1 ⟨rfl,rfl⟩;clear HW HQ;by_cases hk:k<1∨8<k
 case pos=>
  have HRE:=hid (NM.pM_k HD.out hk);clear HD;rcases hk with hk | hk
  ·have hk1:k<1:=hk;clear hk;go_upto_region 5 with fail
   go_wp2_with (refine wpList_store_row rfl 33 _ _ rfl w.heap.size zC rfl rfl 33 _ HZ.out (by kernel_rfl) rfl zone ?_)
   refine msgRet3 (m:=({}:Ms)) (x:=({}:Mv)) rfl rfl rfl rfl (HZ.out.put ({}:Ms) ({}:Mv)) rfl ⟨({}:Mv),({}:Ms),?_,rdMs_nil _ _ ⟨rfl,rfl,rfl,rfl,rfl,rfl,rfl,rfl,rfl⟩,?_,?_⟩
   ·rw [HRE.out];first | done | rfl
   ·rw [HRE.out];first | done | rfl
   ·exact seen HB.out (Nat.le_refl _) (onlyRow _ _ _)
  ·have hk2:8<k:=hk;have hk1:¬ k<1:=by omega
   clear hk;go_upto_region 5 with fail
   go_wp2_with (refine wpList_store_row rfl 33 _ _ rfl w.heap.size zC rfl rfl 33 _ HZ.out (by kernel_rfl) rfl zone ?_)
   refine msgRet3 (m:=({}:Ms)) (x:=({}:Mv)) rfl rfl rfl rfl (HZ.out.put ({}:Ms) ({}:Mv)) rfl ⟨({}:Mv),({}:Ms),?_,rdMs_nil _ _ ⟨rfl,rfl,rfl,rfl,rfl,rfl,rfl,rfl,rfl⟩,?_,?_⟩
   ·rw [HRE.out];first | done | rfl
   ·rw [HRE.out];first | done | rfl
   ·exact seen HB.out (Nat.le_refl _) (onlyRow _ _ _)
 have HKB:=hid hk;have hk1:¬ k<1:=by omega
 have hk2:¬ 8<k:=by omega
 have HKR:=hid (show 1<=k/\k<=8 by omega);clear hk;obtain ⟨v3,hcut0,hrd⟩:=(HV.out.below HB.out).cutL (u0) (by have:=HU.out;omega);have hcut:∀ w0:World,(Instr.slice 39 (.slice va xs.length vc) (some (.int .i64 ((u0:Int)))) none none).run Tryz.prog w0 = .ok v3 w0:=by
  intro w0;have h:=hcut0 w0;rwa [show ((u0:Nat):Int)=(u0:Int) by omega] at h
 clear hcut0;have hQ:=rRead v3 (xs.drop u0) 2 w0 hrd (by decide);have hml:=JM.many_length (xs.drop u0) (0,0) 2;have hmu:=(JM.many_small (xs.drop u0) (0,0) (NM.drop_bytes HBY.out u0) (Nat.zero_le _) 2).2;generalize hM:JM.many (xs.drop u0) (0,0) 2=M at hQ hml hmu;obtain ⟨l,u1,e1⟩:=M;rw [List.length_drop] at hmu;dsimp only at hQ hml hmu;obtain ⟨fr,tx,rfl⟩:=NM.list2 hml;have HQ:Hid (Calls Tryz.prog 39 #[v3,.int .i64 2] w0 _):=hQ;have HM:=hid hM;have HU1:=hid (show u0+u1<=xs.length by have:=HU.out;omega);clear hrd hQ hM hml hmu;go_wp2_with fail
 refine HQ.out.mono ?_;rintro e w5 (⟨hne,rfl,hb5⟩ | ⟨rfl,lv,rfl,hoh,hb5⟩)
 ·have HZ5:=hid (HZ.out.below hb5);have HB5:=hid (bnext HB.out hb5);have HRE:=hid (NM.pM_e1 HD.out HKB.out HM.out hne);have hne':(e1 != 0)=true:=bne_t hne;clear hne hb5 HD HM HZ HB HQ hcut HKB;go_upto_region 8 with fail
  go_wp2_with (refine wpList_store_row rfl 33 _ _ rfl w.heap.size zC rfl rfl 33 _ HZ5.out (by kernel_rfl) rfl zone ?_)
  refine msgRet3 (m:=({}:Ms)) (x:=({}:Mv)) rfl rfl rfl rfl (HZ5.out.put ({}:Ms) ({}:Mv)) rfl ⟨({}:Mv),({}:Ms),?_,rdMs_nil _ _ ⟨rfl,rfl,rfl,rfl,rfl,rfl,rfl,rfl,rfl⟩,?_,?_⟩
  ·rw [HRE.out];first | done | rfl
  ·rw [HRE.out];first | done | rfl
  ·exact seen HB5.out (Nat.le_refl _) (onlyRow _ _ _)
 have HZ5:=hid (HZ.out.below hb5);have HB5:=hid (bnext HB.out hb5);have hsum1:(u0:Int)+(u1:Int)<=9223372036854775807:=by have:=HU.out;have:=HU1.out;omega
 obtain ⟨hda,hdc,rfl⟩:∃ a c,lv = .slice a 2 c:=by obtain ⟨a,c,h,_⟩:=hoh.rd.shape;exact ⟨a,c,h⟩
 obtain ⟨bx0,ox0,hi0,_,hc0⟩:=atI hoh.rd 0 _ rfl;have hi0:∀ w0,(Instr.indexAt 43 (.slice hda 2 hdc) (.int .i64 0)).run Tryz.prog w0 = .ok (.pointer (some ⟨bx0,ox0,none⟩)) w0:=hi0;obtain ⟨bx1,ox1,hi1,_,hc1⟩:=atI hoh.rd 1 _ rfl;have hi1:∀ w0,(Instr.indexAt 43 (.slice hda 2 hdc) (.int .i64 1)).run Tryz.prog w0 = .ok (.pointer (some ⟨bx1,ox1,none⟩)) w0:=hi1;clear hb5 hoh HZ HB HQ hcut;go_wp2
 refine wp_region_held_drew (S:=fun w'=>Below w5.heap.size w5 w') (by kernel_rfl) ((Below.refl _ _).drew) (fun ha=>?_);replace ha:Below w5.heap.size w5 w5.drew:=(Below.refl _ _).drew;generalize w5.drew=wa at ha ⊢;refine takeJ 0 ?_;refine takeJ 1 ?_;refine takeG 2 (v:=?_) ?_ ?_;rotate_left
 ·(intro w hSw;(try dsimp only at hSw);have hcx:=hi0;go_simp;first | done | with_reducible rfl)
 (try simp only [Act.put,lTA,lZ,lS]);refine takeG 3 (v:=?_) ?_ ?_;rotate_left
 ·(intro w hSw;(try dsimp only at hSw);have hcx:=below_cell hSw hc0;go_simp;first | done | with_reducible rfl)
 (try simp only [Act.put,lTA,lZ,lS]);refine takeJ 4 ?_;refine takeG 5 (v:=?_) ?_ ?_;rotate_left
 ·(intro w hSw;(try dsimp only at hSw);have hcx:=hi1;go_simp;first | done | with_reducible rfl)
 (try simp only [Act.put,lTA,lZ,lS]);refine takeG 6 (v:=?_) ?_ ?_;rotate_left
 ·(intro w hSw;(try dsimp only at hSw);have hcx:=below_cell hSw hc1;go_simp;first | done | with_reducible rfl)
 (try simp only [Act.put,lTA,lZ,lS]);refine takeJ 7 ?_;refine wpAnyH_ready (rs:=[8]) (by kernel_rfl) (by simp) ?_;refine stepH rfl (fun K hK=>?_) AllReadyH.nil;go_simp
 have hfz:=below_fresh wa (.cells zC 33);have hP:=MB.fresh wa ({}:Ms) ({}:Mv);have hb:=bnext ha hfz;have hlt:w5.heap.size<=wa.heap.size:=ha.size;refine hK.out _ _ hb (fun _=>?_);clear hK K;(try simp only [Act.put,lTA,lZ,lS]);obtain ⟨pb,hpb⟩:∃ pb,pb=wa.heap.size:=⟨_,rfl⟩
 rw [<- hpb] at hP hlt ⊢;clear hpb;obtain ⟨wb,hwb⟩:∃ wb,wa.alloc (.cells zC 33)=wb:=⟨_,rfl⟩
 rw [show wa.alloc (.cells (mcell ({}:Ms) ({}:Mv)) 33)=wb from hwb] at hP;rw [hwb] at hb ⊢;clear hwb hfz;obtain ⟨w6,hw6⟩:∃ w6,wb.setRow pb #[.int .i64 k,.int .i64 fr,.int .i64 tx,.int .i64 0,.int .i64 0,.int .i64 0,.int .i64 0,.slice none 0 0,.slice none 0 0,.slice none 0 0,.slice none 0 0,.bool false,.slice none 0 0,.slice none 0 0,.slice none 0 0,.slice none 0 0,.slice none 0 0,.bool false]=w6:=⟨_,rfl⟩
 have hc:Below w5.heap.size w5 w6:=by rw [<- hw6];exact seen hb hlt (onlyRow _ _ _)
 refine wpAnyH_ready (rs:=[9]) (by kernel_rfl) (by simp) ?_;refine stepH rfl (fun K hK=>?_) AllReadyH.nil;rw [if_pos (by rfl)];refine wp_store_row 33 _ _ rfl pb #[.int .i64 k,.int .i64 fr,.int .i64 tx,.int .i64 0,.int .i64 0,.int .i64 0,.int .i64 0,.slice none 0 0,.slice none 0 0,.slice none 0 0,.slice none 0 0,.bool false,.slice none 0 0,.slice none 0 0,.slice none 0 0,.slice none 0 0,.slice none 0 0,.bool false] rfl rfl 33 _ hP (by kernel_rfl) rfl (zone3 k fr tx) ?_;rw [hw6];refine hK.out _ _ hc (fun _=>?_);clear hK K;refine wpAnyH_done (by kernel_rfl) ?_ _;have HPB:=hid (show w.heap.size<pb from Nat.lt_of_lt_of_le HZ5.out.lt hlt);have HX6:=hid (show MB w6 pb ({k,fr,tx}:Ms) ({}:Mv) by rw [<- hw6];exact hP.put ({k,fr,tx}:Ms) ({}:Mv));have HZ6:=hid (HZ5.out.below hc);have HB6:=hid (bnext HB5.out hc);clear hw6 hc hb hP hlt ha hi0 hi1 hc0 hc1 HZ5 HB5;by_cases n1:k=1
 case pos=>
  subst n1;obtain ⟨r,hr⟩:∃ r,r=NM.pX 1 fr tx (xs.drop (u0+u1)):=⟨_,rfl⟩
  have HPM:=hid (NM.pM_r HD.out HKB.out HM.out (show (if (1:Int)=1∨(1:Int)=2 then NM.pX 1 fr tx else NM.pR 1 fr tx) (xs.drop (u0+u1))=r by rw [if_pos (by decide)];exact hr.symm));have hcl:=fun v' w' (g:Rd w' v' (xs.drop (u0+u1)))=>rReadX1 fr tx v' (xs.drop (u0+u1)) w' g
  have hru:=NM.used_X 1 fr tx _ (NM.drop_bytes HBY.out (u0+u1));rw [<- hr,List.length_drop] at hru;simp only [<- hr] at hcl;obtain ⟨re,rn,rm⟩:=r;dsimp only at hru hcl HPM;have HCL:=hid hcl;have HRU:=hid hru;clear hr hcl hru HM HD HKB;obtain ⟨C,hC⟩:∃ C,C=mcell ({k:=1,fr,tx}:Ms) ({}:Mv):=⟨_,rfl⟩
  have hsz:C.size=18:=by rw [hC];rfl
  have HC:=hid hC;have tok:True:=trivial;clear hC;obtain ⟨v4,hcut0,hrd⟩:=(HV.out.below HB6.out).cutL (u0+u1) (by have:=HU1.out;omega);have hcut:∀ w0:World,(Instr.slice 39 (.slice va xs.length vc) (some (.int .i64 ((u0:Int)+(u1:Int)))) none none).run Tryz.prog w0 = .ok v4 w0:=by
   intro w0;have h:=hcut0 w0;rwa [show ((u0+u1:Nat):Int)=(u0:Int)+(u1:Int) by omega] at h
  clear hcut0;go_wp2
  refine wp_region_held_drew (S:=fun _=>True) (by kernel_rfl) trivial (fun _=>?_);have ha:Below w6.heap.size w6 w6.drew:=(Below.refl _ _).drew;generalize w6.drew=wa at ha ⊢;have HXa:=hid (HX6.out.below ha);have HZa:=hid (HZ6.out.below ha);have HBa:=hid (bnext HB6.out ha);have hx:wa.heap[pb]? = some (.cells C 33 (0,0)):=by rw [HC.out];exact HXa.out
  have HQ:=hid (show Calls Tryz.prog 40 #[.agg C,v4] wa _ by rw [HC.out];exact HCL.out v4 wa (hrd.below ha));refine takeJ 1 ?_;refine takeJ 2 ?_;refine takeG 3 (v:=?_) ?_ ?_;rotate_left
  ·(intro w hSw;(try dsimp only at hSw);have hcx:=hcut;go_simp;first | done | with_reducible rfl)
  (try simp only [Act.put,lTA,lZ,lS]);refine wpAnyH_ready (rs:=[0]) (by kernel_rfl) (by simp) ?_;refine stepH rfl (fun K hK=>?_) AllReadyH.nil;rw [if_pos (by rfl)];refine wp_load_row 33 _ rfl pb rfl 33 C (0,0) _ hx Tryz.underlying33 rfl (by rw [hsz];kernel_rfl) ?_;refine hK.out _ _ trivial (fun _=>?_);clear hK K;(try simp only [Act.put,lTA,lZ,lS]);refine wpAnyH_ready (rs:=[4]) (by kernel_rfl) (by simp) ?_;refine stepH rfl (fun K hK=>?_) AllReadyH.nil;go_simp
  refine HQ.out.mono ?_;rintro e wb ⟨x',m',n',rfl,hok,hsl,hb9⟩;go_wp2_with fail
  refine hK.out _ _ trivial (fun _=>?_);clear hK K;(try simp only [Act.put,lTA,lZ,lS]);refine takeJ 5 ?_;refine takeJ 6 ?_;refine takeJ 7 ?_;refine takeJ 8 ?_;have hgb:wb.heap[pb]? = some (.cells C 33 (0,0)):=below_block hx hb9;obtain ⟨w9,hw9⟩:∃ w9,wb.setRow pb (mcell m' x')=w9:=⟨_,rfl⟩
  refine wpAnyH_ready (rs:=[9]) (by kernel_rfl) (by simp) ?_;refine stepH rfl (fun K hK=>?_) AllReadyH.nil;rw [if_pos (by rfl)];refine wp_store_row 33 _ _ rfl pb (mcell m' x') rfl rfl 33 C hgb (by kernel_rfl) (by rw [hsz];rfl) hsl.cells ?_;rw [hw9];refine hK.out _ _ trivial (fun _=>?_);clear hK K;refine takeJ 10 ?_;refine takeJ 11 ?_;refine wpAnyH_done (by kernel_rfl) ?_ _;have ho9:Only pb wb w9:=by rw [<- hw9];exact onlyRow _ _ _
  have hpb:=HPB.out;have HX9:=hid (show MB w9 pb m' x' by rw [<- hw9];exact setRow_heap _ _ _ _ _ _ hgb);have HZ9:=hid ((HZa.out.below hb9).only ho9 (by omega));have HB9:=hid (seen (bnext HBa.out hb9) (by omega) ho9);have HLT:=hid (show w.heap.size<wa.heap.size/\pb<wa.heap.size by have:=HXa.out.lt;omega);have HOK:=hid (show re=0->n'=(rn:Int)/\OwnMs wa.heap.size w9 x' m'/\m'=rm from fun h=>⟨(hok h).1,(hok h).2.1.only ho9 HXa.out.lt,(hok h).2.2⟩);have HSL:=hid hsl;clear hx hgb ho9 ha hb9 hok hw9 HQ HXa HZa HBa hcut hrd hsl HC hsz hpb HX6 HZ6 HB6 HCL;by_cases hre:re=0
  case neg=>
   have HRE:=hid (HPM.out.1 hre);have hne:(re != 0)=true:=bne_t hre;clear hre HPM;go_upto_region 15 with fail
   go_wp2_with (refine wpList_store_row rfl 33 _ _ rfl w.heap.size zC rfl rfl 33 _ HZ9.out (by kernel_rfl) rfl zone ?_)
   refine msgRet3 (m:=({}:Ms)) (x:=({}:Mv)) rfl rfl rfl rfl (HZ9.out.put ({}:Ms) ({}:Mv)) rfl ⟨({}:Mv),({}:Ms),?_,rdMs_nil _ _ ⟨rfl,rfl,rfl,rfl,rfl,rfl,rfl,rfl,rfl⟩,?_,?_⟩
   ·rw [HRE.out];first | done | rfl
   ·rw [HRE.out];first | done | rfl
   ·exact seen HB9.out (Nat.le_refl _) (onlyRow _ _ _)
  subst hre;obtain ⟨rfl,hown,hmm⟩:=HOK.out rfl;have HPM2:=hid (show (NM.errM m'≠0->NM.decM xs=(NM.errM m',0,NM.z 0 0 0))/\(NM.errM m'=0->NM.decM xs=(0,u0+u1+rn,m')) by rw [hmm];exact ⟨HPM.out.2.1 rfl,HPM.out.2.2 rfl⟩);have HOW:=hid hown;have hv:=rValM x' m' w9 hown.rd;generalize NM.errM m'=er at hv HPM2;obtain ⟨C2,hC2⟩:∃ C,C=mcell m' x':=⟨_,rfl⟩
  have hsz2:C2.size=18:=by rw [hC2];rfl
  have hx:w9.heap[pb]? = some (.cells C2 33 (0,0)):=by rw [hC2];exact HX9.out
  have HQ:=hid (show Calls Tryz.prog 10 #[.agg C2] w9 _ by rw [hC2];exact hv);have HC2:=hid hC2;clear hv hmm hown HPM HOK hC2;go_upto_region 16 with fail
  go_wp2_with (refine wpList_load_row rfl 33 _ rfl pb rfl 33 C2 (0,0) _ hx Tryz.underlying33 rfl (by rw [hsz2];kernel_rfl) ?_)
  refine HQ.out.mono ?_;rintro e wc ⟨rfl,hbc⟩;have HXc:=hid (below_block hx hbc);have HZc:=hid (HZ9.out.below hbc);have HBc:=hid (bnext HB9.out hbc);replace HOW:=hid (HOW.out.below hbc);clear hx hbc HX9 HZ9 HB9 HQ;by_cases her:er=0
  case neg=>
   have HRE:=hid (HPM2.out.1 her);have hne:(er != 0)=true:=bne_t her;clear her HPM2;go_upto_region 18 with fail
   go_wp2_with (refine wpList_store_row rfl 33 _ _ rfl w.heap.size zC rfl rfl 33 _ HZc.out (by kernel_rfl) rfl zone ?_)
   refine msgRet3 (m:=({}:Ms)) (x:=({}:Mv)) rfl rfl rfl rfl (HZc.out.put ({}:Ms) ({}:Mv)) rfl ⟨({}:Mv),({}:Ms),?_,rdMs_nil _ _ ⟨rfl,rfl,rfl,rfl,rfl,rfl,rfl,rfl,rfl⟩,?_,?_⟩
   ·rw [HRE.out];first | done | rfl
   ·rw [HRE.out];first | done | rfl
   ·exact seen HBc.out (Nat.le_refl _) (onlyRow _ _ _)
  subst her;have HRE:=hid (HPM2.out.2 rfl);have hx:=HXc.out;have hsum:(u0:Int)+(u1:Int)+(rn:Int)<=9223372036854775807:=by have:=HU.out;have:=HU1.out;have:=HRU.out;omega
  have hsc:=run_storeCells_row wc w.heap.size 33 _ C2 HZc.out (by rw [hsz2];rfl) (by rw [HC2.out];exact HSL.out.cells);clear HPM2 HXc;go_upto_region 19 with fail
  go_wp2_with (refine wpList_load_row rfl 33 _ rfl pb rfl 33 C2 (0,0) _ hx Tryz.underlying33 rfl (by rw [hsz2];kernel_rfl) ?_)
  refine msgRet3 (m:=m') (x:=x') rfl rfl rfl rfl (by rw [HC2.out];exact HZc.out.put _ _) rfl ⟨x',m',?_,?_,?_,?_⟩
  ·rw [HRE.out];show _=Ending.returned (.tuple #[_,.int .i64 ((u0+u1+rn:Nat):Int),_]);rw [show ((u0+u1+rn:Nat):Int)=(u0:Int)+(u1:Int)+(rn:Int) by omega]
  ·exact (HOW.out.only (onlyRow _ _ _) HLT.out.1).rd
  ·rw [HRE.out]
  ·exact seen HBc.out (Nat.le_refl _) (onlyRow _ _ _)
 by_cases n2:k=2
 case pos=>
  subst n2;clear n1;obtain ⟨r,hr⟩:∃ r,r=NM.pX 2 fr tx (xs.drop (u0+u1)):=⟨_,rfl⟩
  have HPM:=hid (NM.pM_r HD.out HKB.out HM.out (show (if (2:Int)=1∨(2:Int)=2 then NM.pX 2 fr tx else NM.pR 2 fr tx) (xs.drop (u0+u1))=r by rw [if_pos (by decide)];exact hr.symm));have hcl:=fun v' w' (g:Rd w' v' (xs.drop (u0+u1)))=>rReadX2 fr tx v' (xs.drop (u0+u1)) w' g
  have hru:=NM.used_X 2 fr tx _ (NM.drop_bytes HBY.out (u0+u1));rw [<- hr,List.length_drop] at hru;simp only [<- hr] at hcl;obtain ⟨re,rn,rm⟩:=r;dsimp only at hru hcl HPM;have HCL:=hid hcl;have HRU:=hid hru;clear hr hcl hru HM HD HKB;obtain ⟨C,hC⟩:∃ C,C=mcell ({k:=2,fr,tx}:Ms) ({}:Mv):=⟨_,rfl⟩
  have hsz:C.size=18:=by rw [hC];rfl
  have HC:=hid hC;have tok:True:=trivial;clear hC;obtain ⟨v4,hcut0,hrd⟩:=(HV.out.below HB6.out).cutL (u0+u1) (by have:=HU1.out;omega);have hcut:∀ w0:World,(Instr.slice 39 (.slice va xs.length vc) (some (.int .i64 ((u0:Int)+(u1:Int)))) none none).run Tryz.prog w0 = .ok v4 w0:=by
   intro w0;have h:=hcut0 w0;rwa [show ((u0+u1:Nat):Int)=(u0:Int)+(u1:Int) by omega] at h
  clear hcut0;go_wp2
  refine wp_region_held_drew (S:=fun _=>True) (by kernel_rfl) trivial (fun _=>?_);have ha:Below w6.heap.size w6 w6.drew:=(Below.refl _ _).drew;generalize w6.drew=wa at ha ⊢;have HXa:=hid (HX6.out.below ha);have HZa:=hid (HZ6.out.below ha);have HBa:=hid (bnext HB6.out ha);have hx:wa.heap[pb]? = some (.cells C 33 (0,0)):=by rw [HC.out];exact HXa.out
  have HQ:=hid (show Calls Tryz.prog 40 #[.agg C,v4] wa _ by rw [HC.out];exact HCL.out v4 wa (hrd.below ha));refine takeJ 1 ?_;refine takeJ 2 ?_;refine takeG 3 (v:=?_) ?_ ?_;rotate_left
  ·(intro w hSw;(try dsimp only at hSw);have hcx:=hcut;go_simp;first | done | with_reducible rfl)
  (try simp only [Act.put,lTA,lZ,lS]);refine wpAnyH_ready (rs:=[0]) (by kernel_rfl) (by simp) ?_;refine stepH rfl (fun K hK=>?_) AllReadyH.nil;rw [if_pos (by rfl)];refine wp_load_row 33 _ rfl pb rfl 33 C (0,0) _ hx Tryz.underlying33 rfl (by rw [hsz];kernel_rfl) ?_;refine hK.out _ _ trivial (fun _=>?_);clear hK K;(try simp only [Act.put,lTA,lZ,lS]);refine wpAnyH_ready (rs:=[4]) (by kernel_rfl) (by simp) ?_;refine stepH rfl (fun K hK=>?_) AllReadyH.nil;go_simp
  refine HQ.out.mono ?_;rintro e wb ⟨x',m',n',rfl,hok,hsl,hb9⟩;go_wp2_with fail
  refine hK.out _ _ trivial (fun _=>?_);clear hK K;(try simp only [Act.put,lTA,lZ,lS]);refine takeJ 5 ?_;refine takeJ 6 ?_;refine takeJ 7 ?_;refine takeJ 8 ?_;have hgb:wb.heap[pb]? = some (.cells C 33 (0,0)):=below_block hx hb9;obtain ⟨w9,hw9⟩:∃ w9,wb.setRow pb (mcell m' x')=w9:=⟨_,rfl⟩
  refine wpAnyH_ready (rs:=[9]) (by kernel_rfl) (by simp) ?_;refine stepH rfl (fun K hK=>?_) AllReadyH.nil;rw [if_pos (by rfl)];refine wp_store_row 33 _ _ rfl pb (mcell m' x') rfl rfl 33 C hgb (by kernel_rfl) (by rw [hsz];rfl) hsl.cells ?_;rw [hw9];refine hK.out _ _ trivial (fun _=>?_);clear hK K;refine takeJ 10 ?_;refine takeJ 11 ?_;refine wpAnyH_done (by kernel_rfl) ?_ _;have ho9:Only pb wb w9:=by rw [<- hw9];exact onlyRow _ _ _
  have hpb:=HPB.out;have HX9:=hid (show MB w9 pb m' x' by rw [<- hw9];exact setRow_heap _ _ _ _ _ _ hgb);have HZ9:=hid ((HZa.out.below hb9).only ho9 (by omega));have HB9:=hid (seen (bnext HBa.out hb9) (by omega) ho9);have HLT:=hid (show w.heap.size<wa.heap.size/\pb<wa.heap.size by have:=HXa.out.lt;omega);have HOK:=hid (show re=0->n'=(rn:Int)/\OwnMs wa.heap.size w9 x' m'/\m'=rm from fun h=>⟨(hok h).1,(hok h).2.1.only ho9 HXa.out.lt,(hok h).2.2⟩);have HSL:=hid hsl;clear hx hgb ho9 ha hb9 hok hw9 HQ HXa HZa HBa hcut hrd hsl HC hsz hpb HX6 HZ6 HB6 HCL;by_cases hre:re=0
  case neg=>
   have HRE:=hid (HPM.out.1 hre);have hne:(re != 0)=true:=bne_t hre;clear hre HPM;go_upto_region 15 with fail
   go_wp2_with (refine wpList_store_row rfl 33 _ _ rfl w.heap.size zC rfl rfl 33 _ HZ9.out (by kernel_rfl) rfl zone ?_)
   refine msgRet3 (m:=({}:Ms)) (x:=({}:Mv)) rfl rfl rfl rfl (HZ9.out.put ({}:Ms) ({}:Mv)) rfl ⟨({}:Mv),({}:Ms),?_,rdMs_nil _ _ ⟨rfl,rfl,rfl,rfl,rfl,rfl,rfl,rfl,rfl⟩,?_,?_⟩
   ·rw [HRE.out];first | done | rfl
   ·rw [HRE.out];first | done | rfl
   ·exact seen HB9.out (Nat.le_refl _) (onlyRow _ _ _)
  subst hre;obtain ⟨rfl,hown,hmm⟩:=HOK.out rfl;have HPM2:=hid (show (NM.errM m'≠0->NM.decM xs=(NM.errM m',0,NM.z 0 0 0))/\(NM.errM m'=0->NM.decM xs=(0,u0+u1+rn,m')) by rw [hmm];exact ⟨HPM.out.2.1 rfl,HPM.out.2.2 rfl⟩);have HOW:=hid hown;have hv:=rValM x' m' w9 hown.rd;generalize NM.errM m'=er at hv HPM2;obtain ⟨C2,hC2⟩:∃ C,C=mcell m' x':=⟨_,rfl⟩
  have hsz2:C2.size=18:=by rw [hC2];rfl
  have hx:w9.heap[pb]? = some (.cells C2 33 (0,0)):=by rw [hC2];exact HX9.out
  have HQ:=hid (show Calls Tryz.prog 10 #[.agg C2] w9 _ by rw [hC2];exact hv);have HC2:=hid hC2;clear hv hmm hown HPM HOK hC2;go_upto_region 16 with fail
  go_wp2_with (refine wpList_load_row rfl 33 _ rfl pb rfl 33 C2 (0,0) _ hx Tryz.underlying33 rfl (by rw [hsz2];kernel_rfl) ?_)
  refine HQ.out.mono ?_;rintro e wc ⟨rfl,hbc⟩;have HXc:=hid (below_block hx hbc);have HZc:=hid (HZ9.out.below hbc);have HBc:=hid (bnext HB9.out hbc);replace HOW:=hid (HOW.out.below hbc);clear hx hbc HX9 HZ9 HB9 HQ;by_cases her:er=0
  case neg=>
   have HRE:=hid (HPM2.out.1 her);have hne:(er != 0)=true:=bne_t her;clear her HPM2;go_upto_region 18 with fail
   go_wp2_with (refine wpList_store_row rfl 33 _ _ rfl w.heap.size zC rfl rfl 33 _ HZc.out (by kernel_rfl) rfl zone ?_)
   refine msgRet3 (m:=({}:Ms)) (x:=({}:Mv)) rfl rfl rfl rfl (HZc.out.put ({}:Ms) ({}:Mv)) rfl ⟨({}:Mv),({}:Ms),?_,rdMs_nil _ _ ⟨rfl,rfl,rfl,rfl,rfl,rfl,rfl,rfl,rfl⟩,?_,?_⟩
   ·rw [HRE.out];first | done | rfl
   ·rw [HRE.out];first | done | rfl
   ·exact seen HBc.out (Nat.le_refl _) (onlyRow _ _ _)
  subst her;have HRE:=hid (HPM2.out.2 rfl);have hx:=HXc.out;have hsum:(u0:Int)+(u1:Int)+(rn:Int)<=9223372036854775807:=by have:=HU.out;have:=HU1.out;have:=HRU.out;omega
  have hsc:=run_storeCells_row wc w.heap.size 33 _ C2 HZc.out (by rw [hsz2];rfl) (by rw [HC2.out];exact HSL.out.cells);clear HPM2 HXc;go_upto_region 19 with fail
  go_wp2_with (refine wpList_load_row rfl 33 _ rfl pb rfl 33 C2 (0,0) _ hx Tryz.underlying33 rfl (by rw [hsz2];kernel_rfl) ?_)
  refine msgRet3 (m:=m') (x:=x') rfl rfl rfl rfl (by rw [HC2.out];exact HZc.out.put _ _) rfl ⟨x',m',?_,?_,?_,?_⟩
  ·rw [HRE.out];show _=Ending.returned (.tuple #[_,.int .i64 ((u0+u1+rn:Nat):Int),_]);rw [show ((u0+u1+rn:Nat):Int)=(u0:Int)+(u1:Int)+(rn:Int) by omega]
  ·exact (HOW.out.only (onlyRow _ _ _) HLT.out.1).rd
  ·rw [HRE.out]
  ·exact seen HBc.out (Nat.le_refl _) (onlyRow _ _ _)
 have n1b:(k==1)=false:=by simp [n1]
 have n2b:(k==2)=false:=by simp [n2]
 have HN12:=hid (And.intro n1 n2);clear n1 n2;obtain ⟨r,hr⟩:∃ r,r=NM.pR k fr tx (xs.drop (u0+u1)):=⟨_,rfl⟩
 have HPM:=hid (NM.pM_r HD.out HKB.out HM.out (show (if (k:Int)=1∨(k:Int)=2 then NM.pX k fr tx else NM.pR k fr tx) (xs.drop (u0+u1))=r by rw [if_neg (by have:=HN12.out;omega)];exact hr.symm));have hcl:=fun v' w' (g:Rd w' v' (xs.drop (u0+u1)))=>rReadRA k fr tx v' (xs.drop (u0+u1)) w' g
 have hru:=NM.used_R k fr tx _ (NM.drop_bytes HBY.out (u0+u1));rw [<- hr,List.length_drop] at hru;simp only [<- hr] at hcl;obtain ⟨re,rn,rm⟩:=r;dsimp only at hru hcl HPM;have HCL:=hid hcl;have HRU:=hid hru;clear hr hcl hru HM HD HKB;obtain ⟨C,hC⟩:∃ C,C=mcell ({k,fr,tx}:Ms) ({}:Mv):=⟨_,rfl⟩
 have hsz:C.size=18:=by rw [hC];rfl
 have HC:=hid hC;have tok:True:=trivial;clear hC;obtain ⟨v4,hcut0,hrd⟩:=(HV.out.below HB6.out).cutL (u0+u1) (by have:=HU1.out;omega);have hcut:∀ w0:World,(Instr.slice 39 (.slice va xs.length vc) (some (.int .i64 ((u0:Int)+(u1:Int)))) none none).run Tryz.prog w0 = .ok v4 w0:=by
  intro w0;have h:=hcut0 w0;rwa [show ((u0+u1:Nat):Int)=(u0:Int)+(u1:Int) by omega] at h
 clear hcut0;go_wp2
 refine wp_region_held_drew (S:=fun _=>True) (by kernel_rfl) trivial (fun _=>?_);have ha:Below w6.heap.size w6 w6.drew:=(Below.refl _ _).drew;generalize w6.drew=wa at ha ⊢;have HXa:=hid (HX6.out.below ha);have HZa:=hid (HZ6.out.below ha);have HBa:=hid (bnext HB6.out ha);have hx:wa.heap[pb]? = some (.cells C 33 (0,0)):=by rw [HC.out];exact HXa.out
 have HQ:=hid (show Calls Tryz.prog 41 #[.agg C,v4] wa _ by rw [HC.out];exact HCL.out v4 wa (hrd.below ha));refine takeJ 1 ?_;refine takeJ 2 ?_;refine takeG 3 (v:=?_) ?_ ?_;rotate_left
 ·(intro w hSw;(try dsimp only at hSw);have hcx:=hcut;go_simp;first | done | with_reducible rfl)
 (try simp only [Act.put,lTA,lZ,lS]);refine wpAnyH_ready (rs:=[0]) (by kernel_rfl) (by simp) ?_;refine stepH rfl (fun K hK=>?_) AllReadyH.nil;rw [if_pos (by rfl)];refine wp_load_row 33 _ rfl pb rfl 33 C (0,0) _ hx Tryz.underlying33 rfl (by rw [hsz];kernel_rfl) ?_;refine hK.out _ _ trivial (fun _=>?_);clear hK K;(try simp only [Act.put,lTA,lZ,lS]);refine wpAnyH_ready (rs:=[4]) (by kernel_rfl) (by simp) ?_;refine stepH rfl (fun K hK=>?_) AllReadyH.nil;go_simp
 refine HQ.out.mono ?_;rintro e wb ⟨x',m',n',rfl,hok,hsl,hb9⟩;go_wp2_with fail
 refine hK.out _ _ trivial (fun _=>?_);clear hK K;(try simp only [Act.put,lTA,lZ,lS]);refine takeJ 5 ?_;refine takeJ 6 ?_;refine takeJ 7 ?_;refine takeJ 8 ?_;have hgb:wb.heap[pb]? = some (.cells C 33 (0,0)):=below_block hx hb9;obtain ⟨w9,hw9⟩:∃ w9,wb.setRow pb (mcell m' x')=w9:=⟨_,rfl⟩
 refine wpAnyH_ready (rs:=[9]) (by kernel_rfl) (by simp) ?_;refine stepH rfl (fun K hK=>?_) AllReadyH.nil;rw [if_pos (by rfl)];refine wp_store_row 33 _ _ rfl pb (mcell m' x') rfl rfl 33 C hgb (by kernel_rfl) (by rw [hsz];rfl) hsl.cells ?_;rw [hw9];refine hK.out _ _ trivial (fun _=>?_);clear hK K;refine takeJ 10 ?_;refine takeJ 11 ?_;refine wpAnyH_done (by kernel_rfl) ?_ _;have ho9:Only pb wb w9:=by rw [<- hw9];exact onlyRow _ _ _
 have hpb:=HPB.out;have HX9:=hid (show MB w9 pb m' x' by rw [<- hw9];exact setRow_heap _ _ _ _ _ _ hgb);have HZ9:=hid ((HZa.out.below hb9).only ho9 (by omega));have HB9:=hid (seen (bnext HBa.out hb9) (by omega) ho9);have HLT:=hid (show w.heap.size<wa.heap.size/\pb<wa.heap.size by have:=HXa.out.lt;omega);have HOK:=hid (show re=0->n'=(rn:Int)/\OwnMs wa.heap.size w9 x' m'/\m'=rm from fun h=>⟨(hok h).1,(hok h).2.1.only ho9 HXa.out.lt,(hok h).2.2⟩);have HSL:=hid hsl;clear hx hgb ho9 ha hb9 hok hw9 HQ HXa HZa HBa hcut hrd hsl HC hsz hpb HX6 HZ6 HB6 HCL;by_cases hre:re=0
 case neg=>
  have HRE:=hid (HPM.out.1 hre);have hne:(re != 0)=true:=bne_t hre;clear hre HPM;go_upto_region 15 with fail
  go_wp2_with (refine wpList_store_row rfl 33 _ _ rfl w.heap.size zC rfl rfl 33 _ HZ9.out (by kernel_rfl) rfl zone ?_)
  refine msgRet3 (m:=({}:Ms)) (x:=({}:Mv)) rfl rfl rfl rfl (HZ9.out.put ({}:Ms) ({}:Mv)) rfl ⟨({}:Mv),({}:Ms),?_,rdMs_nil _ _ ⟨rfl,rfl,rfl,rfl,rfl,rfl,rfl,rfl,rfl⟩,?_,?_⟩
  ·rw [HRE.out];first | done | rfl
  ·rw [HRE.out];first | done | rfl
  ·exact seen HB9.out (Nat.le_refl _) (onlyRow _ _ _)
 subst hre;obtain ⟨rfl,hown,hmm⟩:=HOK.out rfl;have HPM2:=hid (show (NM.errM m'≠0->NM.decM xs=(NM.errM m',0,NM.z 0 0 0))/\(NM.errM m'=0->NM.decM xs=(0,u0+u1+rn,m')) by rw [hmm];exact ⟨HPM.out.2.1 rfl,HPM.out.2.2 rfl⟩);have HOW:=hid hown;have hv:=rValM x' m' w9 hown.rd;generalize NM.errM m'=er at hv HPM2;obtain ⟨C2,hC2⟩:∃ C,C=mcell m' x':=⟨_,rfl⟩
 have hsz2:C2.size=18:=by rw [hC2];rfl
 have hx:w9.heap[pb]? = some (.cells C2 33 (0,0)):=by rw [hC2];exact HX9.out
 have HQ:=hid (show Calls Tryz.prog 10 #[.agg C2] w9 _ by rw [hC2];exact hv);have HC2:=hid hC2;clear hv hmm hown HPM HOK hC2;go_upto_region 16 with fail
 go_wp2_with (refine wpList_load_row rfl 33 _ rfl pb rfl 33 C2 (0,0) _ hx Tryz.underlying33 rfl (by rw [hsz2];kernel_rfl) ?_)
 refine HQ.out.mono ?_;rintro e wc ⟨rfl,hbc⟩;have HXc:=hid (below_block hx hbc);have HZc:=hid (HZ9.out.below hbc);have HBc:=hid (bnext HB9.out hbc);replace HOW:=hid (HOW.out.below hbc);clear hx hbc HX9 HZ9 HB9 HQ;by_cases her:er=0
 case neg=>
  have HRE:=hid (HPM2.out.1 her);have hne:(er != 0)=true:=bne_t her;clear her HPM2;go_upto_region 18 with fail
  go_wp2_with (refine wpList_store_row rfl 33 _ _ rfl w.heap.size zC rfl rfl 33 _ HZc.out (by kernel_rfl) rfl zone ?_)
  refine msgRet3 (m:=({}:Ms)) (x:=({}:Mv)) rfl rfl rfl rfl (HZc.out.put ({}:Ms) ({}:Mv)) rfl ⟨({}:Mv),({}:Ms),?_,rdMs_nil _ _ ⟨rfl,rfl,rfl,rfl,rfl,rfl,rfl,rfl,rfl⟩,?_,?_⟩
  ·rw [HRE.out];first | done | rfl
  ·rw [HRE.out];first | done | rfl
  ·exact seen HBc.out (Nat.le_refl _) (onlyRow _ _ _)
 subst her;have HRE:=hid (HPM2.out.2 rfl);have hx:=HXc.out;have hsum:(u0:Int)+(u1:Int)+(rn:Int)<=9223372036854775807:=by have:=HU.out;have:=HU1.out;have:=HRU.out;omega
 have hsc:=run_storeCells_row wc w.heap.size 33 _ C2 HZc.out (by rw [hsz2];rfl) (by rw [HC2.out];exact HSL.out.cells);clear HPM2 HXc;go_upto_region 19 with fail
 go_wp2_with (refine wpList_load_row rfl 33 _ rfl pb rfl 33 C2 (0,0) _ hx Tryz.underlying33 rfl (by rw [hsz2];kernel_rfl) ?_)
 refine msgRet3 (m:=m') (x:=x') rfl rfl rfl rfl (by rw [HC2.out];exact HZc.out.put _ _) rfl ⟨x',m',?_,?_,?_,?_⟩
 ·rw [HRE.out];show _=Ending.returned (.tuple #[_,.int .i64 ((u0+u1+rn:Nat):Int),_]);rw [show ((u0+u1+rn:Nat):Int)=(u0:Int)+(u1:Int)+(rn:Int) by omega]
 ·exact (HOW.out.only (onlyRow _ _ _) HLT.out.1).rd
 ·rw [HRE.out]
 ·exact seen HBc.out (Nat.le_refl _) (onlyRow _ _ _)
end Go.Proofs.YtahcehbgfhdbjaaGreatDoor

