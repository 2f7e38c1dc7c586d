/-
  NRef5 NRb: joined texts, what nothing names left out.
-/
import Derived.Test.YtahcehbgfhdbjaaGreatDoorQMA11
set_option maxHeartbeats 8000000
set_option maxRecDepth 100000
open Go.Lib (hid)
namespace Go.Proofs.YtahcehbgfhdbjaaGreatDoor
section
open Go.RowKit
open NM (Ms)
open VM (Ent)
theorem bnB {a b:Bool} (h:¬ a=b):(a != b)=true:=by cases a <;> cases b <;> simp_all
theorem twoM (w:World) (m:Ms) (x:Mv) (m':Ms) (x':Mv) :
  ∃ w0,(w.alloc (.cells (mcell m x) 33)).alloc (.cells (mcell m' x') 33)=w0/\MB w0 w.heap.size m x/\MB w0 (w.heap.size+1) m' x'/\Below w.heap.size w w0:=by
 have b0:=below_fresh w (.cells (mcell m x) 33);have x0:=MB.fresh w m x;have s0:=World.size_alloc w (.cells (mcell m x) 33);generalize w.alloc (.cells (mcell m x) 33)=w1 at b0 x0 s0;have b1:=below_fresh w1 (.cells (mcell m' x') 33);have x1:=MB.fresh w1 m' x';rw [s0] at x1;exact ⟨_,rfl,x0.below b1,x1,bnext b0 b1⟩
theorem rEqM (x:Mv) (m:Ms) (x':Mv) (m':Ms) (w:World) (h:RdMs w x m) (h':RdMs w x' m') :
  Calls Tryz.prog 12 #[mv m x,mv m' x'] w fun e w'=>e = .returned (.bool (NM.eqm m m'))/\Below w.heap.size w w':=by
 obtain ⟨k,fr,tx,p,n,r,d,cf,ct,bf,bt,hb,ef,et,cg,st,hv,mo⟩:=m;obtain ⟨s1,s2,s3,s4,s5,s6,s7,s8,s9⟩:=x;obtain ⟨h1,h2,h3,h4,h5,h6,h7,h8,h9⟩:=h;dsimp only at h1 h2 h3 h4 h5 h6 h7 h8 h9;obtain ⟨a1,c1,rfl,_⟩:=h1.shape;obtain ⟨a2,c2,rfl,_⟩:=h2.shape;obtain ⟨a3,c3,rfl,_⟩:=h3.shape;obtain ⟨a4,c4,rfl,_⟩:=h4.shape;obtain ⟨a5,c5,rfl,_⟩:=h5.shape;obtain ⟨a6,c6,rfl,_⟩:=h6.shape;obtain ⟨a7,c7,rfl,_⟩:=h7.shape;obtain ⟨a8,c8,rfl,_⟩:=h8.shape;obtain ⟨a9,c9,rfl,_⟩:=h9.shape;obtain ⟨kz,frz,txz,pz,nz,rz,dz,cfz,ctz,bfz,btz,hbz,efz,etz,cgz,stz,hvz,moz⟩:=m';obtain ⟨s1z,s2z,s3z,s4z,s5z,s6z,s7z,s8z,s9z⟩:=x';obtain ⟨h1z,h2z,h3z,h4z,h5z,h6z,h7z,h8z,h9z⟩:=h';dsimp only at h1z h2z h3z h4z h5z h6z h7z h8z h9z;obtain ⟨a1z,c1z,rfl,_⟩:=h1z.shape;obtain ⟨a2z,c2z,rfl,_⟩:=h2z.shape;obtain ⟨a3z,c3z,rfl,_⟩:=h3z.shape;obtain ⟨a4z,c4z,rfl,_⟩:=h4z.shape;obtain ⟨a5z,c5z,rfl,_⟩:=h5z.shape;obtain ⟨a6z,c6z,rfl,_⟩:=h6z.shape;obtain ⟨a7z,c7z,rfl,_⟩:=h7z.shape;obtain ⟨a8z,c8z,rfl,_⟩:=h8z.shape;obtain ⟨a9z,c9z,rfl,_⟩:=h9z.shape;obtain ⟨w0,hw0,hX,hY,hb0⟩:=twoM w ({k,fr,tx,p,n,r,d,cf,ct,bf,bt,hb,ef,et,cg,st,hv,mo}:Ms) (⟨.slice a1 cf.length c1,.slice a2 ct.length c2,.slice a3 bf.length c3,.slice a4 bt.length c4,.slice a5 ef.length c5,.slice a6 et.length c6,.slice a7 cg.length c7,.slice a8 st.length c8,.slice a9 hv.length c9⟩:Mv) (⟨kz,frz,txz,pz,nz,rz,dz,cfz,ctz,bfz,btz,hbz,efz,etz,cgz,stz,hvz,moz⟩:Ms) (⟨.slice a1z cfz.length c1z,.slice a2z ctz.length c2z,.slice a3z bfz.length c3z,.slice a4z btz.length c4z,.slice a5z efz.length c5z,.slice a6z etz.length c6z,.slice a7z cgz.length c7z,.slice a8z stz.length c8z,.slice a9z hvz.length c9z⟩:Mv)
 have HX:=hid hX;have HY:=hid hY;have HB:=hid hb0;have HW:=hid (show (w.alloc (.cells #[.int .i64 k,.int .i64 fr,.int .i64 tx,.int .i64 p,.int .i64 n,.int .i64 r,.int .i64 d,.slice a1 cf.length c1,.slice a2 ct.length c2,.slice a3 bf.length c3,.slice a4 bt.length c4,.bool hb,.slice a5 ef.length c5,.slice a6 et.length c6,.slice a7 cg.length c7,.slice a8 st.length c8,.slice a9 hv.length c9,.bool mo] 33)).alloc (.cells #[.int .i64 kz,.int .i64 frz,.int .i64 txz,.int .i64 pz,.int .i64 nz,.int .i64 rz,.int .i64 dz,.slice a1z cfz.length c1z,.slice a2z ctz.length c2z,.slice a3z bfz.length c3z,.slice a4z btz.length c4z,.bool hbz,.slice a5z efz.length c5z,.slice a6z etz.length c6z,.slice a7z cgz.length c7z,.slice a8z stz.length c8z,.slice a9z hvz.length c9z,.bool moz] 33)=w0 from hw0);replace h1:=h1.below hb0;replace h1z:=h1z.below hb0;replace h2:=h2.below hb0;replace h2z:=h2z.below hb0;replace h3:=h3.below hb0;replace h3z:=h3z.below hb0;replace h4:=h4.below hb0;replace h4z:=h4z.below hb0;replace h5:=h5.below hb0;replace h5z:=h5z.below hb0;replace h6:=h6.below hb0;replace h6z:=h6z.below hb0;replace h7:=h7.below hb0;replace h7z:=h7z.below hb0;replace h8:=h8.below hb0;replace h8z:=h8z.below hb0;replace h9:=h9.below hb0;replace h9z:=h9z.below hb0;obtain ⟨R,hR⟩:∃ R,R=NM.eqm ({k,fr,tx,p,n,r,d,cf,ct,bf,bt,hb,ef,et,cg,st,hv,mo}:Ms) (⟨kz,frz,txz,pz,nz,rz,dz,cfz,ctz,bfz,btz,hbz,efz,etz,cgz,stz,hvz,moz⟩:Ms):=⟨_,rfl⟩
 rw [<- hR];unfold NM.eqm NM.scal at hR;dsimp only at hR;have HC1:=hid (fun w' (g:Below w0.heap.size w0 w')=>rEqualCert _ _ _ _ cf ct cfz ctz w' (h1.below g) (h2.below g) (h1z.below g) (h2z.below g));have HC2:=hid (fun w' (g:Below w0.heap.size w0 w')=>rEqualCert _ _ _ _ bf bt bfz btz w' (h3.below g) (h4.below g) (h3z.below g) (h4z.below g));have HC3:=hid (fun w' (g:Below w0.heap.size w0 w')=>rEqualCert _ _ _ _ ef et efz etz w' (h5.below g) (h6.below g) (h5z.below g) (h6z.below g));have HC4:=hid (fun w' (g:Below w0.heap.size w0 w')=>rEqualConfig _ _ cg cgz w' (h7.below g) (h7z.below g));have HC5:=hid (fun w' (g:Below w0.heap.size w0 w')=>ST.rEqualState _ _ st stz w' (h8.below g) (h8z.below g));have HC6:=hid (fun w' (g:Below w0.heap.size w0 w')=>VX.rEqual _ _ hv hvz w' (h9.below g) (h9z.below g));generalize (decide (cf=cfz) && decide (ct=ctz))=B1 at hR HC1;generalize (decide (bf=bfz) && decide (bt=btz))=B2 at hR HC2;generalize (decide (ef=efz) && decide (et=etz))=B3 at hR HC3;generalize decide (cg=cgz)=B4 at hR HC4;generalize decide (st=stz)=B5 at hR HC5;generalize decide (hv=hvz)=B6 at hR HC6;have hgm:Tryz.prog.eqGuardType Tryz.prog.depth 23=false:=by kernel_rfl
 clear h1 h2 h3 h4 h5 h6 h7 h8 h9 h1z h2z h3z h4z h5z h6z h7z h8z h9z hb0 hX hY hw0;dsimp only [mv,mcell];have HRR:=hid hR;clear hR;go_enter Tryz.func12,Tryz.ntmps12
 go_upto_region 1 with fail
 rw [HW.out];have HBW:=hid (Below.refl w0.heap.size w0);have xs:=HX.out.cells;dsimp only at xs;have ys:=HY.out.cells;dsimp only at ys;by_cases qk:k=kz
 case neg=>
  have gk:(k != kz)=true:=bne_t qk;have HR:=hid (show R=false by rw [HRR.out];simp [qk]);clear HRR;go_wp2
  go_ret;rw [HR.out];exact ⟨rfl,bnext HB.out HBW.out⟩
 subst qk;have gk:(k != k)=false:=bne_f rfl;by_cases qfr:fr=frz
 case neg=>
  have gfr:(fr != frz)=true:=bne_t qfr;have HR:=hid (show R=false by rw [HRR.out];simp [qfr]);clear HRR;go_wp2
  go_ret;rw [HR.out];exact ⟨rfl,bnext HB.out HBW.out⟩
 subst qfr;have gfr:(fr != fr)=false:=bne_f rfl;by_cases qtx:tx=txz
 case neg=>
  have gtx:(tx != txz)=true:=bne_t qtx;have HR:=hid (show R=false by rw [HRR.out];simp [qtx]);clear HRR;go_wp2
  go_ret;rw [HR.out];exact ⟨rfl,bnext HB.out HBW.out⟩
 subst qtx;have gtx:(tx != tx)=false:=bne_f rfl;by_cases q4:p=pz/\n=nz
 case neg=>
  have hneq:∀ w0:World,(binOp .neq 23 (.agg #[.int .i64 p,.int .i64 n]) (.agg #[.int .i64 pz,.int .i64 nz])).run Tryz.prog w0 = .ok (.bool true) w0:=fun w0=>by rw [neq_acc,decide_eq_false q4];rfl
  have HR:=hid (show R=false by rw [HRR.out];simp [q4]);clear HRR;go_wp2
  go_ret;rw [HR.out];exact ⟨rfl,bnext HB.out HBW.out⟩
 have hneq:∀ w0:World,(binOp .neq 23 (.agg #[.int .i64 p,.int .i64 n]) (.agg #[.int .i64 pz,.int .i64 nz])).run Tryz.prog w0 = .ok (.bool false) w0:=fun w0=>by rw [neq_acc,decide_eq_true q4];rfl
 obtain ⟨rfl,rfl⟩:=q4;by_cases qr:r=rz
 case neg=>
  have gr:(r != rz)=true:=bne_t qr;have HR:=hid (show R=false by rw [HRR.out];simp [qr]);clear HRR;go_wp2
  go_ret;rw [HR.out];exact ⟨rfl,bnext HB.out HBW.out⟩
 subst qr;have gr:(r != r)=false:=bne_f rfl;by_cases qd:d=dz
 case neg=>
  have gd:(d != dz)=true:=bne_t qd;have HR:=hid (show R=false by rw [HRR.out];simp [qd]);clear HRR;go_wp2
  go_ret;rw [HR.out];exact ⟨rfl,bnext HB.out HBW.out⟩
 subst qd;have gd:(d != d)=false:=bne_f rfl;by_cases qhb:hb=hbz
 case neg=>
  cases hb
  ·cases hbz
   ·exact absurd rfl qhb
   ·have HR:=hid (show R=false by rw [HRR.out];simp);clear HRR;go_wp2
    go_ret;rw [HR.out];exact ⟨rfl,bnext HB.out HBW.out⟩
  ·cases hbz
   ·have HR:=hid (show R=false by rw [HRR.out];simp);clear HRR;go_wp2
    go_ret;rw [HR.out];exact ⟨rfl,bnext HB.out HBW.out⟩
   ·exact absurd rfl qhb
 subst qhb;have ghb:(hb != hb)=false:=by cases hb <;> rfl
 by_cases qmo:mo=moz
 case neg=>
  cases mo
  ·cases moz
   ·exact absurd rfl qmo
   ·have HR:=hid (show R=false by rw [HRR.out];simp);clear HRR;go_wp2
    go_ret;rw [HR.out];exact ⟨rfl,bnext HB.out HBW.out⟩
  ·cases moz
   ·have HR:=hid (show R=false by rw [HRR.out];simp);clear HRR;go_wp2
    go_ret;rw [HR.out];exact ⟨rfl,bnext HB.out HBW.out⟩
   ·exact absurd rfl qmo
 subst qmo;have gmo:(mo != mo)=false:=by cases mo <;> rfl
 go_wp2_with fail
 refine (HC1.out w0 HBW.out).mono ?_;rintro e w1 ⟨rfl,hb1⟩;clear xs;clear ys;replace HX:=hid (HX.out.below hb1);replace HY:=hid (HY.out.below hb1);replace HBW:=hid (bnext HBW.out hb1);clear hb1;have xs:=HX.out.cells;dsimp only at xs;have ys:=HY.out.cells;dsimp only at ys;rcases Bool.eq_false_or_eq_true B1 with rfl | rfl
 rotate_left
 ·have HR:=hid (show R=false by rw [HRR.out];simp);clear HRR;go_wp2
  go_ret;rw [HR.out];exact ⟨rfl,bnext HB.out HBW.out⟩
 go_wp2_with fail
 refine (HC2.out w1 HBW.out).mono ?_;rintro e w2 ⟨rfl,hb1⟩;clear xs;clear ys;replace HX:=hid (HX.out.below hb1);replace HY:=hid (HY.out.below hb1);replace HBW:=hid (bnext HBW.out hb1);clear hb1;have xs:=HX.out.cells;dsimp only at xs;have ys:=HY.out.cells;dsimp only at ys;rcases Bool.eq_false_or_eq_true B2 with rfl | rfl
 rotate_left
 ·have HR:=hid (show R=false by rw [HRR.out];simp);clear HRR;go_wp2
  go_ret;rw [HR.out];exact ⟨rfl,bnext HB.out HBW.out⟩
 go_wp2_with fail
 refine (HC3.out w2 HBW.out).mono ?_;rintro e w3 ⟨rfl,hb1⟩;clear xs;clear ys;replace HX:=hid (HX.out.below hb1);replace HY:=hid (HY.out.below hb1);replace HBW:=hid (bnext HBW.out hb1);clear hb1;have xs:=HX.out.cells;dsimp only at xs;have ys:=HY.out.cells;dsimp only at ys;rcases Bool.eq_false_or_eq_true B3 with rfl | rfl
 rotate_left
 ·have HR:=hid (show R=false by rw [HRR.out];simp);clear HRR;go_wp2
  go_ret;rw [HR.out];exact ⟨rfl,bnext HB.out HBW.out⟩
 go_wp2_with fail
 refine (HC4.out w3 HBW.out).mono ?_;rintro e w4 ⟨rfl,hb1⟩;clear xs;clear ys;replace HX:=hid (HX.out.below hb1);replace HY:=hid (HY.out.below hb1);replace HBW:=hid (bnext HBW.out hb1);clear hb1;have xs:=HX.out.cells;dsimp only at xs;have ys:=HY.out.cells;dsimp only at ys;rcases Bool.eq_false_or_eq_true B4 with rfl | rfl
 rotate_left
 ·have HR:=hid (show R=false by rw [HRR.out];simp);clear HRR;go_wp2
  go_ret;rw [HR.out];exact ⟨rfl,bnext HB.out HBW.out⟩
 go_wp2_with fail
 refine (HC5.out w4 HBW.out).mono ?_;rintro e w5 ⟨rfl,hb1⟩;clear xs;clear ys;replace HX:=hid (HX.out.below hb1);replace HY:=hid (HY.out.below hb1);replace HBW:=hid (bnext HBW.out hb1);clear hb1;have xs:=HX.out.cells;dsimp only at xs;have ys:=HY.out.cells;dsimp only at ys;rcases Bool.eq_false_or_eq_true B5 with rfl | rfl
 rotate_left
 ·have HR:=hid (show R=false by rw [HRR.out];simp);clear HRR;go_wp2
  go_ret;rw [HR.out];exact ⟨rfl,bnext HB.out HBW.out⟩
 go_wp2_with fail
 refine (HC6.out w5 HBW.out).mono ?_;rintro e w6 ⟨rfl,hb1⟩;clear xs;clear ys;replace HX:=hid (HX.out.below hb1);replace HY:=hid (HY.out.below hb1);replace HBW:=hid (bnext HBW.out hb1);clear hb1;have xs:=HX.out.cells;dsimp only at xs;have ys:=HY.out.cells;dsimp only at ys;rcases Bool.eq_false_or_eq_true B6 with rfl | rfl
 rotate_left
 ·have HR:=hid (show R=false by rw [HRR.out];simp);clear HRR;go_wp2
  go_ret;rw [HR.out];exact ⟨rfl,bnext HB.out HBW.out⟩
 have HR:=hid (show R=true by rw [HRR.out];simp);clear HRR;go_wp2
 go_ret;rw [HR.out];exact ⟨rfl,bnext HB.out HBW.out⟩
end
section
open Go.RowKit
open NM (Ms)
open VM (Ent)
theorem onlyRow (w:World) (g:Nat) (cs:Array Value):Only g w (w.setRow g cs):=⟨rfl,rfl,rfl,by simp,fun _ _ h=>setRow_other _ _ _ _ h⟩
theorem MB.put {w:World} {g:Nat} {m:Ms} {x:Mv} (h:MB w g m x) (m':Ms) (x':Mv):MB (w.setRow g (mcell m' x')) g m' x':=setRow_heap w g _ _ _ _ h
theorem MB.setB {w:World} {g:Nat} {m:Ms} {x:Mv} (h:MB w g m x) (b:Bool):MB (w.setCell ⟨g,11,none⟩ (.bool b)) g { m with hb:=b } x:=heap_setCell_same w g 11 _ _ _ h
theorem MB.setBase {w:World} {g:Nat} {m:Ms} {x:Mv} (h:MB w g m x) (bf bt:List CM.Fp) (a b:Value):MB ((w.setCell ⟨g,9,none⟩ a).setCell ⟨g,10,none⟩ b) g { m with bf:=bf,bt:=bt } { x with bf:=a,bt:=b }:=by
 have h1:(w.setCell ⟨g,9,none⟩ a).heap[g]? = some (.cells (mcell { m with bf:=bf } { x with bf:=a }) 33 (0,0)):=heap_setCell_same w g 9 _ _ _ h;exact heap_setCell_same _ g 10 _ _ _ h1
theorem MB.setEst {w:World} {g:Nat} {m:Ms} {x:Mv} (h:MB w g m x) (ef et:List CM.Fp) (a b:Value):MB ((w.setCell ⟨g,12,none⟩ a).setCell ⟨g,13,none⟩ b) g { m with ef:=ef,et:=et } { x with ef:=a,et:=b }:=by
 have h1:(w.setCell ⟨g,12,none⟩ a).heap[g]? = some (.cells (mcell { m with ef:=ef } { x with ef:=a }) 33 (0,0)):=heap_setCell_same w g 12 _ _ _ h;exact heap_setCell_same _ g 13 _ _ _ h1
theorem run_storeCells_row (w:World) (g:Nat) (t:TypeId) (old cells:Array Value) (hg:w.heap[g]? = some (.cells old t (0,0))) (ho:old.size=cells.size) (h1:cells.all (·.oneCell')=true) :
  (storeCells ⟨g,0,none⟩ cells.toList).run Tryz.prog w = .ok () (w.setRow g cells):=by
 have:=run_storeCells_from (P:=Tryz.prog) g t cells.toList 0 old w hg (by simp;omega) (fun v hv=>(Array.all_eq_true_iff_forall_mem.1 h1) v (by simpa using hv));simpa using this
theorem onlyTwo {w:World} {g i j:Nat} (a b:Value):Only g w ((w.setCell ⟨g,i,none⟩ a).setCell ⟨g,j,none⟩ b):=(Only.set i a).trans (Only.set j b)
theorem msgRet3 {fn:Func} {p u q:Tmp} {R:Ending->World->Prop} {a:Act} {w:World} {g:Nat} {m:Ms} {x:Mv} {n er:Int} (h:fn.results = #[.cell p 33,.tmp u,.tmp q]) (hp:a.tmps.getD p undef = .pointer (some ⟨g,0,none⟩))
  (h3:a.tmps.getD u undef = .int .i64 n) (h4:a.tmps.getD q undef = .int .i64 er) (hg:MB w g m x) (hd:a.defers = []) (hR:R (.returned (.tuple #[mv m x,.int .i64 n,.int .i64 er])) w):bodyPost Tryz.prog fn R .ret a w:=by
 have:=results_cell_tmp_tmp (P:=Tryz.prog) (fn:=fn) h a.tmps w g 33 _ _ _ hp hg Tryz.underlying33 rfl (by kernel_rfl);rw [h3,h4] at this;exact bodyPost_ret this hd hR
theorem decC_used {xs:List Int} (hb:WM.Bytes xs):(CM.decC xs).2.1<=xs.length:=by
 have h1:=CM.decL_used hb;have h2:=CM.decL_used (xs:=xs.drop (CM.decL xs).2.1) (fun c hc=>hb c (List.mem_of_mem_drop hc));rw [List.length_drop] at h2;unfold CM.decC;split
 ·exact Nat.zero_le _
 ·split
  ·exact Nat.zero_le _
  ·split
   ·exact Nat.zero_le _
   ·show (CM.decL xs).2.1+_<=_
    omega
theorem OwnR.of_nil {base:Nat} {w:World} {v:Value} (h:v = .slice none 0 0):OwnR base w v []:=by rw [h];exact OwnR.nil _ _
structure NewB (base:Nat) (w:World) (x x':Mv) (m':Ms):Prop where
 cf:x'.cf=x.cf
 ct:x'.ct=x.ct
 cg:x'.cg=x.cg
 st:x'.st=x.st
 hv:x'.hv=x.hv
 bf:OwnR base w x'.bf m'.bf
 bt:OwnR base w x'.bt m'.bt
 ef:OwnR base w x'.ef m'.ef
 et:OwnR base w x'.et m'.et
structure SlX (x:Mv):Prop where
 cf:∃ a l c,x.cf = .slice a l c
 ct:∃ a l c,x.ct = .slice a l c
 bf:∃ a l c,x.bf = .slice a l c
 bt:∃ a l c,x.bt = .slice a l c
 ef:∃ a l c,x.ef = .slice a l c
 et:∃ a l c,x.et = .slice a l c
 cg:∃ a l c,x.cg = .slice a l c
 st:∃ a l c,x.st = .slice a l c
 hv:∃ a l c,x.hv = .slice a l c
theorem decB_two (xs:List Int):(∃ e:Int,e≠0/\decB xs=(false,0,e))∨(∃ b:Bool,decB xs=(b,1,0)/\1<=xs.length):=by
 cases xs with
 | nil=>exact .inl ⟨1,by decide,rfl⟩
 | cons c r=>
  by_cases h:1<c
  ·exact .inl ⟨2,by decide,if_pos h⟩
  ·exact .inr ⟨c==1,if_neg h,by simp⟩
theorem rReadB (x:Mv) (m:Ms) (v:Value) (xs:List Int) (w:World) (h:RdMs w x m) (hv0:Rd w v xs) :
  Calls Tryz.prog 94 #[mv m x,v] w fun e w'=>∃ x' m',e = .returned (.tuple #[mv m' x',.int .i64 ((NM.pB xs).2.1:Int),.int .i64 (NM.pB xs).1])/\((NM.pB xs).1=0->m.bf = []->m.bt = []->x.bf = .slice none 0 0->x.bt = .slice none 0 0->NewB w.heap.size w' x x' m'/\m'=NM.addB m (NM.pB xs).2.2)/\SlX x'/\Below w.heap.size w w':=by
 obtain ⟨k,fr,tx,p,n,r,d,cf,ct,bf,bt,hb,ef,et,cg,st,hv,mo⟩:=m;obtain ⟨s1,s2,s3,s4,s5,s6,s7,s8,s9⟩:=x;obtain ⟨h1,h2,h3,h4,h5,h6,h7,h8,h9⟩:=h;dsimp only at h1 h2 h3 h4 h5 h6 h7 h8 h9;obtain ⟨a1,c1,rfl,_⟩:=h1.shape;obtain ⟨a2,c2,rfl,_⟩:=h2.shape;obtain ⟨a3,c3,rfl,_⟩:=h3.shape;obtain ⟨a4,c4,rfl,_⟩:=h4.shape;obtain ⟨a5,c5,rfl,_⟩:=h5.shape;obtain ⟨a6,c6,rfl,_⟩:=h6.shape;obtain ⟨a7,c7,rfl,_⟩:=h7.shape;obtain ⟨a8,c8,rfl,_⟩:=h8.shape;obtain ⟨a9,c9,rfl,_⟩:=h9.shape;obtain ⟨va,vc,rfl,_⟩:=hv0.shape;obtain ⟨w0,hw0,hX,hZ,hb0⟩:=twoM w ({k,fr,tx,p,n,r,d,cf,ct,bf,bt,hb,ef,et,cg,st,hv,mo}:Ms) (⟨.slice a1 cf.length c1,.slice a2 ct.length c2,.slice a3 bf.length c3,.slice a4 bt.length c4,.slice a5 ef.length c5,.slice a6 et.length c6,.slice a7 cg.length c7,.slice a8 st.length c8,.slice a9 hv.length c9⟩:Mv) ({}:Ms) ({}:Mv);have HX:=hid hX;have HZ:=hid hZ;have HB:=hid hb0;have HW:=hid (show (w.alloc (.cells #[.int .i64 k,.int .i64 fr,.int .i64 tx,.int .i64 p,.int .i64 n,.int .i64 r,.int .i64 d,.slice a1 cf.length c1,.slice a2 ct.length c2,.slice a3 bf.length c3,.slice a4 bt.length c4,.bool hb,.slice a5 ef.length c5,.slice a6 et.length c6,.slice a7 cg.length c7,.slice a8 st.length c8,.slice a9 hv.length c9,.bool mo] 33)).alloc (.cells zC 33)=w0 from hw0)
 have HV:=hid (hv0.below hb0);have hBo:=rBool _ xs w0 HV.out;obtain ⟨R,hR⟩:∃ R,R=NM.pB xs:=⟨_,rfl⟩
 rw [<- hR];have HBY:=hid hv0.bytes;rcases decB_two xs with ⟨e,he,hd⟩ | ⟨b,hd,hxl⟩
 ·rw [hd] at hBo;have HR:=hid (show R=(e,0,NM.bs0) by rw [hR];unfold NM.pB NM.seq NM.bl;rw [hd];rw [if_pos he]);have HBo:=hid hBo;have hne:(e != 0)=true:=bne_t he;have HE:=hid he;clear hBo hR hd he hX hZ hb0 hw0 h1 h2 h3 h4 h5 h6 h7 h8 h9 hv0;dsimp only [mv,mcell];go_enter Tryz.func94,Tryz.ntmps94
  go_wp2_with fail
  rw [HW.out];refine HBo.out.mono ?_;rintro e' w1 ⟨rfl,rfl⟩;obtain ⟨C,hC⟩:∃ C,C=mcell ({k,fr,tx,p,n,r,d,cf,ct,bf,bt,hb,ef,et,cg,st,hv,mo}:Ms) (⟨.slice a1 cf.length c1,.slice a2 ct.length c2,.slice a3 bf.length c3,.slice a4 bt.length c4,.slice a5 ef.length c5,.slice a6 et.length c6,.slice a7 cg.length c7,.slice a8 st.length c8,.slice a9 hv.length c9⟩:Mv):=⟨_,rfl⟩
  have hx:w0.heap[w.heap.size]? = some (.cells C 33 (0,0)):=by rw [hC];exact HX.out
  have hsz:C.size=18:=by rw [hC];rfl
  have hsc:=run_storeCells_row w0 (w.heap.size+1) 33 _ C HZ.out (by rw [hC];rfl) (by rw [hC];simp [mcell,Value.oneCell']);have HC:=hid hC;clear hC;go_upto_region 3 with fail
  go_wp2_with (refine wpList_load_row rfl 33 _ rfl w.heap.size rfl 33 C (0,0) _ hx Tryz.underlying33 rfl (by rw [hsz];kernel_rfl) ?_)
  refine msgRet3 (m:=({k,fr,tx,p,n,r,d,cf,ct,bf,bt,hb,ef,et,cg,st,hv,mo}:Ms)) (x:=(⟨.slice a1 cf.length c1,.slice a2 ct.length c2,.slice a3 bf.length c3,.slice a4 bt.length c4,.slice a5 ef.length c5,.slice a6 et.length c6,.slice a7 cg.length c7,.slice a8 st.length c8,.slice a9 hv.length c9⟩:Mv)) rfl rfl rfl rfl (by rw [HC.out];exact HZ.out.put _ _) rfl ⟨(⟨.slice a1 cf.length c1,.slice a2 ct.length c2,.slice a3 bf.length c3,.slice a4 bt.length c4,.slice a5 ef.length c5,.slice a6 et.length c6,.slice a7 cg.length c7,.slice a8 st.length c8,.slice a9 hv.length c9⟩:Mv),({k,fr,tx,p,n,r,d,cf,ct,bf,bt,hb,ef,et,cg,st,hv,mo}:Ms),?_,?_,⟨⟨_,_,_,rfl⟩,⟨_,_,_,rfl⟩,⟨_,_,_,rfl⟩,⟨_,_,_,rfl⟩,⟨_,_,_,rfl⟩,⟨_,_,_,rfl⟩,⟨_,_,_,rfl⟩,⟨_,_,_,rfl⟩,⟨_,_,_,rfl⟩⟩,?_⟩
  ·rw [HR.out];rfl
  ·rw [HR.out];intro h;exact absurd h HE.out
  ·exact seen HB.out (by omega) (onlyRow _ _ _)
 cases b
 ·rw [hd] at hBo;have HBo:=hid hBo;have hR2:R=if (CM.decC (xs.drop 1)).1≠0 then ((CM.decC (xs.drop 1)).1,0,NM.bs0) else (0,1+(CM.decC (xs.drop 1)).2.1,(false,([],[]),(CM.decC (xs.drop 1)).2.2)):=by
   rw [hR];unfold NM.pB NM.seq NM.bl NM.pmap;rw [hd];rfl
  have hu:=decC_used (xs:=xs.drop 1) (fun c hc=>HBY.out c (List.mem_of_mem_drop hc));rw [List.length_drop] at hu;have hDC:=fun v' w' (g:Rd w' v' (xs.drop 1))=>rDecodeCertO v' (xs.drop 1) w' g
  generalize CM.decC (xs.drop 1)=D at hR2 hu hDC;obtain ⟨er,u1,f1,t1⟩:=D;dsimp only at hR2 hu hDC;have HDC:=hid hDC;have HR:=hid hR2;have HU:=hid (show 1+u1<=9223372036854775807 by have:=rd_len64 hv0;omega);have HLN:=hid hxl;have x11:=HX.out.cells.2.2.2.2.2.2.2.2.2.2.2.1;dsimp only at x11;have f11:=HX.out.free 11;obtain ⟨wA,hwA⟩:∃ wA,w0.setCell ⟨w.heap.size,11,none⟩ (.bool false)=wA:=⟨_,rfl⟩
  have hoA:Only w.heap.size w0 wA:=by rw [<- hwA];exact Only.set 11 _
  have HXA:=hid (show MB wA w.heap.size ({k,fr,tx,p,n,r,d,cf,ct,bf,bt,ef,et,cg,st,hv,mo}:Ms) (⟨.slice a1 cf.length c1,.slice a2 ct.length c2,.slice a3 bf.length c3,.slice a4 bt.length c4,.slice a5 ef.length c5,.slice a6 et.length c6,.slice a7 cg.length c7,.slice a8 st.length c8,.slice a9 hv.length c9⟩:Mv) by rw [<- hwA];exact HX.out.setB false);have HZA:=hid (HZ.out.only hoA (by omega));have HBA:=hid (seen HB.out (Nat.le_refl _) hoA);have HVA:=hid (hv0.below HBA.out);have HWA:=hid hwA;have HRO:=hid (⟨h1,h2,h3,h4,h5,h6,h7,h8,h9⟩:RdMs w (⟨.slice a1 cf.length c1,.slice a2 ct.length c2,.slice a3 bf.length c3,.slice a4 bt.length c4,.slice a5 ef.length c5,.slice a6 et.length c6,.slice a7 cg.length c7,.slice a8 st.length c8,.slice a9 hv.length c9⟩:Mv) ({k,fr,tx,p,n,r,d,cf,ct,bf,bt,hb,ef,et,cg,st,hv,mo}:Ms));have hsA:=hoA.size;have HSA:=hid (show w.heap.size+1<wA.heap.size by have:=HZA.out.lt;omega);clear hBo hR hR2 hu hDC hX hZ hb0 hw0 h1 h2 h3 h4 h5 h6 h7 h8 h9 hv0 hxl hwA hoA hsA hd;dsimp only [mv,mcell];go_enter Tryz.func94,Tryz.ntmps94
  go_wp2_with fail
  rw [HW.out];refine HBo.out.mono ?_;rintro e' w1 ⟨rfl,rfl⟩;obtain ⟨v2,hcut0,hrd⟩:=HVA.out.cutL 1 HLN.out;have hcut:∀ w0:World,(Instr.slice 39 (.slice va xs.length vc) (some (.int .i64 1)) none none).run Tryz.prog w0 = .ok v2 w0:=hcut0;clear hcut0;have HCD:=hid (HDC.out v2 wA hrd);clear hrd HBo HW;go_wp2_with fail
  rw [HWA.out];refine HCD.out.mono ?_;rintro e w2 ⟨a,b2,rfl,ho1,ho2,hb2⟩;obtain ⟨ea,ec,rfl,_⟩:=ho1.shape;obtain ⟨ta,tc,rfl,_⟩:=ho2.shape;have hfr:=below_fresh w2 (.cells #[.slice ea f1.length ec,.slice ta t1.length tc] 27);have hY:=XB.fresh w2 (.slice ea f1.length ec) (.slice ta t1.length tc);obtain ⟨w3,hw3⟩:∃ w3,w2.alloc (.cells #[.slice ea f1.length ec,.slice ta t1.length tc] 27)=w3:=⟨_,rfl⟩
  rw [hw3] at hfr hY;have hb3:=bnext hb2 hfr;have HX:=hid (HXA.out.below hb3);have HZ:=hid (HZA.out.below hb3);have HB3:=hid (bnext HBA.out hb3);have HO1:=hid (ho1.below hfr);have HO2:=hid (ho2.below hfr);have HY:=hid hY;have HW3:=hid hw3;clear hfr hY hw3 hb3 hb2 ho1 ho2 HXA HZA HVA HDC HCD HWA x11 f11 hcut HBA;go_upto_region 12 with fail
  rw [HW3.out];by_cases he:er=0
  case neg=>
   have hne:(er != 0)=true:=bne_t he;have HRE:=hid (show R=(er,0,NM.bs0) by rw [HR.out,if_pos he]);have HE:=hid he;clear he HR;obtain ⟨C,hC⟩:∃ C,C=mcell ({k,fr,tx,p,n,r,d,cf,ct,bf,bt,ef,et,cg,st,hv,mo}:Ms) (⟨.slice a1 cf.length c1,.slice a2 ct.length c2,.slice a3 bf.length c3,.slice a4 bt.length c4,.slice a5 ef.length c5,.slice a6 et.length c6,.slice a7 cg.length c7,.slice a8 st.length c8,.slice a9 hv.length c9⟩:Mv):=⟨_,rfl⟩
   have hx:w3.heap[w.heap.size]? = some (.cells C 33 (0,0)):=by rw [hC];exact HX.out
   have hsz:C.size=18:=by rw [hC];rfl
   have hsc:=run_storeCells_row w3 (w.heap.size+1) 33 _ C HZ.out (by rw [hC];rfl) (by rw [hC];simp [mcell,Value.oneCell']);have HC:=hid hC;clear hC;go_upto_region 13 with fail
   go_wp2_with (refine wpList_load_row rfl 33 _ rfl w.heap.size rfl 33 C (0,0) _ hx Tryz.underlying33 rfl (by rw [hsz];kernel_rfl) ?_)
   refine msgRet3 (m:=({k,fr,tx,p,n,r,d,cf,ct,bf,bt,ef,et,cg,st,hv,mo}:Ms)) (x:=(⟨.slice a1 cf.length c1,.slice a2 ct.length c2,.slice a3 bf.length c3,.slice a4 bt.length c4,.slice a5 ef.length c5,.slice a6 et.length c6,.slice a7 cg.length c7,.slice a8 st.length c8,.slice a9 hv.length c9⟩:Mv)) rfl rfl rfl rfl (by rw [HC.out];exact HZ.out.put _ _) rfl ⟨(⟨.slice a1 cf.length c1,.slice a2 ct.length c2,.slice a3 bf.length c3,.slice a4 bt.length c4,.slice a5 ef.length c5,.slice a6 et.length c6,.slice a7 cg.length c7,.slice a8 st.length c8,.slice a9 hv.length c9⟩:Mv),({k,fr,tx,p,n,r,d,cf,ct,bf,bt,ef,et,cg,st,hv,mo}:Ms),?_,?_,⟨⟨_,_,_,rfl⟩,⟨_,_,_,rfl⟩,⟨_,_,_,rfl⟩,⟨_,_,_,rfl⟩,⟨_,_,_,rfl⟩,⟨_,_,_,rfl⟩,⟨_,_,_,rfl⟩,⟨_,_,_,rfl⟩,⟨_,_,_,rfl⟩⟩,?_⟩
   ·rw [HRE.out];rfl
   ·rw [HRE.out];intro h;exact absurd h HE.out
   ·exact seen HB3.out (by omega) (onlyRow _ _ _)
  subst he;have HRE:=hid (show R=(0,1+u1,(false,([],[]),(f1,t1))) by rw [HR.out,if_neg (by simp)]);clear HR;obtain ⟨y0,y1,_⟩:=HY.out.cells;have x12:=HX.out.cells.2.2.2.2.2.2.2.2.2.2.2.2.1;have x13:=HX.out.cells.2.2.2.2.2.2.2.2.2.2.2.2.2.1;dsimp only at x12 x13;have f12:=HX.out.free 12;have f13:=HX.out.free 13;obtain ⟨w4,hw4⟩:∃ w4,(w3.setCell ⟨w.heap.size,12,none⟩ (.slice ea f1.length ec)).setCell ⟨w.heap.size,13,none⟩ (.slice ta t1.length tc)=w4:=⟨_,rfl⟩
  have ho4:Only w.heap.size w3 w4:=by rw [<- hw4];exact onlyTwo _ _
  have HX4:=hid (show MB w4 w.heap.size (⟨k,fr,tx,p,n,r,d,cf,ct,bf,bt,false,f1,t1,cg,st,hv,mo⟩:Ms) (⟨.slice a1 cf.length c1,.slice a2 ct.length c2,.slice a3 bf.length c3,.slice a4 bt.length c4,.slice ea f1.length ec,.slice ta t1.length tc,.slice a7 cg.length c7,.slice a8 st.length c8,.slice a9 hv.length c9⟩:Mv) by rw [<- hw4];exact HX.out.setEst f1 t1 _ _);have HZ4:=hid (HZ.out.only ho4 (by omega));have HB4:=hid (seen HB3.out (Nat.le_refl _) ho4);have HO3:=hid (HO1.out.only ho4 (by have:=HSA.out;omega));have HO4:=hid (HO2.out.only ho4 (by have:=HSA.out;omega));have HW4:=hid hw4;clear hw4 ho4 HB3 HO1 HO2;go_upto_region 15 with fail
  rw [HW4.out];clear HX HZ x12 x13 f12 f13 y0 y1;have HX:=hid HX4.out;have HZ:=hid HZ4.out;have hsum:(1:Int)+(u1:Int)<=9223372036854775807:=by have:=HU.out;omega
  obtain ⟨C,hC⟩:∃ C,C=mcell (⟨k,fr,tx,p,n,r,d,cf,ct,bf,bt,false,f1,t1,cg,st,hv,mo⟩:Ms) (⟨.slice a1 cf.length c1,.slice a2 ct.length c2,.slice a3 bf.length c3,.slice a4 bt.length c4,.slice ea f1.length ec,.slice ta t1.length tc,.slice a7 cg.length c7,.slice a8 st.length c8,.slice a9 hv.length c9⟩:Mv):=⟨_,rfl⟩
  have hx:w4.heap[w.heap.size]? = some (.cells C 33 (0,0)):=by rw [hC];exact HX.out
  have hsz:C.size=18:=by rw [hC];rfl
  have hsc:=run_storeCells_row w4 (w.heap.size+1) 33 _ C HZ.out (by rw [hC];rfl) (by rw [hC];simp [mcell,Value.oneCell']);have HC:=hid hC;clear hC;go_wp2_with (refine wpList_load_row rfl 33 _ rfl w.heap.size rfl 33 C (0,0) _ hx Tryz.underlying33 rfl (by rw [hsz];kernel_rfl) ?_)
  refine msgRet3 (m:=(⟨k,fr,tx,p,n,r,d,cf,ct,bf,bt,false,f1,t1,cg,st,hv,mo⟩:Ms)) (x:=(⟨.slice a1 cf.length c1,.slice a2 ct.length c2,.slice a3 bf.length c3,.slice a4 bt.length c4,.slice ea f1.length ec,.slice ta t1.length tc,.slice a7 cg.length c7,.slice a8 st.length c8,.slice a9 hv.length c9⟩:Mv)) rfl rfl rfl rfl (by rw [HC.out];exact HZ.out.put _ _) rfl ⟨(⟨.slice a1 cf.length c1,.slice a2 ct.length c2,.slice a3 bf.length c3,.slice a4 bt.length c4,.slice ea f1.length ec,.slice ta t1.length tc,.slice a7 cg.length c7,.slice a8 st.length c8,.slice a9 hv.length c9⟩:Mv),(⟨k,fr,tx,p,n,r,d,cf,ct,bf,bt,false,f1,t1,cg,st,hv,mo⟩:Ms),?_,?_,⟨⟨_,_,_,rfl⟩,⟨_,_,_,rfl⟩,⟨_,_,_,rfl⟩,⟨_,_,_,rfl⟩,⟨_,_,_,rfl⟩,⟨_,_,_,rfl⟩,⟨_,_,_,rfl⟩,⟨_,_,_,rfl⟩,⟨_,_,_,rfl⟩⟩,?_⟩
  ·rw [HRE.out];simp
  ·rw [HRE.out];rintro _ rfl rfl hx1 hx2;exact ⟨⟨rfl,rfl,rfl,rfl,rfl,OwnR.of_nil hx1,OwnR.of_nil hx2,(HO3.out.only (onlyRow _ _ _) HSA.out).mono (by have:=HSA.out;omega),(HO4.out.only (onlyRow _ _ _) HSA.out).mono (by have:=HSA.out;omega)⟩,rfl⟩
  ·exact seen HB4.out (by omega) (onlyRow _ _ _)
 ·rw [hd] at hBo;have HBo:=hid hBo;have hR2:R=if (CM.decC (xs.drop 1)).1≠0 then ((CM.decC (xs.drop 1)).1,0,NM.bs0) else if (CM.decC (xs.drop (1+(CM.decC (xs.drop 1)).2.1))).1≠0 then ((CM.decC (xs.drop (1+(CM.decC (xs.drop 1)).2.1))).1,0,NM.bs0) else (0,1+((CM.decC (xs.drop 1)).2.1+(CM.decC (xs.drop (1+(CM.decC (xs.drop 1)).2.1))).2.1),(true,(CM.decC (xs.drop 1)).2.2,(CM.decC (xs.drop (1+(CM.decC (xs.drop 1)).2.1))).2.2)):=by
   rw [hR];unfold NM.pB NM.seq NM.bl NM.pmap;rw [hd];simp only [if_true,ne_eq,not_true_eq_false,if_false];rw [show ((1:Int).toNat)=1 from rfl,<- List.drop_drop];generalize CM.decC (xs.drop 1)=D1;obtain ⟨e1,v1,g1,s1⟩:=D1;dsimp only;generalize CM.decC ((xs.drop 1).drop v1)=D2;obtain ⟨e2,v2,g2,s2⟩:=D2;dsimp only;by_cases q1:e1=0
   ·by_cases q2:e2=0
    ·simp [q1,q2]
    ·simp [q1,q2]
   ·simp [q1]
  have hu:=decC_used (xs:=xs.drop 1) (fun c hc=>HBY.out c (List.mem_of_mem_drop hc));rw [List.length_drop] at hu;have hDC:=fun v' w' (g:Rd w' v' (xs.drop 1))=>rDecodeCertO v' (xs.drop 1) w' g
  generalize CM.decC (xs.drop 1)=D at hR2 hu hDC;obtain ⟨er,u1,f1,t1⟩:=D;dsimp only at hR2 hu hDC;have hu2:=decC_used (xs:=xs.drop (1+u1)) (fun c hc=>HBY.out c (List.mem_of_mem_drop hc));rw [List.length_drop] at hu2;have hDE:=fun v' w' (g:Rd w' v' (xs.drop (1+u1)))=>rDecodeCertO v' (xs.drop (1+u1)) w' g
  generalize CM.decC (xs.drop (1+u1))=D at hR2 hu2 hDE;obtain ⟨er2,u2,f2,t2⟩:=D;dsimp only at hR2 hu2 hDE;have HDC:=hid hDC;have HDE:=hid hDE;have HR:=hid hR2;have HU:=hid (show 1+u1+u2<=9223372036854775807 by have:=rd_len64 hv0;omega);have HU1:=hid (show 1+u1<=xs.length by omega);have HLN:=hid hxl;have x11:=HX.out.cells.2.2.2.2.2.2.2.2.2.2.2.1;dsimp only at x11;have f11:=HX.out.free 11;obtain ⟨wA,hwA⟩:∃ wA,w0.setCell ⟨w.heap.size,11,none⟩ (.bool true)=wA:=⟨_,rfl⟩
  have hoA:Only w.heap.size w0 wA:=by rw [<- hwA];exact Only.set 11 _
  have HXA:=hid (show MB wA w.heap.size (⟨k,fr,tx,p,n,r,d,cf,ct,bf,bt,true,ef,et,cg,st,hv,mo⟩:Ms) (⟨.slice a1 cf.length c1,.slice a2 ct.length c2,.slice a3 bf.length c3,.slice a4 bt.length c4,.slice a5 ef.length c5,.slice a6 et.length c6,.slice a7 cg.length c7,.slice a8 st.length c8,.slice a9 hv.length c9⟩:Mv) by rw [<- hwA];exact HX.out.setB true);have HZA:=hid (HZ.out.only hoA (by omega));have HBA:=hid (seen HB.out (Nat.le_refl _) hoA);have HV2:=hid hv0;have HWA:=hid hwA;have HRO:=hid (⟨h1,h2,h3,h4,h5,h6,h7,h8,h9⟩:RdMs w (⟨.slice a1 cf.length c1,.slice a2 ct.length c2,.slice a3 bf.length c3,.slice a4 bt.length c4,.slice a5 ef.length c5,.slice a6 et.length c6,.slice a7 cg.length c7,.slice a8 st.length c8,.slice a9 hv.length c9⟩:Mv) ({k,fr,tx,p,n,r,d,cf,ct,bf,bt,hb,ef,et,cg,st,hv,mo}:Ms));have HSA:=hid (show w.heap.size+1<wA.heap.size by have:=HZA.out.lt;omega);clear hBo hR hR2 hu hu2 hDC hDE hX hZ hb0 hw0 h1 h2 h3 h4 h5 h6 h7 h8 h9 hv0 hxl hwA hoA hd;dsimp only [mv,mcell];go_enter Tryz.func94,Tryz.ntmps94
  go_wp2_with fail
  rw [HW.out];refine HBo.out.mono ?_;rintro e' w1 ⟨rfl,rfl⟩;obtain ⟨v2,hcut0,hrd⟩:=(HV2.out.below HBA.out).cutL 1 HLN.out;have hcut:∀ w0:World,(Instr.slice 39 (.slice va xs.length vc) (some (.int .i64 1)) none none).run Tryz.prog w0 = .ok v2 w0:=hcut0;clear hcut0;have HCD:=hid (HDC.out v2 wA hrd);clear hrd HBo HW;go_wp2_with fail
  rw [HWA.out];refine HCD.out.mono ?_;rintro e w2 ⟨a,b2,rfl,ho1,ho2,hb2⟩;obtain ⟨ba,bc,rfl,_⟩:=ho1.shape;obtain ⟨da,dc,rfl,_⟩:=ho2.shape;have hfr:=below_fresh w2 (.cells #[.slice ba f1.length bc,.slice da t1.length dc] 27);have hY:=XB.fresh w2 (.slice ba f1.length bc) (.slice da t1.length dc);obtain ⟨w3,hw3⟩:∃ w3,w2.alloc (.cells #[.slice ba f1.length bc,.slice da t1.length dc] 27)=w3:=⟨_,rfl⟩
  rw [hw3] at hfr hY;have hb3:=bnext hb2 hfr;have HX:=hid (HXA.out.below hb3);have HZ:=hid (HZA.out.below hb3);have HB3:=hid (bnext HBA.out hb3);have HO1:=hid (ho1.below hfr);have HO2:=hid (ho2.below hfr);have HY:=hid hY;have HW3:=hid hw3;have HS3:=hid (show w.heap.size+1<w3.heap.size by have:=HSA.out;have:=hb3.size;omega);clear hfr hY hw3 hb3 hb2 ho1 ho2 HXA HZA HDC HCD HWA x11 f11 hcut HBA;go_upto_region 7 with fail
  rw [HW3.out];by_cases he:er=0
  case neg=>
   have hne:(er != 0)=true:=bne_t he;have HRE:=hid (show R=(er,0,NM.bs0) by rw [HR.out,if_pos he]);have HE:=hid he;clear he HR;obtain ⟨C,hC⟩:∃ C,C=mcell (⟨k,fr,tx,p,n,r,d,cf,ct,bf,bt,true,ef,et,cg,st,hv,mo⟩:Ms) (⟨.slice a1 cf.length c1,.slice a2 ct.length c2,.slice a3 bf.length c3,.slice a4 bt.length c4,.slice a5 ef.length c5,.slice a6 et.length c6,.slice a7 cg.length c7,.slice a8 st.length c8,.slice a9 hv.length c9⟩:Mv):=⟨_,rfl⟩
   have hx:w3.heap[w.heap.size]? = some (.cells C 33 (0,0)):=by rw [hC];exact HX.out
   have hsz:C.size=18:=by rw [hC];rfl
   have hsc:=run_storeCells_row w3 (w.heap.size+1) 33 _ C HZ.out (by rw [hC];rfl) (by rw [hC];simp [mcell,Value.oneCell']);have HC:=hid hC;clear hC;go_upto_region 8 with fail
   go_wp2_with (refine wpList_load_row rfl 33 _ rfl w.heap.size rfl 33 C (0,0) _ hx Tryz.underlying33 rfl (by rw [hsz];kernel_rfl) ?_)
   refine msgRet3 (m:=(⟨k,fr,tx,p,n,r,d,cf,ct,bf,bt,true,ef,et,cg,st,hv,mo⟩:Ms)) (x:=(⟨.slice a1 cf.length c1,.slice a2 ct.length c2,.slice a3 bf.length c3,.slice a4 bt.length c4,.slice a5 ef.length c5,.slice a6 et.length c6,.slice a7 cg.length c7,.slice a8 st.length c8,.slice a9 hv.length c9⟩:Mv)) rfl rfl rfl rfl (by rw [HC.out];exact HZ.out.put _ _) rfl ⟨(⟨.slice a1 cf.length c1,.slice a2 ct.length c2,.slice a3 bf.length c3,.slice a4 bt.length c4,.slice a5 ef.length c5,.slice a6 et.length c6,.slice a7 cg.length c7,.slice a8 st.length c8,.slice a9 hv.length c9⟩:Mv),(⟨k,fr,tx,p,n,r,d,cf,ct,bf,bt,true,ef,et,cg,st,hv,mo⟩:Ms),?_,?_,⟨⟨_,_,_,rfl⟩,⟨_,_,_,rfl⟩,⟨_,_,_,rfl⟩,⟨_,_,_,rfl⟩,⟨_,_,_,rfl⟩,⟨_,_,_,rfl⟩,⟨_,_,_,rfl⟩,⟨_,_,_,rfl⟩,⟨_,_,_,rfl⟩⟩,?_⟩
   ·rw [HRE.out];rfl
   ·rw [HRE.out];intro h;exact absurd h HE.out
   ·exact seen HB3.out (by omega) (onlyRow _ _ _)
  subst he;obtain ⟨y0,y1,_⟩:=HY.out.cells;have x9:=HX.out.cells.2.2.2.2.2.2.2.2.2.1;have x10:=HX.out.cells.2.2.2.2.2.2.2.2.2.2.1;dsimp only at x9 x10;have f9:=HX.out.free 9;have f10:=HX.out.free 10;obtain ⟨w4,hw4⟩:∃ w4,(w3.setCell ⟨w.heap.size,9,none⟩ (.slice ba f1.length bc)).setCell ⟨w.heap.size,10,none⟩ (.slice da t1.length dc)=w4:=⟨_,rfl⟩
  have ho4:Only w.heap.size w3 w4:=by rw [<- hw4];exact onlyTwo _ _
  have HX4:=hid (show MB w4 w.heap.size (⟨k,fr,tx,p,n,r,d,cf,ct,f1,t1,true,ef,et,cg,st,hv,mo⟩:Ms) (⟨.slice a1 cf.length c1,.slice a2 ct.length c2,.slice ba f1.length bc,.slice da t1.length dc,.slice a5 ef.length c5,.slice a6 et.length c6,.slice a7 cg.length c7,.slice a8 st.length c8,.slice a9 hv.length c9⟩:Mv) by rw [<- hw4];exact HX.out.setBase f1 t1 _ _);have HZ4:=hid (HZ.out.only ho4 (by omega));have HB4:=hid (seen HB3.out (Nat.le_refl _) ho4);have HO3:=hid (HO1.out.only ho4 (by have:=HSA.out;omega));have HO4:=hid (HO2.out.only ho4 (by have:=HSA.out;omega));have HS4:=hid (show w.heap.size+1<w4.heap.size by have:=HS3.out;have:=ho4.size;omega);have HW4:=hid hw4;clear hw4 ho4 HB3 HO1 HO2 HY HS3;go_upto_region 10 with fail
  rw [HW4.out];clear HX HZ x9 x10 f9 f10 y0 y1 HW4 HW3;have hsum1:(1:Int)+(u1:Int)<=9223372036854775807:=by have:=HU.out;omega
  obtain ⟨v3,hcut0,hrd⟩:=(HV2.out.below HB4.out).cutL (1+u1) HU1.out;have hcut:∀ w0:World,(Instr.slice 39 (.slice va xs.length vc) (some (.int .i64 (1+(u1:Int)))) none none).run Tryz.prog w0 = .ok v3 w0:=by
   intro w0;have h:=hcut0 w0;rwa [show ((1+u1:Nat):Int)=1+(u1:Int) by omega] at h
  clear hcut0;have HCD:=hid (HDE.out v3 w4 hrd);clear hrd;go_wp2_with fail
  refine HCD.out.mono ?_;rintro e w5 ⟨a,b2,rfl,ho1,ho2,hb2⟩;obtain ⟨ea,ec,rfl,_⟩:=ho1.shape;obtain ⟨ta,tc,rfl,_⟩:=ho2.shape;have hfr:=below_fresh w5 (.cells #[.slice ea f2.length ec,.slice ta t2.length tc] 27);have hY:=XB.fresh w5 (.slice ea f2.length ec) (.slice ta t2.length tc);obtain ⟨w6,hw6⟩:∃ w6,w5.alloc (.cells #[.slice ea f2.length ec,.slice ta t2.length tc] 27)=w6:=⟨_,rfl⟩
  rw [hw6] at hfr hY;have hb3:=bnext hb2 hfr;have HX:=hid (HX4.out.below hb3);have HZ:=hid (HZ4.out.below hb3);have HB6:=hid (bnext HB4.out hb3);have HP1:=hid (ho1.below hfr);have HP2:=hid (ho2.below hfr);have HO5:=hid (HO3.out.below hb3);have HO6:=hid (HO4.out.below hb3);have HY:=hid hY;have HW6:=hid hw6;clear hfr hY hw6 hb3 hb2 ho1 ho2 HX4 HZ4 HDE HCD HB4 HO3 HO4 hcut hsum1;go_upto_region 12 with fail
  rw [HW6.out];by_cases he:er2=0
  case neg=>
   have hne:(er2 != 0)=true:=bne_t he;have HRE:=hid (show R=(er2,0,NM.bs0) by rw [HR.out,if_neg (by simp),if_pos he]);have HE:=hid he;clear he HR;obtain ⟨C,hC⟩:∃ C,C=mcell (⟨k,fr,tx,p,n,r,d,cf,ct,f1,t1,true,ef,et,cg,st,hv,mo⟩:Ms) (⟨.slice a1 cf.length c1,.slice a2 ct.length c2,.slice ba f1.length bc,.slice da t1.length dc,.slice a5 ef.length c5,.slice a6 et.length c6,.slice a7 cg.length c7,.slice a8 st.length c8,.slice a9 hv.length c9⟩:Mv):=⟨_,rfl⟩
   have hx:w6.heap[w.heap.size]? = some (.cells C 33 (0,0)):=by rw [hC];exact HX.out
   have hsz:C.size=18:=by rw [hC];rfl
   have hsc:=run_storeCells_row w6 (w.heap.size+1) 33 _ C HZ.out (by rw [hC];rfl) (by rw [hC];simp [mcell,Value.oneCell']);have HC:=hid hC;clear hC;go_upto_region 13 with fail
   go_wp2_with (refine wpList_load_row rfl 33 _ rfl w.heap.size rfl 33 C (0,0) _ hx Tryz.underlying33 rfl (by rw [hsz];kernel_rfl) ?_)
   refine msgRet3 (m:=(⟨k,fr,tx,p,n,r,d,cf,ct,f1,t1,true,ef,et,cg,st,hv,mo⟩:Ms)) (x:=(⟨.slice a1 cf.length c1,.slice a2 ct.length c2,.slice ba f1.length bc,.slice da t1.length dc,.slice a5 ef.length c5,.slice a6 et.length c6,.slice a7 cg.length c7,.slice a8 st.length c8,.slice a9 hv.length c9⟩:Mv)) rfl rfl rfl rfl (by rw [HC.out];exact HZ.out.put _ _) rfl ⟨(⟨.slice a1 cf.length c1,.slice a2 ct.length c2,.slice ba f1.length bc,.slice da t1.length dc,.slice a5 ef.length c5,.slice a6 et.length c6,.slice a7 cg.length c7,.slice a8 st.length c8,.slice a9 hv.length c9⟩:Mv),(⟨k,fr,tx,p,n,r,d,cf,ct,f1,t1,true,ef,et,cg,st,hv,mo⟩:Ms),?_,?_,⟨⟨_,_,_,rfl⟩,⟨_,_,_,rfl⟩,⟨_,_,_,rfl⟩,⟨_,_,_,rfl⟩,⟨_,_,_,rfl⟩,⟨_,_,_,rfl⟩,⟨_,_,_,rfl⟩,⟨_,_,_,rfl⟩,⟨_,_,_,rfl⟩⟩,?_⟩
   ·rw [HRE.out];rfl
   ·rw [HRE.out];intro h;exact absurd h HE.out
   ·exact seen HB6.out (by omega) (onlyRow _ _ _)
  subst he;have HRE:=hid (show R=(0,1+(u1+u2),(true,(f1,t1),(f2,t2))) by rw [HR.out,if_neg (by simp),if_neg (by simp)]);clear HR;obtain ⟨y0,y1,_⟩:=HY.out.cells;have x12:=HX.out.cells.2.2.2.2.2.2.2.2.2.2.2.2.1;have x13:=HX.out.cells.2.2.2.2.2.2.2.2.2.2.2.2.2.1;dsimp only at x12 x13;have f12:=HX.out.free 12;have f13:=HX.out.free 13;obtain ⟨w7,hw7⟩:∃ w7,(w6.setCell ⟨w.heap.size,12,none⟩ (.slice ea f2.length ec)).setCell ⟨w.heap.size,13,none⟩ (.slice ta t2.length tc)=w7:=⟨_,rfl⟩
  have ho7:Only w.heap.size w6 w7:=by rw [<- hw7];exact onlyTwo _ _
  have HX7:=hid (show MB w7 w.heap.size (⟨k,fr,tx,p,n,r,d,cf,ct,f1,t1,true,f2,t2,cg,st,hv,mo⟩:Ms) (⟨.slice a1 cf.length c1,.slice a2 ct.length c2,.slice ba f1.length bc,.slice da t1.length dc,.slice ea f2.length ec,.slice ta t2.length tc,.slice a7 cg.length c7,.slice a8 st.length c8,.slice a9 hv.length c9⟩:Mv) by rw [<- hw7];exact HX.out.setEst f2 t2 _ _);have HZ7:=hid (HZ.out.only ho7 (by omega));have HB7:=hid (seen HB6.out (Nat.le_refl _) ho7);have HP3:=hid (HP1.out.only ho7 (by have:=HS4.out;omega));have HP4:=hid (HP2.out.only ho7 (by have:=HS4.out;omega));have HO7:=hid (HO5.out.only ho7 (by have:=HSA.out;omega));have HO8:=hid (HO6.out.only ho7 (by have:=HSA.out;omega));have HW7:=hid hw7;clear hw7 ho7 HB6 HP1 HP2 HO5 HO6;go_upto_region 15 with fail
  rw [HW7.out];clear HX HZ x12 x13 f12 f13 y0 y1;have HX:=hid HX7.out;have HZ:=hid HZ7.out;have hsum:(1:Int)+(u1:Int)+(u2:Int)<=9223372036854775807:=by have:=HU.out;omega
  obtain ⟨C,hC⟩:∃ C,C=mcell (⟨k,fr,tx,p,n,r,d,cf,ct,f1,t1,true,f2,t2,cg,st,hv,mo⟩:Ms) (⟨.slice a1 cf.length c1,.slice a2 ct.length c2,.slice ba f1.length bc,.slice da t1.length dc,.slice ea f2.length ec,.slice ta t2.length tc,.slice a7 cg.length c7,.slice a8 st.length c8,.slice a9 hv.length c9⟩:Mv):=⟨_,rfl⟩
  have hx:w7.heap[w.heap.size]? = some (.cells C 33 (0,0)):=by rw [hC];exact HX.out
  have hsz:C.size=18:=by rw [hC];rfl
  have hsc:=run_storeCells_row w7 (w.heap.size+1) 33 _ C HZ.out (by rw [hC];rfl) (by rw [hC];simp [mcell,Value.oneCell']);have HC:=hid hC;clear hC;go_wp2_with (refine wpList_load_row rfl 33 _ rfl w.heap.size rfl 33 C (0,0) _ hx Tryz.underlying33 rfl (by rw [hsz];kernel_rfl) ?_)
  refine msgRet3 (m:=(⟨k,fr,tx,p,n,r,d,cf,ct,f1,t1,true,f2,t2,cg,st,hv,mo⟩:Ms)) (x:=(⟨.slice a1 cf.length c1,.slice a2 ct.length c2,.slice ba f1.length bc,.slice da t1.length dc,.slice ea f2.length ec,.slice ta t2.length tc,.slice a7 cg.length c7,.slice a8 st.length c8,.slice a9 hv.length c9⟩:Mv)) rfl rfl rfl rfl (by rw [HC.out];exact HZ.out.put _ _) rfl ⟨(⟨.slice a1 cf.length c1,.slice a2 ct.length c2,.slice ba f1.length bc,.slice da t1.length dc,.slice ea f2.length ec,.slice ta t2.length tc,.slice a7 cg.length c7,.slice a8 st.length c8,.slice a9 hv.length c9⟩:Mv),(⟨k,fr,tx,p,n,r,d,cf,ct,f1,t1,true,f2,t2,cg,st,hv,mo⟩:Ms),?_,?_,⟨⟨_,_,_,rfl⟩,⟨_,_,_,rfl⟩,⟨_,_,_,rfl⟩,⟨_,_,_,rfl⟩,⟨_,_,_,rfl⟩,⟨_,_,_,rfl⟩,⟨_,_,_,rfl⟩,⟨_,_,_,rfl⟩,⟨_,_,_,rfl⟩⟩,?_⟩
  ·rw [HRE.out];simp;omega
  ·rw [HRE.out];rintro _ rfl rfl _ _;exact ⟨⟨rfl,rfl,rfl,rfl,rfl,(HO7.out.only (onlyRow _ _ _) HSA.out).mono (by have:=HSA.out;omega),(HO8.out.only (onlyRow _ _ _) HSA.out).mono (by have:=HSA.out;omega),(HP3.out.only (onlyRow _ _ _) HS4.out).mono (by have:=HS4.out;omega),(HP4.out.only (onlyRow _ _ _) HS4.out).mono (by have:=HS4.out;omega)⟩,rfl⟩
  ·exact seen HB7.out (by omega) (onlyRow _ _ _)
end
end Go.Proofs.YtahcehbgfhdbjaaGreatDoor

