/-
  TB1: joined texts, what nothing names left out.
-/
import Derived.Laws.EntriesVeiled
import Derived.Test.YtahcehbgfhdbjaaGreatDoorQUKH
set_option maxHeartbeats 8000000
set_option maxRecDepth 100000
open Go.Lib (hid)
namespace Go.Proofs.YtahcehbgfhdbjaaGreatDoor
section
open Go.RowKit
open JM (Chg)
open CM (Fp)
open VM (Ent)
theorem setE:IsElem Tryz.prog 24 93 3 40 encQ:={ proE with ht:=Tryz.underlying24 }
theorem RdF.atS {w:World} {a:Option Addr} {n c:Nat} {fs:List Fp} (h:RdF w (.slice a n c) fs) (k:Nat) (x m:Int) (cs:List Chg) (hk:fs[k]? = some (x,m,cs)) :
  ∃ b o ad l cp,(∀ w0,(Instr.indexAt 24 (.slice a n c) (.int .i64 (k:Int))).run Tryz.prog w0 = .ok (.pointer (some ⟨b,o,none⟩)) w0)/\b<w.heap.size /\
   w.cell? ⟨b,o,none⟩=some (.int .i64 x)/\w.cell? ⟨b,o+1,none⟩=some (.int .i64 m)/\w.cell? ⟨b,o+2,none⟩=some (.slice ad l cp)/\RdC w (.slice ad l cp) cs:=by
 obtain ⟨qs,h1,h2⟩:=h;obtain ⟨⟨x',m',ad,l,cp⟩,h3,h4,h5,h6⟩:=h2.get hk;simp only at h4 h5;subst h4 h5;obtain ⟨b,o,g1,g2,g3⟩:=RdG.at_ setE h1 k _ h3;exact ⟨b,o,ad,l,cp,g1,g2,g3 0 _ rfl,g3 1 _ rfl,g3 2 _ rfl,h6⟩
theorem RdF.cut0S {w:World} {a:Option Addr} {n c:Nat} {fs:List Fp} (h:RdF w (.slice a n c) fs) (hi:Nat) (h2:hi<=fs.length) :
  ∃ v',(∀ w0:World,(Instr.slice 24 (.slice a n c) none (some (.int .i64 (hi:Int))) none).run Tryz.prog w0 = .ok v' w0)/\RdF w v' (fs.take hi):=by
 obtain ⟨qs,h3,h4⟩:=h;obtain ⟨v',h5,h6⟩:=h3.cut0 setE hi (by rw [h4.len];exact h2);exact ⟨v',h5,_,h6,h4.take hi⟩
def KB (w:World) (K:Nat):Prop:=w.heap[K]? = some (.cells #[.func (.func 141) #[] #[],.func (.func 142) #[] #[],.func (.func 143) #[] #[],.func (.func 138) #[] #[],.func (.func 113) #[] #[],.func (.func 144) #[] #[],.func (.func 145) #[] #[],.func (.func 146) #[] #[],.int .i64 9] 159 (0,0))
theorem KB.fresh (w:World):KB (w.alloc (.cells #[.func (.func 141) #[] #[],.func (.func 142) #[] #[],.func (.func 143) #[] #[],.func (.func 138) #[] #[],.func (.func 113) #[] #[],.func (.func 144) #[] #[],.func (.func 145) #[] #[],.func (.func 146) #[] #[],.int .i64 9] 159)) w.heap.size:=heap_alloc_new w _
theorem KB.below {w w':World} {K:Nat} (h:KB w K) (hb:Below w.heap.size w w'):KB w' K:=below_block h hb
theorem KB.keep {w w':World} {K:Nat} (h:KB w K) (hk:KeepsX 93 w w'):KB w' K:=hk.at h (by decide)
theorem KB.lt {w:World} {K:Nat} (h:KB w K):K<w.heap.size:=(Array.getElem?_eq_some_iff.1 h).1
theorem KB.cells {w:World} {K:Nat} (h:KB w K):w.cell? ⟨K,0,none⟩=some (.func (.func 141) #[] #[])/\w.cell? ⟨K,1,none⟩=some (.func (.func 142) #[] #[]) /\
  w.cell? ⟨K,2,none⟩=some (.func (.func 143) #[] #[])/\w.cell? ⟨K,3,none⟩=some (.func (.func 138) #[] #[])/\w.cell? ⟨K,4,none⟩=some (.func (.func 113) #[] #[]) /\
  w.cell? ⟨K,5,none⟩=some (.func (.func 144) #[] #[])/\w.cell? ⟨K,6,none⟩=some (.func (.func 145) #[] #[])/\w.cell? ⟨K,7,none⟩=some (.func (.func 146) #[] #[])/\w.cell? ⟨K,8,none⟩=some (.int .i64 9):=by
 unfold KB at h;refine ⟨?_,?_,?_,?_,?_,?_,?_,?_,?_⟩ <;> simp [World.cell?,h]
theorem KB.later {w:World} {K:Nat} (h:KB w K):(∀ p:Later w,p.val.cell? ⟨K,0,none⟩=some (.func (.func 141) #[] #[]))/\(∀ p:Later w,p.val.cell? ⟨K,1,none⟩=some (.func (.func 142) #[] #[])) /\
  (∀ p:Later w,p.val.cell? ⟨K,2,none⟩=some (.func (.func 143) #[] #[]))/\(∀ p:Later w,p.val.cell? ⟨K,3,none⟩=some (.func (.func 138) #[] #[]))/\(∀ p:Later w,p.val.cell? ⟨K,4,none⟩=some (.func (.func 113) #[] #[])) /\
  (∀ p:Later w,p.val.cell? ⟨K,5,none⟩=some (.func (.func 144) #[] #[]))/\(∀ p:Later w,p.val.cell? ⟨K,6,none⟩=some (.func (.func 145) #[] #[]))/\(∀ p:Later w,p.val.cell? ⟨K,7,none⟩=some (.func (.func 146) #[] #[]))/\(∀ p:Later w,p.val.cell? ⟨K,8,none⟩=some (.int .i64 9)):=by
 obtain ⟨k0,k1,k2,k3,k4,k5,k6,k7,k8⟩:=h.cells;exact ⟨fun p=>below_cell p.h k0,fun p=>below_cell p.h k1,fun p=>below_cell p.h k2,fun p=>below_cell p.h k3,fun p=>below_cell p.h k4,fun p=>below_cell p.h k5,fun p=>below_cell p.h k6,fun p=>below_cell p.h k7,fun p=>below_cell p.h k8⟩
theorem lat_e {w:World} {B:Nat} {x m:Int} {s:Value} (h:OP w B x m s):(∀ p:Later w,p.val.cell? ⟨B,0,none⟩=some (.int .i64 x))/\(∀ p:Later w,p.val.cell? ⟨B,1,none⟩=some (.int .i64 m)) /\ ∀ p:Later w,p.val.cell? ⟨B,2,none⟩=some s:=by
 obtain ⟨c0,c1,c2,_⟩:=h.cells;exact ⟨fun p=>below_cell p.h c0,fun p=>below_cell p.h c1,fun p=>below_cell p.h c2⟩
structure KBox (w w2:World) (x m:Int) (s:Value):Prop where
 eq:(w.alloc (.cells #[.func (.func 141) #[] #[],.func (.func 142) #[] #[],.func (.func 143) #[] #[],.func (.func 138) #[] #[],.func (.func 113) #[] #[],.func (.func 144) #[] #[],.func (.func 145) #[] #[],.func (.func 146) #[] #[],.int .i64 9] 159)).alloc (.cells #[.int .i64 x,.int .i64 m,s] 93)=w2
 k:KB w2 w.heap.size
 e:OP w2 (w.heap.size+1) x m s
 below:Below w.heap.size w w2
 size:w2.heap.size=w.heap.size+2
theorem kbox (w:World) (x m:Int) (s:Value):∃ w2,KBox w w2 x m s:=by
 have b1:=below_fresh w (.cells #[.func (.func 141) #[] #[],.func (.func 142) #[] #[],.func (.func 143) #[] #[],.func (.func 138) #[] #[],.func (.func 113) #[] #[],.func (.func 144) #[] #[],.func (.func 145) #[] #[],.func (.func 146) #[] #[],.int .i64 9] 159);have k1:=KB.fresh w;have z1:=World.size_alloc w (.cells #[.func (.func 141) #[] #[],.func (.func 142) #[] #[],.func (.func 143) #[] #[],.func (.func 138) #[] #[],.func (.func 113) #[] #[],.func (.func 144) #[] #[],.func (.func 145) #[] #[],.func (.func 146) #[] #[],.int .i64 9] 159);obtain ⟨w1,hw1⟩:∃ z,w.alloc (.cells #[.func (.func 141) #[] #[],.func (.func 142) #[] #[],.func (.func 143) #[] #[],.func (.func 138) #[] #[],.func (.func 113) #[] #[],.func (.func 144) #[] #[],.func (.func 145) #[] #[],.func (.func 146) #[] #[],.int .i64 9] 159)=z:=⟨_,rfl⟩
 rw [hw1] at b1 k1 z1;have b2:=below_fresh w1 (.cells #[.int .i64 x,.int .i64 m,s] 93);have o2:=OP.fresh w1 x m s;rw [z1] at o2;exact ⟨_,by rw [hw1],k1.below b2,o2,bnext b1 b2,by rw [World.size_alloc,z1]⟩
structure KOne (w w1:World):Prop where
 eq:w.alloc (.cells #[.func (.func 141) #[] #[],.func (.func 142) #[] #[],.func (.func 143) #[] #[],.func (.func 138) #[] #[],.func (.func 113) #[] #[],.func (.func 144) #[] #[],.func (.func 145) #[] #[],.func (.func 146) #[] #[],.int .i64 9] 159)=w1
 k:KB w1 w.heap.size
 below:Below w.heap.size w w1
theorem kone (w:World):∃ w1,KOne w w1:=⟨_,rfl,KB.fresh w,below_fresh w _⟩
structure EOne (w w1:World) (x m:Int) (s:Value):Prop where
 eq:w.alloc (.cells #[.int .i64 x,.int .i64 m,s] 93)=w1
 e:OP w1 w.heap.size x m s
 below:Below w.heap.size w w1
 size:w1.heap.size=w.heap.size+1
theorem eone (w:World) (x m:Int) (s:Value):∃ w1,EOne w w1 x m s:=⟨_,rfl,OP.fresh w x m s,below_fresh w _,World.size_alloc w _⟩
theorem el_ret {R:Ending->World->Prop} {a:Act} {w:World} {g:Nat} (hp:a.tmps.getD 0 undef = .pointer (some ⟨g,0,none⟩)) (hg:KB w g)
  (hd:a.defers = []) (hR:R (.returned (.agg #[.func (.func 141) #[] #[],.func (.func 142) #[] #[],.func (.func 143) #[] #[],.func (.func 138) #[] #[],.func (.func 113) #[] #[],.func (.func 144) #[] #[],.func (.func 145) #[] #[],.func (.func 146) #[] #[],.int .i64 9])) w):bodyPost Tryz.prog Tryz.f115 R .ret a w:=
 bodyPost_ret (results_cell_row (P:=Tryz.prog) rfl a.tmps w g 159 _ _ _ hp hg Tryz.underlying159 rfl (by kernel_rfl)) hd hR
theorem cElements (w:World):Calls Tryz.prog 115 #[] w fun e w'=>e = .returned (.agg #[.func (.func 141) #[] #[],.func (.func 142) #[] #[],.func (.func 143) #[] #[],.func (.func 138) #[] #[],.func (.func 113) #[] #[],.func (.func 144) #[] #[],.func (.func 145) #[] #[],.func (.func 146) #[] #[],.int .i64 9])/\Below w.heap.size w w':=by
 have hb:=below_fresh w (.cells #[.func (.func 141) #[] #[],.func (.func 142) #[] #[],.func (.func 143) #[] #[],.func (.func 138) #[] #[],.func (.func 113) #[] #[],.func (.func 144) #[] #[],.func (.func 145) #[] #[],.func (.func 146) #[] #[],.int .i64 9] 159);have hk:=KB.fresh w;obtain ⟨w1,hw1⟩:∃ z,w.alloc (.cells #[.func (.func 141) #[] #[],.func (.func 142) #[] #[],.func (.func 143) #[] #[],.func (.func 138) #[] #[],.func (.func 113) #[] #[],.func (.func 144) #[] #[],.func (.func 145) #[] #[],.func (.func 146) #[] #[],.int .i64 9] 159)=z:=⟨_,rfl⟩
 rw [hw1] at hb hk;have HW:=hid hw1;have HB:=hid hb;have HK:=hid hk;clear hw1 hb hk;go_enter Tryz.func115,Tryz.ntmps115
 go_wp2
 rw [HW.out];refine el_ret rfl HK.out rfl ?_;exact ⟨rfl,HB.out⟩
theorem cAuth (x m:Int) (a:Option Addr) (l c:Nat) (w:World):Calls Tryz.prog 141 #[pv x m (.slice a l c)] w fun e w'=>e = .returned (.int .i64 x)/\Below w.heap.size w w':=by
 have hb:=below_fresh w (.cells #[.int .i64 x,.int .i64 m,.slice a l c] 93);go_enter Tryz.func141,Tryz.ntmps141
 go_wp2
 go_ret;exact ⟨rfl,hb⟩
theorem cNumb (x m:Int) (a:Option Addr) (l c:Nat) (w:World):Calls Tryz.prog 142 #[pv x m (.slice a l c)] w fun e w'=>e = .returned (.int .i64 m)/\Below w.heap.size w w':=by
 have hb:=below_fresh w (.cells #[.int .i64 x,.int .i64 m,.slice a l c] 93);go_enter Tryz.func142,Tryz.ntmps142
 go_wp2
 go_ret;exact ⟨rfl,hb⟩
section
variable {α:Type} {P:Program} {t e:TypeId} {size bytes:Nat} {enc:α->List Value}
variable {w:World} {ops:Array Oper} {o:Oper} {a:Act} {K:Act->World->Prop} {Q:Exit->Act->World->Prop} {F:Prop} {base:Nat} {v:Value} {ys:List α}
end
def OwnD (base:Nat) (w:World) (v:Value) (fs:List Fp):Prop:=∃ qs,OwnQ base w v qs/\TelO base w qs fs
theorem TelO.keepX {base:Nat} {e:TypeId} {w w':World} (hk:KeepsX e w w') (he:89≠e):∀ {qs:List Pro} {fs:List Fp},TelO base w qs fs->TelO base w' qs fs
 | [],[],_=>trivial
 | _ :: _,_ :: _,h=>⟨⟨h.1.1,h.1.2.1,ownG_keep h.1.2.2 hk he⟩,TelO.keepX hk he h.2⟩
 | [],_ :: _,h=>h.elim
 | _ :: _,[],h=>h.elim
end
section
open Go.RowKit
open JM (Chg)
open CM (Fp)
theorem pre_take {fs:List Fp} {k:Nat} (hk:k<=fs.length):pre (fs.take k) (fs.take k).length=pre fs k:=by
 rw [List.length_take,Nat.min_eq_left hk];unfold pre;by_cases h:k=0
 ·rw [if_pos h,if_pos h]
 ·rw [if_neg h,if_neg h];have:(fs.take k).getD (k - 1) (0,0,[])=fs.getD (k - 1) (0,0,[]):=by simp [List.getD,show k - 1<k by omega]
  rw [this]
def folS (fs:List Fp) (x m:Int):Bool:=decide (m<=1∨((pre fs fs.length).1=x/\(pre fs fs.length).2=m - 1))
theorem sFollows (v:Value) (fs:List Fp) (x m:Int) (da:Option Addr) (dl dc:Nat) (w:World) (h:RdF w v fs) (hm:1<=m/\m<=100) (hx:x≠0) :
  Calls Tryz.prog 140 #[(.agg #[.func (.func 141) #[] #[],.func (.func 142) #[] #[],.func (.func 143) #[] #[],.func (.func 138) #[] #[],.func (.func 113) #[] #[],.func (.func 144) #[] #[],.func (.func 145) #[] #[],.func (.func 146) #[] #[],.int .i64 9]),v,pv x m (.slice da dl dc)] w fun e w'=>e = .returned (.bool (folS fs x m))/\Below w.heap.size w w':=by
 obtain ⟨va,vc,rfl,hvc,_⟩:=h.shape;obtain ⟨w2,HX⟩:=kbox w x m (.slice da dl dc);have HW:=hid HX.eq;have HB:=hid HX.below;have HK:=hid HX.k;have HP:=hid HX.e;have H2:=hid (h.below HX.below);obtain ⟨hm1,hm2⟩:=hm;obtain ⟨K,hK⟩:∃ K,w.heap.size=K:=⟨_,rfl⟩
 rw [hK] at HK HP;have HKE:=hid hK;clear HX h hK;obtain ⟨R,hR⟩:∃ R,R=folS fs x m:=⟨_,rfl⟩
 rw [<- hR];have HR:=hid hR;clear hR;have HN:=hid (cNumb x m da dl dc w2);obtain ⟨_,k1,_⟩:=HK.out.cells;obtain ⟨p0,p1,p2,_⟩:=HP.out.cells;go_enter Tryz.func140,Tryz.ntmps140
 go_upto_region 1 with fail
 rw [HW.out,HKE.out];have HB0:=hid (show Below K w w2 by rw [<- HKE.out];exact HB.out);clear HW HB;go_wp2_with fail
 refine HN.out.mono ?_;rintro e w3 ⟨rfl,hb3⟩;have HB3:=hid (HB0.out.trans (hb3.mono (Nat.le_of_lt HK.out.lt)));have HK3:=hid (HK.out.below hb3);have HP3:=hid (HP.out.below hb3);have H3:=hid (H2.out.below hb3);clear k1 p0 p1 p2 HN HK HP H2 hb3;by_cases h1:m<=1
 ·have e:=hid (show R=true by rw [HR.out];exact decide_eq_true (.inl h1));go_wp2
  go_ret;rw [e.out,HKE.out];exact ⟨rfl,HB3.out⟩
 ·by_cases h0:fs.length=0
  ·have e:=hid (show R=false by
    rw [HR.out];refine decide_eq_false ?_;rintro (h | ⟨h,_⟩)
    ·exact h1 h
    ·rw [h0,show pre fs 0=(0,0) from rfl] at h;exact hx h.symm)
   have hz:((fs.length:Int)==0)=true:=beq_t (by omega);go_wp2
   go_ret;rw [e.out,HKE.out];exact ⟨rfl,HB3.out⟩
  ·have hlt:fs.length - 1<fs.length:=by omega
   have hg:=List.getElem?_eq_getElem hlt;have hpk:pre fs fs.length=(fs[fs.length - 1].1,fs[fs.length - 1].2.1):=by simp [pre,h0,List.getD,hg]
   generalize fs[fs.length - 1]=g at hg hpk;obtain ⟨y,n,ds⟩:=g;simp only at hpk;have HR2:=hid (show R=decide (y=x/\n=m - 1) by
    rw [HR.out];unfold folS;rw [hpk];exact decide_eq_decide.2 ⟨fun h=>h.resolve_left h1,.inr⟩)
   obtain ⟨b,o,ea,el,ec,hi,hb,c0,c1,c2,_⟩:=H3.out.atS (fs.length - 1) y n ds hg;rw [show ((fs.length - 1:Nat):Int)=(fs.length:Int) - 1 by omega] at hi;have hz:((fs.length:Int)==0)=false:=beq_f (by omega);have hpos:(0:Int)<(fs.length:Int):=by omega
   obtain ⟨w4,HX4⟩:=eone w3 y n (.slice ea el ec);have HW4:=hid HX4.eq;have HL4:=hid HX4.e;have HB4:=hid (HB3.out.trans (HX4.below.mono (Nat.le_of_lt HK3.out.lt)));have HK4:=hid (HK3.out.below HX4.below);have HP4:=hid (HP3.out.below HX4.below);have HA1:=hid (fun p:Later w4=>Calls.later (cAuth y n ea el ec p.val));have HA2:=hid (fun p:Later w4=>Calls.later (cAuth x m da dl dc p.val));have HN1:=hid (fun p:Later w4=>Calls.later (cNumb y n ea el ec p.val));have HN2:=hid (fun p:Later w4=>Calls.later (cNumb x m da dl dc p.val));obtain ⟨L,hL⟩:∃ L,w3.heap.size=L:=⟨_,rfl⟩
   rw [hL] at HL4;have HLE:=hid hL;clear hg hpk HR HX4 HK3 HP3 H3 HB3 hL;go_upto_region 6 with fail
   rw [HW4.out,HLE.out];clear c0 c1 c2 hi hb HW4 HLE;obtain ⟨j0,j1,_⟩:=HK4.out.later;obtain ⟨z0,z1,z2⟩:=lat_e HP4.out;obtain ⟨y0,y1,y2⟩:=lat_e HL4.out;have hw1:IntKind.i64.wrap (m - 1)=m - 1:=IntWalk.i64_in _ (by omega);by_cases hyx:y=x
   ·have q1:(y==x)=true:=beq_t hyx;by_cases hnm:n=m - 1
    ·have q2:(n==m - 1)=true:=beq_t hnm;have e:=hid (show R=true by rw [HR2.out];exact decide_eq_true ⟨hyx,hnm⟩);clear hyx hnm HR2;refine wp_region_later (by kernel_rfl) (by kernel_rfl) ?_;repeat (go_big_quiet_step (first | (go_at_call 141;with_reducible exact HA1.out _) | (go_at_call 141;with_reducible exact HA2.out _) | (go_at_call 142;with_reducible exact HN1.out _) | (go_at_call 142;with_reducible exact HN2.out _)))
     refine wpQuiet_nil ?_;rintro _ ⟨p,rfl⟩;have HB5:=hid (HB4.out.trans (p.h.mono (Nat.le_of_lt HK4.out.lt)));generalize p.val=w5 at HB5 ⊢;go_wp2
     go_ret;rw [e.out,HKE.out];exact ⟨rfl,HB5.out⟩
    ·have q2:(n==m - 1)=false:=beq_f hnm;have e:=hid (show R=false by rw [HR2.out];exact decide_eq_false (fun h=>hnm h.2));clear hyx hnm HR2;refine wp_region_later (by kernel_rfl) (by kernel_rfl) ?_;repeat (go_big_quiet_step (first | (go_at_call 141;with_reducible exact HA1.out _) | (go_at_call 141;with_reducible exact HA2.out _) | (go_at_call 142;with_reducible exact HN1.out _) | (go_at_call 142;with_reducible exact HN2.out _)))
     refine wpQuiet_nil ?_;rintro _ ⟨p,rfl⟩;have HB5:=hid (HB4.out.trans (p.h.mono (Nat.le_of_lt HK4.out.lt)));generalize p.val=w5 at HB5 ⊢;go_wp2
     go_ret;rw [e.out,HKE.out];exact ⟨rfl,HB5.out⟩
   ·have q1:(y==x)=false:=beq_f hyx;have e:=hid (show R=false by rw [HR2.out];exact decide_eq_false (fun h=>hyx h.1));clear hyx HR2;refine wp_region_later (by kernel_rfl) (by kernel_rfl) ?_;repeat (go_big_quiet_step (first | (go_at_call 141;with_reducible exact HA1.out _) | (go_at_call 141;with_reducible exact HA2.out _)))
    refine wpQuiet_nil ?_;rintro _ ⟨p,rfl⟩;have HB5:=hid (HB4.out.trans (p.h.mono (Nat.le_of_lt HK4.out.lt)));generalize p.val=w5 at HB5 ⊢;go_wp2
    go_ret;rw [e.out,HKE.out];exact ⟨rfl,HB5.out⟩
end
section
open Go.RowKit
open JM (Chg)
open CM (Fp)
theorem sValidate (v:Value) (fs:List Fp) (w:World) (h:RdF w v fs) :
  Calls Tryz.prog 114 #[(.agg #[.func (.func 141) #[] #[],.func (.func 142) #[] #[],.func (.func 143) #[] #[],.func (.func 138) #[] #[],.func (.func 113) #[] #[],.func (.func 144) #[] #[],.func (.func 145) #[] #[],.func (.func 146) #[] #[],.int .i64 9]),v] w fun e w'=>e = .returned (.int .i64 (CM.errL (0,0) fs))/\Below w.heap.size w w':=by
 obtain ⟨ad,c,rfl,hc,hl⟩:=h.shape;obtain ⟨R,hR⟩:∃ R,R=CM.errL (0,0) fs:=⟨_,rfl⟩
 rw [<- hR];have H:=hid h;have HR:=hid hR;obtain ⟨w0,HX⟩:=kone w;have HW:=hid HX.eq;have HB0:=hid HX.below;have HK0:=hid HX.k;obtain ⟨K,hK⟩:∃ K,w.heap.size=K:=⟨_,rfl⟩
 rw [hK] at HK0;have HKE:=hid hK;clear h hR HX hK;go_enter Tryz.func114,Tryz.ntmps114
 go_upto_region 1 with fail
 rw [HW.out,HKE.out];clear HW;go_wp2
 go_loopw [10] (fun i wr=>∃ (k:Nat),k<=fs.length/\i = .int .i64 k/\Hid (Below w.heap.size w wr)/\Hid (KB wr K)/\Hid (R=CM.errL (pre fs k) (fs.drop k))) (fun i _=>fs.length - (intOf i).toNat)
 case atStart=>exact ⟨0,Nat.zero_le _,rfl,HB0.out,HK0.out,HR.out⟩
 case round=>
  obtain ⟨k,hk,rfl,hbl,hkb,he⟩:=hrel;clear HR HB0 HK0;by_cases hlt:k<fs.length
  ·have hq:(k:Int)<(fs.length:Int):=by omega
   have hd:=hid (drop_get hlt);have hk2:=List.getElem?_eq_getElem hlt;have hp:=hid (pre_succ hk2);generalize fs[k]=f at hd hk2 hp;obtain ⟨x,m,cs⟩:=f;obtain ⟨b,o,da,dl,dc,hi,hb,c0,c1,c2,hrd⟩:=(H.out.below hbl.out).atS k x m cs hk2;have e1:=hid (he.out.trans ((congrArg (CM.errL (pre fs k)) hd.out).trans (errL_step _ _ _)));have e2:Hid (R=if JM.errP x m cs≠0 then JM.errP x m cs else if JM.cmpP x m (pre fs k).1 (pre fs k).2<=0 then 7 else if 1<m/\¬ ((pre fs k).1=x/\(pre fs k).2=m - 1) then 8 else CM.errL (x,m) (fs.drop (k+1))):=e1.out;have hp':Hid (pre fs (k+1)=(x,m)):=hp.out;have HN:=hid (fun h=>CM.errF_num (f:=(x,m,cs)) h);obtain ⟨wx,HX⟩:=eone wr x m (.slice da dl dc);have HWX:=hid HX.eq;have HBX:=hid (bnext hbl.out HX.below);have HKX:=hid (hkb.out.below HX.below);have HPX:=hid HX.e;have HV:=hid (cValidate x m (.slice da dl dc) cs wx (hrd.below HX.below));obtain ⟨B,hB⟩:∃ B,wr.heap.size=B:=⟨_,rfl⟩
   rw [hB] at HPX;have HBE:=hid hB;clear hk2 he hd e1 hp hrd HX hB hbl hkb;go_upto_region 4 with fail
   rw [HWX.out,HBE.out];clear c0 c1 c2 hi hb HWX;obtain ⟨p0,p1,p2,_⟩:=HPX.out.cells;obtain ⟨_,_,j2,_⟩:=HKX.out.cells;by_cases hE:JM.errP x m cs=0
   ·obtain ⟨n1,n2,n3,n4⟩:=HN.out hE;simp only at n1 n2 n3 n4;rw [hE] at HV;have e3:=hid (e2.out.trans (if_neg (by rw [hE];simp)));clear e2 hE HN;go_wp2_with fail
    refine HV.out.mono ?_;rintro e w1 ⟨rfl,hb1⟩;have HP1:=hid (HPX.out.below hb1);have HK1:=hid (HKX.out.below hb1);have HB1:=hid (bnext HBX.out hb1);clear p0 p1 p2 j2 HV hb1 HBX HKX HPX;have hFT:∀ w2,Below w.heap.size w w2 -> ∃ v2,(∀ w0:World,(Instr.slice 24 (.slice ad fs.length c) none (some (.int .i64 (k:Int))) none).run Tryz.prog w0 = .ok v2 w0)/\RdF w2 v2 (fs.take k):=fun w2 hb=>(H.out.below hb).cut0S k (by omega)
    obtain ⟨v2,hcut,hr1⟩:=hFT w1 HB1.out;have HFO:=hid (fun w' (hb:Below w1.heap.size w1 w')=>sFollows v2 (fs.take k) x m da dl dc w' (hr1.below hb) ⟨n3,by omega⟩ (by omega));obtain ⟨z0,z1,z2⟩:=lat_e HP1.out;obtain ⟨l0,l1,l2,l3,l4,l5,l6,l7,l8⟩:=HK1.out.later;clear hFT hr1;by_cases h0:k=0
    ·have hkd:decide ((0:Int)<(k:Int))=false:=decide_eq_false (by omega);have hkn:decide (0<k)=false:=decide_eq_false (by omega);have hpk:pre fs k=(0,0):=by rw [h0];rfl
     have e4:=hid (e3.out.trans (if_neg (by rw [hpk];show ¬ JM.cmpP x m 0 0<=0;have:=(@CM.cmpP_pos x m 0 0).2 (by omega);omega)));have hfo:=pre_take (show k<=fs.length by omega);clear e3 h0 hpk;by_cases hG:1<m/\¬ ((pre fs k).1=x/\(pre fs k).2=m - 1)
     ·have e5:=hid (e4.out.trans (if_pos hG));have hff:folS (fs.take k) x m=false:=by unfold folS;rw [hfo];exact decide_eq_false (fun h=>h.elim (fun h=>by omega) (fun h=>hG.2 h))
      rw [hff] at HFO;clear e4 hG hfo hff;go_wp2
      refine wp_region_later (by kernel_rfl) (by kernel_rfl) ?_;repeat (go_big_quiet_step (fail))
      refine wpQuiet_nil ?_;rintro _ ⟨p,rfl⟩;have HB2:=hid (bnext HB1.out p.h);have HK2:=hid (HK1.out.below p.h);have HP2:=hid (HP1.out.below p.h);have HFO2:=hid (fun q:Later p.val=>Calls.later (HFO.out q.val (bnext p.h q.h)));clear z0 z1 z2 l0 l1 l2 l3 l4 l5 l6 l7 l8 HFO HK1 HP1 HB1;generalize p.val=w2 at HB2 HK2 HP2 HFO2 ⊢;obtain ⟨z0,z1,z2⟩:=lat_e HP2.out;obtain ⟨l0,l1,l2,l3,l4,l5,l6,l7,l8⟩:=HK2.out.later;go_wp2
      refine wp_region_later (by kernel_rfl) (by kernel_rfl) ?_;repeat (go_big_quiet_step (first | (go_at_call 140;with_reducible exact HFO2.out _)))
      refine wpQuiet_nil ?_;rintro _ ⟨p',rfl⟩;have HB3:=hid (bnext HB2.out p'.h);have HK3:=hid (HK2.out.below p'.h);generalize p'.val=w3 at HB3 HK3 ⊢;clear z0 z1 z2 l0 l1 l2 l3 l4 l5 l6 l7 l8 HFO2 HK2 HP2 HB2;go_wp2
      go_ret;rw [e5.out];exact ⟨rfl,HB3.out⟩
     ·have e5:=hid (e4.out.trans (if_neg hG));have hff:folS (fs.take k) x m=true:=by
       unfold folS;rw [hfo];by_cases hm:m<=1
       ·exact decide_eq_true (.inl hm)
       ·refine decide_eq_true (.inr ?_);by_cases hH:(pre fs k).1=x/\(pre fs k).2=m - 1
        ·exact hH
        ·exact absurd ⟨by omega,hH⟩ hG
      rw [hff] at HFO;clear e4 hG hfo hff;go_wp2
      refine wp_region_later (by kernel_rfl) (by kernel_rfl) ?_;repeat (go_big_quiet_step (fail))
      refine wpQuiet_nil ?_;rintro _ ⟨p,rfl⟩;have HB2:=hid (bnext HB1.out p.h);have HK2:=hid (HK1.out.below p.h);have HP2:=hid (HP1.out.below p.h);have HFO2:=hid (fun q:Later p.val=>Calls.later (HFO.out q.val (bnext p.h q.h)));clear z0 z1 z2 l0 l1 l2 l3 l4 l5 l6 l7 l8 HFO HK1 HP1 HB1;generalize p.val=w2 at HB2 HK2 HP2 HFO2 ⊢;obtain ⟨z0,z1,z2⟩:=lat_e HP2.out;obtain ⟨l0,l1,l2,l3,l4,l5,l6,l7,l8⟩:=HK2.out.later;go_wp2
      refine wp_region_later (by kernel_rfl) (by kernel_rfl) ?_;repeat (go_big_quiet_step (first | (go_at_call 140;with_reducible exact HFO2.out _)))
      refine wpQuiet_nil ?_;rintro _ ⟨p',rfl⟩;have HB3:=hid (bnext HB2.out p'.h);have HK3:=hid (HK2.out.below p'.h);generalize p'.val=w3 at HB3 HK3 ⊢;clear z0 z1 z2 l0 l1 l2 l3 l4 l5 l6 l7 l8 HFO2 HK2 HP2 HB2;go_wp2
      go_roundw
      case rel=>exact ⟨k+1,by omega,by go_num,HB3.out,HK3.out,by rw [hp'.out];exact e5.out⟩
      case measure=>simp [intOf];omega
    ·have hkd:(0:Int)<(k:Int):=by omega
     have hkn:0<k:=by omega
     have hkl:k - 1<fs.length:=by omega
     have hg2:=List.getElem?_eq_getElem hkl;have hpk:pre fs k=(fs[k - 1].1,fs[k - 1].2.1):=by simp [pre,h0,List.getD,List.getElem?_eq_getElem hkl]
     generalize fs[k - 1]=g at hg2 hpk;obtain ⟨y,n,ds⟩:=g;simp only at hpk;obtain ⟨b2,o2,ea,el,ec,hi2,hb2,f0,f1,f2,hrd2⟩:=(H.out.below HB1.out).atS (k - 1) y n ds hg2;rw [show ((k - 1:Nat):Int)=(k:Int) - 1 by omega] at hi2;have hC:=fun p:Later w1=>Calls.later (cCompare x m da dl dc y n ea el ec p.val)
     have hcc:JM.cmpP x m (pre fs k).1 (pre fs k).2=JM.cmpP x m y n:=by rw [hpk]
     rw [hcc] at e3;have y0:∀ p:Later w1,p.val.cell? ⟨b2,o2,none⟩=some (.int .i64 y):=fun p=>below_cell p.h f0
     have y1:∀ p:Later w1,p.val.cell? ⟨b2,o2+1,none⟩=some (.int .i64 n):=fun p=>below_cell p.h f1
     have y2:∀ p:Later w1,p.val.cell? ⟨b2,o2+2,none⟩=some (.slice ea el ec):=fun p=>below_cell p.h f2
     have hfo:=pre_take (show k<=fs.length by omega);clear hg2 hrd2 hcc h0 hpk f0 f1 f2;by_cases hcl:JM.cmpP x m y n<=0
     ·have e4:=hid (e3.out.trans (if_pos hcl));generalize JM.cmpP x m y n=C at hC hcl;have HC:=hid hC;clear e3 hC hfo;go_wp2
      refine wp_region_later (by kernel_rfl) (by kernel_rfl) ?_;repeat (go_big_quiet_step (first | (go_at_call 138;with_reducible exact HC.out _)))
      refine wpQuiet_nil ?_;rintro _ ⟨p,rfl⟩;have HB2:=hid (bnext HB1.out p.h);generalize p.val=w2 at HB2 ⊢;go_wp2
      go_ret;rw [e4.out];exact ⟨rfl,HB2.out⟩
     ·have e4:=hid (e3.out.trans (if_neg hcl));generalize JM.cmpP x m y n=C at hC hcl;have HC:=hid hC;clear e3 hC;by_cases hG:1<m/\¬ ((pre fs k).1=x/\(pre fs k).2=m - 1)
      ·have e5:=hid (e4.out.trans (if_pos hG));have hff:folS (fs.take k) x m=false:=by unfold folS;rw [hfo];exact decide_eq_false (fun h=>h.elim (fun h=>by omega) (fun h=>hG.2 h))
       rw [hff] at HFO;clear e4 hG hfo hff;go_wp2
       refine wp_region_later (by kernel_rfl) (by kernel_rfl) ?_;repeat (go_big_quiet_step (first | (go_at_call 138;with_reducible exact HC.out _)))
       refine wpQuiet_nil ?_;rintro _ ⟨p,rfl⟩;have HB2:=hid (bnext HB1.out p.h);have HK2:=hid (HK1.out.below p.h);have HP2:=hid (HP1.out.below p.h);have HFO2:=hid (fun q:Later p.val=>Calls.later (HFO.out q.val (bnext p.h q.h)));clear z0 z1 z2 l0 l1 l2 l3 l4 l5 l6 l7 l8 HFO HK1 HP1 HB1;generalize p.val=w2 at HB2 HK2 HP2 HFO2 ⊢;obtain ⟨z0,z1,z2⟩:=lat_e HP2.out;obtain ⟨l0,l1,l2,l3,l4,l5,l6,l7,l8⟩:=HK2.out.later;go_wp2
       refine wp_region_later (by kernel_rfl) (by kernel_rfl) ?_;repeat (go_big_quiet_step (first | (go_at_call 140;with_reducible exact HFO2.out _)))
       refine wpQuiet_nil ?_;rintro _ ⟨p',rfl⟩;have HB3:=hid (bnext HB2.out p'.h);have HK3:=hid (HK2.out.below p'.h);generalize p'.val=w3 at HB3 HK3 ⊢;clear z0 z1 z2 l0 l1 l2 l3 l4 l5 l6 l7 l8 HFO2 HK2 HP2 HB2;go_wp2
       go_ret;rw [e5.out];exact ⟨rfl,HB3.out⟩
      ·have e5:=hid (e4.out.trans (if_neg hG));have hff:folS (fs.take k) x m=true:=by
        unfold folS;rw [hfo];by_cases hm:m<=1
        ·exact decide_eq_true (.inl hm)
        ·refine decide_eq_true (.inr ?_);by_cases hH:(pre fs k).1=x/\(pre fs k).2=m - 1
         ·exact hH
         ·exact absurd ⟨by omega,hH⟩ hG
       rw [hff] at HFO;clear e4 hG hfo hff;go_wp2
       refine wp_region_later (by kernel_rfl) (by kernel_rfl) ?_;repeat (go_big_quiet_step (first | (go_at_call 138;with_reducible exact HC.out _)))
       refine wpQuiet_nil ?_;rintro _ ⟨p,rfl⟩;have HB2:=hid (bnext HB1.out p.h);have HK2:=hid (HK1.out.below p.h);have HP2:=hid (HP1.out.below p.h);have HFO2:=hid (fun q:Later p.val=>Calls.later (HFO.out q.val (bnext p.h q.h)));clear z0 z1 z2 l0 l1 l2 l3 l4 l5 l6 l7 l8 HFO HK1 HP1 HB1;generalize p.val=w2 at HB2 HK2 HP2 HFO2 ⊢;obtain ⟨z0,z1,z2⟩:=lat_e HP2.out;obtain ⟨l0,l1,l2,l3,l4,l5,l6,l7,l8⟩:=HK2.out.later;go_wp2
       refine wp_region_later (by kernel_rfl) (by kernel_rfl) ?_;repeat (go_big_quiet_step (first | (go_at_call 140;with_reducible exact HFO2.out _)))
       refine wpQuiet_nil ?_;rintro _ ⟨p',rfl⟩;have HB3:=hid (bnext HB2.out p'.h);have HK3:=hid (HK2.out.below p'.h);generalize p'.val=w3 at HB3 HK3 ⊢;clear z0 z1 z2 l0 l1 l2 l3 l4 l5 l6 l7 l8 HFO2 HK2 HP2 HB2;go_wp2
       go_roundw
       case rel=>exact ⟨k+1,by omega,by go_num,HB3.out,HK3.out,by rw [hp'.out];exact e5.out⟩
       case measure=>simp [intOf];omega
   ·have e3:=hid (e2.out.trans (if_pos hE));have hne:(JM.errP x m cs != 0)=true:=bne_t hE;generalize JM.errP x m cs=E at HV e3 hne;clear e2 hE HN;go_wp2_with fail
    refine HV.out.mono ?_;rintro e w1 ⟨rfl,hb1⟩;go_wp2
    go_ret;rw [e3.out];exact ⟨rfl,bnext HBX.out hb1⟩
  ·have hq:¬ ((k:Int)<(fs.length:Int)):=by omega
   have e2:=hid (show R=0 by rw [he.out,List.drop_of_length_le (by omega)];rfl);clear he;go_wp2
   go_ret;rw [e2.out];exact ⟨rfl,hbl.out⟩
end
end Go.Proofs.YtahcehbgfhdbjaaGreatDoor

