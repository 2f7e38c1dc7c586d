/-
  UKit2 UPool SBase NBase UShelf UName UOpen: joined texts, what nothing names left out.
-/
import Derived.Deep.RegionHeld3
import Derived.Deep.CutRange
import Derived.Test.YtahcehbgfhdbjaaGreatDoorQMA5
import Derived.Shelf.Unicode.DecodeAny
import Derived.Ground.NamesProg
import Derived.Test.YtahcehbgfhdbjaaGreatDoorProg
import Derived.Laws.RangeAny
import Derived.Lib.SmallJoins
set_option maxHeartbeats 8000000
set_option maxRecDepth 1000000
open Go.Lib (hid)
namespace Go.Proofs.YtahcehbgfhdbjaaGreatDoor
section
open Go.RowKit
open UM (Ef)
namespace UM
theorem errL_zero {es:List Ef} (h:∀ e∈es,errE e=0):errL es=0:=by
 induction es with
 | nil=>rfl
 | cons e r ih=>
  rw [errL,if_neg (by rw [h e (List.mem_cons_self ..)];simp)];exact ih fun x hx=>h x (List.mem_cons_of_mem _ hx)
theorem errU_one {c q t:Int} {e:Ef} (hc:isCl c=true) (hq:1<=q/\q<=8) (ht:0<=t/\t<=1000) (he:errE e=0) (h1:e.1=1):errU c q t [e]=0:=by
 have hz:errL [e]=0:=errL_zero (by intro x hx;rw [List.mem_singleton] at hx;subst hx;exact he);have hcm:com [e]=false:=by simp [com,h1]
 unfold errU;rw [hc,hcm,hz,if_neg (by simp;omega),if_neg (by simp),if_neg (by simp),if_neg (by simp),if_neg (by simp)]
theorem errU_more {c q:Int} {es:List Ef} (hc:isCl c=true) (hq:1<=q/\q<=8) (h:∀ e∈es,errE e=0/\in64 e/\e.1≠1) (h1:1<=es.length) (h4:es.length<=4):errU c q 0 es=0:=by
 have hz:errL es=0:=errL_zero fun e he=>(h e he).1
 have hcm:com es=true:=by
  unfold com;rw [List.all_eq_true];exact fun e he=>decide_eq_true (h e he).2.2
 unfold errU;rw [hc,hcm,hz,if_neg (by simp;omega),if_neg (by rintro rfl;simp at h1),if_neg (by omega),if_neg (by simp),if_neg (by simp)]
end UM
theorem kupd_ret {R:Ending->World->Prop} {a:Act} {w:World} {g:Nat} {c q t:Int} {s:Value} (hp:a.tmps.getD 6 undef = .pointer (some ⟨g,0,none⟩)) (hg:OU w g c q t s)
  (hd:a.defers = []) (hR:R (.returned (uv c q t s)) w):bodyPost Tryz.prog Tryz.f51 R .ret a w:=
 bodyPost_ret (results_cell_row (P:=Tryz.prog) rfl a.tmps w g 96 _ _ _ hp hg Tryz.underlying96 rfl (by kernel_rfl)) hd hR
theorem OU.put2 {w:World} {B:Nat} {c q t:Int} {s:Value} (h:OU w B c q t s) (t':Int):OU (w.setCell ⟨B,2,none⟩ (.int .i64 t')) B c q t' s:=heap_setCell_same w B 2 _ _ _ h
theorem kUpdate (c q n:Int) (w:World) (hc:UM.isCl c=true) (hq:1<=q/\q<=8) :
  Calls Tryz.prog 51 #[.int .i64 c,.int .i64 q,.int .i64 n] w fun e w'=>∃ (t:Int) (sv:Value) (es:List Ef),e = .returned (uv c q t sv)/\OwnEf w.heap.size w' sv es/\UM.errU c q t es=0/\(∀ e∈es,UM.in64 e)/\Below w.heap.size w w':=by
 have b1:=below_fresh w (.cells #[.int .i64 0,.int .i64 0,.int .i64 0,.slice none 0 0] 96);have g1:=OU.fresh w 0 0 0 (.slice none 0 0);have z1:=World.size_alloc w (.cells #[.int .i64 0,.int .i64 0,.int .i64 0,.slice none 0 0] 96);obtain ⟨wp,hwp⟩:∃ z',w.alloc (.cells #[.int .i64 0,.int .i64 0,.int .i64 0,.slice none 0 0] 96)=z':=⟨_,rfl⟩
 rw [hwp] at b1 g1 z1;have b2:=below_fresh wp (.cells #[.int .i64 c,.int .i64 q,.int .i64 0,.slice none 0 0] 96);have x2:=OU.fresh wp c q 0 (.slice none 0 0);obtain ⟨w1,hw1⟩:∃ z',wp.alloc (.cells #[.int .i64 c,.int .i64 q,.int .i64 0,.slice none 0 0] 96)=z':=⟨_,rfl⟩
 rw [hw1] at b2 x2;rw [z1] at x2;have HW:=hid (show (w.alloc (.cells #[.int .i64 0,.int .i64 0,.int .i64 0,.slice none 0 0] 96)).alloc (.cells #[.int .i64 c,.int .i64 q,.int .i64 0,.slice none 0 0] 96)=w1 by rw [hwp,hw1]);have HB:=hid (bnext b1 b2);have HG:=hid (g1.below b2);have HX:=hid x2;have HD8:=hid (fun w'=>kDigit n 3 8 w' (by decide) (by decide) (by decide));have HD4:=hid (fun w'=>kDigit n 16 4 w' (by decide) (by decide) (by decide));have HD9:=hid (fun w'=>kDigit n 3 9 w' (by decide) (by decide) (by decide));have HI:=hid (fun w'=>kIndex n 1099511627776 w' (by decide) (by decide));have hi:=ix_range (n:=n) (show (1:Int)<=1099511627776 by decide);have HIX:=hid hi;have HET:=hid (fun w'=>kEffect n true w');have hok:=UM.efK_ok n true;have ht:=dg_lt n 4 (show 0<16 by decide);have h9:=dg_lt n 9 (show 0<3 by decide);clear b1 g1 z1 hwp b2 x2 hw1 hi;generalize dg n 3 8=d8 at HD8;generalize dg n 16 4=d4 at HD4 ht;generalize dg n 3 9=d9 at HD9 h9;generalize UM.efK n true=X at HET hok;obtain ⟨k',o',f',n',s'⟩:=X;have HC:=hid hc;have HQ:=hid hq;clear hc hq;go_enter Tryz.func51,Tryz.ntmps51
 go_upto_region 2 with fail
 rw [HW.out];clear HW;obtain ⟨p,hp⟩:∃ p,p=w.heap.size+1:=⟨_,rfl⟩
 rw [<- hp] at HX ⊢;have hpg:w.heap.size<p:=by omega
 clear hp;go_wp2_with fail
 refine (HD8.out _).mono ?_;rintro e w2 ⟨rfl,rfl⟩;clear HD8;by_cases h8:d8=0
 ·subst h8;obtain ⟨x0,x1,x2,x3,y0,y1,y2,y3⟩:=HX.out.cells;have HOK:=hid hok;clear hok HI HIX HD9;go_wp2_with fail
  refine (HD4.out _).mono ?_;rintro e w2 ⟨rfl,rfl⟩;go_upto_region 4 with fail
  have hon:Only p w1 (w1.setCell ⟨p,2,none⟩ (.int .i64 (d4:Int))):=Only.set 2 _;have HX2:=hid (HX.out.put2 (d4:Int));have HG2:=hid (HG.out.only hon (by omega));have HB2:=hid (seen HB.out (by omega) hon);clear hon HX HG HB x0 x1 x2 x3 y0 y1 y2 y3;generalize w1.setCell ⟨p,2,none⟩ (.int .i64 (d4:Int))=w2 at HX2 HG2 HB2 ⊢;go_wp2_with fail
  refine (HET.out _).mono ?_;rintro e w3 ⟨rfl,hb3⟩;have f4:=below_fresh w3 (.cells #[.int .i64 k',.string o',.string f',.int .i64 n',.string s'] 138);have hof:=ownG_fresh hlEf 138 w3 [(k',o',f',n',s')] (by simp [maxLen]);have hof:OwnEf w3.heap.size (w3.alloc (.cells #[.int .i64 k',.string o',.string f',.int .i64 n',.string s'] 138)) (.slice (some ⟨w3.heap.size,0,none⟩) 1 1) [(k',o',f',n',s')]:=hof;have hb34:=bnext hb3 f4;have HB4:=hid (bnext HB2.out hb34);have HX4:=hid (HX2.out.below hb34);have HG4:=hid (HG2.out.below hb34);have HO4:=hid (hof.mono (show w.heap.size<=w3.heap.size from (bnext HB2.out hb3).size));obtain ⟨w4,hw4⟩:∃ z',w3.alloc (.cells #[.int .i64 k',.string o',.string f',.int .i64 n',.string s'] 138)=z':=⟨_,rfl⟩
  rw [hw4] at HB4 HX4 HG4 HO4;have HW4:=hid hw4;obtain ⟨g4,hg4⟩:∃ g,g=w3.heap.size:=⟨_,rfl⟩
  rw [<- hg4] at HO4;have HG4':=hid hg4;clear hb3 f4 hof hb34 hw4 HX2 HG2 HB2 hg4;obtain ⟨x0,x1,x2,x3,y0,y1,y2,y3⟩:=(show OU (w3.alloc (.cells #[.int .i64 k',.string o',.string f',.int .i64 n',.string s'] 138)) p c q (d4:Int) (.slice none 0 0) by rw [HW4.out];exact HX4.out).cells;go_upto_region 5 with fail
  rw [HW4.out,<- HG4'.out];clear x0 x1 x2 x3 y0 y1 y2 y3 HW4 HG4';have hon:Only p w4 (w4.setCell ⟨p,3,none⟩ (.slice (some ⟨g4,0,none⟩) 1 1)):=Only.set 3 _;have HX5:=hid (HX4.out.put (.slice (some ⟨g4,0,none⟩) 1 1));have HG5:=hid (HG4.out.only hon (by omega));have HO5:=hid (ownG_only HO4.out HX4.out (by decide) hon);have HB5:=hid (seen HB4.out (by omega) hon);clear hon HX4 HG4 HO4 HB4;generalize w4.setCell ⟨p,3,none⟩ (.slice (some ⟨g4,0,none⟩) 1 1)=w5 at HX5 HG5 HO5 HB5 ⊢;obtain ⟨x0,x1,x2,x3,_⟩:=HX5.out.cells;obtain ⟨o0,o1,o2,o3,y0,y1,y2,y3⟩:=HG5.out.cells;go_wp2
  refine kupd_ret rfl (HG5.out.put4 _ _ _ _) rfl ⟨_,_,_,rfl,ownG_only HO5.out HG5.out (by decide) (only4 _ _ _ _),UM.errU_one HC.out HQ.out (by omega) HOK.out.1 (HOK.out.2.2.2 (by trivial)),?_,seen HB5.out (Nat.le_refl _) (only4 _ _ _ _)⟩;intro e he;rw [List.mem_singleton] at he;subst he;exact HOK.out.2.1
 have h8':((d8:Int)==0)=false:=by simp [h8]
 clear hok HET HD4 ht h8;go_wp2
 go_loopw [8] (fun i wr=>∃ (k:Nat) (av:Option Addr) (cv:Nat) (es:List Ef),i = .int .i64 es.length/\es.length<=d9+1/\Hid (∀ e∈es,UM.errE e=0/\UM.in64 e/\e.1≠1)/\Hid (OU wr p c q 0 (.slice av es.length cv))/\Hid (OU wr w.heap.size 0 0 0 (.slice none 0 0))/\Hid (OwnEf w.heap.size wr (.slice av es.length cv) es)/\Hid (Below w.heap.size w wr)) (fun i _=>d9+1 - (intOf i).toNat)
 case atStart=>exact ⟨0,none,0,[],rfl,Nat.zero_le _,(by intro e he;cases he),HX.out,HG.out,OwnG.nil hlEf _ _ _,HB.out⟩
 case round=>
  obtain ⟨k0,av,cv,es,rfl,hk,hes,hx,hg,ho,hbl⟩:=hrel;clear HX HG HB;obtain ⟨wo,rfl⟩:∃ wo,wo=wr:=⟨wr,rfl⟩
  go_wp2_with fail
  refine (HD9.out _).mono ?_;rintro e w2 ⟨rfl,rfl⟩;by_cases hlt:(es.length:Int)<=(d9:Int)
  case neg=>
   have HES:=hid (show UM.errU c q 0 es=0 from UM.errU_more HC.out HQ.out hes.out (by omega) (by omega));have HE2:=hid (fun e he=>(hes.out e he).2.1);obtain ⟨x0,x1,x2,x3,_⟩:=hx.out.cells;obtain ⟨o0,o1,o2,o3,y0,y1,y2,y3⟩:=hg.out.cells;go_wp2
   refine kupd_ret rfl (hg.out.put4 _ _ _ _) rfl ⟨_,_,es,rfl,ownG_only ho.out hg.out (by decide) (only4 _ _ _ _),HES.out,HE2.out,seen hbl.out (Nat.le_refl _) (only4 _ _ _ _)⟩
  have hi0:=HIX.out;have hz:¬ ((es.length:Int)+1=0):=by omega
  have hzw:IntKind.i64.wrap ((es.length:Int)+1)=(es.length:Int)+1:=IntWalk.i64_in _ (by omega);have hY:0<=(ix n 1099511627776).tdiv ((es.length:Int)+1)/\(ix n 1099511627776).tdiv ((es.length:Int)+1)<=ix n 1099511627776:=by
   rw [Int.tdiv_eq_ediv_of_nonneg hi0.1];exact ⟨Int.ediv_nonneg hi0.1 (by omega),Int.ediv_le_self _ hi0.1⟩
  obtain ⟨Y,hYd⟩:∃ Y,(ix n 1099511627776).tdiv ((es.length:Int)+1)=Y:=⟨_,rfl⟩
  rw [hYd] at hY;have hYw:IntKind.i64.wrap Y=Y:=IntWalk.i64_in _ (by omega);have HEF:=hid (fun w'=>kEffect Y false w');have hok:=UM.efK_ok Y false;generalize UM.efK Y false=X at HEF hok;obtain ⟨k',o',f',n',s'⟩:=X;dsimp only [efv] at HEF;have HES:=hid (show ∀ e∈es ++ [(k',o',f',n',s')],UM.errE e=0/\UM.in64 e/\e.1≠1 by
   intro e he;rcases List.mem_append.1 he with h | h
   ·exact hes.out e h
   ·rw [List.mem_singleton] at h;subst h;exact ⟨hok.1,hok.2.1,fun h=>by have:=hok.2.2.1 h;cases this⟩)
  have HYB:=hid (show es.length<=1073741824 by omega);have hlt9:es.length<=d9:=by omega
  clear hok hes hY hi0;generalize ix n 1099511627776=J at HI hYd;go_wp2
  have HXa:=hid (show OU wo.drew p c q 0 (.slice av es.length cv) from hx.out);have HGa:=hid (show OU wo.drew w.heap.size 0 0 0 (.slice none 0 0) from hg.out);have HOa:=hid (show OwnEf w.heap.size wo.drew (.slice av es.length cv) es from ho.out.drewN 1);have HBa:=hid hbl.out.drew;clear hx hg ho hbl;refine wp_region_held_drew (S:=fun _=>True) (by kernel_rfl) trivial (fun _=>?_);generalize wo.drew=wa at HXa HGa HOa HBa ⊢;refine takeJ 0 ?_;refine takeJ 2 ?_;refine takeJ 4 ?_;refine takeJ 5 ?_;refine wpAnyH_ready (rs:=[1,3]) (by kernel_rfl) (by simp) ?_;refine stepH rfl (fun K hK=>?_) (stepH rfl (fun K hK=>?_) AllReadyH.nil)
  ·obtain ⟨x0,x1,x2,x3,_⟩:=HXa.out.cells;go_simp
   refine hK.out _ _ trivial (fun _=>?_);clear hK K x0 x1 x2 x3;(try simp only [Act.put,lTA,lZ,lS]);refine wpAnyH_ready (rs:=[3]) (by kernel_rfl) (by simp) ?_;refine stepH rfl (fun K hK=>?_) AllReadyH.nil;go_simp
   refine (HI.out _).mono ?_;rintro e wi ⟨rfl,rfl⟩;go_wp2_with fail
   refine hK.out _ _ trivial (fun _=>?_);clear hK K;(try simp only [Act.put,lTA,lZ,lS]);refine takeJ 6 ?_;refine wpAnyH_ready (rs:=[7]) (by kernel_rfl) (by simp) ?_;refine stepH rfl (fun K hK=>?_) AllReadyH.nil;go_simp
   refine (HEF.out _).mono ?_;rintro e wb ⟨rfl,hq⟩;have HXb:=hid (HXa.out.below hq);have HGb:=hid (HGa.out.below hq);have HOb:=hid (HOa.out.below hq);have HBb:=hid (bnext HBa.out hq);clear hq HXa HGa HOa HBa;go_wp2_with fail
   refine hK.out _ _ trivial (fun _=>?_);clear hK K;(try simp only [Act.put,lTA,lZ,lS]);refine wpAnyH_ready (rs:=[8]) (by kernel_rfl) (by simp) ?_;refine stepH rfl (fun K hK=>?_) AllReadyH.nil;go_simp
   refine hK.out _ _ trivial (fun _=>?_);clear hK K;(try simp only [Act.put,lTA,lZ,lS]);refine wpAnyH_ready (rs:=[9]) (by kernel_rfl) (by simp) ?_;refine stepH rfl (fun K hK=>?_) AllReadyH.nil;refine step_appG1 efE (k',o',f',n',s') rfl _ _ rfl rfl HOb.out rfl HYB.out HBb.out.size ?_;intro v6 w6 ho6 hb6 hk6;have el:(es ++ [(k',o',f',n',s')]).length=es.length+1:=by simp
   obtain ⟨av6,cv6,rfl,_,_⟩:=ho6.rd.shape;rw [el] at ho6;have HX6:=hid (OU.keep (e:=138) HXb.out (by decide) hk6);have HG6:=hid (OU.keep (e:=138) HGb.out (by decide) hk6);have HB6:=hid (HBb.out.trans hb6);refine hK.out _ _ trivial (fun _=>?_);clear hK K;(try simp only [Act.put,lTA,lZ,lS]);refine takeJ 10 ?_;refine wpAnyH_ready (rs:=[11]) (by kernel_rfl) (by simp) ?_;refine stepH rfl (fun K hK=>?_) AllReadyH.nil;obtain ⟨x0,x1,x2,x3,y0,y1,y2,y3⟩:=HX6.out.cells;go_simp
   refine hK.out _ _ trivial (fun _=>?_);clear hK K x0 x1 x2 x3 y0 y1 y2 y3;(try simp only [Act.put,lTA,lZ,lS]);refine wpAnyH_done (by kernel_rfl) ?_ _;have hon:Only p w6 (w6.setCell ⟨p,3,none⟩ (.slice av6 (es.length+1) cv6)):=Only.set 3 _;have HX7:=hid (HX6.out.put (.slice av6 (es.length+1) cv6));have HG7:=hid (HG6.out.only hon (by omega));have HO7:=hid (ownG_only ho6 HX6.out (by decide) hon);have HB7:=hid (seen HB6.out (by omega) hon);clear hon ho6 hb6 hk6 HX6 HG6 HB6 HXb HGb HOb HBb;generalize w6.setCell ⟨p,3,none⟩ (.slice av6 (es.length+1) cv6)=w7 at HX7 HG7 HO7 HB7 ⊢;go_wp2
   go_roundw
   case rel=>exact ⟨es.length+1,av6,cv6,es ++ [(k',o',f',n',s')],by go_num,by omega,HES,by rw [el];exact HX7,HG7,by rw [el];exact HO7,HB7⟩
   case measure=>simp [intOf];omega
  ·go_simp
   refine (HI.out _).mono ?_;rintro e wi ⟨rfl,rfl⟩;go_wp2_with fail
   refine hK.out _ _ trivial (fun _=>?_);clear hK K;(try simp only [Act.put,lTA,lZ,lS]);refine takeJ 6 ?_;refine wpAnyH_ready (rs:=[1,7]) (by kernel_rfl) (by simp) ?_;refine stepH rfl (fun K hK=>?_) (stepH rfl (fun K hK=>?_) AllReadyH.nil)
   ·obtain ⟨x0,x1,x2,x3,_⟩:=HXa.out.cells;go_simp
    refine hK.out _ _ trivial (fun _=>?_);clear hK K x0 x1 x2 x3;(try simp only [Act.put,lTA,lZ,lS]);refine wpAnyH_ready (rs:=[7]) (by kernel_rfl) (by simp) ?_;refine stepH rfl (fun K hK=>?_) AllReadyH.nil;go_simp
    refine (HEF.out _).mono ?_;rintro e wb ⟨rfl,hq⟩;have HXb:=hid (HXa.out.below hq);have HGb:=hid (HGa.out.below hq);have HOb:=hid (HOa.out.below hq);have HBb:=hid (bnext HBa.out hq);clear hq HXa HGa HOa HBa;go_wp2_with fail
    refine hK.out _ _ trivial (fun _=>?_);clear hK K;(try simp only [Act.put,lTA,lZ,lS]);refine wpAnyH_ready (rs:=[8]) (by kernel_rfl) (by simp) ?_;refine stepH rfl (fun K hK=>?_) AllReadyH.nil;go_simp
    refine hK.out _ _ trivial (fun _=>?_);clear hK K;(try simp only [Act.put,lTA,lZ,lS]);refine wpAnyH_ready (rs:=[9]) (by kernel_rfl) (by simp) ?_;refine stepH rfl (fun K hK=>?_) AllReadyH.nil;refine step_appG1 efE (k',o',f',n',s') rfl _ _ rfl rfl HOb.out rfl HYB.out HBb.out.size ?_;intro v6 w6 ho6 hb6 hk6;have el:(es ++ [(k',o',f',n',s')]).length=es.length+1:=by simp
    obtain ⟨av6,cv6,rfl,_,_⟩:=ho6.rd.shape;rw [el] at ho6;have HX6:=hid (OU.keep (e:=138) HXb.out (by decide) hk6);have HG6:=hid (OU.keep (e:=138) HGb.out (by decide) hk6);have HB6:=hid (HBb.out.trans hb6);refine hK.out _ _ trivial (fun _=>?_);clear hK K;(try simp only [Act.put,lTA,lZ,lS]);refine takeJ 10 ?_;refine wpAnyH_ready (rs:=[11]) (by kernel_rfl) (by simp) ?_;refine stepH rfl (fun K hK=>?_) AllReadyH.nil;obtain ⟨x0,x1,x2,x3,y0,y1,y2,y3⟩:=HX6.out.cells;go_simp
    refine hK.out _ _ trivial (fun _=>?_);clear hK K x0 x1 x2 x3 y0 y1 y2 y3;(try simp only [Act.put,lTA,lZ,lS]);refine wpAnyH_done (by kernel_rfl) ?_ _;have hon:Only p w6 (w6.setCell ⟨p,3,none⟩ (.slice av6 (es.length+1) cv6)):=Only.set 3 _;have HX7:=hid (HX6.out.put (.slice av6 (es.length+1) cv6));have HG7:=hid (HG6.out.only hon (by omega));have HO7:=hid (ownG_only ho6 HX6.out (by decide) hon);have HB7:=hid (seen HB6.out (by omega) hon);clear hon ho6 hb6 hk6 HX6 HG6 HB6 HXb HGb HOb HBb;generalize w6.setCell ⟨p,3,none⟩ (.slice av6 (es.length+1) cv6)=w7 at HX7 HG7 HO7 HB7 ⊢;go_wp2
    go_roundw
    case rel=>exact ⟨es.length+1,av6,cv6,es ++ [(k',o',f',n',s')],by go_num,by omega,HES,by rw [el];exact HX7,HG7,by rw [el];exact HO7,HB7⟩
    case measure=>simp [intOf];omega
   ·go_simp
    refine (HEF.out _).mono ?_;rintro e wb ⟨rfl,hq⟩;have HXb:=hid (HXa.out.below hq);have HGb:=hid (HGa.out.below hq);have HOb:=hid (HOa.out.below hq);have HBb:=hid (bnext HBa.out hq);clear hq HXa HGa HOa HBa;go_wp2_with fail
    refine hK.out _ _ trivial (fun _=>?_);clear hK K;(try simp only [Act.put,lTA,lZ,lS]);refine wpAnyH_ready (rs:=[1,8]) (by kernel_rfl) (by simp) ?_;refine stepH rfl (fun K hK=>?_) (stepH rfl (fun K hK=>?_) AllReadyH.nil)
    ·obtain ⟨x0,x1,x2,x3,_⟩:=HXb.out.cells;go_simp
     refine hK.out _ _ trivial (fun _=>?_);clear hK K x0 x1 x2 x3;(try simp only [Act.put,lTA,lZ,lS]);refine wpAnyH_ready (rs:=[8]) (by kernel_rfl) (by simp) ?_;refine stepH rfl (fun K hK=>?_) AllReadyH.nil;go_simp
     refine hK.out _ _ trivial (fun _=>?_);clear hK K;(try simp only [Act.put,lTA,lZ,lS]);refine wpAnyH_ready (rs:=[9]) (by kernel_rfl) (by simp) ?_;refine stepH rfl (fun K hK=>?_) AllReadyH.nil;refine step_appG1 efE (k',o',f',n',s') rfl _ _ rfl rfl HOb.out rfl HYB.out HBb.out.size ?_;intro v6 w6 ho6 hb6 hk6;have el:(es ++ [(k',o',f',n',s')]).length=es.length+1:=by simp
     obtain ⟨av6,cv6,rfl,_,_⟩:=ho6.rd.shape;rw [el] at ho6;have HX6:=hid (OU.keep (e:=138) HXb.out (by decide) hk6);have HG6:=hid (OU.keep (e:=138) HGb.out (by decide) hk6);have HB6:=hid (HBb.out.trans hb6);refine hK.out _ _ trivial (fun _=>?_);clear hK K;(try simp only [Act.put,lTA,lZ,lS]);refine takeJ 10 ?_;refine wpAnyH_ready (rs:=[11]) (by kernel_rfl) (by simp) ?_;refine stepH rfl (fun K hK=>?_) AllReadyH.nil;obtain ⟨x0,x1,x2,x3,y0,y1,y2,y3⟩:=HX6.out.cells;go_simp
     refine hK.out _ _ trivial (fun _=>?_);clear hK K x0 x1 x2 x3 y0 y1 y2 y3;(try simp only [Act.put,lTA,lZ,lS]);refine wpAnyH_done (by kernel_rfl) ?_ _;have hon:Only p w6 (w6.setCell ⟨p,3,none⟩ (.slice av6 (es.length+1) cv6)):=Only.set 3 _;have HX7:=hid (HX6.out.put (.slice av6 (es.length+1) cv6));have HG7:=hid (HG6.out.only hon (by omega));have HO7:=hid (ownG_only ho6 HX6.out (by decide) hon);have HB7:=hid (seen HB6.out (by omega) hon);clear hon ho6 hb6 hk6 HX6 HG6 HB6 HXb HGb HOb HBb;generalize w6.setCell ⟨p,3,none⟩ (.slice av6 (es.length+1) cv6)=w7 at HX7 HG7 HO7 HB7 ⊢;go_wp2
     go_roundw
     case rel=>exact ⟨es.length+1,av6,cv6,es ++ [(k',o',f',n',s')],by go_num,by omega,HES,by rw [el];exact HX7,HG7,by rw [el];exact HO7,HB7⟩
     case measure=>simp [intOf];omega
    ·go_simp
     refine hK.out _ _ trivial (fun _=>?_);clear hK K;(try simp only [Act.put,lTA,lZ,lS]);refine wpAnyH_ready (rs:=[1]) (by kernel_rfl) (by simp) ?_;refine stepH rfl (fun K hK=>?_) AllReadyH.nil;obtain ⟨x0,x1,x2,x3,_⟩:=(HXb.out.below (below_fresh wb (.cells #[.int .i64 k',.string o',.string f',.int .i64 n',.string s'] 138))).cells;go_simp
     refine hK.out _ _ trivial (fun _=>?_);clear hK K x0 x1 x2 x3;(try simp only [Act.put,lTA,lZ,lS]);refine wpAnyH_ready (rs:=[9]) (by kernel_rfl) (by simp) ?_;refine stepH rfl (fun K hK=>?_) AllReadyH.nil;refine step_appG1 efE (k',o',f',n',s') rfl _ _ rfl rfl HOb.out rfl HYB.out HBb.out.size ?_;intro v6 w6 ho6 hb6 hk6;have el:(es ++ [(k',o',f',n',s')]).length=es.length+1:=by simp
     obtain ⟨av6,cv6,rfl,_,_⟩:=ho6.rd.shape;rw [el] at ho6;have HX6:=hid (OU.keep (e:=138) HXb.out (by decide) hk6);have HG6:=hid (OU.keep (e:=138) HGb.out (by decide) hk6);have HB6:=hid (HBb.out.trans hb6);refine hK.out _ _ trivial (fun _=>?_);clear hK K;(try simp only [Act.put,lTA,lZ,lS]);refine takeJ 10 ?_;refine wpAnyH_ready (rs:=[11]) (by kernel_rfl) (by simp) ?_;refine stepH rfl (fun K hK=>?_) AllReadyH.nil;obtain ⟨x0,x1,x2,x3,y0,y1,y2,y3⟩:=HX6.out.cells;go_simp
     refine hK.out _ _ trivial (fun _=>?_);clear hK K x0 x1 x2 x3 y0 y1 y2 y3;(try simp only [Act.put,lTA,lZ,lS]);refine wpAnyH_done (by kernel_rfl) ?_ _;have hon:Only p w6 (w6.setCell ⟨p,3,none⟩ (.slice av6 (es.length+1) cv6)):=Only.set 3 _;have HX7:=hid (HX6.out.put (.slice av6 (es.length+1) cv6));have HG7:=hid (HG6.out.only hon (by omega));have HO7:=hid (ownG_only ho6 HX6.out (by decide) hon);have HB7:=hid (seen HB6.out (by omega) hon);clear hon ho6 hb6 hk6 HX6 HG6 HB6 HXb HGb HOb HBb;generalize w6.setCell ⟨p,3,none⟩ (.slice av6 (es.length+1) cv6)=w7 at HX7 HG7 HO7 HB7 ⊢;go_wp2
     go_roundw
     case rel=>exact ⟨es.length+1,av6,cv6,es ++ [(k',o',f',n',s')],by go_num,by omega,HES,by rw [el];exact HX7,HG7,by rw [el];exact HO7,HB7⟩
     case measure=>simp [intOf];omega
end
section
open Go.RowKit
open UM (Ef)
abbrev Up:=Int×Int×Int×Option Addr×Nat×Nat
def encUp:Up->List Value
 | (c,q,t,a,l,k)=>[.int .i64 c,.int .i64 q,.int .i64 t,.slice a l k]
theorem hlUp:0<4 /\ ∀ x,(encUp x).length=4:=⟨by decide,fun x=>by obtain ⟨a,b,c,d,e,f⟩:=x;rfl⟩
theorem upE:IsElem Tryz.prog 29 96 4 48 encUp where
 ht:=Tryz.underlying29
 info:=by
  obtain ⟨i0,hi,hz0,hz1,hz2⟩:=info_parts (show (Tryz.prog.info? 96).map (fun i=>(i.zero,i.size,i.bytes))=some (some (uv 0 0 0 (.slice none 0 0)),4,48) by kernel_rfl);exact ⟨i0,_,hi,hz0,hz1,hz2,rfl⟩
 len:=hlUp.2
 one:=by intro x u hu;obtain ⟨a,b,c,d,e,f⟩:=x;simp [encUp] at hu;rcases hu with rfl | rfl | rfl | rfl <;> rfl
 pos:=by decide
 fits:=by decide
abbrev RdUp:=RdG encUp 4
abbrev OwnUp:=OwnG encUp 96 4
theorem atUp {w:World} {a:Option Addr} {n c:Nat} {xs:List Up} (h:RdUp w (.slice a n c) xs) (i:Nat) (x q t:Int) (ad:Option Addr) (l k:Nat) (hk:xs[i]? = some (x,q,t,ad,l,k)) :
  ∃ b o,(∀ w0,(Instr.indexAt 29 (.slice a n c) (.int .i64 (i:Int))).run Tryz.prog w0 = .ok (.pointer (some ⟨b,o,none⟩)) w0)/\b<w.heap.size /\
   w.cell? ⟨b,o,none⟩=some (.int .i64 x)/\w.cell? ⟨b,o+1,none⟩=some (.int .i64 q)/\w.cell? ⟨b,o+2,none⟩=some (.int .i64 t)/\w.cell? ⟨b,o+3,none⟩=some (.slice ad l k):=by
 obtain ⟨b,o,h1,h2,h3⟩:=h.at_ upE i _ hk;exact ⟨b,o,h1,h2,h3 0 _ rfl,h3 1 _ rfl,h3 2 _ rfl,h3 3 _ rfl⟩
def GoodU (base:Nat) (w:World) (x:Up):Prop:=∃ es,OwnEf base w (.slice x.2.2.2.1 x.2.2.2.2.1 x.2.2.2.2.2) es/\UM.errU x.1 x.2.1 x.2.2.1 es=0 /\ ∀ e∈es,UM.in64 e
theorem GoodU.below {base:Nat} {w w':World} {x:Up} (h:GoodU base w x) (hb:Below w.heap.size w w'):GoodU base w' x:=by
 obtain ⟨es,h1,h2⟩:=h;exact ⟨es,h1.below hb,h2⟩
theorem GoodU.keep {base:Nat} {w w':World} {x:Up} (h:GoodU base w x) (hk:KeepsX 96 w w'):GoodU base w' x:=by
 obtain ⟨es,h1,h2⟩:=h;exact ⟨es,ownG_keep h1 hk (by decide),h2⟩
end
end Go.Proofs.YtahcehbgfhdbjaaGreatDoor
namespace Go.Proofs.YtahcehbgfhdbjaaGreatDoor.ST
open Go.RowKit
open UM (Ef)
open SM (Fp)
def sl (q:Up):Value:=.slice q.2.2.2.1 q.2.2.2.2.1 q.2.2.2.2.2
def Tell1 (w:World) (q:Up) (f:Fp):Prop:=q.1=f.1/\q.2.1=f.2.1/\q.2.2.1=f.2.2.1/\RdEf w (sl q) f.2.2.2
theorem Tell1.below {w w':World} {q:Up} {f:Fp} (h:Tell1 w q f) (hb:Below w.heap.size w w'):Tell1 w' q f:=⟨h.1,h.2.1,h.2.2.1,h.2.2.2.below hb⟩
def Tel (w:World):List Up->List Fp->Prop
 | [],[]=>True
 | q :: qs,f :: fs=>Tell1 w q f/\Tel w qs fs
 | _,_=>False
theorem Tel.below {w w':World} (hb:Below w.heap.size w w'):∀ {qs:List Up} {fs:List Fp},Tel w qs fs->Tel w' qs fs
 | [],[],_=>trivial
 | _ :: _,_ :: _,h=>⟨h.1.below hb,Tel.below hb h.2⟩
 | [],_ :: _,h=>h.elim
 | _ :: _,[],h=>h.elim
theorem Tel.len {w:World}:∀ {qs:List Up} {fs:List Fp},Tel w qs fs->qs.length=fs.length
 | [],[],_=>rfl
 | _ :: _,_ :: _,h=>by rw [List.length_cons,List.length_cons,Tel.len h.2]
 | [],_ :: _,h=>h.elim
 | _ :: _,[],h=>h.elim
theorem Tel.get {w:World}:∀ {qs:List Up} {fs:List Fp} {k:Nat} {f:Fp},Tel w qs fs->fs[k]? = some f -> ∃ q,qs[k]? = some q/\Tell1 w q f
 | [],[],_,_,_,hk=>by simp at hk
 | q :: _,g :: _,0,_,h,hk=>⟨q,rfl,by simp at hk;subst hk;exact h.1⟩
 | _ :: qs,_ :: fs,k+1,f,h,hk=>by
  obtain ⟨q,h1,h2⟩:=Tel.get (k:=k) h.2 (by simpa using hk);exact ⟨q,by simpa using h1,h2⟩
 | [],_ :: _,_,_,h,_=>h.elim
 | _ :: _,[],_,_,h,_=>h.elim
theorem Tel.app {w:World}:∀ {qs qs2:List Up} {fs fs2:List Fp},Tel w qs fs->Tel w qs2 fs2->Tel w (qs++qs2) (fs++fs2)
 | [],_,[],_,_,k=>k
 | _ :: _,_,_ :: _,_,h,k=>⟨h.1,Tel.app h.2 k⟩
 | [],_,_ :: _,_,h,_=>h.elim
 | _ :: _,_,[],_,h,_=>h.elim
theorem Tel.take {w:World}:∀ {qs:List Up} {fs:List Fp} (n:Nat),Tel w qs fs->Tel w (qs.take n) (fs.take n)
 | _,_,0,_=>trivial
 | [],[],_+1,_=>trivial
 | _ :: _,_ :: _,n+1,h=>⟨h.1,Tel.take n h.2⟩
 | [],_ :: _,_,h=>h.elim
 | _ :: _,[],_,h=>h.elim
theorem Tel.one {w:World} {q:Up} {f:Fp} (h:Tell1 w q f):Tel w [q] [f]:=⟨h,trivial⟩
def RdF (w:World) (v:Value) (fs:List Fp):Prop:=∃ qs,RdUp w v qs/\Tel w qs fs
theorem RdF.below {w w':World} {v:Value} {fs:List Fp} (h:RdF w v fs) (hb:Below w.heap.size w w'):RdF w' v fs:=by
 obtain ⟨qs,h1,h2⟩:=h;exact ⟨qs,h1.below hb,h2.below hb⟩
theorem RdF.nil (w:World):RdF w (.slice none 0 0) []:=⟨[],RdG.nil hlUp w,trivial⟩
theorem RdF.shape {w:World} {v:Value} {fs:List Fp} (h:RdF w v fs):∃ a c,v = .slice a fs.length c/\c<=9223372036854775807/\fs.length<=c:=by
 obtain ⟨qs,h1,h2⟩:=h;have:=h1.shape;rw [h2.len] at this;exact this
theorem RdF.at_ {w:World} {a:Option Addr} {n c:Nat} {fs:List Fp} (h:RdF w (.slice a n c) fs) (k:Nat) (x m t:Int) (es:List Ef) (hk:fs[k]? = some (x,m,t,es)) :
  ∃ b o ad l cp,(∀ w0,(Instr.indexAt 29 (.slice a n c) (.int .i64 (k:Int))).run Tryz.prog w0 = .ok (.pointer (some ⟨b,o,none⟩)) w0)/\b<w.heap.size /\
   w.cell? ⟨b,o,none⟩=some (.int .i64 x)/\w.cell? ⟨b,o+1,none⟩=some (.int .i64 m)/\w.cell? ⟨b,o+2,none⟩=some (.int .i64 t)/\w.cell? ⟨b,o+3,none⟩=some (.slice ad l cp)/\RdEf w (.slice ad l cp) es:=by
 obtain ⟨qs,h1,h2⟩:=h;obtain ⟨⟨x',m',t',ad,l,cp⟩,h3,h4,h5,h6,h7⟩:=h2.get hk;simp only at h4 h5 h6;subst h4 h5 h6;obtain ⟨b,o,hi,hb,c0,c1,c2,c3⟩:=atUp h1 k _ _ _ _ _ _ h3;exact ⟨b,o,ad,l,cp,hi,hb,c0,c1,c2,c3,h7⟩
def OwnF (w0:World) (base:Nat) (w:World) (v:Value) (fs:List Fp):Prop:=∃ qs,OwnUp base w v qs/\Tel w0 qs fs
theorem OwnF.nil (w0:World) (base:Nat) (w:World):OwnF w0 base w (.slice none 0 0) []:=⟨[],OwnG.nil hlUp _ _ _,trivial⟩
theorem OwnF.rd {w0 w:World} {base:Nat} {v:Value} {fs:List Fp} (h:OwnF w0 base w v fs) (hb:Below w0.heap.size w0 w):RdF w v fs:=by
 obtain ⟨qs,h1,h2⟩:=h;exact ⟨qs,h1.rd,h2.below hb⟩
theorem OwnF.below {w0 w w':World} {base:Nat} {v:Value} {fs:List Fp} (h:OwnF w0 base w v fs) (hb:Below w.heap.size w w'):OwnF w0 base w' v fs:=by
 obtain ⟨qs,h1,h2⟩:=h;exact ⟨qs,h1.below hb,h2⟩
theorem OwnF.shape {w0 w:World} {base:Nat} {v:Value} {fs:List Fp} (h:OwnF w0 base w v fs):∃ a c,v = .slice a fs.length c/\c<=9223372036854775807/\fs.length<=c:=by
 obtain ⟨qs,h1,h2⟩:=h;have:=h1.rd.shape;rw [h2.len] at this;exact this
end Go.Proofs.YtahcehbgfhdbjaaGreatDoor.ST
namespace Go.Proofs.YtahcehbgfhdbjaaGreatDoor
open Go.RowKit
open NM (Ms)
open VM (Ent)
structure Mv where
 cf:Value:=.slice none 0 0
 ct:Value:=.slice none 0 0
 bf:Value:=.slice none 0 0
 bt:Value:=.slice none 0 0
 ef:Value:=.slice none 0 0
 et:Value:=.slice none 0 0
 cg:Value:=.slice none 0 0
 st:Value:=.slice none 0 0
 hv:Value:=.slice none 0 0
abbrev zC:Array Value:=#[.int .i64 0,.int .i64 0,.int .i64 0,.int .i64 0,.int .i64 0,.int .i64 0,.int .i64 0,.slice none 0 0,.slice none 0 0,.slice none 0 0,.slice none 0 0,.bool false,.slice none 0 0,.slice none 0 0,.slice none 0 0,.slice none 0 0,.slice none 0 0,.bool false]
abbrev mcell (m:Ms) (x:Mv):Array Value:=
 #[.int .i64 m.k,.int .i64 m.fr,.int .i64 m.tx,.int .i64 m.p,.int .i64 m.n,.int .i64 m.r,.int .i64 m.d,x.cf,x.ct,x.bf,x.bt,.bool m.hb,x.ef,x.et,x.cg,x.st,x.hv,.bool m.mo]
abbrev mv (m:Ms) (x:Mv):Value:=.agg (mcell m x)
structure RdMs (w:World) (x:Mv) (m:Ms):Prop where
 cf:RdF w x.cf m.cf
 ct:RdF w x.ct m.ct
 bf:RdF w x.bf m.bf
 bt:RdF w x.bt m.bt
 ef:RdF w x.ef m.ef
 et:RdF w x.et m.et
 cg:RdF w x.cg m.cg
 st:ST.RdF w x.st m.st
 hv:VX.RdV w x.hv m.hv
theorem RdMs.below {w w':World} {x:Mv} {m:Ms} (h:RdMs w x m) (hb:Below w.heap.size w w'):RdMs w' x m:=
 ⟨h.cf.below hb,h.ct.below hb,h.bf.below hb,h.bt.below hb,h.ef.below hb,h.et.below hb,h.cg.below hb,h.st.below hb,h.hv.below hb⟩
structure Sh (x:Mv) (m:Ms):Prop where
 cf:∃ a c,x.cf = .slice a m.cf.length c
 ct:∃ a c,x.ct = .slice a m.ct.length c
 bf:∃ a c,x.bf = .slice a m.bf.length c
 bt:∃ a c,x.bt = .slice a m.bt.length c
 ef:∃ a c,x.ef = .slice a m.ef.length c
 et:∃ a c,x.et = .slice a m.et.length c
 cg:∃ a c,x.cg = .slice a m.cg.length c
 st:∃ a c,x.st = .slice a m.st.length c
 hv:∃ a c,x.hv = .slice a m.hv.length c
theorem RdMs.sh {w:World} {x:Mv} {m:Ms} (h:RdMs w x m):Sh x m:=by
 obtain ⟨h1,h2,h3,h4,h5,h6,h7,h8,h9⟩:=h;obtain ⟨a1,c1,e1,_⟩:=h1.shape;obtain ⟨a2,c2,e2,_⟩:=h2.shape;obtain ⟨a3,c3,e3,_⟩:=h3.shape;obtain ⟨a4,c4,e4,_⟩:=h4.shape;obtain ⟨a5,c5,e5,_⟩:=h5.shape;obtain ⟨a6,c6,e6,_⟩:=h6.shape;obtain ⟨a7,c7,e7,_⟩:=h7.shape;obtain ⟨a8,c8,e8,_⟩:=h8.shape;obtain ⟨a9,c9,e9,_⟩:=h9.shape;exact ⟨⟨_,_,e1⟩,⟨_,_,e2⟩,⟨_,_,e3⟩,⟨_,_,e4⟩,⟨_,_,e5⟩,⟨_,_,e6⟩,⟨_,_,e7⟩,⟨_,_,e8⟩,⟨_,_,e9⟩⟩
def MB (w:World) (g:Nat) (m:Ms) (x:Mv):Prop:=w.heap[g]? = some (.cells (mcell m x) 33 (0,0))
theorem MB.fresh (w:World) (m:Ms) (x:Mv):MB (w.alloc (.cells (mcell m x) 33)) w.heap.size m x:=heap_alloc_new w _
theorem MB.below {w w':World} {g:Nat} {m:Ms} {x:Mv} (h:MB w g m x) (hb:Below w.heap.size w w'):MB w' g m x:=below_block h hb
theorem MB.only {w w':World} {k g:Nat} {m:Ms} {x:Mv} (h:MB w g m x) (ho:Only k w w') (hne:g≠k):MB w' g m x:=ho.at h hne
theorem MB.lt {w:World} {g:Nat} {m:Ms} {x:Mv} (h:MB w g m x):g<w.heap.size:=(Array.getElem?_eq_some_iff.1 h).1
theorem MB.cells {w:World} {g:Nat} {m:Ms} {x:Mv} (h:MB w g m x) :
  w.cell? ⟨g,0,none⟩=some (.int .i64 m.k)/\w.cell? ⟨g,1,none⟩=some (.int .i64 m.fr)/\w.cell? ⟨g,2,none⟩=some (.int .i64 m.tx)/\w.cell? ⟨g,3,none⟩=some (.int .i64 m.p) /\
  w.cell? ⟨g,4,none⟩=some (.int .i64 m.n)/\w.cell? ⟨g,5,none⟩=some (.int .i64 m.r)/\w.cell? ⟨g,6,none⟩=some (.int .i64 m.d)/\w.cell? ⟨g,7,none⟩=some x.cf /\
  w.cell? ⟨g,8,none⟩=some x.ct/\w.cell? ⟨g,9,none⟩=some x.bf/\w.cell? ⟨g,10,none⟩=some x.bt/\w.cell? ⟨g,11,none⟩=some (.bool m.hb)/\w.cell? ⟨g,12,none⟩=some x.ef /\
  w.cell? ⟨g,13,none⟩=some x.et/\w.cell? ⟨g,14,none⟩=some x.cg/\w.cell? ⟨g,15,none⟩=some x.st/\w.cell? ⟨g,16,none⟩=some x.hv/\w.cell? ⟨g,17,none⟩=some (.bool m.mo):=by
 unfold MB mcell at h;refine ⟨?_,?_,?_,?_,?_,?_,?_,?_,?_,?_,?_,?_,?_,?_,?_,?_,?_,?_⟩ <;> simp [World.cell?,h]
theorem MB.free {w:World} {g:Nat} {m:Ms} {x:Mv} (h:MB w g m x) (j:Nat):w.frozen? ⟨g,j,none⟩=false:=by
 unfold MB at h;simp [World.frozen?,h]
end Go.Proofs.YtahcehbgfhdbjaaGreatDoor
namespace Go.Proofs
open Go.Shelf
def Tryz.decR_ren:Go.Shelf.Ren:=⟨fun | 197=>188 | 260=>190 | n=>n,fun | 9=>9 | 21=>21 | 3=>3 | 4=>4 | 5=>5 | 105=>217 | 119=>220 | 0=>0 | 46=>172 | 139=>223 | 138=>222 | n=>n,fun | 3=>0 | 4=>1 | n=>n⟩
theorem Tryz.decR:Go.Proofs.Lays.n197 Tryz.prog Tryz.decR_ren:={
 mixed:=by kernel_rfl
 f197:=Tryz.func188.trans (congrArg some (by kernel_rfl))
 f260:=Tryz.func190.trans (congrArg some (by kernel_rfl))
 t0:=Tryz.underlying0
 a0:=Tryz.isAgg0
 z0:=Tryz.sizeOf0
 v0:=Tryz.zeroValue0
 t3:=Tryz.underlying3
 a3:=Tryz.isAgg3
 z3:=Tryz.sizeOf3
 v3:=Tryz.zeroValue3
 t4:=Tryz.underlying4
 a4:=Tryz.isAgg4
 z4:=Tryz.sizeOf4
 v4:=Tryz.zeroValue4
 t5:=Tryz.underlying5
 a5:=Tryz.isAgg5
 z5:=Tryz.sizeOf5
 v5:=Tryz.zeroValue5
 t9:=Tryz.underlying9
 a9:=Tryz.isAgg9
 z9:=Tryz.sizeOf9
 v9:=Tryz.zeroValue9
 t21:=Tryz.underlying21
 a21:=Tryz.isAgg21
 z21:=Tryz.sizeOf21
 v21:=Tryz.zeroValue21
 t46:=Tryz.underlying172
 a46:=Tryz.isAgg172
 z46:=Tryz.sizeOf172
 v46:=Tryz.zeroValue172
 t105:=Tryz.underlying217
 a105:=Tryz.isAgg217
 z105:=Tryz.sizeOf217
 v105:=Tryz.zeroValue217
 t119:=Tryz.underlying220
 a119:=Tryz.isAgg220
 z119:=Tryz.sizeOf220
 t138:=Tryz.underlying222
 a138:=Tryz.isAgg222
 z138:=Tryz.sizeOf222
 v138:=Tryz.zeroValue222
 t139:=Tryz.underlying223
 a139:=Tryz.isAgg223
 z139:=Tryz.sizeOf223
 v139:=Tryz.zeroValue223
 g3:=by kernel_rfl
 g4:=by kernel_rfl }
end Go.Proofs
namespace Go.Proofs.YtahcehbgfhdbjaaGreatDoor
section
open Go.RowKit
def Tb (w:World):Prop:=Lib.Utf8Tabs (Tryz.decR_ren.g 3) (Tryz.decR_ren.g 4) w
theorem Tb.below {w w':World} (h:Tb w) (hb:Below w.heap.size w w'):Tb w':=Utf8Tabs_below h hb
theorem tbz {w w':World} (h:Hid (Tb w)) (hb:Hid (Below w.heap.size w w')):Tb w':=h.out.below hb.out
namespace UM
def wd (s:ByteArray) (pos:Nat):Nat:=(Utf8.decode s pos).2
theorem wd_pos (s:ByteArray) (pos:Nat):1<=wd s pos:=by
 unfold wd;rw [Lib.decode_at];unfold Lib.decodeN;repeat' split
 all_goals simp
theorem wd_fit (s:ByteArray) (pos:Nat) (h:pos<s.size):pos+wd s pos<=s.size:=by
 unfold wd;rw [Lib.decode_at];unfold Lib.decodeN;repeat' split
 all_goals (simp only;omega)
theorem get_tail (s:ByteArray) (a k:Nat):(s.extract a s.size).get! k=s.get! (a+k):=by
 have hz:(s.extract a s.size).size=s.size - a:=by rw [ByteArray.size_extract,Nat.min_self]
 by_cases h:a+k<s.size
 ·have h2:k<(s.extract a s.size).size:=by omega
  have e1:(s.extract a s.size).get! k=(s.extract a s.size)[k]:=Utf8W.get!_of_lt _ _ h2;have e2:s.get! (a+k)=s[a+k]:=Utf8W.get!_of_lt _ _ h;rw [e1,e2,ByteArray.getElem_extract]
 ·have hd:∀ (b:ByteArray) (j:Nat),¬ j<b.size->b.get! j=default:=by
   intro b j hj;show b.data[j]! = default
   exact getElem!_neg b.data j hj
  rw [hd _ _ (by omega),hd _ _ h]
theorem dec_tail (s:ByteArray) (a:Nat) (h:a<s.size):(Lib.decodeGo (s.extract a s.size)).2=wd s a:=by
 have hz:(s.extract a s.size).size=s.size - a:=by rw [ByteArray.size_extract,Nat.min_self]
 unfold Lib.decodeGo wd;rw [if_neg (by omega),Lib.decode_at,Lib.decode_at,hz];simp only [get_tail,Nat.sub_zero,Nat.zero_add,Nat.add_zero]
def nsA (s:ByteArray):Nat->Nat->Nat->Nat
 | 0,_,last=>last+(Lib.decodeGo (s.extract last s.size)).2
 | b+1,pos,last=>if pos<s.size then (if 16<pos then pos else nsA s b (pos+wd s pos) pos) else last+(Lib.decodeGo (s.extract last s.size)).2
def ns (s:ByteArray):Nat:=nsA s s.size 0 0
def At (s:ByteArray) (pos last:Nat):Prop:=(pos=0/\last=0)∨(last<s.size/\last<pos/\pos=last+wd s last)
theorem nsA_end (s:ByteArray) (b pos last:Nat) (h:¬ pos<s.size):nsA s b pos last=last+(Lib.decodeGo (s.extract last s.size)).2:=by
 cases b with
 | zero=>rfl
 | succ b=>rw [nsA,if_neg h]
theorem nsA_ok (s:ByteArray):∀ (b pos last:Nat),At s pos last->pos<=s.size->s.size<=pos+b->nsA s b pos last=s.size∨(16<nsA s b pos last/\16<s.size)
 | b,pos,last,ha,hp,hb=>by
  by_cases h:pos<s.size
  ·cases b with
   | zero=>omega
   | succ b=>
    rw [nsA,if_pos h];by_cases h16:16<pos
    ·rw [if_pos h16];omega
    ·rw [if_neg h16];have:=wd_pos s pos;exact nsA_ok s b _ _ (.inr ⟨h,by omega,rfl⟩) (wd_fit s pos h) (by omega)
  ·rw [nsA_end s b pos last h];left
   rcases ha with ⟨rfl,rfl⟩ | ⟨h1,h2,h3⟩
   ·have hz:s.size=0:=by omega
    unfold Lib.decodeGo;rw [if_pos (by rw [ByteArray.size_extract];omega)];simp [hz]
   ·rw [dec_tail s last h1];omega
theorem ns_ok (s:ByteArray):ns s=s.size∨(16<ns s/\16<s.size):=nsA_ok s _ 0 0 (.inl ⟨rfl,rfl⟩) (Nat.zero_le _) (by omega)
theorem nsA_le (s:ByteArray):∀ (b pos last:Nat),At s pos last->pos<=s.size->nsA s b pos last<=s.size
 | b,pos,last,ha,hp=>by
  have hend:last+(Lib.decodeGo (s.extract last s.size)).2<=s.size:=by
   rcases ha with ⟨rfl,rfl⟩ | ⟨h1,h2,h3⟩
   ·by_cases h:0<s.size
    ·rw [dec_tail s 0 h];exact wd_fit s 0 h
    ·unfold Lib.decodeGo;rw [if_pos (by rw [ByteArray.size_extract];omega)];exact Nat.zero_le _
   ·rw [dec_tail s last h1];omega
  cases b with
  | zero=>exact hend
  | succ b=>
   rw [nsA];by_cases h:pos<s.size
   ·rw [if_pos h];by_cases h16:16<pos
    ·rw [if_pos h16];omega
    ·rw [if_neg h16];have:=wd_pos s pos;exact nsA_le s b _ _ (.inr ⟨h,by omega,rfl⟩) (wd_fit s pos h)
   ·rw [if_neg h];exact hend
theorem ns_le (s:ByteArray):ns s<=s.size:=nsA_le s _ 0 0 (.inl ⟨rfl,rfl⟩) (Nat.zero_le _)
end UM
open UM in
theorem cNameSize (s:ByteArray) (w:World) (hs:s.size<=maxLen) (hT:Tb w) :
  Calls Tryz.prog 178 #[.string s] w fun e w'=>e = .returned (.int .i64 (ns s:Nat))/\Below w.heap.size w w':=by
 have hsz:s.size<=9223372036854775807:=by unfold maxLen at hs;omega
 have HIT:=hid (fun pos=>(below_fresh w (.stringIter s pos):Below w.heap.size w (w.iter s pos)));have HD:=hid (fun (pos last:Nat)=>(show Calls Tryz.prog 188 #[.string (s.extract last s.size)] (w.iter s pos) fun e w'=>e = .returned (.tuple #[.int .i32 (Lib.decodeGo (s.extract last s.size)).1,.int .i64 (Lib.decodeGo (s.extract last s.size)).2])/\Below (w.iter s pos).heap.size (w.iter s pos) w' from Any.utf8_DecodeRuneInString Tryz.decR _ _ (hT.below (HIT.out pos))));have HLE:=hid (fun b pos last=>nsA_le s b pos last);clear hs hT;obtain ⟨R,hR⟩:∃ R,R=ns s:=⟨_,rfl⟩
 rw [<- hR];have HR:=hid (show nsA s s.size 0 0=R from hR.symm);clear hR;go_enter Tryz.func178,Tryz.ntmps178
 go_wp2
 go_loopw [3] (fun n w'=>∃ (pos b last:Nat),w'=w.iter s pos/\n = .int .i64 (last:Int)/\Hid (nsA s b pos last=R)/\Hid (At s pos last)/\Hid (pos<=s.size)/\Hid (s.size<=pos+b)) (fun _ w'=>s.size - w'.iterPos w.heap.size)
 case atStart=>exact ⟨0,s.size,0,rfl,rfl,HR,hid (.inl ⟨rfl,rfl⟩),hid (Nat.zero_le _),hid (by omega)⟩
 case round=>
  obtain ⟨pos,b,last,rfl,rfl,hn,ha,hp,hb⟩:=hrel;by_cases hlt:pos<s.size
  ·have hnx:∀ ty,(Instr.next (.pointer (some ⟨w.heap.size,0,none⟩)) true ty).run Tryz.prog (w.iter s pos)=_:=fun ty=>run_next_any w s pos ty hlt
   have hne:∃ b',b=b'+1:=⟨b - 1,by have:=hb.out;omega⟩
   obtain ⟨b',rfl⟩:=hne;by_cases h16:(16:Int)<(pos:Int)
   ·have hr:R=pos:=by rw [<- hn.out,nsA,if_pos hlt,if_pos (by omega)]
    go_wp2
    go_ret;exact ⟨by rw [hr];rfl,HIT.out _⟩
   ·have hr:nsA s b' (pos+wd s pos) pos=R:=by rw [<- hn.out,nsA,if_pos hlt,if_neg (by omega)]
    have HR2:=hid hr;have HA2:=hid (show At s (pos+wd s pos) pos from .inr ⟨hlt,by have:=wd_pos s pos;omega,rfl⟩);have HP2:=hid (wd_fit s pos hlt);have hwd:=wd_pos s pos;have HB2:=hid (show s.size<=pos+wd s pos+b' by have:=hb.out;omega);clear hr hn ha hp hb;go_wp2
    go_roundw
    case rel=>exact ⟨pos+wd s pos,b',pos,rfl,rfl,HR2,HA2,HP2,HB2⟩
    case measure=>
     show s.size - World.iterPos (w.iter s (pos+wd s pos)) w.heap.size<s.size - World.iterPos (w.iter s pos) w.heap.size
     rw [World.iterPos_iter,World.iterPos_iter];omega
  ·have hnx:∀ ty,(Instr.next (.pointer (some ⟨w.heap.size,0,none⟩)) true ty).run Tryz.prog (w.iter s pos)=_:=fun ty=>run_next_end w s pos ty hlt
   have hr:R=last+(Lib.decodeGo (s.extract last s.size)).2:=by rw [<- hn.out,nsA_end s b pos last hlt]
   have hla:last<=s.size:=by rcases ha.out with ⟨_,rfl⟩ | ⟨h,_⟩ <;> omega
   have hRl:R<=s.size:=by rw [<- hn.out];exact HLE.out _ _ _ ha.out hp.out
   have HC:=hid (HD.out pos last);have HIB:=hid (HIT.out pos);have HRE:=hid hr;have hsl:∀ w0:World,(Instr.slice 9 (.string s) (some (.int .i64 (last:Int))) none none).run Tryz.prog w0 = .ok (.string (s.extract last s.size)) w0:=by
    intro w0;simp [go_sem]
    omega
   generalize (Lib.decodeGo (s.extract last s.size)).2=K at HC HRE hr;generalize (Lib.decodeGo (s.extract last s.size)).1=C at HC;generalize s.extract last s.size=T at hsl HC;have hsum:(last:Int)+(K:Int)=(R:Int):=by omega
   clear hn ha hp hb HD HIT HR HLE hr;go_wp2_with fail
   refine HC.out.mono ?_;rintro e w2 ⟨rfl,hb2⟩;have HB:=hid (bnext HIB.out hb2);clear hb2 HC HIB;go_wp2
   go_ret;exact ⟨by rw [HRE.out];rfl,HB.out⟩
end
section
set_option maxRecDepth 100000
open Go.ChangeShapes Go.WideShapes Go.ChangeAt Go.RowKit
open UM (Ef)
def EfFit (e:Ef):Prop:=UM.in64 e/\e.2.1.size<=maxLen/\e.2.2.1.size<=maxLen/\e.2.2.2.2.size<=maxLen
section
variable {H:Type} {enc:TypeId×Value->H} {W:World} {n:Nat} {x:DataW H×List MemPlace}
end
end
end Go.Proofs.YtahcehbgfhdbjaaGreatDoor

