/-
  NRef1 NRef5: joined texts, what nothing names left out.
-/
import Derived.Test.YtahcehbgfhdbjaaGreatDoorQUA7
set_option maxHeartbeats 8000000
set_option maxRecDepth 100000
open Go.Lib (hid)
namespace Go.Proofs.YtahcehbgfhdbjaaGreatDoor
section
open Go.RowKit
open NM (Ms)
open VM (Ent)
theorem neq_acc (x n y m:Int) (w:World):(binOp .neq 23 (.agg #[.int .i64 x,.int .i64 n]) (.agg #[.int .i64 y,.int .i64 m])).run Tryz.prog w = .ok (.bool (!decide (x=y/\n=m))) w:=by
 have u3:=Tryz.underlying3;have a3:=Tryz.isAgg3;have z3:=Tryz.sizeOf3;have hS:Tryz.prog.underlying 23=some (.struct (Tryz.prog.fieldsOf 23)):=by kernel_rfl
 have hp:Tryz.prog.stoodInHeld 23=false:=by kernel_rfl
 rw [run_neq_struct,show (10000:Nat)=9999+1 from rfl,run_equalIn_agg w 9999 23 _ _ hS hp];simp only [Program.fieldsOf,Tryz.underlying23];go_simp
 by_cases h1:x=y <;> by_cases h2:n=m <;> simp [h1,h2]
theorem rEmp (a b:Value) (f t:List CM.Fp) (w:World) (ha:RdF w a f) (hb:RdF w b t) :
  Calls Tryz.prog 70 #[cev a b] w fun e w'=>e = .returned (.bool (NM.emp f t))/\Below w.heap.size w w':=by
 obtain ⟨aa,ac,rfl,hac,_⟩:=ha.shape;obtain ⟨ba,bc,rfl,hbc,_⟩:=hb.shape;have hb0:=below_fresh w (.cells #[.slice aa f.length ac,.slice ba t.length bc] 27);have hX:=XB.fresh w (.slice aa f.length ac) (.slice ba t.length bc);obtain ⟨w0,hw0⟩:∃ w0,w.alloc (.cells #[.slice aa f.length ac,.slice ba t.length bc] 27)=w0:=⟨_,rfl⟩
 rw [hw0] at hb0 hX;have HB:=hid hb0;have HW:=hid hw0;obtain ⟨x0,x1,_⟩:=hX.cells;unfold NM.emp;clear ha hb hX hb0 hw0;by_cases h1:f.length=0
 ·have q1:((f.length:Int)==0)=true:=beq_t (by omega);rw [decide_eq_true h1];by_cases h2:t.length=0
  ·have q2:((t.length:Int)==0)=true:=beq_t (by omega);rw [decide_eq_true h2];clear h1 h2;go_enter Tryz.func70,Tryz.ntmps70
   go_upto_region 1 with fail
   rw [HW.out];go_wp2
   go_ret;exact ⟨rfl,HB.out⟩
  ·have q2:((t.length:Int)==0)=false:=beq_f (by omega);rw [decide_eq_false h2];clear h1 h2;go_enter Tryz.func70,Tryz.ntmps70
   go_upto_region 1 with fail
   rw [HW.out];go_wp2
   go_ret;exact ⟨rfl,HB.out⟩
 ·have q1:((f.length:Int)==0)=false:=beq_f (by omega);rw [decide_eq_false h1];clear h1;go_enter Tryz.func70,Tryz.ntmps70
  go_upto_region 1 with fail
  rw [HW.out];go_wp2
  go_ret;exact ⟨rfl,HB.out⟩
def FB (w:World) (g:Nat) (b0 b1 b2 b3 b4 b5 b6 b7 b8:Bool):Prop:=w.heap[g]? = some (.cells #[.bool b0,.bool b1,.bool b2,.bool b3,.bool b4,.bool b5,.bool b6,.bool b7,.bool b8] 106 (0,0))
theorem FB.fresh (w:World) (b0 b1 b2 b3 b4 b5 b6 b7 b8:Bool):FB (w.alloc (.cells #[.bool b0,.bool b1,.bool b2,.bool b3,.bool b4,.bool b5,.bool b6,.bool b7,.bool b8] 106)) w.heap.size b0 b1 b2 b3 b4 b5 b6 b7 b8:=heap_alloc_new w _
theorem FB.below {w w':World} {g:Nat} {b0 b1 b2 b3 b4 b5 b6 b7 b8:Bool} (h:FB w g b0 b1 b2 b3 b4 b5 b6 b7 b8) (hb:Below w.heap.size w w'):FB w' g b0 b1 b2 b3 b4 b5 b6 b7 b8:=below_block h hb
theorem FB.cells {w:World} {g:Nat} {b0 b1 b2 b3 b4 b5 b6 b7 b8:Bool} (h:FB w g b0 b1 b2 b3 b4 b5 b6 b7 b8):w.cell? ⟨g,0,none⟩=some (.bool b0)/\w.cell? ⟨g,1,none⟩=some (.bool b1)/\w.cell? ⟨g,2,none⟩=some (.bool b2)/\w.cell? ⟨g,3,none⟩=some (.bool b3)/\w.cell? ⟨g,4,none⟩=some (.bool b4)/\w.cell? ⟨g,5,none⟩=some (.bool b5)/\w.cell? ⟨g,6,none⟩=some (.bool b6)/\w.cell? ⟨g,7,none⟩=some (.bool b7)/\w.cell? ⟨g,8,none⟩=some (.bool b8):=by
 unfold FB at h;refine ⟨?_,?_,?_,?_,?_,?_,?_,?_,?_⟩ <;> simp [World.cell?,h]
theorem FB.free {w:World} {g:Nat} {b0 b1 b2 b3 b4 b5 b6 b7 b8:Bool} (h:FB w g b0 b1 b2 b3 b4 b5 b6 b7 b8) (j:Nat):w.frozen? ⟨g,j,none⟩=false:=by
 unfold FB at h;simp [World.frozen?,h]
theorem FB.put {w:World} {g:Nat} {b0 b1 b2 b3 b4 b5 b6 b7 b8:Bool} (h:FB w g b0 b1 b2 b3 b4 b5 b6 b7 b8) (c0 c1 c2 c3 c4 c5 c6 c7 c8:Bool):FB (((((((((w.setCell ⟨g,0,none⟩ (.bool c0)).setCell ⟨g,1,none⟩ (.bool c1)).setCell ⟨g,2,none⟩ (.bool c2)).setCell ⟨g,3,none⟩ (.bool c3)).setCell ⟨g,4,none⟩ (.bool c4)).setCell ⟨g,5,none⟩ (.bool c5)).setCell ⟨g,6,none⟩ (.bool c6)).setCell ⟨g,7,none⟩ (.bool c7)).setCell ⟨g,8,none⟩ (.bool c8)) g c0 c1 c2 c3 c4 c5 c6 c7 c8:=by
 have h0:(w.setCell ⟨g,0,none⟩ (.bool c0)).heap[g]? = some (.cells #[.bool c0,.bool b1,.bool b2,.bool b3,.bool b4,.bool b5,.bool b6,.bool b7,.bool b8] 106 (0,0)):=heap_setCell_same w g 0 _ _ _ h;have h1:((w.setCell ⟨g,0,none⟩ (.bool c0)).setCell ⟨g,1,none⟩ (.bool c1)).heap[g]? = some (.cells #[.bool c0,.bool c1,.bool b2,.bool b3,.bool b4,.bool b5,.bool b6,.bool b7,.bool b8] 106 (0,0)):=heap_setCell_same _ g 1 _ _ _ h0;have h2:(((w.setCell ⟨g,0,none⟩ (.bool c0)).setCell ⟨g,1,none⟩ (.bool c1)).setCell ⟨g,2,none⟩ (.bool c2)).heap[g]? = some (.cells #[.bool c0,.bool c1,.bool c2,.bool b3,.bool b4,.bool b5,.bool b6,.bool b7,.bool b8] 106 (0,0)):=heap_setCell_same _ g 2 _ _ _ h1;have h3:((((w.setCell ⟨g,0,none⟩ (.bool c0)).setCell ⟨g,1,none⟩ (.bool c1)).setCell ⟨g,2,none⟩ (.bool c2)).setCell ⟨g,3,none⟩ (.bool c3)).heap[g]? = some (.cells #[.bool c0,.bool c1,.bool c2,.bool c3,.bool b4,.bool b5,.bool b6,.bool b7,.bool b8] 106 (0,0)):=heap_setCell_same _ g 3 _ _ _ h2;have h4:(((((w.setCell ⟨g,0,none⟩ (.bool c0)).setCell ⟨g,1,none⟩ (.bool c1)).setCell ⟨g,2,none⟩ (.bool c2)).setCell ⟨g,3,none⟩ (.bool c3)).setCell ⟨g,4,none⟩ (.bool c4)).heap[g]? = some (.cells #[.bool c0,.bool c1,.bool c2,.bool c3,.bool c4,.bool b5,.bool b6,.bool b7,.bool b8] 106 (0,0)):=heap_setCell_same _ g 4 _ _ _ h3;have h5:((((((w.setCell ⟨g,0,none⟩ (.bool c0)).setCell ⟨g,1,none⟩ (.bool c1)).setCell ⟨g,2,none⟩ (.bool c2)).setCell ⟨g,3,none⟩ (.bool c3)).setCell ⟨g,4,none⟩ (.bool c4)).setCell ⟨g,5,none⟩ (.bool c5)).heap[g]? = some (.cells #[.bool c0,.bool c1,.bool c2,.bool c3,.bool c4,.bool c5,.bool b6,.bool b7,.bool b8] 106 (0,0)):=heap_setCell_same _ g 5 _ _ _ h4
 have h6:(((((((w.setCell ⟨g,0,none⟩ (.bool c0)).setCell ⟨g,1,none⟩ (.bool c1)).setCell ⟨g,2,none⟩ (.bool c2)).setCell ⟨g,3,none⟩ (.bool c3)).setCell ⟨g,4,none⟩ (.bool c4)).setCell ⟨g,5,none⟩ (.bool c5)).setCell ⟨g,6,none⟩ (.bool c6)).heap[g]? = some (.cells #[.bool c0,.bool c1,.bool c2,.bool c3,.bool c4,.bool c5,.bool c6,.bool b7,.bool b8] 106 (0,0)):=heap_setCell_same _ g 6 _ _ _ h5;have h7:((((((((w.setCell ⟨g,0,none⟩ (.bool c0)).setCell ⟨g,1,none⟩ (.bool c1)).setCell ⟨g,2,none⟩ (.bool c2)).setCell ⟨g,3,none⟩ (.bool c3)).setCell ⟨g,4,none⟩ (.bool c4)).setCell ⟨g,5,none⟩ (.bool c5)).setCell ⟨g,6,none⟩ (.bool c6)).setCell ⟨g,7,none⟩ (.bool c7)).heap[g]? = some (.cells #[.bool c0,.bool c1,.bool c2,.bool c3,.bool c4,.bool c5,.bool c6,.bool c7,.bool b8] 106 (0,0)):=heap_setCell_same _ g 7 _ _ _ h6;have h8:(((((((((w.setCell ⟨g,0,none⟩ (.bool c0)).setCell ⟨g,1,none⟩ (.bool c1)).setCell ⟨g,2,none⟩ (.bool c2)).setCell ⟨g,3,none⟩ (.bool c3)).setCell ⟨g,4,none⟩ (.bool c4)).setCell ⟨g,5,none⟩ (.bool c5)).setCell ⟨g,6,none⟩ (.bool c6)).setCell ⟨g,7,none⟩ (.bool c7)).setCell ⟨g,8,none⟩ (.bool c8)).heap[g]? = some (.cells #[.bool c0,.bool c1,.bool c2,.bool c3,.bool c4,.bool c5,.bool c6,.bool c7,.bool c8] 106 (0,0)):=heap_setCell_same _ g 8 _ _ _ h7;exact h8
theorem only9 {w:World} {g:Nat} (c0 c1 c2 c3 c4 c5 c6 c7 c8:Bool):Only g w (((((((((w.setCell ⟨g,0,none⟩ (.bool c0)).setCell ⟨g,1,none⟩ (.bool c1)).setCell ⟨g,2,none⟩ (.bool c2)).setCell ⟨g,3,none⟩ (.bool c3)).setCell ⟨g,4,none⟩ (.bool c4)).setCell ⟨g,5,none⟩ (.bool c5)).setCell ⟨g,6,none⟩ (.bool c6)).setCell ⟨g,7,none⟩ (.bool c7)).setCell ⟨g,8,none⟩ (.bool c8)):=
 ((((((((Only.set 0 _).trans (Only.set 1 _)).trans (Only.set 2 _)).trans (Only.set 3 _)).trans (Only.set 4 _)).trans (Only.set 5 _)).trans (Only.set 6 _)).trans (Only.set 7 _)).trans (Only.set 8 _)
theorem fldRet {fn:Func} {p:Tmp} {R:Ending->World->Prop} {a:Act} {w:World} {g:Nat} {b0 b1 b2 b3 b4 b5 b6 b7 b8:Bool} (h:fn.results = #[.cell p 106]) (hp:a.tmps.getD p undef = .pointer (some ⟨g,0,none⟩)) (hg:FB w g b0 b1 b2 b3 b4 b5 b6 b7 b8)
  (hd:a.defers = []) (hR:R (.returned (.agg #[.bool b0,.bool b1,.bool b2,.bool b3,.bool b4,.bool b5,.bool b6,.bool b7,.bool b8])) w):bodyPost Tryz.prog fn R .ret a w:=
 bodyPost_ret (results_cell_row (P:=Tryz.prog) h a.tmps w g 106 _ _ _ hp hg Tryz.underlying106 rfl (by kernel_rfl)) hd hR
theorem rUsed1 (w:World):Calls Tryz.prog 69 #[.int .i64 1] w fun e w'=>e = .returned (.agg #[.bool true,.bool true,.bool true,.bool true,.bool true,.bool false,.bool false,.bool false,.bool false])/\Below w.heap.size w w':=by
 have hb0:=below_fresh w (.cells #[.bool false,.bool false,.bool false,.bool false,.bool false,.bool false,.bool false,.bool false,.bool false] 106);have hX:=FB.fresh w false false false false false false false false false;obtain ⟨w0,hw0⟩:∃ w0,w.alloc (.cells #[.bool false,.bool false,.bool false,.bool false,.bool false,.bool false,.bool false,.bool false,.bool false] 106)=w0:=⟨_,rfl⟩
 rw [hw0] at hb0 hX;have HB:=hid hb0;have HX:=hid hX;have HW:=hid hw0;have hfr:=hX.free;obtain ⟨x0,x1,x2,x3,x4,x5,x6,x7,x8⟩:=hX.cells;clear hb0 hX hw0;go_enter Tryz.func69,Tryz.ntmps69
 go_upto_region 1 with fail
 rw [HW.out];go_wp2
 exact fldRet rfl rfl (HX.out.put true true true true true false false false false) rfl ⟨rfl,seen HB.out (Nat.le_refl _) (only9 _ _ _ _ _ _ _ _ _)⟩
theorem rUsed2 (w:World):Calls Tryz.prog 69 #[.int .i64 2] w fun e w'=>e = .returned (.agg #[.bool true,.bool true,.bool false,.bool true,.bool true,.bool true,.bool false,.bool false,.bool false])/\Below w.heap.size w w':=by
 have hb0:=below_fresh w (.cells #[.bool false,.bool false,.bool false,.bool false,.bool false,.bool false,.bool false,.bool false,.bool false] 106);have hX:=FB.fresh w false false false false false false false false false;obtain ⟨w0,hw0⟩:∃ w0,w.alloc (.cells #[.bool false,.bool false,.bool false,.bool false,.bool false,.bool false,.bool false,.bool false,.bool false] 106)=w0:=⟨_,rfl⟩
 rw [hw0] at hb0 hX;have HB:=hid hb0;have HX:=hid hX;have HW:=hid hw0;have hfr:=hX.free;obtain ⟨x0,x1,x2,x3,x4,x5,x6,x7,x8⟩:=hX.cells;clear hb0 hX hw0;go_enter Tryz.func69,Tryz.ntmps69
 go_upto_region 1 with fail
 rw [HW.out];go_wp2
 exact fldRet rfl rfl (HX.out.put true true false true true true false false false) rfl ⟨rfl,seen HB.out (Nat.le_refl _) (only9 _ _ _ _ _ _ _ _ _)⟩
theorem rUsed4 (w:World):Calls Tryz.prog 69 #[.int .i64 4] w fun e w'=>e = .returned (.agg #[.bool false,.bool false,.bool false,.bool false,.bool false,.bool false,.bool true,.bool true,.bool false])/\Below w.heap.size w w':=by
 have hb0:=below_fresh w (.cells #[.bool false,.bool false,.bool false,.bool false,.bool false,.bool false,.bool false,.bool false,.bool false] 106);have hX:=FB.fresh w false false false false false false false false false;obtain ⟨w0,hw0⟩:∃ w0,w.alloc (.cells #[.bool false,.bool false,.bool false,.bool false,.bool false,.bool false,.bool false,.bool false,.bool false] 106)=w0:=⟨_,rfl⟩
 rw [hw0] at hb0 hX;have HB:=hid hb0;have HX:=hid hX;have HW:=hid hw0;have hfr:=hX.free;obtain ⟨x0,x1,x2,x3,x4,x5,x6,x7,x8⟩:=hX.cells;clear hb0 hX hw0;go_enter Tryz.func69,Tryz.ntmps69
 go_upto_region 1 with fail
 rw [HW.out];go_wp2
 exact fldRet rfl rfl (HX.out.put false false false false false false true true false) rfl ⟨rfl,seen HB.out (Nat.le_refl _) (only9 _ _ _ _ _ _ _ _ _)⟩
theorem rUsed5 (w:World):Calls Tryz.prog 69 #[.int .i64 5] w fun e w'=>e = .returned (.agg #[.bool false,.bool false,.bool false,.bool false,.bool true,.bool true,.bool true,.bool false,.bool true])/\Below w.heap.size w w':=by
 have hb0:=below_fresh w (.cells #[.bool false,.bool false,.bool false,.bool false,.bool false,.bool false,.bool false,.bool false,.bool false] 106);have hX:=FB.fresh w false false false false false false false false false;obtain ⟨w0,hw0⟩:∃ w0,w.alloc (.cells #[.bool false,.bool false,.bool false,.bool false,.bool false,.bool false,.bool false,.bool false,.bool false] 106)=w0:=⟨_,rfl⟩
 rw [hw0] at hb0 hX;have HB:=hid hb0;have HX:=hid hX;have HW:=hid hw0;have hfr:=hX.free;obtain ⟨x0,x1,x2,x3,x4,x5,x6,x7,x8⟩:=hX.cells;clear hb0 hX hw0;go_enter Tryz.func69,Tryz.ntmps69
 go_upto_region 1 with fail
 rw [HW.out];go_wp2
 exact fldRet rfl rfl (HX.out.put false false false false true true true false true) rfl ⟨rfl,seen HB.out (Nat.le_refl _) (only9 _ _ _ _ _ _ _ _ _)⟩
theorem rUsedo (k:Int) (h1:k≠1) (h2:k≠2) (h4:k≠4) (h5:k≠5) (w:World):Calls Tryz.prog 69 #[.int .i64 k] w fun e w'=>e = .returned (.agg #[.bool false,.bool false,.bool false,.bool false,.bool false,.bool false,.bool true,.bool false,.bool false])/\Below w.heap.size w w':=by
 have m1:(k==1)=false:=beq_f h1;have m2:(k==2)=false:=beq_f h2;have m4:(k==4)=false:=beq_f h4;have m5:(k==5)=false:=beq_f h5;clear h1 h2 h4 h5;have hb0:=below_fresh w (.cells #[.bool false,.bool false,.bool false,.bool false,.bool false,.bool false,.bool false,.bool false,.bool false] 106);have hX:=FB.fresh w false false false false false false false false false;obtain ⟨w0,hw0⟩:∃ w0,w.alloc (.cells #[.bool false,.bool false,.bool false,.bool false,.bool false,.bool false,.bool false,.bool false,.bool false] 106)=w0:=⟨_,rfl⟩
 rw [hw0] at hb0 hX;have HB:=hid hb0;have HX:=hid hX;have HW:=hid hw0;have hfr:=hX.free;obtain ⟨x0,x1,x2,x3,x4,x5,x6,x7,x8⟩:=hX.cells;clear hb0 hX hw0;go_enter Tryz.func69,Tryz.ntmps69
 go_upto_region 1 with fail
 rw [HW.out];go_wp2
 exact fldRet rfl rfl (HX.out.put false false false false false false true false false) rfl ⟨rfl,seen HB.out (Nat.le_refl _) (only9 _ _ _ _ _ _ _ _ _)⟩
theorem rProc (x:Int) (w:World):Calls Tryz.prog 23 #[.int .i64 x] w fun e w'=>e = .returned (.bool (NM.proc x))/\w=w':=by
 have H1:=hid (fun w=>rServer x w);have H2:=hid (fun w=>rClient x w);have H3:=hid (fun w=>rAdmin x w);unfold NM.proc;generalize JM.isSrv x=A at H1;generalize UM.isCl x=B at H2;generalize JM.isAdm x=C at H3;cases A
 ·cases B
  ·go_enter Tryz.func23,Tryz.ntmps23
   go_wp2_with fail
   refine (H1.out _).mono ?_;rintro e w1 ⟨rfl,rfl⟩;go_wp2_with fail
   refine (H2.out _).mono ?_;rintro e w1 ⟨rfl,rfl⟩;go_wp2_with fail
   refine (H3.out _).mono ?_;rintro e w1 ⟨rfl,rfl⟩;go_wp2
   go_ret;exact ⟨rfl,rfl⟩
  ·go_enter Tryz.func23,Tryz.ntmps23
   go_wp2_with fail
   refine (H1.out _).mono ?_;rintro e w1 ⟨rfl,rfl⟩;go_wp2_with fail
   refine (H2.out _).mono ?_;rintro e w1 ⟨rfl,rfl⟩;go_wp2
   go_ret;exact ⟨rfl,rfl⟩
 ·go_enter Tryz.func23,Tryz.ntmps23
  go_wp2_with fail
  refine (H1.out _).mono ?_;rintro e w1 ⟨rfl,rfl⟩;go_wp2
  go_ret;exact ⟨rfl,rfl⟩
end
section
open Go.RowKit
open NM (Ms)
open VM (Ent)
theorem bnB {a b:Bool} (h:¬ a=b):(a != b)=true:=by cases a <;> cases b <;> simp_all
theorem twoM (w:World) (m:Ms) (x:Mv) (m':Ms) (x':Mv) :
  ∃ w0,(w.alloc (.cells (mcell m x) 33)).alloc (.cells (mcell m' x') 33)=w0/\MB w0 w.heap.size m x/\MB w0 (w.heap.size+1) m' x'/\Below w.heap.size w w0:=by
 have b0:=below_fresh w (.cells (mcell m x) 33);have x0:=MB.fresh w m x;have s0:=World.size_alloc w (.cells (mcell m x) 33);generalize w.alloc (.cells (mcell m x) 33)=w1 at b0 x0 s0;have b1:=below_fresh w1 (.cells (mcell m' x') 33);have x1:=MB.fresh w1 m' x';rw [s0] at x1;exact ⟨_,rfl,x0.below b1,x1,bnext b0 b1⟩
theorem rEqM (x:Mv) (m:Ms) (x':Mv) (m':Ms) (w:World) (h:RdMs w x m) (h':RdMs w x' m') :
  Calls Tryz.prog 12 #[mv m x,mv m' x'] w fun e w'=>e = .returned (.bool (NM.eqm m m'))/\Below w.heap.size w w':=by
 obtain ⟨k,fr,tx,p,n,r,d,cf,ct,bf,bt,hb,ef,et,cg,st,hv,mo⟩:=m;obtain ⟨s1,s2,s3,s4,s5,s6,s7,s8,s9⟩:=x;obtain ⟨h1,h2,h3,h4,h5,h6,h7,h8,h9⟩:=h;dsimp only at h1 h2 h3 h4 h5 h6 h7 h8 h9;obtain ⟨a1,c1,rfl,_⟩:=h1.shape;obtain ⟨a2,c2,rfl,_⟩:=h2.shape;obtain ⟨a3,c3,rfl,_⟩:=h3.shape;obtain ⟨a4,c4,rfl,_⟩:=h4.shape;obtain ⟨a5,c5,rfl,_⟩:=h5.shape;obtain ⟨a6,c6,rfl,_⟩:=h6.shape;obtain ⟨a7,c7,rfl,_⟩:=h7.shape;obtain ⟨a8,c8,rfl,_⟩:=h8.shape;obtain ⟨a9,c9,rfl,_⟩:=h9.shape;obtain ⟨kz,frz,txz,pz,nz,rz,dz,cfz,ctz,bfz,btz,hbz,efz,etz,cgz,stz,hvz,moz⟩:=m';obtain ⟨s1z,s2z,s3z,s4z,s5z,s6z,s7z,s8z,s9z⟩:=x';obtain ⟨h1z,h2z,h3z,h4z,h5z,h6z,h7z,h8z,h9z⟩:=h';dsimp only at h1z h2z h3z h4z h5z h6z h7z h8z h9z;obtain ⟨a1z,c1z,rfl,_⟩:=h1z.shape;obtain ⟨a2z,c2z,rfl,_⟩:=h2z.shape;obtain ⟨a3z,c3z,rfl,_⟩:=h3z.shape;obtain ⟨a4z,c4z,rfl,_⟩:=h4z.shape;obtain ⟨a5z,c5z,rfl,_⟩:=h5z.shape;obtain ⟨a6z,c6z,rfl,_⟩:=h6z.shape;obtain ⟨a7z,c7z,rfl,_⟩:=h7z.shape;obtain ⟨a8z,c8z,rfl,_⟩:=h8z.shape;obtain ⟨a9z,c9z,rfl,_⟩:=h9z.shape;obtain ⟨w0,hw0,hX,hY,hb0⟩:=twoM w ({k,fr,tx,p,n,r,d,cf,ct,bf,bt,hb,ef,et,cg,st,hv,mo}:Ms) (⟨.slice a1 cf.length c1,.slice a2 ct.length c2,.slice a3 bf.length c3,.slice a4 bt.length c4,.slice a5 ef.length c5,.slice a6 et.length c6,.slice a7 cg.length c7,.slice a8 st.length c8,.slice a9 hv.length c9⟩:Mv) (⟨kz,frz,txz,pz,nz,rz,dz,cfz,ctz,bfz,btz,hbz,efz,etz,cgz,stz,hvz,moz⟩:Ms) (⟨.slice a1z cfz.length c1z,.slice a2z ctz.length c2z,.slice a3z bfz.length c3z,.slice a4z btz.length c4z,.slice a5z efz.length c5z,.slice a6z etz.length c6z,.slice a7z cgz.length c7z,.slice a8z stz.length c8z,.slice a9z hvz.length c9z⟩:Mv)
 have HX:=hid hX;have HY:=hid hY;have HB:=hid hb0;have HW:=hid (show (w.alloc (.cells #[.int .i64 k,.int .i64 fr,.int .i64 tx,.int .i64 p,.int .i64 n,.int .i64 r,.int .i64 d,.slice a1 cf.length c1,.slice a2 ct.length c2,.slice a3 bf.length c3,.slice a4 bt.length c4,.bool hb,.slice a5 ef.length c5,.slice a6 et.length c6,.slice a7 cg.length c7,.slice a8 st.length c8,.slice a9 hv.length c9,.bool mo] 33)).alloc (.cells #[.int .i64 kz,.int .i64 frz,.int .i64 txz,.int .i64 pz,.int .i64 nz,.int .i64 rz,.int .i64 dz,.slice a1z cfz.length c1z,.slice a2z ctz.length c2z,.slice a3z bfz.length c3z,.slice a4z btz.length c4z,.bool hbz,.slice a5z efz.length c5z,.slice a6z etz.length c6z,.slice a7z cgz.length c7z,.slice a8z stz.length c8z,.slice a9z hvz.length c9z,.bool moz] 33)=w0 from hw0);replace h1:=h1.below hb0;replace h1z:=h1z.below hb0;replace h2:=h2.below hb0;replace h2z:=h2z.below hb0;replace h3:=h3.below hb0;replace h3z:=h3z.below hb0;replace h4:=h4.below hb0;replace h4z:=h4z.below hb0;replace h5:=h5.below hb0;replace h5z:=h5z.below hb0;replace h6:=h6.below hb0;replace h6z:=h6z.below hb0;replace h7:=h7.below hb0;replace h7z:=h7z.below hb0;replace h8:=h8.below hb0;replace h8z:=h8z.below hb0;replace h9:=h9.below hb0;replace h9z:=h9z.below hb0;obtain ⟨R,hR⟩:∃ R,R=NM.eqm ({k,fr,tx,p,n,r,d,cf,ct,bf,bt,hb,ef,et,cg,st,hv,mo}:Ms) (⟨kz,frz,txz,pz,nz,rz,dz,cfz,ctz,bfz,btz,hbz,efz,etz,cgz,stz,hvz,moz⟩:Ms):=⟨_,rfl⟩
 rw [<- hR];unfold NM.eqm NM.scal at hR;dsimp only at hR;have HC1:=hid (fun w' (g:Below w0.heap.size w0 w')=>rEqualCert _ _ _ _ cf ct cfz ctz w' (h1.below g) (h2.below g) (h1z.below g) (h2z.below g));have HC2:=hid (fun w' (g:Below w0.heap.size w0 w')=>rEqualCert _ _ _ _ bf bt bfz btz w' (h3.below g) (h4.below g) (h3z.below g) (h4z.below g));have HC3:=hid (fun w' (g:Below w0.heap.size w0 w')=>rEqualCert _ _ _ _ ef et efz etz w' (h5.below g) (h6.below g) (h5z.below g) (h6z.below g));have HC4:=hid (fun w' (g:Below w0.heap.size w0 w')=>rEqualConfig _ _ cg cgz w' (h7.below g) (h7z.below g));have HC5:=hid (fun w' (g:Below w0.heap.size w0 w')=>ST.rEqualState _ _ st stz w' (h8.below g) (h8z.below g));have HC6:=hid (fun w' (g:Below w0.heap.size w0 w')=>VX.rEqual _ _ hv hvz w' (h9.below g) (h9z.below g));generalize (decide (cf=cfz) && decide (ct=ctz))=B1 at hR HC1;generalize (decide (bf=bfz) && decide (bt=btz))=B2 at hR HC2;generalize (decide (ef=efz) && decide (et=etz))=B3 at hR HC3;generalize decide (cg=cgz)=B4 at hR HC4;generalize decide (st=stz)=B5 at hR HC5;generalize decide (hv=hvz)=B6 at hR HC6;have hgm:Tryz.prog.eqGuardType Tryz.prog.depth 23=false:=by kernel_rfl
 clear h1 h2 h3 h4 h5 h6 h7 h8 h9 h1z h2z h3z h4z h5z h6z h7z h8z h9z hb0 hX hY hw0;dsimp only [mv,mcell];have HRR:=hid hR;clear hR;go_enter Tryz.func12,Tryz.ntmps12
 go_upto_region 1 with fail
 rw [HW.out];have HBW:=hid (Below.refl w0.heap.size w0);have xs:=HX.out.cells;dsimp only at xs;have ys:=HY.out.cells;dsimp only at ys;by_cases qk:k=kz
 case neg=>
  have gk:(k != kz)=true:=bne_t qk;have HR:=hid (show R=false by rw [HRR.out];simp [qk]);clear HRR;go_wp2
  go_ret;rw [HR.out];exact ⟨rfl,bnext HB.out HBW.out⟩
 subst qk;have gk:(k != k)=false:=bne_f rfl;by_cases qfr:fr=frz
 case neg=>
  have gfr:(fr != frz)=true:=bne_t qfr;have HR:=hid (show R=false by rw [HRR.out];simp [qfr]);clear HRR;go_wp2
  go_ret;rw [HR.out];exact ⟨rfl,bnext HB.out HBW.out⟩
 subst qfr;have gfr:(fr != fr)=false:=bne_f rfl;by_cases qtx:tx=txz
 case neg=>
  have gtx:(tx != txz)=true:=bne_t qtx;have HR:=hid (show R=false by rw [HRR.out];simp [qtx]);clear HRR;go_wp2
  go_ret;rw [HR.out];exact ⟨rfl,bnext HB.out HBW.out⟩
 subst qtx;have gtx:(tx != tx)=false:=bne_f rfl;by_cases q4:p=pz/\n=nz
 case neg=>
  have hneq:∀ w0:World,(binOp .neq 23 (.agg #[.int .i64 p,.int .i64 n]) (.agg #[.int .i64 pz,.int .i64 nz])).run Tryz.prog w0 = .ok (.bool true) w0:=fun w0=>by rw [neq_acc,decide_eq_false q4];rfl
  have HR:=hid (show R=false by rw [HRR.out];simp [q4]);clear HRR;go_wp2
  go_ret;rw [HR.out];exact ⟨rfl,bnext HB.out HBW.out⟩
 have hneq:∀ w0:World,(binOp .neq 23 (.agg #[.int .i64 p,.int .i64 n]) (.agg #[.int .i64 pz,.int .i64 nz])).run Tryz.prog w0 = .ok (.bool false) w0:=fun w0=>by rw [neq_acc,decide_eq_true q4];rfl
 obtain ⟨rfl,rfl⟩:=q4;by_cases qr:r=rz
 case neg=>
  have gr:(r != rz)=true:=bne_t qr;have HR:=hid (show R=false by rw [HRR.out];simp [qr]);clear HRR;go_wp2
  go_ret;rw [HR.out];exact ⟨rfl,bnext HB.out HBW.out⟩
 subst qr;have gr:(r != r)=false:=bne_f rfl;by_cases qd:d=dz
 case neg=>
  have gd:(d != dz)=true:=bne_t qd;have HR:=hid (show R=false by rw [HRR.out];simp [qd]);clear HRR;go_wp2
  go_ret;rw [HR.out];exact ⟨rfl,bnext HB.out HBW.out⟩
 subst qd;have gd:(d != d)=false:=bne_f rfl;by_cases qhb:hb=hbz
 case neg=>
  cases hb
  ·cases hbz
   ·exact absurd rfl qhb
   ·have HR:=hid (show R=false by rw [HRR.out];simp);clear HRR;go_wp2
    go_ret;rw [HR.out];exact ⟨rfl,bnext HB.out HBW.out⟩
  ·cases hbz
   ·have HR:=hid (show R=false by rw [HRR.out];simp);clear HRR;go_wp2
    go_ret;rw [HR.out];exact ⟨rfl,bnext HB.out HBW.out⟩
   ·exact absurd rfl qhb
 subst qhb;have ghb:(hb != hb)=false:=by cases hb <;> rfl
 by_cases qmo:mo=moz
 case neg=>
  cases mo
  ·cases moz
   ·exact absurd rfl qmo
   ·have HR:=hid (show R=false by rw [HRR.out];simp);clear HRR;go_wp2
    go_ret;rw [HR.out];exact ⟨rfl,bnext HB.out HBW.out⟩
  ·cases moz
   ·have HR:=hid (show R=false by rw [HRR.out];simp);clear HRR;go_wp2
    go_ret;rw [HR.out];exact ⟨rfl,bnext HB.out HBW.out⟩
   ·exact absurd rfl qmo
 subst qmo;have gmo:(mo != mo)=false:=by cases mo <;> rfl
 go_wp2_with fail
 refine (HC1.out w0 HBW.out).mono ?_;rintro e w1 ⟨rfl,hb1⟩;clear xs;clear ys;replace HX:=hid (HX.out.below hb1);replace HY:=hid (HY.out.below hb1);replace HBW:=hid (bnext HBW.out hb1);clear hb1;have xs:=HX.out.cells;dsimp only at xs;have ys:=HY.out.cells;dsimp only at ys;rcases Bool.eq_false_or_eq_true B1 with rfl | rfl
 rotate_left
 ·have HR:=hid (show R=false by rw [HRR.out];simp);clear HRR;go_wp2
  go_ret;rw [HR.out];exact ⟨rfl,bnext HB.out HBW.out⟩
 go_wp2_with fail
 refine (HC2.out w1 HBW.out).mono ?_;rintro e w2 ⟨rfl,hb1⟩;clear xs;clear ys;replace HX:=hid (HX.out.below hb1);replace HY:=hid (HY.out.below hb1);replace HBW:=hid (bnext HBW.out hb1);clear hb1;have xs:=HX.out.cells;dsimp only at xs;have ys:=HY.out.cells;dsimp only at ys;rcases Bool.eq_false_or_eq_true B2 with rfl | rfl
 rotate_left
 ·have HR:=hid (show R=false by rw [HRR.out];simp);clear HRR;go_wp2
  go_ret;rw [HR.out];exact ⟨rfl,bnext HB.out HBW.out⟩
 go_wp2_with fail
 refine (HC3.out w2 HBW.out).mono ?_;rintro e w3 ⟨rfl,hb1⟩;clear xs;clear ys;replace HX:=hid (HX.out.below hb1);replace HY:=hid (HY.out.below hb1);replace HBW:=hid (bnext HBW.out hb1);clear hb1;have xs:=HX.out.cells;dsimp only at xs;have ys:=HY.out.cells;dsimp only at ys;rcases Bool.eq_false_or_eq_true B3 with rfl | rfl
 rotate_left
 ·have HR:=hid (show R=false by rw [HRR.out];simp);clear HRR;go_wp2
  go_ret;rw [HR.out];exact ⟨rfl,bnext HB.out HBW.out⟩
 go_wp2_with fail
 refine (HC4.out w3 HBW.out).mono ?_;rintro e w4 ⟨rfl,hb1⟩;clear xs;clear ys;replace HX:=hid (HX.out.below hb1);replace HY:=hid (HY.out.below hb1);replace HBW:=hid (bnext HBW.out hb1);clear hb1;have xs:=HX.out.cells;dsimp only at xs;have ys:=HY.out.cells;dsimp only at ys;rcases Bool.eq_false_or_eq_true B4 with rfl | rfl
 rotate_left
 ·have HR:=hid (show R=false by rw [HRR.out];simp);clear HRR;go_wp2
  go_ret;rw [HR.out];exact ⟨rfl,bnext HB.out HBW.out⟩
 go_wp2_with fail
 refine (HC5.out w4 HBW.out).mono ?_;rintro e w5 ⟨rfl,hb1⟩;clear xs;clear ys;replace HX:=hid (HX.out.below hb1);replace HY:=hid (HY.out.below hb1);replace HBW:=hid (bnext HBW.out hb1);clear hb1;have xs:=HX.out.cells;dsimp only at xs;have ys:=HY.out.cells;dsimp only at ys;rcases Bool.eq_false_or_eq_true B5 with rfl | rfl
 rotate_left
 ·have HR:=hid (show R=false by rw [HRR.out];simp);clear HRR;go_wp2
  go_ret;rw [HR.out];exact ⟨rfl,bnext HB.out HBW.out⟩
 go_wp2_with fail
 refine (HC6.out w5 HBW.out).mono ?_;rintro e w6 ⟨rfl,hb1⟩;clear xs;clear ys;replace HX:=hid (HX.out.below hb1);replace HY:=hid (HY.out.below hb1);replace HBW:=hid (bnext HBW.out hb1);clear hb1;have xs:=HX.out.cells;dsimp only at xs;have ys:=HY.out.cells;dsimp only at ys;rcases Bool.eq_false_or_eq_true B6 with rfl | rfl
 rotate_left
 ·have HR:=hid (show R=false by rw [HRR.out];simp);clear HRR;go_wp2
  go_ret;rw [HR.out];exact ⟨rfl,bnext HB.out HBW.out⟩
 have HR:=hid (show R=true by rw [HRR.out];simp);clear HRR;go_wp2
 go_ret;rw [HR.out];exact ⟨rfl,bnext HB.out HBW.out⟩
end
end Go.Proofs.YtahcehbgfhdbjaaGreatDoor

