/-
  NPn NChk NPe YFol: joined texts, what nothing names left out.
-/
import Derived.Test.YtahcehbgfhdbjaaGreatDoorQUA19
set_option maxHeartbeats 8000000
set_option maxRecDepth 100000
open Go.Lib (hid)
namespace Go.Proofs.YtahcehbgfhdbjaaGreatDoor
open Go.RowKit
open JM (St)
open NM (Ms)
open VM (Ent)
open WM (enc dec Bytes)
namespace NM
theorem rdF_0 (xs:List Int) (m:Ms) (s:St):rdF xs m 0 s=({ m with p:=(JM.step xs s).1,n:=(JM.step xs (JM.step xs s).2).1 },(JM.step xs (JM.step xs s).2).2):=by simp only [rdF,if_true]
theorem rdF_1 (xs:List Int) (m:Ms) (s:St):rdF xs m 1 s=({ m with r:=(JM.step xs s).1 },(JM.step xs s).2):=by simp only [rdF,Int.reduceEq,if_false,if_true]
theorem rdF_2 (xs:List Int) (m:Ms) (s:St):rdF xs m 2 s=({ m with d:=(JM.step xs s).1 },(JM.step xs s).2):=by simp only [rdF,Int.reduceEq,if_false,if_true]
theorem rdF_3 (xs:List Int) (m:Ms) (s:St):rdF xs m 3 s=({ m with cf:=(stp CM.decC cx0 xs s).1.1,ct:=(stp CM.decC cx0 xs s).1.2 },(stp CM.decC cx0 xs s).2):=by simp only [rdF,Int.reduceEq,if_false,if_true]
theorem rdF_4 (xs:List Int) (m:Ms) (s:St):rdF xs m 4 s=if m.hb=true then ({ m with bf:=(stp CM.decC cx0 xs s).1.1,bt:=(stp CM.decC cx0 xs s).1.2 },(stp CM.decC cx0 xs s).2) else (m,s):=by simp only [rdF,Int.reduceEq,if_false,if_true]
theorem rdF_5 (xs:List Int) (m:Ms) (s:St):rdF xs m 5 s=({ m with hb:=(stp bl false xs s).1 },(stp bl false xs s).2):=by simp only [rdF,Int.reduceEq,if_false,if_true]
theorem rdF_6 (xs:List Int) (m:Ms) (s:St):rdF xs m 6 s=({ m with ef:=(stp CM.decC cx0 xs s).1.1,et:=(stp CM.decC cx0 xs s).1.2 },(stp CM.decC cx0 xs s).2):=by simp only [rdF,Int.reduceEq,if_false,if_true]
theorem rdF_7 (xs:List Int) (m:Ms) (s:St):rdF xs m 7 s=({ m with cg:=(stp CM.decL [] xs s).1 },(stp CM.decL [] xs s).2):=by simp only [rdF,Int.reduceEq,if_false,if_true]
theorem rdF_8 (xs:List Int) (m:Ms) (s:St):rdF xs m 8 s=({ m with st:=(updR xs s).1 },(updR xs s).2):=by simp only [rdF,Int.reduceEq,if_false,if_true]
theorem rdF_9 (xs:List Int) (m:Ms) (s:St):rdF xs m 9 s=({ m with hv:=(vecR xs s).1 },(vecR xs s).2):=by simp only [rdF,Int.reduceEq,if_false,if_true]
theorem rdF_10 (xs:List Int) (m:Ms) (s:St):rdF xs m 10 s=({ m with mo:=(stp bl false xs s).1 },(stp bl false xs s).2):=by simp only [rdF,Int.reduceEq,if_false]
end NM
structure Two (g b:Nat) (w w':World):Prop where
 os:w'.os=w.os
 tape:w'.tape=w.tape
 output:w'.output=w.output
 size:w.heap.size<=w'.heap.size
 block:∀ k,k<w.heap.size->k≠g->k≠b->w'.heap[k]? = w.heap[k]?
theorem Two.refl (g b:Nat) (w:World):Two g b w w:=⟨rfl,rfl,rfl,Nat.le_refl _,fun _ _ _ _=>rfl⟩
theorem Two.of {g b:Nat} {w w1 w2:World} (h:Only g w w1) (k:Only b w1 w2):Two g b w w2:=
 ⟨k.os.trans h.os,k.tape.trans h.tape,k.output.trans h.output,Nat.le_trans h.size k.size,fun i hi h1 h2=>(k.block i (Nat.lt_of_lt_of_le hi h.size) h2).trans (h.block i hi h1)⟩
theorem Two.at {g b:Nat} {w w':World} (h:Two g b w w') {k:Nat} {o:Obj} (hk:w.heap[k]? = some o) (h1:k≠g) (h2:k≠b):w'.heap[k]? = some o:=by
 rw [h.block k (Array.getElem?_eq_some_iff.1 hk).1 h1 h2,hk]
theorem Two.below {g b B:Nat} {w w':World} (h:Two g b w w') (hg:B<=g) (hb:B<=b) (hB:B<=w.heap.size):Below B w w':=
 ⟨h.os,h.tape,h.output,h.size,fun k hk=>h.block k (by omega) (by omega) (by omega)⟩
theorem OwnG.two {α:Type} {enc:α->List Value} {e:TypeId} {size base:Nat} {w w':World} {v:Value} {ys:List α} {g b:Nat} (h:OwnG enc e size base w v ys) (ho:Two g b w w') (hg:g<base) (hb:b<base):OwnG enc e size base w' v ys:=by
 refine ⟨⟨h.1.1,?_⟩,h.2⟩;rcases h.1.2 with h6 | ⟨gg,cap,cur',hv,hgg,hh,r⟩
 ·exact .inl h6
 ·exact .inr ⟨gg,cap,cur',hv,hgg,ho.at hh (by omega) (by omega),r⟩
section
variable {w:World} {g:Nat} {m:Ms} {x:Mv}
theorem MB.setHb (h:MB w g m x) (b:Bool):MB (w.setCell ⟨g,11,none⟩ (.bool b)) g { m with hb:=b } x:=heap_setCell_same w g 11 _ _ _ h
theorem MB.setMo (h:MB w g m x) (b:Bool):MB (w.setCell ⟨g,17,none⟩ (.bool b)) g { m with mo:=b } x:=heap_setCell_same w g 17 _ _ _ h
theorem MB.setCg (h:MB w g m x) (cg:List CM.Fp) (a:Value):MB (w.setCell ⟨g,14,none⟩ a) g { m with cg:=cg } { x with cg:=a }:=heap_setCell_same w g 14 _ _ _ h
theorem MB.setSt (h:MB w g m x) (st:List SM.Fp) (a:Value):MB (w.setCell ⟨g,15,none⟩ a) g { m with st:=st } { x with st:=a }:=heap_setCell_same w g 15 _ _ _ h
theorem MB.setFrTo (h:MB w g m x) (fr tx:Int):MB ((w.setCell ⟨g,1,none⟩ (.int .i64 fr)).setCell ⟨g,2,none⟩ (.int .i64 tx)) g { m with fr:=fr,tx:=tx } x:=by
 have h1:(w.setCell ⟨g,1,none⟩ (.int .i64 fr)).heap[g]? = some (.cells (mcell { m with fr:=fr } x) 33 (0,0)):=heap_setCell_same w g 1 _ _ _ h;exact heap_setCell_same _ g 2 _ _ _ h1
end
theorem cRead (W:World) (g b base:Nat) (v:Value) (xs:List Int) (s:St) (m:Ms) (x:Mv) (f:Int) (w:World) (hT:Tb W) (hb:RdrB w g v s) (hm:MB w b m x) (ho:OwnMs base w x m) (h:Rd W v xs) (hW:Below W.heap.size W w)
  (hg:W.heap.size<=g) (hgb:b≠g) (hgB:g<base) (hbB:b<base) (hbw:base<=w.heap.size) (hu:s.1<=xs.length) (hf:0<=f/\f<=10) :
  Calls Tryz.prog 37 #[.pointer (some ⟨g,0,none⟩),.pointer (some ⟨b,0,none⟩),.int .i64 f] w fun e w'=>∃ x',e = .returned (.tuple #[])/\MB w' b (NM.rdF xs m f s).1 x'/\OwnMs base w' x' (NM.rdF xs m f s).1/\RdrB w' g v (NM.rdF xs m f s).2/\Two g b w w':=by
 have HM:=hid hm;have HO:=hid ho;have HNE:=hid hgb;have HGB:=hid hgB;have HBB:=hid hbB;have HBW:=hid hbw;have HRB:=hid hb;rcases fld_cases hf with e | e | e | e | e | e | e | e | e | e | e <;> subst e
 ·rw [NM.rdF_0];have hus:=(JM.step_small xs s h.bytes hu).2;have HC:=hid (rdNumber g v xs s w hb (h.below hW) hu);have HC2:=hid (fun w' (hr:RdrB w' g v (JM.step xs s).2) (q:Only g w w')=>rdNumber g v xs (JM.step xs s).2 w' hr (h.below (seen hW hg q)) hus);generalize JM.step xs s=d at HC HC2 ⊢;obtain ⟨y1,s1⟩:=d;dsimp only at HC HC2 ⊢;generalize JM.step xs s1=d at HC2 ⊢;obtain ⟨y2,s2⟩:=d;dsimp only at HC2 ⊢;clear hus hT hb hm ho h hW hg hgb hgB hbB hbw hu hf;go_enter Tryz.func37,Tryz.ntmps37
  go_wp2_with fail
  refine HC.out.mono ?_;rintro e w0 ⟨rfl,hr0,ho0⟩;have HO0:=hid ho0;have HC3:=hid (HC2.out w0 hr0 ho0);clear hr0 ho0 HC HC2;go_wp2_with fail
  refine HC3.out.mono ?_;rintro e w1 ⟨rfl,hr,ho2⟩;have ho1:=HO0.out.trans ho2;have hm1:=HM.out.only ho1 HNE.out;have hO1:=HO.out.only ho1 HGB.out;have hon:=onlyTwo (w:=w1) (g:=b) (i:=3) (j:=4) (.int .i64 y1) (.int .i64 y2);have HM2:=hid (hm1.setAcc y1 y2);have hO2:=hO1.only hon HBB.out;have HO2:=hid (show OwnMs base _ x { m with p:=y1,n:=y2 } from ⟨hO2.cf,hO2.ct,hO2.bf,hO2.bt,hO2.ef,hO2.et,hO2.cg,hO2.st,hO2.hv⟩);have HR2:=hid (hr.only hon (Ne.symm HNE.out));have HT2:=hid (Two.of ho1 hon);obtain ⟨x0,x1,x2,x3,x4,x5,x6,x7,x8,x9,x10,x11,x12,x13,x14,x15,x16,x17⟩:=hm1.cells;have f3:=hm1.free 3;have f4:=hm1.free 4;clear hm1 hO1 hon hO2 hr ho1 ho2 HC3 HO0 HO HM HRB HBW x0 x1 x2 x5 x6 x7 x8 x9 x10 x11 x12 x13 x14 x15 x16 x17;go_wp2
  go_end0
  exact ⟨_,rfl,HM2.out,HO2.out,HR2.out,HT2.out⟩
 ·rw [NM.rdF_1];have HC:=hid (rdNumber g v xs s w hb (h.below hW) hu);generalize JM.step xs s=d at HC ⊢;obtain ⟨y,s1⟩:=d;dsimp only at HC ⊢;clear hT hb hm ho h hW hg hgb hgB hbB hbw hu hf;go_enter Tryz.func37,Tryz.ntmps37
  go_wp2_with fail
  refine HC.out.mono ?_;rintro e w1 ⟨rfl,hr,ho1⟩;have hm1:=HM.out.only ho1 HNE.out;have hO1:=HO.out.only ho1 HGB.out;have hon:=Only.set (g:=b) (w:=w1) 5 (.int .i64 y);have HM2:=hid (hm1.setRnd y);have hO2:=hO1.only hon HBB.out;have HO2:=hid (show OwnMs base _ x { m with r:=y } from ⟨hO2.cf,hO2.ct,hO2.bf,hO2.bt,hO2.ef,hO2.et,hO2.cg,hO2.st,hO2.hv⟩);have HR2:=hid (hr.only hon (Ne.symm HNE.out));have HT2:=hid (Two.of ho1 hon);obtain ⟨x0,x1,x2,x3,x4,x5,x6,x7,x8,x9,x10,x11,x12,x13,x14,x15,x16,x17⟩:=hm1.cells;have f5:=hm1.free 5;clear hm1 hO1 hon hO2 hr ho1 HC HO HM HRB HBW  x0 x1 x2 x3 x4 x6 x7 x8 x9 x10 x11 x12 x13 x14 x15 x16 x17;go_wp2
  go_end0
  exact ⟨_,rfl,HM2.out,HO2.out,HR2.out,HT2.out⟩
 ·rw [NM.rdF_2];have HC:=hid (rdNumber g v xs s w hb (h.below hW) hu);generalize JM.step xs s=d at HC ⊢;obtain ⟨y,s1⟩:=d;dsimp only at HC ⊢;clear hT hb hm ho h hW hg hgb hgB hbB hbw hu hf;go_enter Tryz.func37,Tryz.ntmps37
  go_wp2_with fail
  refine HC.out.mono ?_;rintro e w1 ⟨rfl,hr,ho1⟩;have hm1:=HM.out.only ho1 HNE.out;have hO1:=HO.out.only ho1 HGB.out;have hon:=Only.set (g:=b) (w:=w1) 6 (.int .i64 y);have HM2:=hid (hm1.setMod y);have hO2:=hO1.only hon HBB.out;have HO2:=hid (show OwnMs base _ x { m with d:=y } from ⟨hO2.cf,hO2.ct,hO2.bf,hO2.bt,hO2.ef,hO2.et,hO2.cg,hO2.st,hO2.hv⟩);have HR2:=hid (hr.only hon (Ne.symm HNE.out));have HT2:=hid (Two.of ho1 hon);obtain ⟨x0,x1,x2,x3,x4,x5,x6,x7,x8,x9,x10,x11,x12,x13,x14,x15,x16,x17⟩:=hm1.cells;have f6:=hm1.free 6;clear hm1 hO1 hon hO2 hr ho1 HC HO HM HRB HBW  x0 x1 x2 x3 x4 x5 x7 x8 x9 x10 x11 x12 x13 x14 x15 x16 x17;go_wp2
  go_end0
  exact ⟨_,rfl,HM2.out,HO2.out,HR2.out,HT2.out⟩
 ·rw [NM.rdF_3];have HC:=hid (rdCert g v xs s w hb (h.below hW) hu);generalize NM.stp CM.decC NM.cx0 xs s=d at HC ⊢;obtain ⟨⟨y1,y2⟩,s1⟩:=d;dsimp only at HC ⊢;clear hT hb hm ho h hW hg hgb hgB hbB hbw hu hf;go_enter Tryz.func37,Tryz.ntmps37
  go_wp2_with fail
  refine HC.out.mono ?_;rintro e w1 ⟨a,c,rfl,ha,hc,hr,ho1⟩;obtain ⟨aa,ac,rfl,_,_⟩:=ha.shape;obtain ⟨ca,cc,rfl,_,_⟩:=hc.shape;have hm1:=HM.out.only ho1 HNE.out;have hO1:=HO.out.only ho1 HGB.out;have hon:=onlyTwo (w:=w1) (g:=b) (i:=7) (j:=8) (.slice aa y1.length ac) (.slice ca y2.length cc);have HM2:=hid (hm1.setCert y1 y2 (.slice aa y1.length ac) (.slice ca y2.length cc));have hO2:=hO1.only hon HBB.out;have HO2:=hid (show OwnMs base _ { x with cf:=.slice aa y1.length ac,ct:=.slice ca y2.length cc } { m with cf:=y1,ct:=y2 } from ⟨(ha.mono HBW.out).only hon HBB.out,(hc.mono HBW.out).only hon HBB.out,hO2.bf,hO2.bt,hO2.ef,hO2.et,hO2.cg,hO2.st,hO2.hv⟩);have HR2:=hid (hr.only hon (Ne.symm HNE.out));have HT2:=hid (Two.of ho1 hon);obtain ⟨x0,x1,x2,x3,x4,x5,x6,x7,x8,x9,x10,x11,x12,x13,x14,x15,x16,x17⟩:=hm1.cells;have f7:=hm1.free 7;have f8:=hm1.free 8;clear hm1 hO1 hon hO2 hr ho1 HC HO HM HRB HBW ha hc x0 x1 x2 x3 x4 x5 x6 x9 x10 x11 x12 x13 x14 x15 x16 x17;go_wp2
  go_end0
  exact ⟨_,rfl,HM2.out,HO2.out,HR2.out,HT2.out⟩
 ·rw [NM.rdF_4];by_cases hhb:m.hb=true
  ·rw [if_pos hhb];have HC:=hid (rdCert g v xs s w hb (h.below hW) hu);generalize NM.stp CM.decC NM.cx0 xs s=d at HC ⊢;obtain ⟨⟨y1,y2⟩,s1⟩:=d;dsimp only at HC ⊢;clear hT hb hm ho h hW hg hgb hgB hbB hbw hu hf;go_enter Tryz.func37,Tryz.ntmps37
   obtain ⟨y20,y21,y22,y23,y24,y25,y26,y27,y28,y29,y30,y31,y32,y33,y34,y35,y36,y37⟩:=HM.out.cells;rw [hhb] at y31;have f11:=HM.out.free 11;clear y20 y21 y22 y23 y24 y25 y26 y27 y28 y29 y30 y32 y33 y34 y35 y36 y37;go_wp2_with fail
   refine HC.out.mono ?_;rintro e w1 ⟨a,c,rfl,ha,hc,hr,ho1⟩;obtain ⟨aa,ac,rfl,_,_⟩:=ha.shape;obtain ⟨ca,cc,rfl,_,_⟩:=hc.shape;have hm1:=HM.out.only ho1 HNE.out;have hO1:=HO.out.only ho1 HGB.out;have hon:=onlyTwo (w:=w1) (g:=b) (i:=9) (j:=10) (.slice aa y1.length ac) (.slice ca y2.length cc);have HM2:=hid (hm1.setBase y1 y2 (.slice aa y1.length ac) (.slice ca y2.length cc));have hO2:=hO1.only hon HBB.out;have HO2:=hid (show OwnMs base _ { x with bf:=.slice aa y1.length ac,bt:=.slice ca y2.length cc } { m with bf:=y1,bt:=y2 } from ⟨hO2.cf,hO2.ct,(ha.mono HBW.out).only hon HBB.out,(hc.mono HBW.out).only hon HBB.out,hO2.ef,hO2.et,hO2.cg,hO2.st,hO2.hv⟩);have HR2:=hid (hr.only hon (Ne.symm HNE.out));have HT2:=hid (Two.of ho1 hon);obtain ⟨x0,x1,x2,x3,x4,x5,x6,x7,x8,x9,x10,x11,x12,x13,x14,x15,x16,x17⟩:=hm1.cells;have f9:=hm1.free 9;have f10:=hm1.free 10;clear y31 f11 hhb hm1 hO1 hon hO2 hr ho1 HC HO HM HRB HBW ha hc x0 x1 x2 x3 x4 x5 x6 x7 x8 x11 x12 x13 x14 x15 x16 x17;go_wp2
   go_end0
   exact ⟨_,rfl,HM2.out,HO2.out,HR2.out,HT2.out⟩
  ·rw [if_neg hhb];have hhb2:m.hb=false:=by cases hq:m.hb with | true=>exact absurd hq hhb | false=>rfl
   clear hT hb hm ho h hW hg hgb hgB hbB hbw hu hf hhb;go_enter Tryz.func37,Tryz.ntmps37
   obtain ⟨x0,x1,x2,x3,x4,x5,x6,x7,x8,x9,x10,x11,x12,x13,x14,x15,x16,x17⟩:=HM.out.cells;rw [hhb2] at x11;have f11:=HM.out.free 11;clear x0 x1 x2 x3 x4 x5 x6 x7 x8 x9 x10 x12 x13 x14 x15 x16 x17;go_wp2
   go_end0
   exact ⟨_,rfl,HM.out,HO.out,HRB.out,Two.refl _ _ _⟩
 ·rw [NM.rdF_5];have HC:=hid (rdFlag g v xs s w hb (h.below hW) hu);generalize NM.stp NM.bl false xs s=d at HC ⊢;obtain ⟨y,s1⟩:=d;dsimp only at HC ⊢;clear hT hb hm ho h hW hg hgb hgB hbB hbw hu hf;go_enter Tryz.func37,Tryz.ntmps37
  go_wp2_with fail
  refine HC.out.mono ?_;rintro e w1 ⟨rfl,hr,ho1⟩;have hm1:=HM.out.only ho1 HNE.out;have hO1:=HO.out.only ho1 HGB.out;have hon:=Only.set (g:=b) (w:=w1) 11 (.bool y);have HM2:=hid (hm1.setHb y);have hO2:=hO1.only hon HBB.out;have HO2:=hid (show OwnMs base _ x { m with hb:=y } from ⟨hO2.cf,hO2.ct,hO2.bf,hO2.bt,hO2.ef,hO2.et,hO2.cg,hO2.st,hO2.hv⟩);have HR2:=hid (hr.only hon (Ne.symm HNE.out));have HT2:=hid (Two.of ho1 hon);obtain ⟨x0,x1,x2,x3,x4,x5,x6,x7,x8,x9,x10,x11,x12,x13,x14,x15,x16,x17⟩:=hm1.cells;have f11:=hm1.free 11;clear hm1 hO1 hon hO2 hr ho1 HC HO HM HRB HBW  x0 x1 x2 x3 x4 x5 x6 x7 x8 x9 x10 x12 x13 x14 x15 x16 x17;go_wp2
  go_end0
  exact ⟨_,rfl,HM2.out,HO2.out,HR2.out,HT2.out⟩
 ·rw [NM.rdF_6];have HC:=hid (rdCert g v xs s w hb (h.below hW) hu);generalize NM.stp CM.decC NM.cx0 xs s=d at HC ⊢;obtain ⟨⟨y1,y2⟩,s1⟩:=d;dsimp only at HC ⊢;clear hT hb hm ho h hW hg hgb hgB hbB hbw hu hf;go_enter Tryz.func37,Tryz.ntmps37
  go_wp2_with fail
  refine HC.out.mono ?_;rintro e w1 ⟨a,c,rfl,ha,hc,hr,ho1⟩;obtain ⟨aa,ac,rfl,_,_⟩:=ha.shape;obtain ⟨ca,cc,rfl,_,_⟩:=hc.shape;have hm1:=HM.out.only ho1 HNE.out;have hO1:=HO.out.only ho1 HGB.out;have hon:=onlyTwo (w:=w1) (g:=b) (i:=12) (j:=13) (.slice aa y1.length ac) (.slice ca y2.length cc);have HM2:=hid (hm1.setEst y1 y2 (.slice aa y1.length ac) (.slice ca y2.length cc));have hO2:=hO1.only hon HBB.out;have HO2:=hid (show OwnMs base _ { x with ef:=.slice aa y1.length ac,et:=.slice ca y2.length cc } { m with ef:=y1,et:=y2 } from ⟨hO2.cf,hO2.ct,hO2.bf,hO2.bt,(ha.mono HBW.out).only hon HBB.out,(hc.mono HBW.out).only hon HBB.out,hO2.cg,hO2.st,hO2.hv⟩);have HR2:=hid (hr.only hon (Ne.symm HNE.out));have HT2:=hid (Two.of ho1 hon);obtain ⟨x0,x1,x2,x3,x4,x5,x6,x7,x8,x9,x10,x11,x12,x13,x14,x15,x16,x17⟩:=hm1.cells;have f12:=hm1.free 12;have f13:=hm1.free 13;clear hm1 hO1 hon hO2 hr ho1 HC HO HM HRB HBW ha hc x0 x1 x2 x3 x4 x5 x6 x7 x8 x9 x10 x11 x14 x15 x16 x17;go_wp2
  go_end0
  exact ⟨_,rfl,HM2.out,HO2.out,HR2.out,HT2.out⟩
 ·rw [NM.rdF_7];have HC:=hid (rdConf g v xs s w hb (h.below hW) hu);generalize NM.stp CM.decL [] xs s=d at HC ⊢;obtain ⟨y1,s1⟩:=d;dsimp only at HC ⊢;clear hT hb hm ho h hW hg hgb hgB hbB hbw hu hf;go_enter Tryz.func37,Tryz.ntmps37
  go_wp2_with fail
  refine HC.out.mono ?_;rintro e w1 ⟨a,rfl,ha,hr,ho1⟩;obtain ⟨aa,ac,rfl,_,_⟩:=ha.rd.shape;have hm1:=HM.out.only ho1 HNE.out;have hO1:=HO.out.only ho1 HGB.out;have hon:=Only.set (g:=b) (w:=w1) 14 (.slice aa y1.length ac);have HM2:=hid (hm1.setCg y1 (.slice aa y1.length ac));have hO2:=hO1.only hon HBB.out;have HO2:=hid (show OwnMs base _ { x with cg:=.slice aa y1.length ac } { m with cg:=y1 } from ⟨hO2.cf,hO2.ct,hO2.bf,hO2.bt,hO2.ef,hO2.et,(ha.mono HBW.out).only hon HBB.out,hO2.st,hO2.hv⟩);have HR2:=hid (hr.only hon (Ne.symm HNE.out));have HT2:=hid (Two.of ho1 hon);obtain ⟨x0,x1,x2,x3,x4,x5,x6,x7,x8,x9,x10,x11,x12,x13,x14,x15,x16,x17⟩:=hm1.cells;have f14:=hm1.free 14;clear hm1 hO1 hon hO2 hr ho1 HC HO HM HRB HBW ha x0 x1 x2 x3 x4 x5 x6 x7 x8 x9 x10 x11 x12 x13 x15 x16 x17;go_wp2
  go_end0
  exact ⟨_,rfl,HM2.out,HO2.out,HR2.out,HT2.out⟩
 ·rw [NM.rdF_8];have HC:=hid (rdUpds W g v xs s w hT hb h hW hg hu);generalize NM.updR xs s=d at HC ⊢;obtain ⟨y1,s1⟩:=d;dsimp only at HC ⊢;clear hT hb hm ho h hW hg hgb hgB hbB hbw hu hf;go_enter Tryz.func37,Tryz.ntmps37
  go_wp2_with fail
  refine HC.out.mono ?_;rintro e w1 ⟨a,rfl,ha,hr,ho1⟩;obtain ⟨aa,ac,rfl,_,_⟩:=ha.rd.shape;have hm1:=HM.out.only ho1 HNE.out;have hO1:=HO.out.only ho1 HGB.out;have hon:=Only.set (g:=b) (w:=w1) 15 (.slice aa y1.length ac);have HM2:=hid (hm1.setSt y1 (.slice aa y1.length ac));have hO2:=hO1.only hon HBB.out;have HO2:=hid (show OwnMs base _ { x with st:=.slice aa y1.length ac } { m with st:=y1 } from ⟨hO2.cf,hO2.ct,hO2.bf,hO2.bt,hO2.ef,hO2.et,hO2.cg,ST.OwnR.only (ST.OwnR.mono ha HBW.out) hon HBB.out,hO2.hv⟩);have HR2:=hid (hr.only hon (Ne.symm HNE.out));have HT2:=hid (Two.of ho1 hon);obtain ⟨x0,x1,x2,x3,x4,x5,x6,x7,x8,x9,x10,x11,x12,x13,x14,x15,x16,x17⟩:=hm1.cells;have f15:=hm1.free 15;clear hm1 hO1 hon hO2 hr ho1 HC HO HM HRB HBW ha x0 x1 x2 x3 x4 x5 x6 x7 x8 x9 x10 x11 x12 x13 x14 x16 x17;go_wp2
  go_end0
  exact ⟨_,rfl,HM2.out,HO2.out,HR2.out,HT2.out⟩
 ·rw [NM.rdF_9];have HC:=hid (rdVec W g v xs s w hb h hW hg hu);generalize NM.vecR xs s=d at HC ⊢;obtain ⟨y1,s1⟩:=d;dsimp only at HC ⊢;clear hT hb hm ho h hW hg hgb hgB hbB hbw hu hf;go_enter Tryz.func37,Tryz.ntmps37
  go_wp2_with fail
  refine HC.out.mono ?_;rintro e w1 ⟨a,rfl,ha,hr,ho1⟩;obtain ⟨aa,ac,rfl,_,_⟩:=ha.rd.shape;have hm1:=HM.out.only ho1 HNE.out;have hO1:=HO.out.only ho1 HGB.out;have hon:=Only.set (g:=b) (w:=w1) 16 (.slice aa y1.length ac);have HM2:=hid (hm1.setHv y1 (.slice aa y1.length ac));have hO2:=hO1.only hon HBB.out;have HO2:=hid (show OwnMs base _ { x with hv:=.slice aa y1.length ac } { m with hv:=y1 } from ⟨hO2.cf,hO2.ct,hO2.bf,hO2.bt,hO2.ef,hO2.et,hO2.cg,hO2.st,VX.OwnV.only (ownV_of (ha.mono HBW.out)) hon HBB.out⟩);have HR2:=hid (hr.only hon (Ne.symm HNE.out));have HT2:=hid (Two.of ho1 hon);obtain ⟨x0,x1,x2,x3,x4,x5,x6,x7,x8,x9,x10,x11,x12,x13,x14,x15,x16,x17⟩:=hm1.cells;have f16:=hm1.free 16;clear hm1 hO1 hon hO2 hr ho1 HC HO HM HRB HBW ha x0 x1 x2 x3 x4 x5 x6 x7 x8 x9 x10 x11 x12 x13 x14 x15 x17;go_wp2
  go_end0
  exact ⟨_,rfl,HM2.out,HO2.out,HR2.out,HT2.out⟩
 ·rw [NM.rdF_10];have HC:=hid (rdFlag g v xs s w hb (h.below hW) hu);generalize NM.stp NM.bl false xs s=d at HC ⊢;obtain ⟨y,s1⟩:=d;dsimp only at HC ⊢;clear hT hb hm ho h hW hg hgb hgB hbB hbw hu hf;go_enter Tryz.func37,Tryz.ntmps37
  go_wp2_with fail
  refine HC.out.mono ?_;rintro e w1 ⟨rfl,hr,ho1⟩;have hm1:=HM.out.only ho1 HNE.out;have hO1:=HO.out.only ho1 HGB.out;have hon:=Only.set (g:=b) (w:=w1) 17 (.bool y);have HM2:=hid (hm1.setMo y);have hO2:=hO1.only hon HBB.out;have HO2:=hid (show OwnMs base _ x { m with mo:=y } from ⟨hO2.cf,hO2.ct,hO2.bf,hO2.bt,hO2.ef,hO2.et,hO2.cg,hO2.st,hO2.hv⟩);have HR2:=hid (hr.only hon (Ne.symm HNE.out));have HT2:=hid (Two.of ho1 hon);obtain ⟨x0,x1,x2,x3,x4,x5,x6,x7,x8,x9,x10,x11,x12,x13,x14,x15,x16,x17⟩:=hm1.cells;have f17:=hm1.free 17;clear hm1 hO1 hon hO2 hr ho1 HC HO HM HRB HBW  x0 x1 x2 x3 x4 x5 x6 x7 x8 x9 x10 x11 x12 x13 x14 x15 x16;go_wp2
  go_end0
  exact ⟨_,rfl,HM2.out,HO2.out,HR2.out,HT2.out⟩
end Go.Proofs.YtahcehbgfhdbjaaGreatDoor
namespace Go.Proofs.YtahcehbgfhdbjaaGreatDoor.ST
open Go.RowKit Go.Joins
open UM (Ef)
open SM (Fp)
theorem chR_step (pr:Int×Int) (f:Fp) (l:List Fp):NM.chR pr (f :: l)=if UM.errU f.1 f.2.1 f.2.2.1 f.2.2.2≠0 then UM.errU f.1 f.2.1 f.2.2.1 f.2.2.2 else if 0<=UM.cmpU pr.1 pr.2 f.1 f.2.1 then 7 else NM.chR (f.1,f.2.1) l:=rfl
theorem rChunk (v:Value) (fs:List Fp) (w:World) (h:RdF w v fs) :
  Calls Tryz.prog 28 #[v] w fun e w'=>e = .returned (.int .i64 (NM.chk fs))/\Below w.heap.size w w':=by
 obtain ⟨ad,c,rfl,hc,hl⟩:=h.shape;obtain ⟨R,hR⟩:∃ R,R=NM.chk fs:=⟨_,rfl⟩
 rw [<- hR];unfold NM.chk at hR;by_cases h4:4<fs.length
 ·have hq4:(4:Int)<(fs.length:Int):=by omega
  have HR:=hid (hR.trans (if_pos h4));clear h hR h4;go_enter Tryz.func28,Tryz.ntmps28
  go_wp2
  go_ret;rw [HR.out];exact ⟨rfl,Below.refl _ _⟩
 have hq4:¬ (4:Int)<(fs.length:Int):=by omega
 have H:=hid h;have HR:=hid (hR.trans (if_neg h4));clear h hR h4;go_enter Tryz.func28,Tryz.ntmps28
 go_wp2
 go_loopw [3] (fun i wr=>∃ (k:Nat),k<=fs.length/\i = .int .i64 k/\Below w.heap.size w wr/\Hid (R=NM.chR (pre fs k) (fs.drop k))) (fun i _=>fs.length - (intOf i).toNat)
 case atStart=>exact ⟨0,Nat.zero_le _,rfl,Below.refl _ _,HR.out⟩
 case round=>
  obtain ⟨k,hk,rfl,hbl,he⟩:=hrel;clear HR;by_cases hlt:k<fs.length
  ·have hq:(k:Int)<(fs.length:Int):=by omega
   have hd:=hid (drop_get hlt);have hk2:=List.getElem?_eq_getElem hlt;have hp:=hid (pre_succ hk2);generalize fs[k]=f at hd hk2 hp;obtain ⟨x,m,t,cs⟩:=f;obtain ⟨b,o,da,dl,dc,hi,hb,c0,c1,c2,c3,hrd⟩:=(H.out.below hbl).at_ k x m t cs hk2;have e1:=hid (he.out.trans ((congrArg (NM.chR (pre fs k)) hd.out).trans (chR_step _ _ _)));have e2:Hid (R=if UM.errU x m t cs≠0 then UM.errU x m t cs else if 0<=UM.cmpU (pre fs k).1 (pre fs k).2 x m then 7 else NM.chR (x,m) (fs.drop (k+1))):=e1.out;have hp':Hid (pre fs (k+1)=(x,m)):=hp.out;have HN:=hid (fun h=>SM.errF_num (f:=(x,m,t,cs)) h);have HV:=hid (rValU x m t (.slice da dl dc) cs _ hrd);clear hk2 he hd e1 hp hrd;by_cases hE:UM.errU x m t cs=0
   ·obtain ⟨n1,n2,n3,n4⟩:=HN.out hE;simp only at n1 n2 n3 n4;rw [hE] at HV;have e3:=hid (e2.out.trans (if_neg (by rw [hE];simp)));clear e2 hE HN;go_wp2_with fail
    refine HV.out.mono ?_;rintro e w1 ⟨rfl,hb1⟩;have d0:=below_cell hb1 c0;have d1:=below_cell hb1 c1;have d2:=below_cell hb1 c2;have d3:=below_cell hb1 c3;have HB1:=hid (bnext hbl hb1);clear c0 c1 c2 c3 HV hb1 hbl;by_cases h0:k=0
    ·subst h0;have hq0:(0:Int)<(fs.length:Int):=hq;have e4:=hid (e3.out.trans (if_neg (by show ¬ 0<=UM.cmpU 0 0 x m;unfold UM.cmpU;rw [if_pos (by omega)];decide)));clear e3 hi hq;go_wp2
     go_quiet (fail)
     go_wp2
     go_roundw
     case rel=>exact ⟨0+1,by omega,by go_num,HB1.out.trans (below_drewN _ _ _),by rw [hp'.out];exact e4⟩
     case measure=>simp [intOf];omega
    ·have hk1:(0:Int)<(k:Int):=by omega
     have hk2:0<k:=by omega
     have hkl:k - 1<fs.length:=by omega
     have hg2:=List.getElem?_eq_getElem hkl;have hpk:pre fs k=(fs[k - 1].1,fs[k - 1].2.1):=by simp [pre,h0,List.getD,List.getElem?_eq_getElem hkl]
     generalize fs[k - 1]=g at hg2 hpk;obtain ⟨y,n,u,ds⟩:=g;simp only at hpk;rw [hpk] at e3;obtain ⟨b2,o2,ea,el,ec,hi2,hb2,f0,f1,f2,f3,hrd2⟩:=(H.out.below HB1.out).at_ (k - 1) y n u ds hg2;rw [show ((k - 1:Nat):Int)=(k:Int) - 1 by omega] at hi2;have hC:=fun p:Later w1=>rCompareL y n u ea el ec x m t da dl dc p
     simp only at e3;clear hg2 hpk hrd2;have k0:∀ p:Later w1,p.val.cell? ⟨b,o,none⟩=some (.int .i64 x):=fun p=>below_cell p.h d0
     have k1:∀ p:Later w1,p.val.cell? ⟨b,o+1,none⟩=some (.int .i64 m):=fun p=>below_cell p.h d1
     have k2:∀ p:Later w1,p.val.cell? ⟨b,o+2,none⟩=some (.int .i64 t):=fun p=>below_cell p.h d2
     have k3:∀ p:Later w1,p.val.cell? ⟨b,o+3,none⟩=some (.slice da dl dc):=fun p=>below_cell p.h d3
     have j0:∀ p:Later w1,p.val.cell? ⟨b2,o2,none⟩=some (.int .i64 y):=fun p=>below_cell p.h f0
     have j1:∀ p:Later w1,p.val.cell? ⟨b2,o2+1,none⟩=some (.int .i64 n):=fun p=>below_cell p.h f1
     have j2:∀ p:Later w1,p.val.cell? ⟨b2,o2+2,none⟩=some (.int .i64 u):=fun p=>below_cell p.h f2
     have j3:∀ p:Later w1,p.val.cell? ⟨b2,o2+3,none⟩=some (.slice ea el ec):=fun p=>below_cell p.h f3
     generalize UM.cmpU y n x m=C at hC e3;have HC:=hid hC;by_cases hcl:0<=C
     ·have e4:=hid (e3.out.trans (if_pos hcl));clear e3 hC d0 d1 d2 d3 f0 f1 f2 f3;go_wp2
      refine wp_region_later (by kernel_rfl) (by kernel_rfl) ?_;repeat (go_big_quiet_step (first | (go_at_call 75;with_reducible exact HC.out _)))
      refine wpQuiet_nil ?_;rintro _ ⟨p,rfl⟩;have HB2:=hid (bnext HB1.out p.h);generalize p.val=w2 at HB2 ⊢;go_wp2
      go_ret;rw [e4.out];exact ⟨rfl,HB2.out⟩
     ·have e4:=hid (e3.out.trans (if_neg hcl));clear e3 hC;go_wp2
      refine wp_region_later (by kernel_rfl) (by kernel_rfl) ?_;repeat (go_big_quiet_step (first | (go_at_call 75;with_reducible exact HC.out _)))
      refine wpQuiet_nil ?_;rintro _ ⟨p,rfl⟩;have HB2:=hid (bnext HB1.out p.h);generalize p.val=w2 at HB2 ⊢;clear k0 k1 k2 k3 j0 j1 j2 j3 HC;go_wp2
      go_roundw
      case rel=>exact ⟨k+1,by omega,by go_num,HB2.out,by rw [hp'.out];exact e4⟩
      case measure=>simp [intOf];omega
   ·have hne:(UM.errU x m t cs != 0)=true:=bne_t hE;have e3:=hid (e2.out.trans (if_pos hE));generalize UM.errU x m t cs=E at HV hne e3;clear e2 hE HN;go_wp2_with fail
    refine HV.out.mono ?_;rintro e w1 ⟨rfl,hb1⟩;have HB1:=hid (bnext hbl hb1);clear c0 c1 c2 c3 HV hb1 hbl;go_wp2
    go_ret;rw [e3.out];exact ⟨rfl,HB1.out⟩
  ·have hq:¬ ((k:Int)<(fs.length:Int)):=by omega
   have e2:=hid (show R=0 by rw [he.out,List.drop_of_length_le (by omega)];rfl);clear he;go_wp2
   go_ret;rw [e2.out];exact ⟨rfl,hbl⟩
end Go.Proofs.YtahcehbgfhdbjaaGreatDoor.ST
namespace Go.Proofs.YtahcehbgfhdbjaaGreatDoor.ST
open Go.RowKit Go.Joins
open UM (Ef)
open SM (Fp)
theorem cmp_swap (x m y n:Int):UM.cmpU x m y n<=0 ↔ 0<=UM.cmpU y n x m:=by
 unfold UM.cmpU;(repeat' split) <;> omega
theorem uCompareL {w:World} (x m t:Int) (ua:Option Addr) (ul uc:Nat) (y n u:Int) (va:Option Addr) (vl vc:Nat) (p:Later w) :
  Calls Tryz.prog 123 #[uv x m t (.slice ua ul uc),uv y n u (.slice va vl vc)] p.val fun e w''=>e = .returned (.int .i64 (UM.cmpU x m y n)) /\ ∃ q:Later w,w''=q.val:=
 Calls.later (uCompare x m t _ y n u _ p.val ⟨_,_,_,rfl⟩ ⟨_,_,_,rfl⟩)
theorem cValChunk (v:Value) (fs:List Fp) (w:World) (hT:Tb w) (hfit:FitN fs) (h:RdF w v fs) :
  Calls Tryz.prog 116 #[v] w fun e w'=>e = .returned (.int .i64 (NM.chk fs))/\Below w.heap.size w w':=by
 obtain ⟨ad,c,rfl,hc,hl⟩:=h.shape;obtain ⟨R,hR⟩:∃ R,R=NM.chk fs:=⟨_,rfl⟩
 rw [<- hR];unfold NM.chk at hR;by_cases h4:4<fs.length
 ·have hq4:(4:Int)<(fs.length:Int):=by omega
  have HR:=hid (hR.trans (if_pos h4));clear h hR h4;go_enter Tryz.func116,Tryz.ntmps116
  go_wp2
  go_ret;rw [HR.out];exact ⟨rfl,Below.refl _ _⟩
 have hq4:¬ (4:Int)<(fs.length:Int):=by omega
 have hl9:fs.length<=1000000:=by omega
 have H:=hid h;have HT:=hid hT;have HF:=hid hfit;have HR:=hid (hR.trans (if_neg h4));clear h hR h4 hT hfit;go_enter Tryz.func116,Tryz.ntmps116
 go_wp2
 go_loopw [11] (fun i wr=>∃ (k:Nat),k<=fs.length/\i = .int .i64 k/\Hid (Below w.heap.size w wr)/\Hid (R=NM.chR (pre fs k) (fs.drop k))) (fun i _=>fs.length - (intOf i).toNat)
 case atStart=>exact ⟨0,Nat.zero_le _,rfl,Below.refl _ _,HR.out⟩
 case round=>
  obtain ⟨k,hk,rfl,hbl,he⟩:=hrel;clear HR;by_cases hlt:k<fs.length
  ·have hq:(k:Int)<(fs.length:Int):=by omega
   have hd:=hid (drop_get hlt);have hk2:=List.getElem?_eq_getElem hlt;have hp:=hid (pre_succ hk2);have hmem:=List.mem_of_getElem? hk2;have hfe:=HF.out _ hmem;clear hmem;generalize fs[k]=f at hd hk2 hp hfe;obtain ⟨x,m,t,cs⟩:=f;obtain ⟨b,o,da,dl,dc,hi,hb,c0,c1,c2,c3,hrd⟩:=(H.out.below hbl.out).atS k x m t cs hk2;have e1:=hid (he.out.trans ((congrArg (NM.chR (pre fs k)) hd.out).trans (chR_step _ _ _)));have e2:Hid (R=if UM.errU x m t cs≠0 then UM.errU x m t cs else if 0<=UM.cmpU (pre fs k).1 (pre fs k).2 x m then 7 else NM.chR (x,m) (fs.drop (k+1))):=e1.out;have hp':Hid (pre fs (k+1)=(x,m)):=hp.out;have HN:=hid (fun h=>SM.errF_num (f:=(x,m,t,cs)) h);have hbx:=below_fresh wr (.cells #[.int .i64 x,.int .i64 m,.int .i64 t,.slice da dl dc] 96);have hox:=heap_alloc_new wr (.cells #[.int .i64 x,.int .i64 m,.int .i64 t,.slice da dl dc] 96);obtain ⟨wx,hwx⟩:∃ z,wr.alloc (.cells #[.int .i64 x,.int .i64 m,.int .i64 t,.slice da dl dc] 96)=z:=⟨_,rfl⟩
   rw [hwx] at hbx hox;obtain ⟨G,hG⟩:∃ G,G=wr.heap.size:=⟨_,rfl⟩
   rw [<- hG] at hox;have HGG:=hid hG;have HWX:=hid hwx;have HBX:=hid (bnext hbl.out hbx);have HOX:=hid hox;have HV:=hid (cVal x m t (.slice da dl dc) cs wx (tbz HT.out HBX.out) (hrd.below hbx) hfe);clear hk2 he hd e1 hp hrd hfe hwx hox hbx hG;have hcell:∀ w':World,Below wx.heap.size wx w'->w'.cell? ⟨G,0,none⟩=some (.int .i64 x)/\w'.cell? ⟨G,1,none⟩=some (.int .i64 m)/\w'.cell? ⟨G,2,none⟩=some (.int .i64 t)/\w'.cell? ⟨G,3,none⟩=some (.slice da dl dc):=by
    intro w' hw';have:=below_block HOX.out hw';refine ⟨?_,?_,?_,?_⟩ <;> simp [World.cell?,this]
   have HCE:=hid hcell;clear hcell;by_cases hE:UM.errU x m t cs=0
   ·obtain ⟨n1,n2,n3,n4⟩:=HN.out hE;simp only at n1 n2 n3 n4;rw [hE] at HV;have e3:=hid (e2.out.trans (if_neg (by rw [hE];simp)));clear e2 hE HN;go_upto_region 6 with fail
    rw [HWX.out,<- HGG.out];clear c0 c1 c2 c3;obtain ⟨q0,q1,q2,q3⟩:=HCE.out wx (Below.refl _ _);go_wp2_with fail
    refine HV.out.mono ?_;rintro e w1 ⟨rfl,hb1⟩;clear q0 q1 q2 q3;obtain ⟨q0,q1,q2,q3⟩:=HCE.out w1 hb1;have HB1:=hid (bnext HBX.out hb1);have HBW:=hid hb1;clear HV hb1;by_cases h0:k=0
    ·subst h0;have hq0:(0:Int)<(fs.length:Int):=hq;have e4:=hid (e3.out.trans (if_neg (by show ¬ 0<=UM.cmpU 0 0 x m;unfold UM.cmpU;rw [if_pos (by omega)];decide)));clear e3 hi hq;go_wp2
     go_quiet (fail)
     go_wp2
     go_roundw
     case rel=>exact ⟨0+1,by omega,by go_num,hid (HB1.out.trans (below_drewN _ _ _)),by rw [hp'.out];exact e4⟩
     case measure=>simp [intOf];omega
    ·have hk1:(0:Int)<(k:Int):=by omega
     have hk2:0<k:=by omega
     have hkl:k - 1<fs.length:=by omega
     have hg2:=List.getElem?_eq_getElem hkl;have hpk:pre fs k=(fs[k - 1].1,fs[k - 1].2.1):=by simp [pre,h0,List.getD,List.getElem?_eq_getElem hkl]
     generalize fs[k - 1]=g at hg2 hpk;obtain ⟨y,n,u,ds⟩:=g;simp only at hpk;rw [hpk] at e3;obtain ⟨b2,o2,ea,el,ec,hi2,hb2,f0,f1,f2,f3,hrd2⟩:=(H.out.below HB1.out).atS (k - 1) y n u ds hg2;rw [show ((k - 1:Nat):Int)=(k:Int) - 1 by omega] at hi2;have hC:=fun p:Later w1=>uCompareL x m t da dl dc y n u ea el ec p
     simp only at e3;clear hg2 hpk hrd2;have k0:∀ p:Later w1,p.val.cell? ⟨G,0,none⟩=some (.int .i64 x):=fun p=>below_cell p.h q0
     have k1:∀ p:Later w1,p.val.cell? ⟨G,1,none⟩=some (.int .i64 m):=fun p=>below_cell p.h q1
     have k2:∀ p:Later w1,p.val.cell? ⟨G,2,none⟩=some (.int .i64 t):=fun p=>below_cell p.h q2
     have k3:∀ p:Later w1,p.val.cell? ⟨G,3,none⟩=some (.slice da dl dc):=fun p=>below_cell p.h q3
     have j0:∀ p:Later w1,p.val.cell? ⟨b2,o2,none⟩=some (.int .i64 y):=fun p=>below_cell p.h f0
     have j1:∀ p:Later w1,p.val.cell? ⟨b2,o2+1,none⟩=some (.int .i64 n):=fun p=>below_cell p.h f1
     have j2:∀ p:Later w1,p.val.cell? ⟨b2,o2+2,none⟩=some (.int .i64 u):=fun p=>below_cell p.h f2
     have j3:∀ p:Later w1,p.val.cell? ⟨b2,o2+3,none⟩=some (.slice ea el ec):=fun p=>below_cell p.h f3
     have hsw:=cmp_swap x m y n;generalize UM.cmpU x m y n=C at hC hsw;have HC:=hid hC;by_cases hcl:C<=0
     ·have e4:=hid (e3.out.trans (if_pos (hsw.1 hcl)));clear e3 hC hsw q0 q1 q2 q3 f0 f1 f2 f3;go_wp2
      refine wp_region_later (by kernel_rfl) (by kernel_rfl) ?_;repeat (go_big_quiet_step (first | (go_at_call 123;with_reducible exact HC.out _)))
      refine wpQuiet_nil ?_;rintro _ ⟨p,rfl⟩;have HB2:=hid (bnext HB1.out p.h);generalize p.val=w2 at HB2 ⊢;go_wp2
      go_ret;rw [e4.out];exact ⟨rfl,HB2.out⟩
     ·have e4:=hid (e3.out.trans (if_neg (fun h=>hcl (hsw.2 h))));have hcl2:decide (C<=0)=false:=decide_eq_false hcl;clear e3 hC hsw q0 q1 q2 q3 f0 f1 f2 f3;go_wp2
      refine wp_region_later (by kernel_rfl) (by kernel_rfl) ?_;repeat (go_big_quiet_step (first | (go_at_call 123;with_reducible exact HC.out _)))
      refine wpQuiet_nil ?_;rintro _ ⟨p,rfl⟩;have HB2:=hid (bnext HB1.out p.h);generalize p.val=w2 at HB2 ⊢;clear k0 k1 k2 k3 j0 j1 j2 j3 HC;go_wp2
      go_roundw
      case rel=>exact ⟨k+1,by omega,by go_num,HB2,by rw [hp'.out];exact e4⟩
      case measure=>simp [intOf];omega
   ·have hne:(UM.errU x m t cs != 0)=true:=bne_t hE;have e3:=hid (e2.out.trans (if_pos hE));generalize UM.errU x m t cs=E at HV hne e3;clear e2 hE HN;go_upto_region 6 with fail
    rw [HWX.out,<- HGG.out];clear c0 c1 c2 c3;obtain ⟨q0,q1,q2,q3⟩:=HCE.out wx (Below.refl _ _);go_wp2_with fail
    refine HV.out.mono ?_;rintro e w1 ⟨rfl,hb1⟩;have HB1:=hid (bnext HBX.out hb1);clear q0 q1 q2 q3 HV hb1 hbl;go_wp2
    go_ret;rw [e3.out];exact ⟨rfl,HB1.out⟩
  ·have hq:¬ ((k:Int)<(fs.length:Int)):=by omega
   have e2:=hid (show R=0 by rw [he.out,List.drop_of_length_le (by omega)];rfl);clear he;go_wp2
   go_ret;rw [e2.out];exact ⟨rfl,hbl.out⟩
end Go.Proofs.YtahcehbgfhdbjaaGreatDoor.ST
namespace Go.Proofs.YtahcehbgfhdbjaaGreatDoor.ST
open Go.RowKit
open UM (Ef)
open SM (Fp)
theorem pre_take {fs:List Fp} {k:Nat} (hk:k<=fs.length):pre (fs.take k) (fs.take k).length=pre fs k:=by
 rw [List.length_take,Nat.min_eq_left hk];unfold pre;by_cases h:k=0
 ·rw [if_pos h,if_pos h]
 ·rw [if_neg h,if_neg h];have:(fs.take k).getD (k - 1) (0,0,0,[])=fs.getD (k - 1) (0,0,0,[]):=by simp [List.getD,show k - 1<k by omega]
  rw [this]
def folS (fs:List Fp) (x m:Int):Bool:=decide (m<=1∨((pre fs fs.length).1=x/\(pre fs fs.length).2=m - 1))
theorem sFollows (v:Value) (fs:List Fp) (x m t:Int) (da:Option Addr) (dl dc:Nat) (w:World) (h:RdF w v fs) (hm:1<=m/\m<=100) (hx:x≠0) :
  Calls Tryz.prog 163 #[(.agg #[.func (.func 164) #[] #[],.func (.func 165) #[] #[],.func (.func 147) #[] #[],.func (.func 123) #[] #[],.func (.func 78) #[] #[],.func (.func 166) #[] #[],.func (.func 136) #[] #[],.func (.func 131) #[] #[],.int .i64 48]),v,uv x m t (.slice da dl dc)] w fun e w'=>e = .returned (.bool (folS fs x m))/\Below w.heap.size w w':=by
 obtain ⟨va,vc,rfl,hvc,_⟩:=h.shape;obtain ⟨w2,HX⟩:=kbox w x m t (.slice da dl dc);have HW:=hid HX.eq;have HB:=hid HX.below;have HK:=hid HX.k;have HP:=hid HX.e;have H2:=hid (h.below HX.below);obtain ⟨hm1,hm2⟩:=hm;obtain ⟨K,hK⟩:∃ K,w.heap.size=K:=⟨_,rfl⟩
 rw [hK] at HK HP;have HKE:=hid hK;clear HX h hK;obtain ⟨R,hR⟩:∃ R,R=folS fs x m:=⟨_,rfl⟩
 rw [<- hR];have HR:=hid hR;clear hR;have HN:=hid (cNumb x m t da dl dc w2);obtain ⟨_,k1,_⟩:=HK.out.cells;obtain ⟨p0,p1,p2,p3,_⟩:=HP.out.cells;go_enter Tryz.func163,Tryz.ntmps163
 go_upto_region 1 with fail
 rw [HW.out,HKE.out];have HB0:=hid (show Below K w w2 by rw [<- HKE.out];exact HB.out);clear HW HB;go_wp2_with fail
 refine HN.out.mono ?_;rintro e w3 ⟨rfl,hb3⟩;have HB3:=hid (HB0.out.trans (hb3.mono (Nat.le_of_lt HK.out.lt)));have HK3:=hid (HK.out.below hb3);have HP3:=hid (HP.out.below hb3);have H3:=hid (H2.out.below hb3);clear k1 p0 p1 p2 p3 HN HK HP H2 hb3;by_cases h1:m<=1
 ·have e:=hid (show R=true by rw [HR.out];exact decide_eq_true (.inl h1));go_wp2
  go_ret;rw [e.out,HKE.out];exact ⟨rfl,HB3.out⟩
 ·by_cases h0:fs.length=0
  ·have e:=hid (show R=false by
    rw [HR.out];refine decide_eq_false ?_;rintro (h | ⟨h,_⟩)
    ·exact h1 h
    ·rw [h0,show pre fs 0=(0,0) from rfl] at h;exact hx h.symm)
   have hz:((fs.length:Int)==0)=true:=beq_t (by omega);go_wp2
   go_ret;rw [e.out,HKE.out];exact ⟨rfl,HB3.out⟩
  ·have hlt:fs.length - 1<fs.length:=by omega
   have hg:=List.getElem?_eq_getElem hlt;have hpk:pre fs fs.length=(fs[fs.length - 1].1,fs[fs.length - 1].2.1):=by simp [pre,h0,List.getD,hg]
   generalize fs[fs.length - 1]=g at hg hpk;obtain ⟨y,n,u,ds⟩:=g;simp only at hpk;have HR2:=hid (show R=decide (y=x/\n=m - 1) by
    rw [HR.out];unfold folS;rw [hpk];exact decide_eq_decide.2 ⟨fun h=>h.resolve_left h1,.inr⟩)
   obtain ⟨b,o,ea,el,ec,hi,hb,c0,c1,c2,c3,_⟩:=H3.out.atS (fs.length - 1) y n u ds hg;rw [show ((fs.length - 1:Nat):Int)=(fs.length:Int) - 1 by omega] at hi;have hz:((fs.length:Int)==0)=false:=beq_f (by omega);have hpos:(0:Int)<(fs.length:Int):=by omega
   obtain ⟨w4,HX4⟩:=eone w3 y n u (.slice ea el ec);have HW4:=hid HX4.eq;have HL4:=hid HX4.e;have HB4:=hid (HB3.out.trans (HX4.below.mono (Nat.le_of_lt HK3.out.lt)));have HK4:=hid (HK3.out.below HX4.below);have HP4:=hid (HP3.out.below HX4.below);have HA1:=hid (fun p:Later w4=>Calls.later (cAuth y n u ea el ec p.val));have HA2:=hid (fun p:Later w4=>Calls.later (cAuth x m t da dl dc p.val));have HN1:=hid (fun p:Later w4=>Calls.later (cNumb y n u ea el ec p.val));have HN2:=hid (fun p:Later w4=>Calls.later (cNumb x m t da dl dc p.val));obtain ⟨L,hL⟩:∃ L,w3.heap.size=L:=⟨_,rfl⟩
   rw [hL] at HL4;have HLE:=hid hL;clear hg hpk HR HX4 HK3 HP3 H3 HB3 hL;go_upto_region 6 with fail
   rw [HW4.out,HLE.out];clear c0 c1 c2 c3 hi hb HW4 HLE;obtain ⟨j0,j1,_⟩:=HK4.out.later;obtain ⟨z0,z1,z2,z3⟩:=lat_e HP4.out;obtain ⟨y0,y1,y2,y3⟩:=lat_e HL4.out;have hw1:IntKind.i64.wrap (m - 1)=m - 1:=IntWalk.i64_in _ (by omega);by_cases hyx:y=x
   ·have q1:(y==x)=true:=beq_t hyx;by_cases hnm:n=m - 1
    ·have q2:(n==m - 1)=true:=beq_t hnm;have e:=hid (show R=true by rw [HR2.out];exact decide_eq_true ⟨hyx,hnm⟩);clear hyx hnm HR2;refine wp_region_later (by kernel_rfl) (by kernel_rfl) ?_;repeat (go_big_quiet_step (first | (go_at_call 164;with_reducible exact HA1.out _) | (go_at_call 164;with_reducible exact HA2.out _) | (go_at_call 165;with_reducible exact HN1.out _) | (go_at_call 165;with_reducible exact HN2.out _)))
     refine wpQuiet_nil ?_;rintro _ ⟨p,rfl⟩;have HB5:=hid (HB4.out.trans (p.h.mono (Nat.le_of_lt HK4.out.lt)));generalize p.val=w5 at HB5 ⊢;go_wp2
     go_ret;rw [e.out,HKE.out];exact ⟨rfl,HB5.out⟩
    ·have q2:(n==m - 1)=false:=beq_f hnm;have e:=hid (show R=false by rw [HR2.out];exact decide_eq_false (fun h=>hnm h.2));clear hyx hnm HR2;refine wp_region_later (by kernel_rfl) (by kernel_rfl) ?_;repeat (go_big_quiet_step (first | (go_at_call 164;with_reducible exact HA1.out _) | (go_at_call 164;with_reducible exact HA2.out _) | (go_at_call 165;with_reducible exact HN1.out _) | (go_at_call 165;with_reducible exact HN2.out _)))
     refine wpQuiet_nil ?_;rintro _ ⟨p,rfl⟩;have HB5:=hid (HB4.out.trans (p.h.mono (Nat.le_of_lt HK4.out.lt)));generalize p.val=w5 at HB5 ⊢;go_wp2
     go_ret;rw [e.out,HKE.out];exact ⟨rfl,HB5.out⟩
   ·have q1:(y==x)=false:=beq_f hyx;have e:=hid (show R=false by rw [HR2.out];exact decide_eq_false (fun h=>hyx h.1));clear hyx HR2;refine wp_region_later (by kernel_rfl) (by kernel_rfl) ?_;repeat (go_big_quiet_step (first | (go_at_call 164;with_reducible exact HA1.out _) | (go_at_call 164;with_reducible exact HA2.out _)))
    refine wpQuiet_nil ?_;rintro _ ⟨p,rfl⟩;have HB5:=hid (HB4.out.trans (p.h.mono (Nat.le_of_lt HK4.out.lt)));generalize p.val=w5 at HB5 ⊢;go_wp2
    go_ret;rw [e.out,HKE.out];exact ⟨rfl,HB5.out⟩
end Go.Proofs.YtahcehbgfhdbjaaGreatDoor.ST

