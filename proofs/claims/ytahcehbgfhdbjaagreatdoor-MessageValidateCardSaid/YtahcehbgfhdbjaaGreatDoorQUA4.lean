/-
  URef5 URef2: joined texts, what nothing names left out.
-/
import Derived.Test.YtahcehbgfhdbjaaGreatDoorQUA3
import Derived.ChangeKeysEq
set_option maxHeartbeats 4000000
set_option maxRecDepth 100000
open Go.Lib (hid)
namespace Go.Proofs.YtahcehbgfhdbjaaGreatDoor
section
open Go.RowKit
open UM (Ef)
open WM (enc dec zig zag Bytes)
namespace UM
theorem bdrop {xs:List Int} (hb:Bytes xs) (u:Nat):Bytes (xs.drop u):=fun x hx=>hb x (List.mem_of_mem_drop hx)
theorem decE5_used {k:Int} {o f:ByteArray} {n:Int} {xs:List Int} {u:Nat} (hb:Bytes xs) (hu:u<=xs.length):(decE5 k o f n xs u).2.1<=xs.length:=by
 unfold decE5;rcases decS_two (bdrop hb u) with ⟨e1,he1,hd⟩ | ⟨l,n,hd,hl⟩
 ·rw [hd,if_pos (show ¬ e1=0 by omega)];exact Nat.zero_le _
 ·rw [hd,if_neg (by simp)];rw [List.length_drop] at hl;show u+(n:Int).toNat<=_
  omega
theorem decE4_used {k:Int} {o f:ByteArray} {xs:List Int} {u:Nat} (hb:Bytes xs) (hu:u<=xs.length):(decE4 k o f xs u).2.1<=xs.length:=by
 unfold decE4;rcases WM.dec_two _ (bdrop hb u) with ⟨e1,he1,hd⟩ | ⟨m4,hm4,hd,hl,_⟩
 ·rw [hd,if_pos (show ¬ e1=0 by omega)];exact Nat.zero_le _
 ·rw [hd,if_neg (by simp)];rw [List.length_drop] at hl;exact decE5_used hb (by show u+((enc m4).length:Int).toNat<=_;omega)
theorem decE3_used {k:Int} {o:ByteArray} {xs:List Int} {u:Nat} (hb:Bytes xs) (hu:u<=xs.length):(decE3 k o xs u).2.1<=xs.length:=by
 unfold decE3;rcases decS_two (bdrop hb u) with ⟨e1,he1,hd⟩ | ⟨l,n,hd,hl⟩
 ·rw [hd,if_pos (show ¬ e1=0 by omega)];exact Nat.zero_le _
 ·rw [hd,if_neg (by simp)];rw [List.length_drop] at hl;exact decE4_used hb (by show u+(n:Int).toNat<=_;omega)
theorem decE2_used {k:Int} {xs:List Int} {u:Nat} (hb:Bytes xs) (hu:u<=xs.length):(decE2 k xs u).2.1<=xs.length:=by
 unfold decE2;rcases decS_two (bdrop hb u) with ⟨e1,he1,hd⟩ | ⟨l,n,hd,hl⟩
 ·rw [hd,if_pos (show ¬ e1=0 by omega)];exact Nat.zero_le _
 ·rw [hd,if_neg (by simp)];rw [List.length_drop] at hl;exact decE3_used hb (by show u+(n:Int).toNat<=_;omega)
theorem decE_used {xs:List Int} (hb:Bytes xs):(decE xs).2.1<=xs.length:=by
 unfold decE;rcases JM.num_two xs hb with ⟨e1,he1,hd⟩ | ⟨m,hm,hd,hml⟩
 ·rw [hd,if_pos (show ¬ e1=0 by omega)];exact Nat.zero_le _
 ·rw [hd,if_neg (by simp)];exact decE2_used hb hml
def chE (xs:List Int) (u:Nat):Nat->List Ef×Nat×Int
 | 0=>([],u,0)
 | k+1=>if (chE xs u k).2.2≠0 then chE xs u k
  else if (decE (xs.drop (chE xs u k).2.1)).2.2≠0 then ((chE xs u k).1,(chE xs u k).2.1,(decE (xs.drop (chE xs u k).2.1)).2.2)
  else ((chE xs u k).1 ++ [(decE (xs.drop (chE xs u k).2.1)).1],(chE xs u k).2.1+(decE (xs.drop (chE xs u k).2.1)).2.1,0)
theorem chE_err_le {xs:List Int} {u k n:Nat} (h:k<=n) (he:(chE xs u k).2.2≠0):chE xs u n=chE xs u k:=by
 induction n with
 | zero=>
      obtain rfl:k=0:=by omega
      rfl
 | succ n ih=>
  by_cases hk:k=n+1
  ·rw [hk]
  ·have h1:=ih (by omega);rw [chE,if_pos (by rw [h1];exact he),h1]
theorem chE_used {xs:List Int} {u:Nat} (hb:Bytes xs) (hu:u<=xs.length) (k:Nat):(chE xs u k).2.1<=xs.length:=by
 induction k with
 | zero=>exact hu
 | succ k ih=>
  rw [chE];split
  ·exact ih
  split
  ·exact ih
  ·have:=decE_used (bdrop hb (chE xs u k).2.1);rw [List.length_drop] at this;dsimp only;omega
theorem chE_len {xs:List Int} {u k:Nat} (h:(chE xs u k).2.2=0):(chE xs u k).1.length=k:=by
 induction k with
 | zero=>rfl
 | succ k ih=>
  rw [chE] at h ⊢;split at h
  ·rename_i h1;exact absurd h h1
  rename_i h1
  rw [if_neg h1];split at h
  ·rename_i h2;exact absurd h h2
  rename_i h2
  rw [if_neg h2];have:=ih (Classical.byContradiction h1);simp [this]
abbrev Du:=Int×Nat×(Int×Int×Int)×List Ef
def badU (e:Int):Du:=(e,0,(0,0,0),[])
def finU (c q t:Int) (p:List Ef×Nat×Int):Du:=
 if p.2.2≠0 then badU p.2.2 else if errU c q t p.1≠0 then badU (errU c q t p.1) else (0,p.2.1,(c,q,t),p.1)
def decU (xs:List Int):Du:=
 if (JM.many xs (0,0) 4).2.2≠0 then badU (JM.many xs (0,0) 4).2.2
 else if 4<(JM.many xs (0,0) 4).1.getD 3 0 then badU 3
 else finU ((JM.many xs (0,0) 4).1.getD 0 0) ((JM.many xs (0,0) 4).1.getD 1 0) ((JM.many xs (0,0) 4).1.getD 2 0) (chE xs (JM.many xs (0,0) 4).2.1 ((JM.many xs (0,0) 4).1.getD 3 0).toNat)
end UM
theorem list4 {l:List Int} (h:l.length=4):∃ a b c d,l = [a,b,c,d]:=by
 match l,h with
 | [a,b,c,d],_=>exact ⟨a,b,c,d,rfl⟩
def OU (w:World) (B:Nat) (c q t:Int) (s:Value):Prop:=w.heap[B]? = some (.cells #[.int .i64 c,.int .i64 q,.int .i64 t,s] 96 (0,0))
theorem OU.cells {w:World} {B:Nat} {c q t:Int} {s:Value} (h:OU w B c q t s):w.cell? ⟨B,0,none⟩=some (.int .i64 c)/\w.cell? ⟨B,1,none⟩=some (.int .i64 q)/\w.cell? ⟨B,2,none⟩=some (.int .i64 t)/\w.cell? ⟨B,3,none⟩=some s /\
  w.frozen? ⟨B,0,none⟩=false/\w.frozen? ⟨B,1,none⟩=false/\w.frozen? ⟨B,2,none⟩=false/\w.frozen? ⟨B,3,none⟩=false:=by
 unfold OU at h;refine ⟨?_,?_,?_,?_,?_,?_,?_,?_⟩ <;> simp [World.cell?,World.frozen?,h]
theorem OU.lt {w:World} {B:Nat} {c q t:Int} {s:Value} (h:OU w B c q t s):B<w.heap.size:=(Array.getElem?_eq_some_iff.1 h).1
theorem OU.below {w w':World} {B:Nat} {c q t:Int} {s:Value} (h:OU w B c q t s) (hb:Below w.heap.size w w'):OU w' B c q t s:=below_block h hb
theorem OU.keep {w w':World} {e:TypeId} {B:Nat} {c q t:Int} {s:Value} (h:OU w B c q t s) (he:96≠e) (hk:KeepsX e w w'):OU w' B c q t s:=hk.at h he
theorem OU.only {w w':World} {g B:Nat} {c q t:Int} {s:Value} (h:OU w B c q t s) (ho:Only g w w') (hne:B≠g):OU w' B c q t s:=ho.at h hne
theorem OU.fresh (w:World) (c q t:Int) (s:Value):OU (w.alloc (.cells #[.int .i64 c,.int .i64 q,.int .i64 t,s] 96)) w.heap.size c q t s:=heap_alloc_new w _
theorem OU.put {w:World} {B:Nat} {c q t:Int} {s:Value} (h:OU w B c q t s) (u:Value):OU (w.setCell ⟨B,3,none⟩ u) B c q t u:=heap_setCell_same w B 3 _ _ u h
theorem OU.put4 {w:World} {B:Nat} {c q t:Int} {s:Value} (h:OU w B c q t s) (c' q' t':Int) (u:Value) :
  OU ((((w.setCell ⟨B,0,none⟩ (.int .i64 c')).setCell ⟨B,1,none⟩ (.int .i64 q')).setCell ⟨B,2,none⟩ (.int .i64 t')).setCell ⟨B,3,none⟩ u) B c' q' t' u:=by
 have h1:(w.setCell ⟨B,0,none⟩ (.int .i64 c')).heap[B]? = some (.cells #[.int .i64 c',.int .i64 q,.int .i64 t,s] 96 (0,0)):=heap_setCell_same w B 0 _ _ _ h;have h2:((w.setCell ⟨B,0,none⟩ (.int .i64 c')).setCell ⟨B,1,none⟩ (.int .i64 q')).heap[B]? = some (.cells #[.int .i64 c',.int .i64 q',.int .i64 t,s] 96 (0,0)):=heap_setCell_same _ B 1 _ _ _ h1;have h3:(((w.setCell ⟨B,0,none⟩ (.int .i64 c')).setCell ⟨B,1,none⟩ (.int .i64 q')).setCell ⟨B,2,none⟩ (.int .i64 t')).heap[B]? = some (.cells #[.int .i64 c',.int .i64 q',.int .i64 t',s] 96 (0,0)):=heap_setCell_same _ B 2 _ _ _ h2;exact heap_setCell_same _ B 3 _ _ _ h3
theorem only4 {w:World} {B:Nat} (a b c d:Value):Only B w ((((w.setCell ⟨B,0,none⟩ a).setCell ⟨B,1,none⟩ b).setCell ⟨B,2,none⟩ c).setCell ⟨B,3,none⟩ d):=
 (((Only.set 0 a).trans (Only.set 1 b)).trans (Only.set 2 c)).trans (Only.set 3 d)
theorem rdecU_ret {R:Ending->World->Prop} {a:Act} {w:World} {g:Nat} {c q t:Int} {s:Value} {u er:Int} (hp:a.tmps.getD 2 undef = .pointer (some ⟨g,0,none⟩)) (h3:a.tmps.getD 3 undef = .int .i64 u) (h4:a.tmps.getD 4 undef = .int .i64 er) (hg:OU w g c q t s)
  (hd:a.defers = []) (hR:R (.returned (.tuple #[uv c q t s,.int .i64 u,.int .i64 er])) w):bodyPost Tryz.prog Tryz.f133 R .ret a w:=by
 have:=results_cell_tmp_tmp (P:=Tryz.prog) (fn:=Tryz.f133) rfl a.tmps w g 96 _ _ _ hp hg Tryz.underlying96 rfl (by kernel_rfl);rw [h3,h4] at this;exact bodyPost_ret this hd hR
theorem rDecodeUO (v:Value) (xs:List Int) (w:World) (h:Rd w v xs) :
  Calls Tryz.prog 133 #[v] w fun e w'=>∃ sv,e = .returned (.tuple #[uv (UM.decU xs).2.2.1.1 (UM.decU xs).2.2.1.2.1 (UM.decU xs).2.2.1.2.2 sv,.int .i64 ((UM.decU xs).2.1:Int),.int .i64 (UM.decU xs).1])/\OwnEf w.heap.size w' sv (UM.decU xs).2.2.2/\Below w.heap.size w w':=by
 have hby:=h.bytes;have hxl:=h.len64;obtain ⟨R,hR⟩:∃ R,R=UM.decU xs:=⟨_,rfl⟩
 rw [<- hR];unfold UM.decU at hR;have b0:=below_fresh w (.cells #[.int .i64 0,.int .i64 0,.int .i64 0,.slice none 0 0] 96);have hP0:=OU.fresh w 0 0 0 (.slice none 0 0);obtain ⟨w0,hw0⟩:∃ w0,w.alloc (.cells #[.int .i64 0,.int .i64 0,.int .i64 0,.slice none 0 0] 96)=w0:=⟨_,rfl⟩
 rw [hw0] at b0 hP0;have hrd:=rRead v xs 4 w0 (h.below b0) (by decide);have hml:=JM.many_length xs (0,0) 4;obtain ⟨hms,hmu⟩:=JM.many_small xs (0,0) hby (Nat.zero_le _) 4;generalize JM.many xs (0,0) 4=M at hR hrd hml hms hmu;obtain ⟨l4,u0,e0⟩:=M;dsimp only at hR hrd hml hms hmu;obtain ⟨c,q,t,x4,rfl⟩:=list4 hml;obtain ⟨C,rfl⟩:∃ C:Nat,x4=(C:Int):=by have:=hms x4 (by simp);unfold JM.small at this;exact ⟨x4.toNat,by omega⟩
 have HRD:Hid (Calls Tryz.prog 39 #[v,.int .i64 4] w0 _):=hrd;have HW0:=hid hw0;have HB0:=hid b0;have HP0:=hid hP0;have HV:=hid h;have HR0:=hid hR;have HBY:=hid hby;have HXL:=hid hxl;have HMU:=hid hmu;obtain ⟨av,nv,cv',rfl⟩:∃ a n c,v = .slice a n c:=by obtain ⟨a,c,hv,_⟩:=h.shape;exact ⟨_,_,_,hv⟩
 clear h hby hxl hR b0 hP0 hw0 hrd hml hms hmu;go_enter Tryz.func133,Tryz.ntmps133
 go_wp2_with fail
 rw [HW0.out];refine HRD.out.mono ?_;rintro e w2 (⟨hne,rfl,hb2⟩ | ⟨rfl,hv,rfl,hoh,hb2⟩)
 ·have HB2:=hid (bnext HB0.out hb2);have HP2:=hid (HP0.out.below hb2);have HFIN:=hid (show R=UM.badU e0 by rw [HR0.out,if_pos hne]);have hne':(e0 != 0)=true:=bne_t hne;obtain ⟨o0,o1,o2,o3,g0,g1,g2,g3⟩:=HP2.out.cells;clear hb2 hne HR0 HRD HW0 HB0 HP0;go_wp2
  refine rdecU_ret rfl rfl rfl (HP2.out.put4 0 0 0 (.slice none 0 0)) rfl ⟨.slice none 0 0,?_,?_,?_⟩
  ·rw [HFIN.out];rfl
  ·rw [HFIN.out];exact OwnG.nil hlEf _ _ _
  ·exact seen HB2.out (Nat.le_refl _) (only4 _ _ _ _)
 have HB2:=hid (bnext HB0.out hb2);have HP2:=hid (HP0.out.below hb2);have HOH2:=hid (hoh.mono HB0.out.size);obtain ⟨hda,hdc,rfl⟩:∃ a c,hv = .slice a 4 c:=by obtain ⟨a,c,h,_⟩:=hoh.rd.shape;exact ⟨a,c,h⟩
 obtain ⟨bx3,ox3,hi3,_,hc3⟩:=atI HOH2.out.rd 3 _ rfl;have hi3:∀ w0,(Instr.indexAt 43 (.slice hda 4 hdc) (.int .i64 3)).run Tryz.prog w0 = .ok (.pointer (some ⟨bx3,ox3,none⟩)) w0:=hi3;by_cases hC4:4<(C:Int)
 ·have HFIN:=hid (show R=UM.badU 3 by rw [HR0.out,if_neg (by simp),if_pos (by exact hC4)]);obtain ⟨o0,o1,o2,o3,g0,g1,g2,g3⟩:=HP2.out.cells;clear hb2 HR0 HRD HW0 HB0 HP0 hoh HOH2;go_wp2
  refine rdecU_ret rfl rfl rfl (HP2.out.put4 0 0 0 (.slice none 0 0)) rfl ⟨.slice none 0 0,?_,?_,?_⟩
  ·rw [HFIN.out];rfl
  ·rw [HFIN.out];exact OwnG.nil hlEf _ _ _
  ·exact seen HB2.out (Nat.le_refl _) (only4 _ _ _ _)
 have HFIN:=hid (show R=UM.finU c q t (UM.chE xs u0 C) by rw [HR0.out,if_neg (by simp),if_neg (by exact hC4)];rfl);have hC4':decide (4<(C:Int))=false:=decide_eq_false hC4;have HC4:=hid (show C<=4 by omega);obtain ⟨bx0,ox0,hi0,_,hc0⟩:=atI HOH2.out.rd 0 _ rfl;have hi0:∀ w0,(Instr.indexAt 43 (.slice hda 4 hdc) (.int .i64 0)).run Tryz.prog w0 = .ok (.pointer (some ⟨bx0,ox0,none⟩)) w0:=hi0;obtain ⟨bx1,ox1,hi1,_,hc1⟩:=atI HOH2.out.rd 1 _ rfl;have hi1:∀ w0,(Instr.indexAt 43 (.slice hda 4 hdc) (.int .i64 1)).run Tryz.prog w0 = .ok (.pointer (some ⟨bx1,ox1,none⟩)) w0:=hi1;obtain ⟨bx2,ox2,hi2,_,hc2⟩:=atI HOH2.out.rd 2 _ rfl;have hi2:∀ w0,(Instr.indexAt 43 (.slice hda 4 hdc) (.int .i64 2)).run Tryz.prog w0 = .ok (.pointer (some ⟨bx2,ox2,none⟩)) w0:=hi2;clear hb2 HR0 HRD HW0 HB0 HP0 hoh hC4;go_wp2
 refine wp_region_held_drew (S:=fun w'=>Below w2.heap.size w2 w') (by kernel_rfl) ((Below.refl _ _).drew) (fun ha=>?_);replace ha:Below w2.heap.size w2 w2.drew:=(Below.refl _ _).drew;generalize w2.drew=wa at ha ⊢;refine takeJ 0 ?_;refine takeG 1 (v:=?_) ?_ ?_;rotate_left
 ·(intro w hSw;(try dsimp only at hSw);have hcx:=hi0;go_simp;first | done | with_reducible rfl)
 (try simp only [Act.put,lTA,lZ,lS]);refine takeG 2 (v:=?_) ?_ ?_;rotate_left
 ·(intro w hSw;(try dsimp only at hSw);have hcx:=below_cell hSw hc0;go_simp;first | done | with_reducible rfl)
 (try simp only [Act.put,lTA,lZ,lS]);refine takeJ 3 ?_;refine takeG 4 (v:=?_) ?_ ?_;rotate_left
 ·(intro w hSw;(try dsimp only at hSw);have hcx:=hi1;go_simp;first | done | with_reducible rfl)
 (try simp only [Act.put,lTA,lZ,lS]);refine takeG 5 (v:=?_) ?_ ?_;rotate_left
 ·(intro w hSw;(try dsimp only at hSw);have hcx:=below_cell hSw hc1;go_simp;first | done | with_reducible rfl)
 (try simp only [Act.put,lTA,lZ,lS]);refine takeJ 6 ?_;refine takeG 7 (v:=?_) ?_ ?_;rotate_left
 ·(intro w hSw;(try dsimp only at hSw);have hcx:=hi2;go_simp;first | done | with_reducible rfl)
 (try simp only [Act.put,lTA,lZ,lS]);refine takeG 8 (v:=?_) ?_ ?_;rotate_left
 ·(intro w hSw;(try dsimp only at hSw);have hcx:=below_cell hSw hc2;go_simp;first | done | with_reducible rfl)
 (try simp only [Act.put,lTA,lZ,lS]);refine takeJ 9 ?_;refine wpAnyH_ready (rs:=[10]) (by kernel_rfl) (by simp) ?_;refine stepH rfl (fun K hK=>?_) AllReadyH.nil;go_simp
 have hfz:=below_fresh wa (.cells #[.int .i64 0,.int .i64 0,.int .i64 0,.slice none 0 0] 96);have hOP:=OU.fresh wa 0 0 0 (.slice none 0 0);have hb:=bnext ha hfz;have hlt:w2.heap.size<=wa.heap.size:=ha.size;refine hK.out _ _ (hb) (fun _=>?_);clear hK K;(try simp only [Act.put,lTA,lZ,lS]);obtain ⟨pb,hpb⟩:∃ pb,pb=wa.heap.size:=⟨_,rfl⟩
 rw [<- hpb] at hOP hlt ⊢;clear hpb;generalize wa.alloc (.cells #[.int .i64 0,.int .i64 0,.int .i64 0,.slice none 0 0] 96)=wb at hOP hb ⊢;obtain ⟨o0,o1,o2,o3,g0,g1,g2,g3⟩:=hOP.cells;refine wpAnyH_ready (rs:=[11]) (by kernel_rfl) (by simp) ?_;refine stepH rfl (fun K hK=>?_) AllReadyH.nil;go_simp
 have hc:=hb.trans ((only4 (w:=wb) (B:=pb) (.int .i64 c) (.int .i64 q) (.int .i64 t) (.slice none 0 0)).below hlt hb.size);have hX:=hOP.put4 c q t (.slice none 0 0);refine hK.out _ _ (hc) (fun _=>?_);clear hK K;(try simp only [Act.put,lTA,lZ,lS]);refine wpAnyH_done (by kernel_rfl) ?_ _;have HPB:=hid (show w.heap.size<pb from Nat.lt_of_lt_of_le HP2.out.lt hlt);have HX3:=hid hX;have HP3:=hid (HP2.out.below hc);have HO3:=hid (HOH2.out.below hc);have HB3:=hid (bnext HB2.out hc);clear hX hc hb hOP hlt o0 o1 o2 o3 g0 g1 g2 g3 hi0 hi1 hi2 hc0 hc1 hc2 hc3 HP2 HOH2 HB2;generalize (((wb.setCell ⟨pb,0,none⟩ (.int .i64 c)).setCell ⟨pb,1,none⟩ (.int .i64 q)).setCell ⟨pb,2,none⟩ (.int .i64 t)).setCell ⟨pb,3,none⟩ (.slice none 0 0)=w3 at HX3 HP3 HO3 HB3 ⊢;go_wp2
 go_loopw [6,9] (fun at_ i wr=>∃ (k u:Nat) (sv:Value),k<=C/\i = .int .i64 k/\at_ = .int .i64 (u:Int)/\Hid ((UM.chE xs u0 k).2=(u,0))/\Hid (OU wr pb c q t sv)/\Hid (OU wr w.heap.size 0 0 0 (.slice none 0 0))/\Hid (OwnEf w.heap.size wr sv (UM.chE xs u0 k).1)/\Hid (OwnI w.heap.size wr (.slice hda 4 hdc) [c,q,t,(C:Int)])/\Hid (Below w.heap.size w wr)) (fun _ i _=>C - (intOf i).toNat)
 case atStart=>exact ⟨0,u0,_,Nat.zero_le _,rfl,rfl,rfl,HX3.out,HP3.out,OwnG.nil hlEf _ _ _,HO3.out,HB3.out⟩
 case round=>
  obtain ⟨k,u,sv,hk,rfl,rfl,hst,hx,hp,ho,hh,hbl⟩:=hrel;clear HX3 HP3 HO3 HB3;have hc3:=atI_cell hh.out.rd 3 _ rfl hi3;have hC4:=HC4.out;by_cases hlt:k<C
  ·have hq2:(k:Int)<(C:Int):=by omega
   have hul:u<=xs.length:=by
    have:=UM.chE_used HBY.out HMU.out k;rw [hst.out] at this;exact this
   obtain ⟨v2,hcut,hrd2⟩:=(HV.out.below hbl.out).cutZ u hul;have hM:=rEffect v2 _ wr hrd2;have hDu:=UM.decE_used hrd2.bytes;have hlen:=UM.chE_len (k:=k) (xs:=xs) (u:=u0) (by rw [hst.out]);have hcs:UM.chE xs u0 (k+1)=if (UM.decE (xs.drop u)).2.2≠0 then ((UM.chE xs u0 k).1,u,(UM.decE (xs.drop u)).2.2) else ((UM.chE xs u0 k).1 ++ [(UM.decE (xs.drop u)).1],u+(UM.decE (xs.drop u)).2.1,0):=by
    rw [UM.chE,hst.out,if_neg (by simp)]
   rw [List.length_drop] at hDu;generalize UM.decE (xs.drop u)=D at hM hDu hcs;obtain ⟨⟨k',o',f',n',s'⟩,n7,e7⟩:=D;dsimp only [efv] at hM hDu hcs;have HM:=hid hM;have HCS:=hid hcs;clear hM hcs hrd2 hst;go_wp2_with fail
   refine HM.out.mono ?_;rintro e w2 ⟨rfl,hb2⟩;have HB5:=hid (bnext hbl.out hb2);have HP5:=hid (hp.out.below hb2);have HX5:=hid (hx.out.below hb2);have HO5:=hid (ho.out.below hb2);have HH5:=hid (hh.out.below hb2);clear hx hp ho hbl hh hc3 hb2 HM hcut;have fE:=below_fresh w2 (.cells #[.int .i64 k',.string o',.string f',.int .i64 n',.string s'] 138);have oE:=OE.fresh w2 (.int .i64 k') (.string o') (.string f') (.int .i64 n') (.string s');obtain ⟨w4,hw4⟩:∃ z,w2.alloc (.cells #[.int .i64 k',.string o',.string f',.int .i64 n',.string s'] 138)=z:=⟨_,rfl⟩
   rw [hw4] at fE oE;have HW4:=hid hw4;have HB6:=hid (bnext HB5.out fE);have HP6:=hid (HP5.out.below fE);have HX6:=hid (HX5.out.below fE);have HO6:=hid (HO5.out.below fE);have HH6:=hid (HH5.out.below fE);obtain ⟨b0,b1,b2,b3,b4,_⟩:=oE.cells;obtain ⟨o0,o1,o2,o3,g0,g1,g2,g3⟩:=HP6.out.cells;obtain ⟨x0,x1,x2,x3,y0,y1,y2,y3⟩:=HX6.out.cells;clear fE oE hw4 HB5 HP5 HX5 HO5 HH5;by_cases he7:e7=0
   case neg=>
    have HR2:=hid (show R=UM.badU e7 by
     have h0:=HCS.out;rw [if_pos he7] at h0;have h2:=UM.chE_err_le (by omega:k+1<=C) (by rw [h0];exact he7);rw [HFIN.out];unfold UM.finU;rw [h2,h0,if_pos he7])
    have hne':(e7 != 0)=true:=bne_t he7;clear HCS HFIN he7 x0 x1 x2 x3 y0 y1 y2 y3;go_upto_region 11 with fail
    rw [HW4.out];go_wp2
    refine rdecU_ret rfl rfl rfl (HP6.out.put4 0 0 0 (.slice none 0 0)) rfl ⟨.slice none 0 0,?_,?_,?_⟩
    ·rw [HR2.out];rfl
    ·rw [HR2.out];exact OwnG.nil hlEf _ _ _
    ·exact seen HB6.out (Nat.le_refl _) (only4 _ _ _ _)
   subst he7;obtain ⟨asv,csv,rfl,hcsv,_⟩:=HO6.out.rd.shape;rw [hlen] at HX6 HO6 x3;have HYB:=hid (show (UM.chE xs u0 k).1.length<=1073741824 by omega);have HS:=hid (show UM.chE xs u0 (k+1)=((UM.chE xs u0 k).1 ++ [(k',o',f',n',s')],u+n7,0) by rw [HCS.out,if_neg (by simp)]);have hw1:(u:Int)+(n7:Int)<=9223372036854775807:=by have:=HXL.out;omega
   have HSUM:=hid (show (u:Int)+(n7:Int)=((u+n7:Nat):Int) by omega);have hsz:=HB6.out.size;have HLEN:=hid hlen;clear HCS hul hDu hlen o0 o1 o2 o3 g0 g1 g2 g3;go_upto_region 11 with fail
   rw [HW4.out];go_wp2_with (at_builtin;refine wp_appG1 efE (k',o',f',n',s') rfl _ _ rfl rfl HO6.out rfl HYB.out hsz ?_;intro v6 w6 ho6 hb6 hk6 _;obtain ⟨av6,cv6,rfl,_,_⟩:=ho6.rd.shape;have hx6:OU w6 pb c q t (.slice asv k csv):=OU.keep (e:=138) HX6.out (by decide) hk6;obtain ⟨x0,x1,x2,x3,y0,y1,y2,y3⟩:=hx6.cells)
   have el:((UM.chE xs u0 k).1 ++ [(k',o',f',n',s')]).length=(UM.chE xs u0 k).1.length+1:=by simp
   rw [el] at ho6;have hon:Only pb w6 (w6.setCell ⟨pb,3,none⟩ (.slice av6 ((UM.chE xs u0 k).1.length+1) cv6)):=Only.set 3 _;have hpb:=HPB.out;have HX7:=hid (hx6.put (.slice av6 ((UM.chE xs u0 k).1.length+1) cv6));have HP7:=hid ((OU.keep (e:=138) HP6.out (by decide) hk6).only hon (by omega));have HO7:=hid (ownG_only ho6 hx6 (by decide) hon);have HH7:=hid (ownG_only (ownG_keep HH6.out hk6 (by decide)) hx6 (by decide) hon);have HB7:=hid (seen (HB6.out.trans hb6) (by omega) hon);rw [HSUM.out];go_roundw
   case rel=>exact ⟨k+1,u+n7,_,by omega,by go_num,rfl,by show (UM.chE xs u0 (k+1)).2=_;rw [HS.out],HX7,HP7,by show OwnEf _ _ _ (UM.chE xs u0 (k+1)).1;rw [HS.out];exact HO7.out,HH7,HB7⟩
   case measure=>simp [intOf];omega
  ·have hq2:¬ (k:Int)<(C:Int):=by omega
   obtain rfl:k=C:=by omega
   have hfin:=HFIN.out;clear HFIN;have hp0:UM.chE xs u0 k=((UM.chE xs u0 k).1,(u,0)):=by rw [<- hst.out]
   rw [hp0] at hfin;clear hp0 hst;generalize (UM.chE xs u0 k).1=ys at ho hfin;obtain ⟨asv,csv,rfl,hcsv,_⟩:=ho.out.rd.shape;obtain ⟨p0,p1,p2,p3,_⟩:=hx.out.cells;obtain ⟨o0,o1,o2,o3,g0,g1,g2,g3⟩:=hp.out.cells;have hv:=rValU c q t (.slice asv ys.length csv) ys wr ho.out.rd;by_cases hee:UM.errU c q t ys=0
   ·rw [hee] at hv;have HV2:=hid hv;have HFIN:=hid (show R=(0,u,(c,q,t),ys) by rw [hfin];unfold UM.finU;rw [if_neg (by simp),if_neg (by rw [hee];simp)]);clear hv hfin hee;go_wp2_with fail
    refine HV2.out.mono ?_;rintro e w5 ⟨rfl,hb5⟩;have HX5:=hid (hx.out.below hb5);have HP5:=hid (hp.out.below hb5);have HO5:=hid (ho.out.below hb5);have HB5:=hid (bnext hbl.out hb5);clear hx hp ho hbl hh hc3 p0 p1 p2 p3 o0 o1 o2 o3 g0 g1 g2 g3 hb5 HV2;obtain ⟨p0,p1,p2,p3,_⟩:=HX5.out.cells;obtain ⟨o0,o1,o2,o3,g0,g1,g2,g3⟩:=HP5.out.cells;go_wp2
    refine rdecU_ret rfl rfl rfl (HP5.out.put4 c q t _) rfl ⟨.slice asv ys.length csv,?_,?_,?_⟩
    ·rw [HFIN.out]
    ·rw [HFIN.out];exact (ownG_only HO5.out HP5.out (by decide) (only4 _ _ _ _))
    ·exact seen HB5.out (Nat.le_refl _) (only4 _ _ _ _)
   ·have HV2:=hid hv;have HFIN:=hid (show R=UM.badU (UM.errU c q t ys) by rw [hfin];unfold UM.finU;rw [if_neg (by simp),if_pos hee]);have hne:(UM.errU c q t ys != 0)=true:=bne_t hee;generalize UM.errU c q t ys=ee at HV2 HFIN hne;clear hv hfin hee;go_wp2_with fail
    refine HV2.out.mono ?_;rintro e w5 ⟨rfl,hb5⟩;have HP5:=hid (hp.out.below hb5);have HB5:=hid (bnext hbl.out hb5);clear hx hp ho hbl hh hc3 p0 p1 p2 p3 o0 o1 o2 o3 g0 g1 g2 g3 hb5 HV2;obtain ⟨o0,o1,o2,o3,g0,g1,g2,g3⟩:=HP5.out.cells;go_wp2
    refine rdecU_ret rfl rfl rfl (HP5.out.put4 0 0 0 (.slice none 0 0)) rfl ⟨.slice none 0 0,?_,?_,?_⟩
    ·rw [HFIN.out];rfl
    ·rw [HFIN.out];exact OwnG.nil hlEf _ _ _
    ·exact seen HB5.out (Nat.le_refl _) (only4 _ _ _ _)
end
section
open Go.RowKit
open UM (Ef)
theorem toList_inj {a b:ByteArray}:a.toList=b.toList ↔ a=b:=by
 rw [ByteArray.toList_eq,ByteArray.toList_eq];constructor
 ·intro h;obtain ⟨⟨x⟩⟩:=a;obtain ⟨⟨y⟩⟩:=b;simp at h
  rw [h]
 ·rintro rfl;rfl
theorem eq_ev (k:Int) (o f:ByteArray) (n:Int) (s:ByteArray) (k':Int) (o' f':ByteArray) (n':Int) (s':ByteArray) (w:World) :
  (Op.equalIn 10000 138 (ev k o f n s) (ev k' o' f' n' s')).run Tryz.prog w = .ok (decide ((k,o,f,n,s)=(k',o',f',n',s'))) w:=by
 have u3:=Tryz.underlying3;have a3:=Tryz.isAgg3;have z3:=Tryz.sizeOf3;have u4:=Tryz.underlying2;have a4:=Tryz.isAgg2;have z4:=Tryz.sizeOf2;have u5:=Tryz.underlying9;have a5:=Tryz.isAgg9;have z5:=Tryz.sizeOf9;have hS:Tryz.prog.underlying 138=some (.struct (Tryz.prog.fieldsOf 138)):=by kernel_rfl
 have hp:Tryz.prog.stoodInHeld 138=false:=by kernel_rfl
 rw [show (10000:Nat)=9999+1 from rfl,run_equalIn_agg w 9999 138 _ _ hS hp];simp only [Program.fieldsOf,Tryz.underlying138];go_simp
 by_cases h1:k=k' <;> by_cases h2:o=o' <;> by_cases h3:f=f' <;> by_cases h4:n=n' <;> by_cases h5:s=s' <;> simp [h1,h2,h3,h4,h5,toList_inj]
theorem neq_ev (k:Int) (o f:ByteArray) (n:Int) (s:ByteArray) (k':Int) (o' f':ByteArray) (n':Int) (s':ByteArray) (w:World) :
  (binOp .neq 138 (ev k o f n s) (ev k' o' f' n' s')).run Tryz.prog w = .ok (.bool (!decide ((k,o,f,n,s)=(k',o',f',n',s')))) w:=by
 rw [run_neq_struct];rw [eq_ev];rfl
namespace UM
def eqU (c q t:Int) (es:List Ef) (d r y:Int) (fs:List Ef):Bool:=decide (c=d/\q=r/\t=y/\es=fs)
end UM
theorem list_drop_eq {α:Type} {xs ys:List α} {k:Nat} {x y:α} (hx:xs.drop k=x :: xs.drop (k+1)) (hy:ys.drop k=y :: ys.drop (k+1)):(xs.drop k=ys.drop k)=(x=y/\xs.drop (k+1)=ys.drop (k+1)):=by
 rw [hx,hy];exact propext List.cons_eq_cons
theorem rEqU (c q t:Int) (u:Value) (es:List Ef) (d r y:Int) (v:Value) (fs:List Ef) (w:World) (hu:RdEf w u es) (hv:RdEf w v fs) :
  Calls Tryz.prog 81 #[uv c q t u,uv d r y v] w fun e w'=>e = .returned (.bool (UM.eqU c q t es d r y fs))/\Below w.heap.size w w':=by
 obtain ⟨a1,k1,rfl,hk1,_⟩:=hu.shape;obtain ⟨a2,k2,rfl,hk2,_⟩:=hv.shape;obtain ⟨R,hR⟩:∃ R,R=UM.eqU c q t es d r y fs:=⟨_,rfl⟩
 rw [<- hR];unfold UM.eqU at hR;have HE:=hid hu;have HF:=hid hv;have hl1:es.length<=9223372036854775807:=by omega
 have hl2:fs.length<=9223372036854775807:=by omega
 have hx:=heap_alloc_new w (.cells #[.int .i64 c,.int .i64 q,.int .i64 t,.slice a1 es.length k1] 96);have hb:=below_fresh w (.cells #[.int .i64 c,.int .i64 q,.int .i64 t,.slice a1 es.length k1] 96);have hy:=heap_alloc_new (w.alloc (.cells #[.int .i64 c,.int .i64 q,.int .i64 t,.slice a1 es.length k1] 96)) (.cells #[.int .i64 d,.int .i64 r,.int .i64 y,.slice a2 fs.length k2] 96);have hb2:=below_fresh (w.alloc (.cells #[.int .i64 c,.int .i64 q,.int .i64 t,.slice a1 es.length k1] 96)) (.cells #[.int .i64 d,.int .i64 r,.int .i64 y,.slice a2 fs.length k2] 96);rw [World.size_alloc] at hy;obtain ⟨w1,hw1⟩:∃ z,(w.alloc (.cells #[.int .i64 c,.int .i64 q,.int .i64 t,.slice a1 es.length k1] 96)).alloc (.cells #[.int .i64 d,.int .i64 r,.int .i64 y,.slice a2 fs.length k2] 96)=z:=⟨_,rfl⟩
 rw [hw1] at hy hb2;have HW:=hid hw1;have HB:=hid (bnext hb hb2);have HX:=hid (below_block hx hb2);have HY:=hid hy;obtain ⟨c0,c1,c2,c3⟩:=ubox (below_block hx hb2);obtain ⟨d0,d1,d2,d3⟩:=ubox hy;clear hw1 hb hb2 hx hy hu hv;go_enter Tryz.func81,Tryz.ntmps81
 go_upto_region 1 with fail
 rw [HW.out];clear HW;by_cases h1:c=d
 case neg=>
  have g1:(c != d)=true:=bne_t h1;have HR:=hid (show R=false by rw [hR];exact decide_eq_false (by intro h;exact h1 h.1));clear hR h1 HE HF;go_wp2
  go_ret;exact ⟨by rw [HR.out];rfl,HB.out⟩
 by_cases h2:q=r
 case neg=>
  have g1:(c != d)=false:=by simp [h1]
  have g2:(q != r)=true:=bne_t h2;have HR:=hid (show R=false by rw [hR];exact decide_eq_false (by intro h;exact h2 h.2.1));clear hR h1 h2 HE HF;go_wp2
  go_ret;exact ⟨by rw [HR.out];rfl,HB.out⟩
 by_cases h3:t=y
 case neg=>
  have g1:(c != d)=false:=by simp [h1]
  have g2:(q != r)=false:=by simp [h2]
  have g3:(t != y)=true:=bne_t h3;have HR:=hid (show R=false by rw [hR];exact decide_eq_false (by intro h;exact h3 h.2.2.1));clear hR h1 h2 h3 HE HF;go_wp2
  go_ret;exact ⟨by rw [HR.out];rfl,HB.out⟩
 have g1:(c != d)=false:=by simp [h1]
 have g2:(q != r)=false:=by simp [h2]
 have g3:(t != y)=false:=by simp [h3]
 replace hR:R=decide (es=fs):=by rw [hR];simp [h1,h2,h3]
 clear h1 h2 h3;by_cases h4:es.length=fs.length
 case neg=>
  have g4:((es.length:Int) != (fs.length:Int))=true:=bne_t (by omega);have HR:=hid (show R=false by rw [hR];exact decide_eq_false (by rintro rfl;exact h4 rfl));clear hR h4 HE HF;go_wp2
  go_ret;exact ⟨by rw [HR.out];rfl,HB.out⟩
 have g4:((es.length:Int) != (fs.length:Int))=false:=by simp;omega
 have HR:=hid hR;have HL:=hid h4;clear hR h4;go_wp2
 clear g1 g2 g3 g4 c0 c1 c2 c3 d0 d1 d2 d3;go_loopw [5] (fun i wr=>∃ k:Nat,k<=es.length/\i = .int .i64 k/\Hid (R=decide (es.drop k=fs.drop k))/\Hid (Below w1.heap.size w1 wr)) (fun i _=>es.length - (intOf i).toNat)
 case atStart=>exact ⟨0,Nat.zero_le _,rfl,HR,hid (Below.refl _ _)⟩
 case round=>
  obtain ⟨k,hk,rfl,hc,hbw⟩:=hrel;obtain ⟨c0,c1,c2,c3⟩:=ubox (below_block HX.out hbw.out);by_cases hlt:k<es.length
  ·have hq:(k:Int)<(es.length:Int):=by omega
   have hlt2:k<fs.length:=by have:=HL.out;omega
   have hq2:(k:Int)<(fs.length:Int):=by omega
   have hat:=List.getElem?_eq_getElem hlt;have hat2:=List.getElem?_eq_getElem hlt2;have hdx:=drop_get hlt;have hdy:=drop_get hlt2;generalize es[k]=e at hat hdx;generalize fs[k]=f at hat2 hdy;have HDX:=hid (show R=decide (e=f/\es.drop (k+1)=fs.drop (k+1)) by rw [hc.out];exact decide_eq_decide.2 (by rw [list_drop_eq hdx hdy]));obtain ⟨k',o',f',n',s'⟩:=e;obtain ⟨k2',o2,f2,n2,s2⟩:=f;have HBW:=hid (bnext HB.out hbw.out);obtain ⟨b,p,hi,hbb,e0,e1,e2,e3,e4⟩:=atEf HE.out k _ _ _ _ _ hat
   obtain ⟨bb,pp,hi2,hbb2,f0,f1,f2',f3,f4⟩:=atEf HF.out k _ _ _ _ _ hat2;have hneq:=fun w=>neq_ev k' o' f' n' s' k2' o2 f2 n2 s2 w
   obtain ⟨Z,hZ⟩:∃ Z:Bool,Z=decide ((k',o',f',n',s')=(k2',o2,f2,n2,s2)):=⟨_,rfl⟩
   rw [<- hZ] at hneq;have hgm:Tryz.prog.eqGuardType Tryz.prog.depth 138=false:=by kernel_rfl
   have l0:∀ p':Later wr,p'.val.cell? ⟨b,p,none⟩=some (.int .i64 k'):=fun p'=>below_cell (bnext HBW.out p'.h) e0
   have l1:∀ p':Later wr,p'.val.cell? ⟨b,p+1,none⟩=some (.string o'):=fun p'=>below_cell (bnext HBW.out p'.h) e1
   have l2:∀ p':Later wr,p'.val.cell? ⟨b,p+2,none⟩=some (.string f'):=fun p'=>below_cell (bnext HBW.out p'.h) e2
   have l3:∀ p':Later wr,p'.val.cell? ⟨b,p+3,none⟩=some (.int .i64 n'):=fun p'=>below_cell (bnext HBW.out p'.h) e3
   have l4:∀ p':Later wr,p'.val.cell? ⟨b,p+4,none⟩=some (.string s'):=fun p'=>below_cell (bnext HBW.out p'.h) e4
   have r0:∀ p':Later wr,p'.val.cell? ⟨bb,pp,none⟩=some (.int .i64 k2'):=fun p'=>below_cell (bnext HBW.out p'.h) f0
   have r1:∀ p':Later wr,p'.val.cell? ⟨bb,pp+1,none⟩=some (.string o2):=fun p'=>below_cell (bnext HBW.out p'.h) f1
   have r2:∀ p':Later wr,p'.val.cell? ⟨bb,pp+2,none⟩=some (.string f2):=fun p'=>below_cell (bnext HBW.out p'.h) f2'
   have r3:∀ p':Later wr,p'.val.cell? ⟨bb,pp+3,none⟩=some (.int .i64 n2):=fun p'=>below_cell (bnext HBW.out p'.h) f3
   have r4:∀ p':Later wr,p'.val.cell? ⟨bb,pp+4,none⟩=some (.string s2):=fun p'=>below_cell (bnext HBW.out p'.h) f4
   have m3:∀ p':Later wr,p'.val.cell? ⟨w.heap.size,3,none⟩=some (.slice a1 es.length k1):=fun p'=>(ubox (below_block HX.out (bnext hbw.out p'.h))).2.2.2
   have m7:∀ p':Later wr,p'.val.cell? ⟨w.heap.size+1,3,none⟩=some (.slice a2 fs.length k2):=fun p'=>(ubox (below_block HY.out (bnext hbw.out p'.h))).2.2.2
   clear hat hat2 hdx hdy hc e0 e1 e2 e3 e4 f0 f1 f2' f3 f4 hbb hbb2;go_wp2
   refine wp_region_later (by kernel_rfl) (by kernel_rfl) ?_;repeat (go_big_quiet_step (fail))
   refine wpQuiet_nil ?_;rintro _ ⟨p',rfl⟩;have hbx:=hid (bnext hbw.out p'.h);have HZ:=hid hZ;clear l0 l1 l2 l3 l4 r0 r1 r2 r3 r4 m3 m7 HBW hZ hneq c0 c1 c2 c3;generalize p'.val=wr2 at hbx ⊢;clear hbw;by_cases he:(k',o',f',n',s')=(k2',o2,f2,n2,s2)
   ·have HR1:=hid (show R=decide (es.drop (k+1)=fs.drop (k+1)) by rw [HDX.out];exact decide_eq_decide.2 ⟨fun h=>h.2,fun h=>⟨he,h⟩⟩);clear HDX HZ;simp only [Prod.mk.injEq] at he;obtain ⟨rfl,rfl,rfl,rfl,rfl⟩:=he;go_wp2
    go_roundw
    case rel=>exact ⟨k+1,by omega,by go_num,HR1,hbx⟩
    case measure=>simp [intOf];omega
   ·have HR1:=hid (show R=false by rw [HDX.out];exact decide_eq_false (by intro h;exact he h.1));clear HDX HZ;simp only [Prod.mk.injEq] at he;have HHe:=hid he;clear he;go_wp2
    all_goals first | (exfalso;rename_i hh;simp at hh;exact HHe.out hh) | skip
    go_ret;exact ⟨by rw [HR1.out];rfl,bnext HB.out hbx.out⟩
  have hq:¬ ((k:Int)<(es.length:Int)):=by omega
  have HR1:=hid (show R=true by rw [hc.out,List.drop_of_length_le (by omega),List.drop_of_length_le (by have:=HL.out;omega)];rfl);go_wp2
  go_ret;exact ⟨by rw [HR1.out];rfl,bnext HB.out hbw.out⟩
end
end Go.Proofs.YtahcehbgfhdbjaaGreatDoor

