/-
  NKmM: joined texts, what nothing names left out.
-/
import Derived.Test.YtahcehbgfhdbjaaGreatDoorQMA14
namespace Go.Proofs.YtahcehbgfhdbjaaGreatDoor.NM
open VM (Ent)
theorem lenp {α:Type}:¬ (0<([]:List α).length):=by simp
theorem proc_srv {x:Int} (h:1<=x/\x<=12):proc x=true:=by
 unfold proc;rw [JM.isSrv_iff.2 h];rfl
theorem proc_cl {x:Int} (h:101<=x/\x<=106):proc x=true:=by
 unfold proc UM.isCl;rw [decide_eq_true h];simp
theorem errM_1 {p n r d tx:Int} {cg:List CM.Fp} {st:List SM.Fp} (hp:101<=p/\p<=106) (hn:1<=n/\n<=1000000) (hr:1<=r/\r<=1000000) (hd:1<=d/\d<=3) (ht:proc tx=true) (h1:CM.Ok cg) (h2:SM.Ok st) (h3:d=1->st = []) :
  errM ({k:=1,fr:=p,tx,p,n,r,d,cg,st}:Ms)=0:=by
 unfold CM.Ok at h1;unfold SM.Ok at h2;have hb:bad ({k:=1,fr:=p,tx,p,n,r,d,cg,st}:Ms)=false:=by simp [bad,uA,uM,uS,uB,uC,uH,uO,emp]
 have hx:errX ({k:=1,fr:=p,tx,p,n,r,d,cg,st}:Ms)=0:=by
  unfold errX UM.isCl;dsimp only;rw [if_neg (by rw [decide_eq_true hp];simp;omega),if_neg (by omega),if_neg (by omega),if_neg (by simp [h1]),if_neg (by simp [h2]),if_neg (by rintro ⟨e,hl⟩;rw [h3 e] at hl;exact lenp hl),if_neg (by decide)]
 unfold errM;dsimp only;rw [if_neg (by decide),if_neg (by rw [proc_cl hp,ht];simp),hb,if_neg (by simp),if_pos (.inl rfl),hx]
theorem errB_mk {m:Ms} (h1:CM.errC m.bf m.bt=0) (h2:CM.errC m.ef m.et=0) (h3:m.hb=false->m.bf = []/\m.bt = []):errB m=0:=by
 unfold errB;rw [if_neg,if_neg (by simp [h1]),h2];cases hb:m.hb with
 | true=>simp
 | false=>
  obtain ⟨e1,e2⟩:=h3 hb;rw [e1,e2];simp [emp]
theorem errM_2 {p n r fr:Int} {bf bt ef et:List CM.Fp} {hb:Bool} {cg:List CM.Fp} {st:List SM.Fp} (hp:101<=p/\p<=106) (hn:1<=n/\n<=1000000) (hr:1<=r/\r<=1000000) (hf:proc fr=true) (h1:CM.Ok cg) (h2:SM.Ok st)
  (b1:CM.errC bf bt=0) (b2:CM.errC ef et=0) (b3:hb=false->bf = []/\bt = []) :
  errM ({k:=2,fr,tx:=p,p,n,r,bf,bt,hb,ef,et,cg,st}:Ms)=0:=by
 unfold CM.Ok at h1;unfold SM.Ok at h2;have hB:=errB_mk (m:=({k:=2,fr,tx:=p,p,n,r,bf,bt,hb,ef,et,cg,st}:Ms)) b1 b2 b3;have hbd:bad ({k:=2,fr,tx:=p,p,n,r,bf,bt,hb,ef,et,cg,st}:Ms)=false:=by simp [bad,uA,uM,uS,uB,uC,uH,uO,emp]
 have hx:errX ({k:=2,fr,tx:=p,p,n,r,bf,bt,hb,ef,et,cg,st}:Ms)=0:=by
  unfold errX UM.isCl;dsimp only;rw [if_neg (by rw [decide_eq_true hp];simp;omega),if_neg (by omega),if_neg (by omega),if_neg (by simp [h1]),if_neg (by simp [h2]),if_neg (by omega),if_pos rfl,hB]
 unfold errM;dsimp only;rw [if_neg (by decide),if_neg (by rw [proc_cl hp,hf];simp),hbd,if_neg (by simp),if_pos (.inr rfl),hx]
theorem errM_4 {fr tx:Int} {cf ct:List CM.Fp} {hv:List Ent} (hf:proc fr=true) (ht:proc tx=true) (h1:CM.errC cf ct=0) (h2:VM.Val 0 hv) :
  errM ({k:=4,fr,tx,cf,ct,hv}:Ms)=0:=by
 have hbd:bad ({k:=4,fr,tx,cf,ct,hv}:Ms)=false:=by simp [bad,uA,uM,uS,uB,uC,uH,uO,emp]
 unfold errM;dsimp only;rw [if_neg (by decide),if_neg (by rw [hf,ht];simp),hbd,if_neg (by simp),if_neg (by decide),if_neg (by simp [h1]),if_pos rfl];exact (VM.err_val (Int.le_refl 0)).2 h2
theorem errM_5 {fr tx:Int} {cf ct bf bt ef et:List CM.Fp} {hb mo:Bool} {st:List SM.Fp} (hf:proc fr=true) (ht:proc tx=true) (h1:CM.errC cf ct=0) (h2:chk st=0)
  (b1:CM.errC bf bt=0) (b2:CM.errC ef et=0) (b3:hb=false->bf = []/\bt = []) :
  errM ({k:=5,fr,tx,cf,ct,bf,bt,hb,ef,et,st,mo}:Ms)=0:=by
 have hB:=errB_mk (m:=({k:=5,fr,tx,cf,ct,bf,bt,hb,ef,et,st,mo}:Ms)) b1 b2 b3;have hbd:bad ({k:=5,fr,tx,cf,ct,bf,bt,hb,ef,et,st,mo}:Ms)=false:=by simp [bad,uA,uM,uS,uB,uC,uH,uO,emp]
 unfold errM;dsimp only;rw [if_neg (by decide),if_neg (by rw [hf,ht];simp),hbd,if_neg (by simp),if_neg (by decide),if_neg (by simp [h1]),if_neg (by decide),if_neg (by simp [h2]),if_pos rfl,hB]
theorem errM_o {k fr tx:Int} {cf ct:List CM.Fp} (hk:1<=k/\k<=8) (n1:k≠1) (n2:k≠2) (n4:k≠4) (n5:k≠5) (hf:proc fr=true) (ht:proc tx=true) (h1:CM.errC cf ct=0) :
  errM ({k,fr,tx,cf,ct}:Ms)=0:=by
 have hbd:bad ({k,fr,tx,cf,ct}:Ms)=false:=by simp [bad,uA,uM,uS,uB,uC,uH,uO,emp,n1,n2]
 unfold errM;dsimp only;rw [if_neg (by omega),if_neg (by rw [hf,ht];simp),hbd,if_neg (by simp),if_neg (by omega),if_neg (by simp [h1]),if_neg n4,if_neg (by rintro ⟨h,_⟩;exact n5 h),if_neg n5]
theorem errC_part {p:List CM.Fp} (h:CM.Ok p) (g k:Int->Int):CM.errC (CM.rs (CM.rs p g) k) (CM.rs p g)=0:=
 CM.errC_mk ((h.rs g).rs k) (h.rs g) (CM.cons_rs_rs p g k)
theorem errC_nil:CM.errC [] []=0:=by decide
theorem chR_ok {l:List SM.Fp}:∀ {pr:Int×Int},(∀ x∈l,SM.errF x=0)->(∀ x∈l,pr.1<x.1∨(pr.1=x.1/\pr.2<x.2.1))->SM.Srt l->chR pr l=0:=by
 induction l with
 | nil=>intro pr _ _ _;rfl
 | cons f r ih=>
  intro pr h1 h2 h3;have h4:=List.pairwise_cons.1 h3;have h5:=h2 f (by simp);unfold chR;rw [if_neg (by simp [h1 f (by simp)]),if_neg (by unfold UM.cmpU;(repeat' split) <;> omega)];exact ih (fun x hx=>h1 x (by simp [hx])) (fun x hx=>h4.1 x hx) h4.2
theorem chk_bey {us:List SM.Fp} (h:SM.Ok us) (g:Int->Int):chk (SM.bey us g 4).1=0:=by
 have hs:List.Sublist (SM.bey us g 4).1 us:=(List.take_sublist _ _).trans List.filter_sublist;have hl:(SM.bey us g 4).1.length<=4:=by
  show ((SM.beyAll us g).take (4:Int).toNat).length<=4
  rw [List.length_take];show min 4 _<=4
  omega
 have h0:=(SM.errL_srt h).1;unfold chk;rw [if_neg (by omega)];exact chR_ok (fun x hx=>h.all x (hs.subset hx)) (fun x hx=>h0 x (hs.subset hx)) (List.Pairwise.sublist hs h.srt)
theorem bey_mem {us:List SM.Fp} {g:Int->Int} {n:Int} {x:SM.Fp} (hx:x∈(SM.bey us g n).1):x∈us:=
 ((List.take_sublist _ _).trans List.filter_sublist).subset hx
theorem cnt_mem {v:List Ent}:∀ {p:Int},VM.Val p v -> ∀ e∈v,VM.cnt v e.1=e.2/\1<=e.2/\e.2<=1000000:=by
 induction v with
 | nil=>intro p _ e he;cases he
 | cons x r ih=>
  intro p h e he;obtain ⟨h1,h2,h3,h4⟩:=h;rcases List.mem_cons.1 he with rfl | he
  ·exact ⟨by rw [VM.cnt_cons,if_pos rfl],h2,h3⟩
  ·obtain ⟨k1,k2,k3⟩:=ih h4 e he;refine ⟨?_,k2,k3⟩;rw [VM.cnt_cons,if_neg,k1];intro hx;have:=VM.cnt_low h4 (a:=e.1) (by omega);omega
theorem ct_mem {fs:List SM.Fp} {a:Int} (h:1<=SM.ct fs a):∃ f∈fs,f.1=a:=by
 unfold SM.ct at h;cases hl:fs.filter (fun f=>decide (f.1=a)) with
 | nil=>rw [hl] at h;simp at h
 | cons f r=>
  have:f∈fs.filter (fun f=>decide (f.1=a)):=by rw [hl];simp
  rw [List.mem_filter] at this;exact ⟨f,this.1,of_decide_eq_true this.2⟩
theorem fitH_vr {fs:List SM.Fp} (h:SM.Ok fs):VM.Val 0 (SM.vr fs)/\FitH (SM.vr fs):=by
 have h48:=h.all48;obtain ⟨h1,h2,h3⟩:=SM.vr_spec (fs:=fs) h.all (by omega);refine ⟨h1,by omega,fun e he=>?_⟩;obtain ⟨k1,k2,k3⟩:=cnt_mem h1 e he;rw [h2] at k1;obtain ⟨f,hf,hfa⟩:=ct_mem (fs:=fs) (a:=e.1) (by omega);have hn:=SM.errF_num (h.all f hf);unfold JM.small;omega
end Go.Proofs.YtahcehbgfhdbjaaGreatDoor.NM

