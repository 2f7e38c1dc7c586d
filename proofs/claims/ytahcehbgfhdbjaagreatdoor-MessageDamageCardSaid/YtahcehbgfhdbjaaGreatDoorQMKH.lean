/-
  KH: joined texts, what nothing names left out.
-/
import Derived.Deep.LoopGhost
import Derived.Test.YtahcehbgfhdbjaaGreatDoorQMKG
import Derived.StillTailTactics
import Derived.Lib.AppendZerosOnto
import Derived.Lib.LazyBuf
import Derived.Deep.RegionHeld3
namespace Go.Proofs.YtahcehbgfhdbjaaGreatDoor
section
open Go.RowKit
open JM (Chg)
open CM (Fp)
theorem OwnF.snoc {w0 w':World} {base:Nat} {v':Value} {qs:List Pro} {fs:List Fp} {q:Pro} {f:Fp} (h:OwnQ base w' v' (qs ++ [q])) (ht:Tel w0 qs fs) (k:Tell1 w0 q f):OwnF w0 base w' v' (fs ++ [f]):=
 ⟨_,h,Tel.app ht (Tel.one k)⟩
end
section
open Go.RowKit
open JM (Chg)
open CM (Fp)
theorem OwnF.out {w0 w:World} {base:Nat} {v:Value} {fs:List Fp} (h:OwnF w0 base w v fs):∃ qs,OwnQ base w v qs/\Tel w0 qs fs/\qs.length=fs.length:=by
 obtain ⟨qs,h1,h2⟩:=h;exact ⟨qs,h1,h2,h2.len⟩
end
section
open Go.RowKit
open JM (Chg)
open CM (Fp)
open VM (Ent)
namespace CM
def vput (v:List Ent) (f:Fp):List Ent:=if v.length≠0/\(v.getD (v.length - 1) (0,0)).1=f.1 then v.set (v.length - 1) (f.1,(v.getD (v.length - 1) (0,0)).2+1) else v ++ [(f.1,1)]
def vo (fs:List Fp):List Ent:=fs.foldl vput []
def vr (fs:List Fp):List Ent:=fs.foldl (fun v f=>VM.wi v f.1 (VM.cnt v f.1+1)) []
theorem vr_snoc (fs:List Fp) (f:Fp):vr (fs ++ [f])=VM.wi (vr fs) f.1 (VM.cnt (vr fs) f.1+1):=by unfold vr;rw [List.foldl_append];rfl
theorem vr_spec {fs:List Fp} (h:∀ x∈fs,errF x=0) (hl:fs.length<=1000):VM.Val 0 (vr fs)/\(∀ a,VM.cnt (vr fs) a=ct fs a)/\(vr fs).length<=fs.length:=by
 obtain ⟨n,hn⟩:∃ n,n=fs.length:=⟨_,rfl⟩
 induction n generalizing fs with
 | zero=>
      obtain rfl:fs = []:=List.eq_nil_of_length_eq_zero hn.symm;exact ⟨trivial,fun a=>rfl,Nat.le_refl _⟩
 | succ n ih=>
  rcases List.eq_nil_or_concat fs with rfl | ⟨g,f,rfl⟩
  ·simp at hn
  ·rw [List.concat_eq_append] at *;rw [List.length_append,List.length_singleton] at hn hl;obtain ⟨i1,i2,i3⟩:=ih (fs:=g) (fun x hx=>h x (by simp [hx])) (by omega) (by omega);have hf:=errF_num (h f (by simp));have hc:=ct_pos g f.1;have hcl:=ct_len g f.1;rw [vr_snoc];have hw:=VM.wi_spec (a:=f.1) (c:=VM.cnt (vr g) f.1+1) (by omega) (by rw [i2];omega) (by rw [i2];omega) i1;refine ⟨hw.1,fun a=>?_,?_⟩
   ·rw [hw.2 a,i2,i2,ct_snoc];split
    ·rename_i e;rw [e]
    ·omega
   ·have:=VM.wi_length (vr g) f.1 (VM.cnt (vr g) f.1+1);rw [List.length_append,List.length_singleton];omega
end CM
end
section
open Go.RowKit
open JM (Chg)
open CM (Fp)
open VM (Ent)
theorem OwnE.rdV {base:Nat} {w:World} {v:Value} {xs:List Ent} (h:OwnE base w v xs):VX.RdV w v xs:=h.vx.rd
theorem vo_take {fs:List Fp} (h:∀ x∈fs,CM.errF x=0) (hl:fs.length<=1000) (k:Nat):VM.Val 0 (CM.vr (fs.take k))/\(∀ a,VM.cnt (CM.vr (fs.take k)) a=CM.ct (fs.take k) a)/\(CM.vr (fs.take k)).length<=1000:=by
 have h1:=CM.vr_spec (fs:=fs.take k) (fun x hx=>h x (List.mem_of_mem_take hx)) (by rw [List.length_take];omega);exact ⟨h1.1,h1.2.1,by have:=h1.2.2;rw [List.length_take] at this;omega⟩
theorem rs_snoc (l:List Fp) (f:Fp) (g:Int->Int):CM.rs (l ++ [f]) g=CM.rs l g++if f.2.1<=g f.1 then [f] else []:=by
 unfold CM.rs;rw [List.filter_append];by_cases h:f.2.1<=g f.1
 ·rw [if_pos h,List.filter_cons_of_pos (by simpa using h)];rfl
 ·rw [if_neg h,List.filter_cons_of_neg (by simpa using h)];rfl
end
section
open Go.RowKit
open JM (Chg)
open CM (Fp)
open VM (Ent)
namespace CM
def addP (c:List Fp) (f:Fp):Int×List Fp:=
 if errF f≠0 then (errF f,[]) else if hasK c f.1 f.2.1=true then (5,[]) else if f.2.1≠ct c f.1+1 then (8,[]) else (0,un c [f])
end CM
end
end Go.Proofs.YtahcehbgfhdbjaaGreatDoor

