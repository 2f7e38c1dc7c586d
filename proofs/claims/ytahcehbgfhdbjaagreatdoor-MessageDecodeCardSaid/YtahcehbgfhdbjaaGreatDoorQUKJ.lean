/-
  KJ: joined texts, what nothing names left out.
-/
import Derived.Test.YtahcehbgfhdbjaaGreatDoorQUKI
import Derived.Test.YtahcehbgfhdbjaaGreatDoorQUKH
namespace Go.Proofs.YtahcehbgfhdbjaaGreatDoor
section
open Go.RowKit
open JM (Chg)
open CM (Fp)
def Good (base:Nat) (w:World) (q:Pro):Prop:=∃ cs,OwnC base w (.slice q.2.2.1 q.2.2.2.1 q.2.2.2.2) cs/\JM.errP q.1 q.2.1 cs=0
def Nxt (pr:Int×Int) (q:Pro):Prop:=(q.1=pr.1/\q.2.1=pr.2+1)∨(pr.1<q.1/\q.2.1=1)
def Chn:Int×Int->List Pro->Prop
 | _,[]=>True
 | pr,q :: r=>Nxt pr q/\Chn (q.1,q.2.1) r
def endK:Int×Int->List Pro->Int×Int
 | pr,[]=>pr
 | _,q :: r=>endK (q.1,q.2.1) r
def EndAt (e:Int×Int) (j i:Nat):Prop:=(i=0/\e.1<201+(j:Int))∨(0<i/\e=(201+(j:Int),(i:Int)))
def GoodL (base:Nat) (w:World) (qs:List Pro) (j i:Nat):Prop:=(∀ q∈qs,Good base w q)/\Chn (0,0) qs/\EndAt (endK (0,0) qs) j i
end
section
open Go.RowKit
open JM (Chg)
open CM (Fp)
open VM (Ent)
namespace CM
def agr1 (x:Fp) (b:List Fp):Bool:=b.all fun y=>!(decide (JM.cmpP x.1 x.2.1 y.1 y.2.1=0) && !eqP x.1 x.2.1 x.2.2 y.1 y.2.1 y.2.2)
def agr (a b:List Fp):Bool:=a.all fun x=>agr1 x b
end CM
def valid2 (xs ys:List Fp):Bool:=decide (CM.errL (0,0) xs=0) && (decide (CM.errL (0,0) ys=0) && CM.agr ys xs)
end
end Go.Proofs.YtahcehbgfhdbjaaGreatDoor

