/-
  TB4: joined texts, what nothing names left out.
-/
import Derived.Test.YtahcehbgfhdbjaaGreatDoorQUTB3
set_option maxHeartbeats 1000000
set_option maxRecDepth 100000
open Go.Lib (hid)
namespace Go.Proofs.YtahcehbgfhdbjaaGreatDoor
section
open Go.RowKit
open JM (Chg)
open CM (Fp)
open VM (Ent)
theorem gValidate (v:Value) (fs:List Fp) (w:World) (h:RdF w v fs) :
  Calls Tryz.prog 63 #[v] w fun e w'=>e = .returned (.int .i64 (CM.errL (0,0) fs))/\Below w.heap.size w w':=by
 have HE:=hid (cElements w);have HS:=hid (fun w' (hb:Below w.heap.size w w')=>sValidate v fs w' (h.below hb));obtain ⟨va,vc,rfl,_,_⟩:=h.shape;clear h;go_enter Tryz.func63,Tryz.ntmps63
 go_wp2_with fail
 refine HE.out.mono ?_;rintro e w1 ⟨rfl,hb1⟩;have HS1:=hid (HS.out w1 hb1);have HB1:=hid hb1;clear HS HE hb1;go_wp2_with fail
 refine HS1.out.mono ?_;rintro e w2 ⟨rfl,hb2⟩;have HB2:=hid (bnext HB1.out hb2);go_wp2
 go_ret;exact ⟨rfl,HB2.out⟩
end
section
open Go.RowKit
open JM (Chg)
open CM (Fp)
open VM (Ent)
theorem gAppendC (v:Value) (bs:List Int) (u:Value) (fs:List Fp) (w:World) (h:Rd w v bs) (hu:RdF w u fs) (hok:CM.Ok fs) (hlen:bs.length<=1000000) :
  Calls Tryz.prog 106 #[v,u] w fun e w'=>∃ v',e = .returned v'/\Own w.heap.size w' v' (bs++CM.encL fs)/\Below w.heap.size w w':=by
 have HE:=hid (cElements w);have HS:=hid (fun w' (hb:Below w.heap.size w w')=>sAppend v bs u fs w' (h.below hb) (hu.below hb) hok hlen);obtain ⟨va,vc,rfl,_⟩:=h.shape;obtain ⟨ua,uc,rfl,_,_⟩:=hu.shape;clear h hu hok;go_enter Tryz.func106,Tryz.ntmps106
 go_wp2_with fail
 refine HE.out.mono ?_;rintro e w1 ⟨rfl,hb1⟩;have HS1:=hid (HS.out w1 hb1);have HB1:=hid hb1;clear HS HE hb1;go_wp2_with fail
 refine HS1.out.mono ?_;rintro e w2 ⟨v',rfl,ho2,hb2⟩;have HO2:=hid (ho2.mono HB1.out.size);have HB2:=hid (bnext HB1.out hb2);clear ho2;go_wp2
 go_ret;exact ⟨_,rfl,HO2.out,HB2.out⟩
end
end Go.Proofs.YtahcehbgfhdbjaaGreatDoor

