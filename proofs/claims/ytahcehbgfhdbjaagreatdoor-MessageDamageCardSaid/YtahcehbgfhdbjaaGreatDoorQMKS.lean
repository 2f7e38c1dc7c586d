/-
  KS: joined texts, what nothing names left out.
-/
import Derived.Test.YtahcehbgfhdbjaaGreatDoorQMKB
import Derived.Test.YtahcehbgfhdbjaaGreatDoorQMKO
set_option maxHeartbeats 1000000
set_option maxRecDepth 100000
open Go.Lib (hid)
namespace Go.Proofs.YtahcehbgfhdbjaaGreatDoor
section
open Go.RowKit
open WM (Bytes enc dec)
theorem strCells_nums (s:ByteArray):SO.strCells s=(nums s).map (Value.int .u8):=by simp [SO.strCells,nums]
section
variable {w:World} {ops:Array Oper} {rest:List Oper} {o:Oper} {a:Act} {Q:Exit->Act->World->Prop} {base:Nat} {v:Value} {ys:List Int}
instance (c:Int):Decidable (WM.isByte c):=inferInstanceAs (Decidable (_/\_))
theorem wp_appT {st:ByteArray} (hgd:o.guard=none) (s x:Operand) (ho:o.op = .call { callee:=.builtin .append,args:=#[s,x],argTypes:=#[39,9] })
  (hs:a.eval s=v) (hown:Own base w v ys) (hx:a.eval x = .string st) (hlen:ys.length<=35184372088832) (hlen2:st.size<=35184372088832) (hb:base<=w.heap.size)
  (h:∀ v' w',Own base w' v' (ys++nums st)->Below base w w'->wpList Tryz.prog ops Q rest (a.put o.dst v') w') :
  wpList Tryz.prog ops Q (o :: rest) a w:=by
 obtain ⟨i0,hi,hz0,hz1,hz2⟩:=info_parts infoU8;have hnl:=nums_length st;refine SO.wpList_append_own_string hgd s x 39 9 ho base 5 i0 (.int .u8 0) Tryz.underlying39 Tryz.underlying9 hi hz0 hz1 rfl _ _ _ hs hown.1 st hx ?_ ?_ hb ?_
 ·unfold maxLen;omega
 ·rw [hz2];omega
 ·intro v' w1 ho1 hg1;exact h v' w1 ⟨by simpa [strCells_nums,hnl] using ho1,Bytes.append hown.2 (nums_bytes st)⟩ ((Below.refl _ _).grown hg1 hb (fun k hk=>(hown.1.lt k hk).1))
end
theorem wAppendString (v:Value) (xs:List Int) (s:ByteArray) (w:World) (h:Rd w v xs) (hlen:xs.length<=1099511627776) (hs:s.size<=1099511627776) :
  Calls Tryz.prog 173 #[v,.string s] w fun e w'=>∃ v',e = .returned v'/\Own w.heap.size w' v' (xs++enc s.size++nums s)/\Below w.heap.size w w':=by
 have hc:=wAppendUint v xs s.size w h hlen (by omega);have hl10:=WM.enc_len10 s.size (by omega);go_enter Tryz.func173,Tryz.ntmps173
 go_wp2_with fail
 refine hc.mono ?_;rintro e w1 ⟨v1,rfl,hown,hb⟩;clear hc;have hsz:=hb.size;have hl:(xs++enc s.size).length<=35184372088832:=by rw [List.length_append];omega
 go_wp2_with (at_builtin;refine wp_appT rfl _ _ rfl rfl hown rfl hl (by omega) hsz ?_)
 intro v2 w2 ho2 hb2;go_wp2
 go_ret;exact ⟨v2,rfl,by rw [List.append_assoc];exact ho2,hb.trans hb2⟩
def decS (xs:List Int):List Int×Int×Int:=
 if (dec 0 0 xs).2.2=0 then (if (xs.length:Int) - (dec 0 0 xs).2.1<(dec 0 0 xs).1 then ([],0,1)
  else ((xs.drop (dec 0 0 xs).2.1.toNat).take (dec 0 0 xs).1.toNat,(dec 0 0 xs).2.1+(dec 0 0 xs).1,0)) else ([],0,(dec 0 0 xs).2.2)
theorem decS_err {xs:List Int} {e:Int} (h:dec 0 0 xs=(0,0,e)) (he:e≠0):decS xs=([],0,e):=by unfold decS;rw [h];simp [he]
theorem decS_short {xs:List Int} {m:Nat} (h:dec 0 0 xs=((m:Int),((enc m).length:Int),0)) (hl:(xs.length:Int) - (enc m).length<m):decS xs=([],0,1):=by unfold decS;rw [h];simp [hl]
theorem decS_ok {xs:List Int} {m:Nat} (h:dec 0 0 xs=((m:Int),((enc m).length:Int),0)) (hl:¬ (xs.length:Int) - (enc m).length<m) :
  decS xs=((xs.drop (enc m).length).take m,(((enc m).length+m:Nat):Int),0):=by unfold decS;rw [h];simp [hl]
theorem wString (v:Value) (xs:List Int) (w:World) (h:Rd w v xs) :
  Calls Tryz.prog 184 #[v] w fun e w'=>e = .returned (.tuple #[.string (strOfNums (decS xs).1),.int .i64 (decS xs).2.1,.int .i64 (decS xs).2.2])/\w=w':=by
 have hc:=wUint v xs w h;obtain ⟨a,n,c,rfl,h1,h2,h3,_⟩:=id h;subst h1;unfold maxLen at h3;rcases WM.dec_two xs h.bytes with ⟨e,he,hd⟩ | ⟨m,hm,hd,hml,_⟩
 ·have he0:e≠0:=by rcases he with rfl | rfl | rfl <;> decide
  rw [hd] at hc;rw [decS_err hd he0];have he2:(e != 0)=true:=by rcases he with rfl | rfl | rfl <;> rfl
  clear he hd he0 h;go_enter Tryz.func184,Tryz.ntmps184
  go_wp2_with fail
  refine hc.mono ?_;rintro e w1 ⟨rfl,rfl⟩;clear hc;go_wp2
  go_ret3;exact ⟨rfl,rfl⟩
 ·rw [hd] at hc;by_cases hl:(xs.length:Int) - (enc m).length<m
  ·rw [decS_short hd hl];clear hd h;go_enter Tryz.func184,Tryz.ntmps184
   go_wp2_with fail
   refine hc.mono ?_;rintro e w1 ⟨rfl,rfl⟩;clear hc;go_wp2
   go_ret3;exact ⟨rfl,rfl⟩
  ·rw [decS_ok hd hl];obtain ⟨v',hv',hsl,hrd⟩:=h.cut (enc m).length ((enc m).length+m) (by omega) (by omega);have hst:=hrd.str;rw [show (enc m).length+m - (enc m).length=m from by omega] at hst;rw [show (((enc m).length+m:Nat):Int)=((enc m).length:Int)+m from by omega] at hsl ⊢;clear hd h hrd hv' hm;go_enter Tryz.func184,Tryz.ntmps184
   go_wp2_with fail
   refine hc.mono ?_;rintro e w1 ⟨rfl,rfl⟩;clear hc;go_wp2
   go_ret3;exact ⟨rfl,rfl⟩
theorem rString (v:Value) (xs:List Int) (w:World) (h:Rd w v xs) :
  Calls Tryz.prog 171 #[v] w fun e w'=>e = .returned (.tuple #[.string (strOfNums (decS xs).1),.int .i64 (decS xs).2.1,.int .i64 (decS xs).2.2])/\w=w':=by
 have hc:=rUint v xs w h;obtain ⟨a,n,c,rfl,h1,h2,h3,_⟩:=id h;subst h1;unfold maxLen at h3;rcases WM.dec_two xs h.bytes with ⟨e,he,hd⟩ | ⟨m,hm,hd,hml,_⟩
 ·have he0:e≠0:=by rcases he with rfl | rfl | rfl <;> decide
  rw [hd] at hc;rw [decS_err hd he0];have he2:(e != 0)=true:=by rcases he with rfl | rfl | rfl <;> rfl
  clear he hd he0 h;go_enter Tryz.func171,Tryz.ntmps171
  go_wp2_with fail
  refine hc.mono ?_;rintro e w1 ⟨rfl,rfl⟩;clear hc;go_wp2
  go_ret3;exact ⟨rfl,rfl⟩
 ·rw [hd] at hc;by_cases hl:(xs.length:Int) - (enc m).length<m
  ·rw [decS_short hd hl];clear hd h;go_enter Tryz.func171,Tryz.ntmps171
   go_wp2_with fail
   refine hc.mono ?_;rintro e w1 ⟨rfl,rfl⟩;clear hc;go_wp2
   go_ret3;exact ⟨rfl,rfl⟩
  ·rw [decS_ok hd hl];obtain ⟨v',hv',hsl,hrd⟩:=h.cut (enc m).length ((enc m).length+m) (by omega) (by omega);have hst:=hrd.str;rw [show (enc m).length+m - (enc m).length=m from by omega] at hst;rw [show (((enc m).length+m:Nat):Int)=((enc m).length:Int)+m from by omega] at hsl ⊢;clear hd h hrd hv' hm;go_enter Tryz.func171,Tryz.ntmps171
   go_wp2_with fail
   refine hc.mono ?_;rintro e w1 ⟨rfl,rfl⟩;clear hc;go_wp2
   go_ret3;exact ⟨rfl,rfl⟩
def decB:List Int->Bool×Int×Int
 | []=>(false,0,1)
 | c :: _=>if 1<c then (false,0,2) else (c==1,1,0)
def bit (b:Bool):Int:=if b then 1 else 0
theorem wBool (v:Value) (xs:List Int) (w:World) (h:Rd w v xs) :
  Calls Tryz.prog 127 #[v] w fun e w'=>e = .returned (.tuple #[.bool (decB xs).1,.int .i64 (decB xs).2.1,.int .i64 (decB xs).2.2])/\w=w':=by
 have hbytes:=h.bytes;rcases h.cases with ⟨rfl,a,c,rfl,_,_⟩ | ⟨hp,b,off,c,rfl,_,hcm,_,hc⟩
 ·clear hbytes h;go_enter Tryz.func127,Tryz.ntmps127
  go_wp2
  go_ret3;exact ⟨rfl,rfl⟩
 ·clear h;obtain ⟨y,hcell,hy0,hy1,hds⟩:=byte_at hbytes hc hp;have hd:decB xs=decB (y :: xs.drop 1):=by rw [<- hds.out];rfl
  rw [hd];clear hd hds hc hbytes;rw [Nat.add_zero] at hcell;unfold maxLen at hcm;have hq:((xs.length:Int)==0)=false:=beq_eq_false_iff_ne.2 (by omega);by_cases h1:1<y
  ·have he:decB (y :: xs.drop 1)=(false,0,2):=by simp [decB,h1]
   rw [he];clear he;go_enter Tryz.func127,Tryz.ntmps127
   go_wp2
   go_ret3;exact ⟨rfl,rfl⟩
  ·have he:decB (y :: xs.drop 1)=(y==1,1,0):=by simp [decB,h1]
   rw [he];clear he;go_enter Tryz.func127,Tryz.ntmps127
   go_wp2
   go_ret3;exact ⟨rfl,rfl⟩
theorem rBool (v:Value) (xs:List Int) (w:World) (h:Rd w v xs) :
  Calls Tryz.prog 96 #[v] w fun e w'=>e = .returned (.tuple #[.bool (decB xs).1,.int .i64 (decB xs).2.1,.int .i64 (decB xs).2.2])/\w=w':=by
 have hbytes:=h.bytes;rcases h.cases with ⟨rfl,a,c,rfl,_,_⟩ | ⟨hp,b,off,c,rfl,_,hcm,_,hc⟩
 ·clear hbytes h;go_enter Tryz.func96,Tryz.ntmps96
  go_wp2
  go_ret3;exact ⟨rfl,rfl⟩
 ·clear h;obtain ⟨y,hcell,hy0,hy1,hds⟩:=byte_at hbytes hc hp;have hd:decB xs=decB (y :: xs.drop 1):=by rw [<- hds.out];rfl
  rw [hd];clear hd hds hc hbytes;rw [Nat.add_zero] at hcell;unfold maxLen at hcm;have hq:((xs.length:Int)==0)=false:=beq_eq_false_iff_ne.2 (by omega);by_cases h1:1<y
  ·have he:decB (y :: xs.drop 1)=(false,0,2):=by simp [decB,h1]
   rw [he];clear he;go_enter Tryz.func96,Tryz.ntmps96
   go_wp2
   go_ret3;exact ⟨rfl,rfl⟩
  ·have he:decB (y :: xs.drop 1)=(y==1,1,0):=by simp [decB,h1]
   rw [he];clear he;go_enter Tryz.func96,Tryz.ntmps96
   go_wp2
   go_ret3;exact ⟨rfl,rfl⟩
theorem wAppendBool (v:Value) (xs:List Int) (t:Bool) (w:World) (h:Rd w v xs) (hlen:xs.length<=1099511627776) :
  Calls Tryz.prog 105 #[v,.bool t] w fun e w'=>∃ v',e = .returned v'/\Own w.heap.size w' v' (xs ++ [bit t])/\Below w.heap.size w w':=by
 have hc:=clone_any v xs w h hlen;cases t
 all_goals
  go_enter Tryz.func105,Tryz.ntmps105
  go_wp2_with fail
  refine hc.mono ?_;rintro e w1 ⟨v1,rfl,hown,hb⟩;clear hc;have hsz:=hb.size;go_wp2_with (at_builtin;refine wp_app1 rfl _ _ rfl rfl hown rfl (by decide) (by omega) hsz ?_)
  intro v2 w2 ho2 hb2;go_wp2
  go_ret;exact ⟨v2,rfl,ho2,hb.trans hb2⟩
end
section
open Go.RowKit
open WM (Bytes enc dec zig zag)
theorem zig_pos (z:Int) (h:0<=z):(zig z:Int)=2*z:=by unfold zig;rw [if_pos h];omega
theorem zig_neg (z:Int) (h:¬ 0<=z):(zig z:Int) = -2*z - 1:=by unfold zig;rw [if_neg h];omega
theorem not64 (z:Int) (h1 : -9223372036854775808<=z) (h2:z<=9223372036854775807):bits .xor .i64 (-1) z = -z - 1:=by
 show IntKind.i64.wrap ((BitVec.ofInt 64 (-1) ^^^ BitVec.ofInt 64 z).toNat:Int)=_
 have e1:BitVec.ofInt 64 (-1)=BitVec.allOnes 64:=by decide
 have e2:((BitVec.ofInt 64 z).toNat:Int)=z % 18446744073709551616:=by rw [BitVec.toNat_ofInt];simp;omega
 have h3:=(BitVec.ofInt 64 z).isLt;rw [e1,BitVec.allOnes_xor,BitVec.toNat_not];generalize (BitVec.ofInt 64 z).toNat=q at e2 h3;simp [IntKind.wrap,IntKind.bits,IntKind.signed]
 omega
theorem wAppendInt (v:Value) (xs:List Int) (z:Int) (w:World) (h:Rd w v xs) (hlen:xs.length<=1099511627776) (hz : -9223372036854775808<=z) (hz2:z<=9223372036854775807) :
  Calls Tryz.prog 174 #[v,.int .i64 z] w fun e w'=>∃ v',e = .returned v'/\Own w.heap.size w' v' (xs++enc (zig z))/\Below w.heap.size w w':=by
 have hc:=wAppendUint v xs (zig z) w h hlen (WM.zig_lt z hz hz2);by_cases h0:0<=z
 ·rw [zig_pos z h0] at hc;go_enter Tryz.func174,Tryz.ntmps174
  go_wp2_with fail
  refine hc.mono ?_;rintro e w1 ⟨v1,rfl,hown,hb⟩;go_wp2
  go_ret;exact ⟨v1,rfl,hown,hb⟩
 ·rw [zig_neg z h0] at hc;have hx:=hid (not64 z hz hz2);go_enter Tryz.func174,Tryz.ntmps174
  go_wp2_with fail
  have e:IntKind.u64.wrap (IntKind.u64.wrap (2*IntKind.u64.wrap (bits BinOp.xor IntKind.i64 (-1) z))+1) = -2*z - 1:=by
   rw [hx.out];simp only [IntKind.wrap_u64];omega
  rw [e];refine hc.mono ?_;rintro e w1 ⟨v1,rfl,hown,hb⟩;go_wp2
  go_ret;exact ⟨v1,rfl,hown,hb⟩
theorem zag_odd' (m:Nat) (hp:m % 2=1):zag (m:Int) = -((m:Int) / 2) - 1:=by unfold zag;rw [if_neg (by omega)]
theorem zag_odd (m:Nat) (hm:m<18446744073709551616) (hp:m % 2=1):zag (m:Int)=bits BinOp.xor IntKind.i64 (-1) ((m:Int) / 2):=by rw [zag_odd' m hp,not64 _ (by omega) (by omega)]
theorem zag_even (m:Nat) (hp:¬ m % 2=1):zag (m:Int)=(m:Int) / 2:=by unfold zag;rw [if_pos (by omega)]
theorem wInt (v:Value) (xs:List Int) (w:World) (h:Rd w v xs) :
  Calls Tryz.prog 186 #[v] w fun e w'=>e = .returned (.tuple #[.int .i64 (zag (dec 0 0 xs).1),.int .i64 (dec 0 0 xs).2.1,.int .i64 (dec 0 0 xs).2.2])/\w=w':=by
 have hc:=wUint v xs w h;rcases WM.dec_two xs h.bytes with ⟨e,he,hd⟩ | ⟨m,hm,hd,_,_⟩
 ·rw [hd] at hc ⊢;have he1:(e==0)=false:=by rcases he with rfl | rfl | rfl <;> rfl
  have he2:(e != 0)=true:=by rcases he with rfl | rfl | rfl <;> rfl
  clear he hd;go_enter Tryz.func186,Tryz.ntmps186
  go_wp2_with fail
  refine hc.mono ?_;rintro e w1 ⟨rfl,rfl⟩;clear hc;go_wp2
  go_ret3;exact ⟨rfl,rfl⟩
 ·rw [hd] at hc ⊢;clear hd;by_cases hp:m % 2=1
  ·have hq:(((m:Int) % 2)==1)=true:=by simp;omega
   go_enter Tryz.func186,Tryz.ntmps186
   go_wp2_with fail
   refine hc.mono ?_;rintro e w1 ⟨rfl,rfl⟩;clear hc;go_wp2
   go_ret3;exact ⟨by rw [zag_odd m hm hp];rfl,rfl⟩
  ·have hq:(((m:Int) % 2)==1)=false:=by simp;omega
   go_enter Tryz.func186,Tryz.ntmps186
   go_wp2_with fail
   refine hc.mono ?_;rintro e w1 ⟨rfl,rfl⟩;clear hc;go_wp2
   go_ret3;exact ⟨by rw [zag_even m hp];rfl,rfl⟩
theorem rInt (v:Value) (xs:List Int) (w:World) (h:Rd w v xs) :
  Calls Tryz.prog 172 #[v] w fun e w'=>e = .returned (.tuple #[.int .i64 (zag (dec 0 0 xs).1),.int .i64 (dec 0 0 xs).2.1,.int .i64 (dec 0 0 xs).2.2])/\w=w':=by
 have hc:=rUint v xs w h;rcases WM.dec_two xs h.bytes with ⟨e,he,hd⟩ | ⟨m,hm,hd,_,_⟩
 ·rw [hd] at hc ⊢;have he1:(e==0)=false:=by rcases he with rfl | rfl | rfl <;> rfl
  have he2:(e != 0)=true:=by rcases he with rfl | rfl | rfl <;> rfl
  clear he hd;go_enter Tryz.func172,Tryz.ntmps172
  go_wp2_with fail
  refine hc.mono ?_;rintro e w1 ⟨rfl,rfl⟩;clear hc;go_wp2
  go_ret3;exact ⟨rfl,rfl⟩
 ·rw [hd] at hc ⊢;clear hd;by_cases hp:m % 2=1
  ·have hq:(((m:Int) % 2)==0)=false:=by simp;omega
   go_enter Tryz.func172,Tryz.ntmps172
   go_wp2_with fail
   refine hc.mono ?_;rintro e w1 ⟨rfl,rfl⟩;clear hc;go_wp2
   go_ret3;exact ⟨by rw [zag_odd' m hp];rfl,rfl⟩
  ·have hq:(((m:Int) % 2)==0)=true:=by simp;omega
   go_enter Tryz.func172,Tryz.ntmps172
   go_wp2_with fail
   refine hc.mono ?_;rintro e w1 ⟨rfl,rfl⟩;clear hc;go_wp2
   go_ret3;exact ⟨by rw [zag_even m hp];rfl,rfl⟩
end
end Go.Proofs.YtahcehbgfhdbjaaGreatDoor

