import Derived.Test.YtkbinfhclaafhaaGreatDoorZ16
import Derived.Deep.RegionWith
import Derived.Lib.ValidU
import Derived.Lib.RuneCount
import Derived.Lib.Strings
import Derived.Test.YtkbinfhclaafhaaGreatDoorZ11
import Derived.Test.YtkbinfhclaafhaaGreatDoorZ13
import Derived.Deep.RegionLaw
import Derived.Deep.DrawnRows
import Derived.Test.YtkbinfhclaafhaaGreatDoorZ08
namespace Go.Proofs.YtkbinfhclaafhaaGreatDoor
open Go.RowKit
open Go.Proofs.Tryz
set_option maxRecDepth 100000
set_option maxHeartbeats 32000000
set_option linter.all false
theorem amF(s:ByteArray)(w:World)(c0:UInt8)(h0:0<s.size)(_hs:s.size<=10000)(e0:s[0]'h0=c0)(_p0:(240:Int)<=(c0.toNat:Int))(_p1:(c0.toNat:Int)<245)(_p2:(s.size:Int)<4):
  Calls prog 112 #[.string s] w fun e w'=>e= .returned (.int .i64 0)/\w'=w:=by
 go_enter func112,ntmps112;go_wp2;go_ret;exact⟨rfl,rfl⟩
theorem amA(s:ByteArray)(w:World)(c0 c1:UInt8)(h0:0<s.size)(h1:1<s.size)(_hs:s.size<=10000)(e0:s[0]'h0=c0)(e1:s[1]'h1=c1)(_p0:(240:Int)<=(c0.toNat:Int))(_p1:(c0.toNat:Int)<245)(_p2:(4:Int)<=(s.size:Int))(_p3:(c1.toNat:Int)<128):
  Calls prog 112 #[.string s] w fun e w'=>e= .returned (.int .i64 0)/\w'=w:=by
 have ha:bits .and .i64 (c0.toNat:Int) 7=((c0.toNat%8:Nat):Int):=yF ⟨c0.toNat,c0.toNat_lt⟩;go_enter func112,ntmps112;go_wp2;refine dw 1 ?_;rw [aY];go_wp2;go_ret;exact⟨rfl,rfl⟩
theorem amu(s:ByteArray)(w:World)(c0 c1:UInt8)(h0:0<s.size)(h1:1<s.size)(_hs:s.size<=10000)(e0:s[0]'h0=c0)(e1:s[1]'h1=c1)(_p0:(240:Int)<=(c0.toNat:Int))(_p1:(c0.toNat:Int)<245)(_p2:(4:Int)<=(s.size:Int))(_p3:(191:Int)<(c1.toNat:Int)):
  Calls prog 112 #[.string s] w fun e w'=>e= .returned (.int .i64 0)/\w'=w:=by
 have ha:bits .and .i64 (c0.toNat:Int) 7=((c0.toNat%8:Nat):Int):=yF ⟨c0.toNat,c0.toNat_lt⟩;go_enter func112,ntmps112;go_wp2;refine dw 1 ?_;rw [aY];go_wp2;go_ret;exact⟨rfl,rfl⟩
theorem amB(s:ByteArray)(w:World)(c0 c1 c2:UInt8)(h0:0<s.size)(h1:1<s.size)(h2:2<s.size)(_hs:s.size<=10000)(e0:s[0]'h0=c0)(e1:s[1]'h1=c1)(e2:s[2]'h2=c2)(_p0:(240:Int)<=(c0.toNat:Int))(_p1:(c0.toNat:Int)<245)(_p2:(4:Int)<=(s.size:Int))(_p3:(128:Int)<=(c1.toNat:Int))(_p4:(c1.toNat:Int)<=191)(_p5:(c2.toNat:Int)<128):
  Calls prog 112 #[.string s] w fun e w'=>e= .returned (.int .i64 0)/\w'=w:=by
 have ha:bits .and .i64 (c0.toNat:Int) 7=((c0.toNat%8:Nat):Int):=yF ⟨c0.toNat,c0.toNat_lt⟩;go_enter func112,ntmps112;go_wp2;refine dw 2 ?_;rw [aY];go_wp2;rw [aY];go_wp2;go_ret;exact⟨rfl,rfl⟩
theorem amv(s:ByteArray)(w:World)(c0 c1 c2:UInt8)(h0:0<s.size)(h1:1<s.size)(h2:2<s.size)(_hs:s.size<=10000)(e0:s[0]'h0=c0)(e1:s[1]'h1=c1)(e2:s[2]'h2=c2)(_p0:(240:Int)<=(c0.toNat:Int))(_p1:(c0.toNat:Int)<245)(_p2:(4:Int)<=(s.size:Int))(_p3:(128:Int)<=(c1.toNat:Int))(_p4:(c1.toNat:Int)<=191)(_p5:(191:Int)<(c2.toNat:Int)):
  Calls prog 112 #[.string s] w fun e w'=>e= .returned (.int .i64 0)/\w'=w:=by
 have ha:bits .and .i64 (c0.toNat:Int) 7=((c0.toNat%8:Nat):Int):=yF ⟨c0.toNat,c0.toNat_lt⟩;go_enter func112,ntmps112;go_wp2;refine dw 2 ?_;rw [aY];go_wp2;rw [aY];go_wp2;go_ret;exact⟨rfl,rfl⟩
theorem amC(s:ByteArray)(w:World)(c0 c1 c2 c3:UInt8)(h0:0<s.size)(h1:1<s.size)(h2:2<s.size)(h3:3<s.size)(_hs:s.size<=10000)(e0:s[0]'h0=c0)(e1:s[1]'h1=c1)(e2:s[2]'h2=c2)(e3:s[3]'h3=c3)(_p0:(240:Int)<=(c0.toNat:Int))(_p1:(c0.toNat:Int)<245)(_p2:(4:Int)<=(s.size:Int))(_p3:(128:Int)<=(c1.toNat:Int))(_p4:(c1.toNat:Int)<=191)(_p5:(128:Int)<=(c2.toNat:Int))(_p6:(c2.toNat:Int)<=191)(_p7:(c3.toNat:Int)<128):
  Calls prog 112 #[.string s] w fun e w'=>e= .returned (.int .i64 0)/\w'=w:=by
 have ha:bits .and .i64 (c0.toNat:Int) 7=((c0.toNat%8:Nat):Int):=yF ⟨c0.toNat,c0.toNat_lt⟩;go_enter func112,ntmps112;go_wp2;refine dw 3 ?_;rw [aY];go_wp2;rw [aY];go_wp2;rw [aY];go_wp2;go_ret;exact⟨rfl,rfl⟩
theorem amw(s:ByteArray)(w:World)(c0 c1 c2 c3:UInt8)(h0:0<s.size)(h1:1<s.size)(h2:2<s.size)(h3:3<s.size)(_hs:s.size<=10000)(e0:s[0]'h0=c0)(e1:s[1]'h1=c1)(e2:s[2]'h2=c2)(e3:s[3]'h3=c3)(_p0:(240:Int)<=(c0.toNat:Int))(_p1:(c0.toNat:Int)<245)(_p2:(4:Int)<=(s.size:Int))(_p3:(128:Int)<=(c1.toNat:Int))(_p4:(c1.toNat:Int)<=191)(_p5:(128:Int)<=(c2.toNat:Int))(_p6:(c2.toNat:Int)<=191)(_p7:(191:Int)<(c3.toNat:Int)):
  Calls prog 112 #[.string s] w fun e w'=>e= .returned (.int .i64 0)/\w'=w:=by
 have ha:bits .and .i64 (c0.toNat:Int) 7=((c0.toNat%8:Nat):Int):=yF ⟨c0.toNat,c0.toNat_lt⟩;go_enter func112,ntmps112;go_wp2;refine dw 3 ?_;rw [aY];go_wp2;rw [aY];go_wp2;rw [aY];go_wp2;go_ret;exact⟨rfl,rfl⟩
theorem amq(s:ByteArray)(w:World)(c0 c1 c2 c3:UInt8)(h0:0<s.size)(h1:1<s.size)(h2:2<s.size)(h3:3<s.size)(_hs:s.size<=10000)(e0:s[0]'h0=c0)(e1:s[1]'h1=c1)(e2:s[2]'h2=c2)(e3:s[3]'h3=c3)(_p0:(240:Int)<=(c0.toNat:Int))(_p1:(c0.toNat:Int)<245)(_p2:(4:Int)<=(s.size:Int))(_p3:(128:Int)<=(c1.toNat:Int))(_p4:(c1.toNat:Int)<=191)(_p5:(128:Int)<=(c2.toNat:Int))(_p6:(c2.toNat:Int)<=191)(_p7:(128:Int)<=(c3.toNat:Int))(_p8:(c3.toNat:Int)<=191)(_p9:64*(64*(64*((c0.toNat:Int)%8)+(c1.toNat:Int) - 128)+(c2.toNat:Int) - 128)+(c3.toNat:Int) - 128<65536):
  Calls prog 112 #[.string s] w fun e w'=>e= .returned (.int .i64 0)/\w'=w:=by
 have ha:bits .and .i64 (c0.toNat:Int) 7=((c0.toNat%8:Nat):Int):=yF ⟨c0.toNat,c0.toNat_lt⟩;go_enter func112,ntmps112;go_wp2;refine dw 4 ?_;rw [aY];go_wp2;rw [aY];go_wp2;rw [aY];go_wp2;rw [aY];go_wp2;go_ret;exact⟨rfl,rfl⟩
theorem amo(s:ByteArray)(w:World)(c0 c1 c2 c3:UInt8)(h0:0<s.size)(h1:1<s.size)(h2:2<s.size)(h3:3<s.size)(_hs:s.size<=10000)(e0:s[0]'h0=c0)(e1:s[1]'h1=c1)(e2:s[2]'h2=c2)(e3:s[3]'h3=c3)(_p0:(240:Int)<=(c0.toNat:Int))(_p1:(c0.toNat:Int)<245)(_p2:(4:Int)<=(s.size:Int))(_p3:(128:Int)<=(c1.toNat:Int))(_p4:(c1.toNat:Int)<=191)(_p5:(128:Int)<=(c2.toNat:Int))(_p6:(c2.toNat:Int)<=191)(_p7:(128:Int)<=(c3.toNat:Int))(_p8:(c3.toNat:Int)<=191)(_p9:(1114111:Int)<64*(64*(64*((c0.toNat:Int)%8)+(c1.toNat:Int) - 128)+(c2.toNat:Int) - 128)+(c3.toNat:Int) - 128):
  Calls prog 112 #[.string s] w fun e w'=>e= .returned (.int .i64 0)/\w'=w:=by
 have ha:bits .and .i64 (c0.toNat:Int) 7=((c0.toNat%8:Nat):Int):=yF ⟨c0.toNat,c0.toNat_lt⟩;go_enter func112,ntmps112;go_wp2;refine dw 4 ?_;rw [aY];go_wp2;rw [aY];go_wp2;rw [aY];go_wp2;rw [aY];go_wp2;go_ret;exact⟨rfl,rfl⟩
theorem amn(s:ByteArray)(w:World)(c0 c1 c2 c3:UInt8)(h0:0<s.size)(h1:1<s.size)(h2:2<s.size)(h3:3<s.size)(_hs:s.size<=10000)(e0:s[0]'h0=c0)(e1:s[1]'h1=c1)(e2:s[2]'h2=c2)(e3:s[3]'h3=c3)(_p0:(240:Int)<=(c0.toNat:Int))(_p1:(c0.toNat:Int)<245)(_p2:(4:Int)<=(s.size:Int))(_p3:(128:Int)<=(c1.toNat:Int))(_p4:(c1.toNat:Int)<=191)(_p5:(128:Int)<=(c2.toNat:Int))(_p6:(c2.toNat:Int)<=191)(_p7:(128:Int)<=(c3.toNat:Int))(_p8:(c3.toNat:Int)<=191)(_p9:(65536:Int)<=64*(64*(64*((c0.toNat:Int)%8)+(c1.toNat:Int) - 128)+(c2.toNat:Int) - 128)+(c3.toNat:Int) - 128)(p10:64*(64*(64*((c0.toNat:Int)%8)+(c1.toNat:Int) - 128)+(c2.toNat:Int) - 128)+(c3.toNat:Int) - 128<=1114111):
  Calls prog 112 #[.string s] w fun e w'=>e= .returned (.int .i64 4)/\w'=w:=by
 have ha:bits .and .i64 (c0.toNat:Int) 7=((c0.toNat%8:Nat):Int):=yF ⟨c0.toNat,c0.toNat_lt⟩;go_enter func112,ntmps112;go_wp2;refine dw 4 ?_;rw [aY];go_wp2;rw [aY];go_wp2;rw [aY];go_wp2;rw [aY];go_wp2;go_ret;exact⟨rfl,rfl⟩
theorem JV(s:ByteArray)(w:World)(h0:0<s.size)(hs:s.size<=10000):
  Calls prog 112 #[.string s] w fun e w'=>e= .returned (.int .i64 (sz s))/\w'=w:=by
 have e0:s[0]'h0=s.get! 0:=(get_eq s 0 h0).symm;have e1:∀h:1<s.size,s[1]'h=s.get! 1:=fun h=>(get_eq s 1 h).symm
 have e2:∀h:2<s.size,s[2]'h=s.get! 2:=fun h=>(get_eq s 2 h).symm
 have e3:∀h:3<s.size,s[3]'h=s.get! 3:=fun h=>(get_eq s 3 h).symm
 have l0:=(s.get! 0).toNat_lt;have l1:=(s.get! 1).toNat_lt;have l2:=(s.get! 2).toNat_lt;have l3:=(s.get! 3).toNat_lt;unfold sz;obtain⟨b0,q0⟩:∃b,b=(s.get! 0).toNat:=⟨_,rfl⟩
 obtain⟨b1,q1⟩:∃b,b=(s.get! 1).toNat:=⟨_,rfl⟩
 obtain⟨b2,q2⟩:∃b,b=(s.get! 2).toNat:=⟨_,rfl⟩
 obtain⟨b3,q3⟩:∃b,b=(s.get! 3).toNat:=⟨_,rfl⟩
 rw [<-q0,<-q1,<-q2,<-q3];by_cases a:b0<128
 .refine(amk s w _ h0 hs e0 (by omega)).mono ?_;rintro e w' ⟨rfl,rfl⟩;exact⟨bI (by rw [pM (C2 a) (by omega)];rfl),rfl⟩
 by_cases b:b0<194
 .refine(aml s w _ h0 hs e0 (by omega) (by omega)).mono ?_;rintro e w' ⟨rfl,rfl⟩;exact⟨bI (by rw [ez (Lh (by omega) (by omega))];rfl),rfl⟩
 by_cases c:245<=b0
 .refine(amm s w _ h0 hs e0 (by omega) (by omega)).mono ?_;rintro e w' ⟨rfl,rfl⟩;exact⟨bI (by rw [ez (Li (by omega) (by omega))];rfl),rfl⟩
 by_cases d:b0<224
 .by_cases n2:s.size<2
  .refine(amD s w _ h0 hs e0 (by omega) (by omega) (by omega)).mono ?_;rintro e w' ⟨rfl,rfl⟩;exact⟨bI (by rw [ez (EI (by omega) (by omega) (by omega) (by omega))];rfl),rfl⟩
  by_cases q1:b1<128
  .refine(amx s w _ _ h0 (by omega) hs e0 (e1 (by omega)) (by omega) (by omega) (by omega) (by omega)).mono ?_;rintro e w' ⟨rfl,rfl⟩;exact⟨bI (by rw [ez (EI (by omega) (by omega) (by omega) (by omega))];rfl),rfl⟩
  by_cases q2:191<b1
  .refine(amr s w _ _ h0 (by omega) hs e0 (e1 (by omega)) (by omega) (by omega) (by omega) (by omega)).mono ?_;rintro e w' ⟨rfl,rfl⟩;exact⟨bI (by rw [ez (EI (by omega) (by omega) (by omega) (by omega))];rfl),rfl⟩
  .refine(size_two s w _ _ h0 (by omega) hs e0 (e1 (by omega)) (by omega) (by omega) (by omega) (by omega) (by omega)).mono ?_;rintro e w' ⟨rfl,rfl⟩;exact⟨bI (by rw [pM (Hf (by omega) (by omega) (by omega) (by omega) (by omega)) (by omega)];rfl),rfl⟩
 by_cases f:b0<240
 .by_cases n3:s.size<3
  .refine(amE s w _ h0 hs e0 (by omega) (by omega) (by omega)).mono ?_;rintro e w' ⟨rfl,rfl⟩;exact⟨bI (by rw [ez (Bz (by omega) (by omega) (by omega) (by omega) (by omega))];rfl),rfl⟩
  by_cases q1:b1<128
  .refine(amy s w _ _ h0 (by omega) hs e0 (e1 (by omega)) (by omega) (by omega) (by omega) (by omega)).mono ?_;rintro e w' ⟨rfl,rfl⟩;exact⟨bI (by rw [ez (Bz (by omega) (by omega) (by omega) (by omega) (by omega))];rfl),rfl⟩
  by_cases q2:191<b1
  .refine(ams s w _ _ h0 (by omega) hs e0 (e1 (by omega)) (by omega) (by omega) (by omega) (by omega)).mono ?_;rintro e w' ⟨rfl,rfl⟩;exact⟨bI (by rw [ez (Bz (by omega) (by omega) (by omega) (by omega) (by omega))];rfl),rfl⟩
  by_cases q3:b2<128
  .refine(amz s w _ _ _ h0 (by omega) (by omega) hs e0 (e1 (by omega)) (e2 (by omega)) (by omega) (by omega) (by omega) (by omega) (by omega) (by omega)).mono ?_;rintro e w' ⟨rfl,rfl⟩;exact⟨bI (by rw [ez (Bz (by omega) (by omega) (by omega) (by omega) (by omega))];rfl),rfl⟩
  by_cases q4:191<b2
  .refine(amt s w _ _ _ h0 (by omega) (by omega) hs e0 (e1 (by omega)) (e2 (by omega)) (by omega) (by omega) (by omega) (by omega) (by omega) (by omega)).mono ?_;rintro e w' ⟨rfl,rfl⟩;exact⟨bI (by rw [ez (Bz (by omega) (by omega) (by omega) (by omega) (by omega))];rfl),rfl⟩
  by_cases r1:b0%16*4096+b1%64*64+b2%64<2048
  .refine(amI s w _ _ _ h0 (by omega) (by omega) hs e0 (e1 (by omega)) (e2 (by omega)) (by omega) (by omega) (by omega) (by omega) (by omega) (by omega) (by omega) (by omega)).mono ?_;rintro e w' ⟨rfl,rfl⟩;exact⟨bI (by rw [ez (Hg (by omega) (by omega) (by omega))];rfl),rfl⟩
  by_cases r2:b0%16*4096+b1%64*64+b2%64<55296
  .refine(amG s w _ _ _ h0 (by omega) (by omega) hs e0 (e1 (by omega)) (e2 (by omega)) (by omega) (by omega) (by omega) (by omega) (by omega) (by omega) (by omega) (by omega) (by omega)).mono ?_;rintro e w' ⟨rfl,rfl⟩;exact⟨bI (by rw [pM (EJ (by omega) (by omega) (by omega) (by omega) (by omega) (by omega) (by omega) (by omega) (by omega)) (by omega)];rfl),rfl⟩
  by_cases r3:b0%16*4096+b1%64*64+b2%64<=57343
  .refine(amJ s w _ _ _ h0 (by omega) (by omega) hs e0 (e1 (by omega)) (e2 (by omega)) (by omega) (by omega) (by omega) (by omega) (by omega) (by omega) (by omega) (by omega) (by omega)).mono ?_;rintro e w' ⟨rfl,rfl⟩;exact⟨bI (by rw [ez (Hg (by omega) (by omega) (by omega))];rfl),rfl⟩
  .refine(amH s w _ _ _ h0 (by omega) (by omega) hs e0 (e1 (by omega)) (e2 (by omega)) (by omega) (by omega) (by omega) (by omega) (by omega) (by omega) (by omega) (by omega)).mono ?_;rintro e w' ⟨rfl,rfl⟩;exact⟨bI (by rw [pM (EJ (by omega) (by omega) (by omega) (by omega) (by omega) (by omega) (by omega) (by omega) (by omega)) (by omega)];rfl),rfl⟩
 by_cases n4:s.size<4
 .refine(amF s w _ h0 hs e0 (by omega) (by omega) (by omega)).mono ?_;rintro e w' ⟨rfl,rfl⟩;exact⟨bI (by rw [ez (yO (by omega) (by omega) (by omega) (by omega) (by omega) (by omega))];rfl),rfl⟩
 by_cases u1:b1<128
 .refine(amA s w _ _ h0 (by omega) hs e0 (e1 (by omega)) (by omega) (by omega) (by omega) (by omega)).mono ?_;rintro e w' ⟨rfl,rfl⟩;exact⟨bI (by rw [ez (yO (by omega) (by omega) (by omega) (by omega) (by omega) (by omega))];rfl),rfl⟩
 by_cases v1:191<b1
 .refine(amu s w _ _ h0 (by omega) hs e0 (e1 (by omega)) (by omega) (by omega) (by omega) (by omega)).mono ?_;rintro e w' ⟨rfl,rfl⟩;exact⟨bI (by rw [ez (yO (by omega) (by omega) (by omega) (by omega) (by omega) (by omega))];rfl),rfl⟩
 by_cases u2:b2<128
 .refine(amB s w _ _ _ h0 (by omega) (by omega) hs e0 (e1 (by omega)) (e2 (by omega)) (by omega) (by omega) (by omega) (by omega) (by omega) (by omega)).mono ?_;rintro e w' ⟨rfl,rfl⟩;exact⟨bI (by rw [ez (yO (by omega) (by omega) (by omega) (by omega) (by omega) (by omega))];rfl),rfl⟩
 by_cases v2:191<b2
 .refine(amv s w _ _ _ h0 (by omega) (by omega) hs e0 (e1 (by omega)) (e2 (by omega)) (by omega) (by omega) (by omega) (by omega) (by omega) (by omega)).mono ?_;rintro e w' ⟨rfl,rfl⟩;exact⟨bI (by rw [ez (yO (by omega) (by omega) (by omega) (by omega) (by omega) (by omega))];rfl),rfl⟩
 by_cases u3:b3<128
 .refine(amC s w _ _ _ _ h0 (by omega) (by omega) (by omega) hs e0 (e1 (by omega)) (e2 (by omega)) (e3 (by omega)) (by omega) (by omega) (by omega) (by omega) (by omega) (by omega) (by omega) (by omega)).mono ?_;rintro e w' ⟨rfl,rfl⟩;exact⟨bI (by rw [ez (yO (by omega) (by omega) (by omega) (by omega) (by omega) (by omega))];rfl),rfl⟩
 by_cases v3:191<b3
 .refine(amw s w _ _ _ _ h0 (by omega) (by omega) (by omega) hs e0 (e1 (by omega)) (e2 (by omega)) (e3 (by omega)) (by omega) (by omega) (by omega) (by omega) (by omega) (by omega) (by omega) (by omega)).mono ?_;rintro e w' ⟨rfl,rfl⟩;exact⟨bI (by rw [ez (yO (by omega) (by omega) (by omega) (by omega) (by omega) (by omega))];rfl),rfl⟩
 by_cases r1:b0%8*262144+b1%64*4096+b2%64*64+b3%64<65536
 .refine(amq s w _ _ _ _ h0 (by omega) (by omega) (by omega) hs e0 (e1 (by omega)) (e2 (by omega)) (e3 (by omega)) (by omega) (by omega) (by omega) (by omega) (by omega) (by omega) (by omega) (by omega) (by omega) (by omega)).mono ?_;rintro e w' ⟨rfl,rfl⟩;exact⟨bI (by rw [ez (Hh (by omega) (by omega) (by omega))];rfl),rfl⟩
 by_cases r2:1114111<b0%8*262144+b1%64*4096+b2%64*64+b3%64
 .refine(amo s w _ _ _ _ h0 (by omega) (by omega) (by omega) hs e0 (e1 (by omega)) (e2 (by omega)) (e3 (by omega)) (by omega) (by omega) (by omega) (by omega) (by omega) (by omega) (by omega) (by omega) (by omega) (by omega)).mono ?_;rintro e w' ⟨rfl,rfl⟩;exact⟨bI (by rw [ez (Hh (by omega) (by omega) (by omega))];rfl),rfl⟩
 .refine(amn s w _ _ _ _ h0 (by omega) (by omega) (by omega) hs e0 (e1 (by omega)) (e2 (by omega)) (e3 (by omega)) (by omega) (by omega) (by omega) (by omega) (by omega) (by omega) (by omega) (by omega) (by omega) (by omega) (by omega)).mono ?_;rintro e w' ⟨rfl,rfl⟩;exact⟨bI (by rw [pM (Hj (by omega) (by omega) (by omega) (by omega) (by omega) (by omega) (by omega) (by omega) (by omega) (by omega) (by omega)) (by omega)];rfl),rfl⟩
theorem DN(s:ByteArray)(f p:Nat)(h:¬p<s.size):runesFrom s f p=some []:=by
 cases f with
 |zero=>rfl
 |succ f=>simp [runesFrom,h]
theorem S8(s:ByteArray)(f p:Nat)(hf:s.size<=p+f)(h:p<s.size)(hz:bu s p=0):runesFrom s f p=none:=by
 cases f with
 |zero=>omega
 |succ f=>simp [runesFrom,h,hz]
theorem alB(s:ByteArray)(f p:Nat)(hf:s.size<=p+f)(h:p<s.size)(hz:bu s p≠0):
  ∃f',s.size<=p+bu s p+f'/\runesFrom s f p=(runesFrom s f' (p+bu s p)).map (iL s p::·):=by
 cases f with
 |zero=>omega
 |succ f=>exact⟨f,by omega,by simp [runesFrom,h,hz]⟩
def r8(s:ByteArray)(p:Nat)(l:List Int):Prop:=∃f,s.size<=p+f/\l.length<=p/\fH s=(runesFrom s f p).map (l++·)
theorem r8.start(s:ByteArray):r8 s 0 []:=⟨s.size,by omega,by simp,by simp [fH]⟩
theorem r8.stop {s:ByteArray}{p:Nat}{l:List Int}(h:r8 s p l)(hp:¬p<s.size):fH s=some l:=by
 obtain⟨f,_,_,e⟩:=h;rw [e,DN s f p hp];simp
theorem r8.bad {s:ByteArray}{p:Nat}{l:List Int}(h:r8 s p l)(hp:p<s.size)(hz:bu s p=0):fH s=none:=by
 obtain⟨f,hf,_,e⟩:=h;rw [e,S8 s f p hf hp hz];rfl
theorem r8.step {s:ByteArray}{p:Nat}{l:List Int}(h:r8 s p l)(hp:p<s.size)(hz:bu s p≠0):r8 s (p+bu s p) (l++[iL s p]):=by
 obtain⟨f,hf,hl,e⟩:=h;obtain⟨f',hf',e'⟩:=alB s f p hf hp hz;refine⟨f',hf',by simp;omega,?_⟩;rw [e,e'];cases runesFrom s f' (p+bu s p)<;>simp
theorem WH(l:List Int)(b off cap n:Nat)(w:World)(hl:l.length=n)(hn:n<=1000)(hc:bG w b off l):
  Calls prog 46 #[.slice (some ⟨b,off,none⟩) n cap] w fun e w'=>∃v,e= .returned v/\w'.ownsRow w.heap.size 3 1 v n ((l.map cls).map (Value.int .i64))/\Below w.heap.size w w':=by
 obtain⟨i0,hi,hz0,hz1,hz2⟩:=gW Tryz.Dw;have HC:=ah hc;have HL:=ah hl;clear hc hl;go_enter func46,ntmps46;go_wp2;go_loopw [3,4] (fun v i wr=>∃k:Nat,k<=n/\i= .int .i64 k/\wr.ownsRow w.heap.size 3 1 v k (((l.take k).map cls).map (Value.int .i64))/\Below w.heap.size w wr) (fun _ i _=>n - (intOf i).toNat);case atStart=>exact⟨0,rY _,rfl,jw _ _ _ _,aA _ _⟩
 case round=>
  obtain⟨k,hk,rfl,hown,hb⟩:=hrel;have hbz:=hb.size;by_cases hlt:k<n
  .have hcell:=(HC.out.below hb) k (by rw [HL.out];exact hlt);obtain⟨x,hx⟩:∃x,x=l.getD k 0:=⟨_,rfl⟩
   rw [<-hx]at hcell;have HX:Hid ((l.take (k+1)).map cls=(l.take k).map cls++[cls x]):=by
    have hk':k<l.length:=by rw [HL.out];exact hlt
    show(l.take (k+1)).map cls=(l.take k).map cls++[cls x]
    rw [hx,pZ hk',fO];simp [aO,aQ hk']
   clear hx;have hlt':(k:Int)<(n:Int):=by omega
   go_wp2_with fail;refine(WG x _).mono ?_;rintro e w1 ⟨rfl,hb1⟩;have hown1:w1.ownsRow w.heap.size 3 1 _ k (((l.take k).map cls).map (Value.int .i64)):=hown.kept ⟨hb1.os,hb1.tape,hb1.output,hb1.size,fun j hj _=>hb1.block j hj⟩ (row:=none) (by rcases hown.2 with⟨rfl,_⟩|⟨g,c,cur,rfl,_⟩<;>simp [Value.ownBlock]);have hb2:Below w.heap.size w w1:=hb.trans (hb1.mono hbz);have Qp:=hb2.size;clear hown hb hb1 hcell;go_wp2_with(at_builtin;refine FP _ rfl _ _ 31 rfl w.heap.size 3 i0 (.int .i64 0) 8 underlying31 hi hz0 hz1 hz2 rfl (by decide) _ _ _ rfl hown1 _ _ rfl rfl (by omega) (by omega) ?_);intro v' w2 hown' hb';clear hown1;go_wp2;go_roundw;case rel=>exact⟨k+1,by omega,by go_num,by rw [HX.out];simpa using hown',hb2.trans hb'⟩
   case measure=>simp [intOf];omega
  .go_wp2;go_ret;refine⟨_,rfl,?_,hb⟩;have e:k=n:=by omega
   subst e
   rwa [lB (by rw [HL.out];omega)]at hown
theorem afH(w:World):
  Calls prog 46 #[.slice none 0 0] w fun e w'=>e= .returned (.slice none 0 0)/\w'=w:=by
 go_enter func46,ntmps46;go_wp2;refine dw 1 ?_;rw [aY];go_wp2;go_ret;exact⟨rfl,rfl⟩
theorem afF(l:List Int)(v:Value)(w:World)(hl:l.length<=1000)(hv:js w v l):
  Calls prog 46 #[v] w fun e w'=>∃v',e= .returned v'/\w'.ownsRow w.heap.size 3 1 v' l.length ((l.map cls).map (Value.int .i64))/\Below w.heap.size w w':=by
 rcases hv with⟨rfl,rfl⟩|⟨b,off,cap,rfl,hc⟩
 .refine(afH w).mono ?_;rintro e w' ⟨rfl,rfl⟩;exact⟨_,rfl,jw _ _ _ _,aA _ _⟩
 .exact WH l b off cap l.length w rfl hl hc
def PD(e:Int):Value:= .agg #[.int .i64 e,.int .i64 (if e=0 then 0 else -1),.int .i64 (if e=0 then 0 else -1)]
theorem _root_.Go.World.ownsRow.low {w:World}{base base':Nat}{e:TypeId}{size:Nat}{v:Value}{n:Nat}{xs:List Value}(h:w.ownsRow base e size v n xs)(hb:base'<=base):w.ownsRow base' e size v n xs:=by
 refine⟨h.1,?_⟩;rcases h.2 with h|⟨g,cap,cur,h1,h2,h3⟩
 .exact .inl h
 .exact .inr ⟨g,cap,cur,h1,bU hb h2,h3⟩
theorem am4(s:ByteArray)(p:Nat):bu s p=if(Utf8.decode s p).1=65533/\(Utf8.decode s p).2=1 then 0 else(Utf8.decode s p).2:=by
 unfold bu mO;rw [Lib.decode_at]
theorem J2(s:ByteArray)(p:Nat)(h:bu s p≠0):(Utf8.decode s p).2=bu s p:=by
 rw [am4]at h ⊢;split at h
 .exact absurd rfl h
 .rename_i h';rw [ai h']
theorem count_eq(s:ByteArray):∀f p l,runesFrom s f p=some l->Lib.runeCountFrom s f p=l.length
 |0,_,l,h=>by simp [runesFrom]at h;subst h;rfl
 |f+1,p,l,h=>by
  unfold runesFrom at h;unfold Lib.runeCountFrom;by_cases hp:p<s.size
  .rw [aj hp]at h ⊢;by_cases h0:bu s p=0
   .rw [aj h0]at h;cases h
   .rw [ai h0]at h;cases hr:runesFrom s f (p+bu s p)with
    |none=>rw [hr]at h;cases h
    |some l'=>
     rw [hr]at h;simp at h;subst h;rw [J2 s p h0,count_eq s f _ l' hr];simp;omega
  .rw [ai hp]at h ⊢;simp at h;subst h;rfl
theorem runeCount_eq {s:ByteArray}{l:List Int}(h:fH s=some l):Lib.runeCount s=l.length:=count_eq s s.size 0 l h
section
attribute [local go_sem ↓] Go.wp_at_zero Go.wp_at_succ
theorem ajs(w:World)(y:Value)(e:TypeId):∀j u,[y][j]? =some u->(w.alloc (.cells #[y] e)).cell? ((⟨w.heap.size,0,none⟩:Addr).add j)=some u:=by
 intro j u hj
 match j,hj with
 |0,hj=>simp at hj;subst hj;simp [Addr.add]
theorem aez(w:World)(a:Obj)(r:Option Nat):w.grownBy (w.alloc a) r:=⟨rfl,rfl,rfl,by simp,fun k hk _=>dM w a k hk⟩
theorem aaU(s:ByteArray)(l:List Int)(d:Int)(w:World)(hs:s.size<=600)(hr:fH s=some l)(hl:l≠[])(hcl:∀(r:Int)(W:World),Below w.heap.size w W->Calls prog 66 #[.int .i32 r] W fun e w'=>e= .returned (.int .i64 (cls r))/\Below W.heap.size W w'):
  Calls prog 84 #[.string s,.int .i64 d] w fun e w'=>∃L:LP,e= .returned (.pointer (some ⟨L.lb,0,none⟩))/\LX w' L L.cs (List.replicate L.n 0)/\L.cs=l.map cls/\L.rs=l/\L.n=l.length/\L.p=gz (l.map cls) d/\L.B=w.heap.size/\Below w.heap.size w w':=by
 obtain⟨i32,QF,hz0,hz1,hz2⟩:=gW Tryz.aai;obtain⟨iC,QH,hc0,hc1,hc2⟩:=gW Tryz.Fb;have HR:=ah hr;have oV:=ah hcl;obtain⟨W0,hW0⟩:∃W0,W0=w.alloc (.cells #[.slice none 0 0,.slice none 0 0,.slice none 0 0,.slice none 0 0,.slice none 0 0,.int .i64 0] 141):=⟨_,rfl⟩
 have hb0:Below w.heap.size w W0:=by rw [hW0];exact(aA _ _).alloc (ay _) _
 have Ht:W0.heap[w.heap.size]? =some (.cells #[.slice none 0 0,.slice none 0 0,.slice none 0 0,.slice none 0 0,.slice none 0 0,.int .i64 0] 141 (0,0)):=by rw [hW0];exact mP
 have Hu:W0.heap.size=w.heap.size+1:=by rw [hW0];simp
 clear hr hcl;go_enter func84,ntmps84;go_wp2;rw [<-hW0];obtain⟨W1,hW1⟩:∃W1,W1=(W0.iter s 0):=⟨_,rfl⟩
 have mS:Hid (NL W1 w.heap.size w.heap.size (w.heap.size+1) s 0 (.slice none 0 0) (.slice none 0 0) [] []):=by
  rw [hW1];have EU:Below W0.heap.size W0 (W0.iter s 0):=(aA _ _).alloc (ay _) _;exact⟨cB EU Ht,jw _ _ _ _,jw _ _ _ _,by rw [<-Hu];exact OU _ _ _,ay _⟩
 have aG:Hid (Below w.heap.size w W1):=by rw [hW1];exact hb0.alloc hb0.size _
 rw [<-hW1];clear hW1 hW0 hb0 Ht Hu;obtain⟨lb,hlb⟩:∃lb,lb=w.heap.size:=⟨_,rfl⟩
 obtain⟨it,hit⟩:∃it,it=w.heap.size+1:=⟨_,rfl⟩
 have qM:Hid (w.heap.size<=lb/\w.heap.size<=it):=⟨by omega,by omega⟩
 have Ge:Hid (NL W1 w.heap.size lb it s 0 (.slice none 0 0) (.slice none 0 0) [] []):=by rw [hlb,hit];exact mS.out
 rw [<-hit,<-hlb];clear mS hlb hit;go_loopg [7] s.size (fun gk _ W=>∃(p:Nat)(q:List Int)(vr vt:Value),p<=s.size/\gk=s.size - p/\r8 s p q/\NL W w.heap.size lb it s p vr vt q q/\Below w.heap.size w W);case atStart=>exact⟨0,[],_,_,by omega,rfl,r8.start s,Ge.out,aG.out⟩
 case round=>
  clear Ge aG;obtain⟨p,q,vr,vt,hp,rfl,hR,hN,hB⟩:=hrel;have ZE:q.length<=p:=by obtain⟨f,_,h,_⟩:=hR;exact h
  by_cases hlt:p<s.size
  .have hz:bu s p≠0:=by
    intro h0;have:=hR.bad hlt h0;rw [HR.out]at this;cases this
   have HS:=ah (hR.step hlt hz);have hle:p+bu s p<=s.size:=by
    rcases FK s p hlt hz with⟨e1,_⟩|⟨e1,hn,_⟩|⟨e1,hn,_⟩|⟨e1,hn,_⟩<;>omega
   have hzp:0<bu s p:=by omega
   have hw:=J2 s p hz;have hnx:∀ty,(Instr.next (.pointer (some ⟨it,0,none⟩)) true ty).run prog wr= .ok (.tuple #[.bool true,.int .i64 p,.int .i32 (iL s p)]) (wr.iterAt it s (p+bu s p)):=fun ty=>by
    rw [Vv wr it s p ty hN.iter hlt,hw];rfl
   have Bc:Hid (NL (wr.iterAt it s (p+bu s p)) w.heap.size lb it s (p+bu s p) vr vt q q):=hN.next _;have jq:Hid (Below w.heap.size w (wr.iterAt it s (p+bu s p))):=Vt hB qM.out.2 _ _;clear hR hz hw hN hB;generalize bu s p=k at*;generalize iL s p=r at*;generalize wr.iterAt it s (p+k)=wi at*;obtain⟨ra,rc,rfl⟩:=ey Bc.out.rr;obtain⟨ta,tc,rfl⟩:=ey Bc.out.rt;have s0:wi.cell? ⟨lb,0,none⟩=some (.slice ra q.length rc):=az Bc.out.cell 0;have rE:=Bc.out.rr;have hbz:=jq.out.size;go_wp2_with(at_builtin;refine nX _ rfl _ _ 138 rfl w.heap.size 21 i32 (.int .i32 0) 4 underlying138 QF hz0 hz1 hz2 rfl (by decide) _ _ _ rfl rE _ _ rfl rfl (by omega) hbz ?_);intro v5 w5 b9 cA;obtain⟨a5,yM,rfl⟩:=ey b9;obtain⟨H8,c5,f5⟩:=Bc.out.JG b9 cA;have dx:Hid (Below w.heap.size w w5):=jq.out.grown cA hbz (fun x hx=>(rE.lt x hx).1);have ia:Hid (Below w.heap.size w (w5.setCell ⟨lb,0,none⟩ (.slice a5 (q.length+1) yM))):=dx.out.setCell (p:=⟨lb,0,none⟩) qM.out.1 _;have rS:=ah H8;clear b9 cA H8 dx rE s0 hnx;go_wp2;clear c5 f5;generalize w5.setCell ⟨lb,0,none⟩ (.slice a5 (q.length+1) yM)=W6 at*;have s1:W6.cell? ⟨lb,1,none⟩=some (.slice ta q.length tc):=az rS.out.cell 1;have Al:=ia.out.size;have hent:=lF func66 (by kernel_rfl) (by kernel_rfl);have Ki:=ah hent;clear hent;have UI:Hid (Calls prog 66 #[.int .i32 r] W6.drew fun e w'=>∃u,e= .returned u/\(u= .int .i64 (cls r)/\Below W6.drew.heap.size W6.drew w')):=(oV.out r W6.drew ia.out.drew).mono (fun e w' h=>⟨_,h.1,rfl,h.2⟩);have eP:Hid (q.length<=1000000):=by show _<=_;omega
   go_region_law (first
    |(refine amX (by rfl) 66 _ 21 (by rfl) Ki.out (.int .i32 r) (by rfl) (fun u w'=>u= .int .i64 (cls r)/\Below W6.drew.heap.size W6.drew w') UI.out ?_;rintro u w7 ⟨rfl,qu⟩;have zK:Hid (NL w7 w.heap.size lb it s (p+k) (.slice a5 (q.length+1) yM) (.slice ta q.length tc) (q++[r]) q):=rS.out.below ((aA _ _).drew.trans qu);have oh:Hid (Below w.heap.size w w7):=ia.out.drew.trans (qu.mono Al);have t1:w7.cell? ⟨lb,1,none⟩=some (.slice ta q.length tc):=az zK.out.cell 1;have t1':(w7.alloc (.cells #[.int .i64 (cls r)] 108)).cell? ⟨lb,1,none⟩=some (.slice ta q.length tc):=(jQ _ _ ⟨lb,1,none⟩ (bZ zK.out.cell)).trans t1;have hrt:=zK.out.rt;have ahd:=oh.out.size;clear qu UI Ki)
    |(refine MZ (by rfl) _ _ 139 (by rfl) w.heap.size 108 iC (.int .i64 0) 1 8 underlying139 QH hc0 hc1 hc2 rfl (by decide) (by decide) (.slice ta q.length tc) q.length (iv (q.map cls)) (by rfl) (nM hrt (.cells #[.int .i64 (cls r)] 108)) w7.heap.size [.int .i64 (cls r)] (by rfl) (by rfl) (ajs w7 _ _) (by intro u hu;simp at hu;subst hu;rfl) eP.out (by simp;omega) ?_;intro v8 w8 Q0 nk _;obtain⟨a8,c8',rfl⟩:=ey Q0;obtain⟨Yw,c8,f8⟩:=zK.out.SR Q0 ((aez w7 _ _).trans nk);have D3:Hid (Below w.heap.size w w8):=(oh.out.alloc ahd _).grown nk (by simp;omega) (fun x hx=>(hrt.lt x hx).1);clear Q0 nk))
   all_goals
    have HN9:=ah Yw;have HB9:Hid (Below w.heap.size w (w8.setCell ⟨lb,1,none⟩ (.slice a8 (q.length+1) c8'))):=D3.out.setCell (p:=⟨lb,1,none⟩) qM.out.1 _;clear Yw c8 f8 D3;go_wp2;go_roundg (s.size - (p+k));case measure=>omega
    case rel=>exact⟨p+k,q++[r],_,_,hle,rfl,HS.out,HN9.out,HB9.out⟩
  .have ahL:q=l:=by
    have:=hR.stop hlt;rw [HR.out]at this;exact(aK this).symm
   subst ahL;have hn0:0<q.length:=jc.2 hl;have IE:q.length<=600:=by omega
   have hnx:∀ty,(Instr.next (.pointer (some ⟨it,0,none⟩)) true ty).run prog wr= .ok (.tuple #[.bool false]) wr:=fun ty=>OA wr it s p ty hN.iter hlt
   obtain⟨gr,cr,rfl,_,hgr,QD⟩:=fS hN.rr hn0;obtain⟨gt,ct,rfl,_,hgt,Zb⟩:=fS hN.rt hn0;have ZO:=jY hN.rt hN.cell (by decide);have ZL:=jY hN.rr hN.cell (by decide);obtain⟨n,hn⟩:∃n,n=q.length:=⟨_,rfl⟩
   have ahA:=run_make_row' (P:=prog) 139 108 (.int .i64 0) 8 underlying139 Tryz.Fb rfl .i64 .i64 n (by omega) (by omega);have QT:=run_make_row' (P:=prog) 31 3 (.int .i64 0) 8 underlying31 Tryz.qB rfl .i64 .i64 n (by omega) (by omega);rw [<-hn]at hN hn0 IE;have xo:LB wr lb (.slice (some ⟨gr,0,none⟩) n cr) (.slice (some ⟨gt,0,none⟩) n ct) (.slice none 0 0) (.slice none 0 0) (.slice none 0 0) (.int .i64 0):=hN.cell;have rE:wr.ownsRow w.heap.size 21 1 (.slice (some ⟨gr,0,none⟩) n cr) n (nW q):=by have:=hN.rr;rw [<-hn]at this;exact this
   have hrt:wr.ownsRow w.heap.size 108 1 (.slice (some ⟨gt,0,none⟩) n ct) n (iv (q.map cls)):=by have:=hN.rt;rw [<-hn]at this;exact this
   have Zn:lb<wr.heap.size:=bZ hN.cell;have Mz:gt≠lb:=fun e=>ZO (by rw [e];rfl)
   have Cc:gr≠lb:=fun e=>ZL (by rw [e];rfl)
   have x9:Hid ((q.map cls).length=n/\q.length=n/\w.heap.size<=gr/\w.heap.size<=gt/\w.heap.size<=lb):=⟨by simp [hn],hn.symm,QD,Zb,qM.out.1⟩
   clear hN hR ZO ZL ZE hlt QD Zb hl hn
   -- the classes
   have yT:LB (wr.alloc (.cells (madeCells #[.int .i64 0] n) 108)) lb _ _ _ _ _ _:=xo.grown (Bv wr _ none) (by simp);have c1:=xo.c1;obtain⟨d2,e2⟩:=yT.c2;have H9:bh (wr.alloc (.cells (madeCells #[.int .i64 0] n) 108)) w.heap.size 108 wr.heap.size n (List.replicate n (.int .i64 0)):=bh.made hB.size (by omega);have hg1:wr.grownBy ((wr.alloc (.cells (madeCells #[.int .i64 0] n) 108)).setCell ⟨lb,2,none⟩ (.slice (some ⟨wr.heap.size,0,none⟩) n n)) (some lb):=(Bv wr _ _).trans (DU _ lb 2 _);have hL2:=yT.s2 (.slice (some ⟨wr.heap.size,0,none⟩) n n);have nR:bh ((wr.alloc (.cells (madeCells #[.int .i64 0] n) 108)).setCell ⟨lb,2,none⟩ (.slice (some ⟨wr.heap.size,0,none⟩) n n)) w.heap.size 108 wr.heap.size n (List.replicate n (.int .i64 0)):=H9.setOther lb 2 _ (by omega);have bq:Below w.heap.size w ((wr.alloc (.cells (madeCells #[.int .i64 0] n) 108)).setCell ⟨lb,2,none⟩ (.slice (some ⟨wr.heap.size,0,none⟩) n n)):=(hB.alloc hB.size _).setCell (p:=⟨lb,2,none⟩) qM.out.1 _;have xy:=iu rE hg1 Cc;have E7:=iu hrt hg1 Mz;have hz2:((wr.alloc (.cells (madeCells #[.int .i64 0] n) 108)).setCell ⟨lb,2,none⟩ (.slice (some ⟨wr.heap.size,0,none⟩) n n)).heap.size=wr.heap.size+1:=by simp
   have h2:=And.intro hL2 (And.intro nR (And.intro bq (And.intro xy (And.intro E7 hz2))));have H2:=ah h2;have di:Hid (gr<wr.heap.size/\gt<wr.heap.size/\lb<wr.heap.size):=⟨hgr,hgt,Zn⟩
   clear xo yT H9 hg1 hL2 nR bq xy E7 hz2 rE hrt hB hgr hgt Zn h2;obtain⟨gc,jV⟩:∃gc,gc=wr.heap.size:=⟨_,rfl⟩
   go_wp2;generalize((wr.alloc (.cells (madeCells #[.int .i64 0] n) 108)).setCell ⟨lb,2,none⟩ (.slice (some ⟨wr.heap.size,0,none⟩) n n))=W2 at*;rw [<-jV]at H2 di ⊢;clear jV c1 d2 e2 hnx;obtain⟨hL2,nR,bq,xy,E7,hz2⟩:=H2.out;clear H2
   -- the copy
   obtain⟨W3,jy,BR,hg3⟩:=Pp (P:=prog) (w:=W2.drew) (sT:=139) (e:=108) (ty:=3) (g:=gc) underlying139 Tryz.Tv (bh.heap nR) (by simp) (KR E7) (fun v hv=>by simp only [iv,jr]at hv;obtain⟨x,_,rfl⟩:=hv;rfl);have hg3':W2.grownBy W3 (some gc):=(show W2.grownBy W2.drew (some gc)from⟨rfl,rfl,rfl,ay _,fun _ _ _=>rfl⟩).trans hg3;have ngc:gt≠gc/\gr≠gc/\lb≠gc:=by have:=di.out;omega
   have hL3:LB W3 lb _ _ _ _ _ _:=hL2.grown hg3' (by simp;omega);have mB:bh W3 w.heap.size 108 gc n (iv (q.map cls)):=bh.MB BR (by have:=nR.lt gc rfl;exact this.1) (by rw [mH,x9.out.1]) (by omega);have cV:Below w.heap.size w W3:=bq.grown hg3' bq.size (fun k hk=>by cases hk;exact(nR.lt gc rfl).1);have xz:=iu xy hg3' ngc.2.1;have I3:=iu E7 hg3' ngc.1;have hz3:gc+1<=W3.heap.size:=by have:=hg3'.size;omega
   obtain⟨c2,_⟩:=hL2.c2;have c1:=hL2.c1;have h3:=And.intro hL3 (And.intro mB (And.intro cV (And.intro xz (And.intro I3 hz3))));have H3:=ah h3;clear hL2 nR bq xy E7 hz2 BR hg3 hg3' hL3 mB cV xz I3 hz3 h3;go_region;all_goals
    clear c1 c2 jy;obtain⟨hL3,mB,cV,xz,I3,hz3⟩:=H3.out;clear H3;have hL4:LB (W3.alloc (.cells (madeCells #[.int .i64 0] n) 3)) lb _ _ _ _ _ _:=hL3.grown (Bv W3 _ none) (by simp);have c1:=hL3.c1;obtain⟨d3,e3⟩:=hL4.c3;have pF:bh (W3.alloc (.cells (madeCells #[.int .i64 0] n) 3)) w.heap.size 3 W3.heap.size n (List.replicate n (.int .i64 0)):=bh.made cV.size (by omega);have hg4:W3.grownBy ((W3.alloc (.cells (madeCells #[.int .i64 0] n) 3)).setCell ⟨lb,3,none⟩ (.slice (some ⟨W3.heap.size,0,none⟩) n n)) (some lb):=(Bv W3 _ _).trans (DU _ lb 3 _);have nQ:=hL4.s3 (.slice (some ⟨W3.heap.size,0,none⟩) n n);have BK:bh ((W3.alloc (.cells (madeCells #[.int .i64 0] n) 3)).setCell ⟨lb,3,none⟩ (.slice (some ⟨W3.heap.size,0,none⟩) n n)) w.heap.size 3 W3.heap.size n (List.replicate n (.int .i64 0)):=pF.setOther lb 3 _ (by have:=di.out;omega);have qh:Below w.heap.size w ((W3.alloc (.cells (madeCells #[.int .i64 0] n) 3)).setCell ⟨lb,3,none⟩ (.slice (some ⟨W3.heap.size,0,none⟩) n n)):=(cV.alloc cV.size _).setCell (p:=⟨lb,3,none⟩) qM.out.1 _;have BW:=iu xz hg4 Cc;have Av:=iu I3 hg4 Mz;have BV:((W3.alloc (.cells (madeCells #[.int .i64 0] n) 3)).setCell ⟨lb,3,none⟩ (.slice (some ⟨W3.heap.size,0,none⟩) n n)).ownsRow w.heap.size 108 1 (.slice (some ⟨gc,0,none⟩) n n) n (iv (q.map cls)):=iu mB hg4 (by have:=di.out;omega);have lN:((W3.alloc (.cells (madeCells #[.int .i64 0] n) 3)).setCell ⟨lb,3,none⟩ (.slice (some ⟨W3.heap.size,0,none⟩) n n)).heap.size=W3.heap.size+1:=by simp
    have h5:=And.intro nQ (And.intro BK (And.intro qh (And.intro BW (And.intro Av (And.intro BV lN)))));have H5:=ah h5;have zU:=ah hz3;have Pc:=nQ.c1;clear hL3 mB cV xz I3 hz3 hL4 pF hg4 nQ BK qh BW Av BV lN h5;obtain⟨gl,hgl⟩:∃gl,gl=W3.heap.size:=⟨_,rfl⟩
    go_wp2_with fail;generalize((W3.alloc (.cells (madeCells #[.int .i64 0] n) 3)).setCell ⟨lb,3,none⟩ (.slice (some ⟨W3.heap.size,0,none⟩) n n))=W5 at*;rw [<-hgl]at H5 zU ⊢;clear hgl c1 d3 e3 Pc;obtain⟨nQ,BK,qh,BW,Av,BV,lN⟩:=H5.out;clear H5;have Yu:Calls prog 140 #[.slice (some ⟨gt,0,none⟩) n ct] W5 fun e w'=>∃g,e= .returned (.slice (some ⟨g,0,none⟩) n n)/\bh w' W5.heap.size 3 g n (iv (lS (q.map cls)))/\Below W5.heap.size W5 w':=ai9 (q.map cls) n gt 0 ct W5 x9.out.1 (by omega) (fun k hk=>by rw [iz];exact iJ Av k hk) (by have:=di.out;have:=zU.out;omega)
    have zJ:=ah Yu;have c1:=nQ.c1;have h5:=And.intro nQ (And.intro BK (And.intro qh (And.intro BW (And.intro Av (And.intro BV lN)))));have H5:=ah h5;clear nQ BK qh BW Av BV lN h5 Yu;refine zJ.out.mono ?_;rintro ev W6 ⟨gm,rfl,QN,fR⟩;clear zJ;obtain⟨nQ,BK,qh,BW,Av,BV,lN⟩:=H5.out;clear H5;obtain⟨ahn,aho⟩:=QN.lt gm rfl;have C7:=nQ.below fR;obtain⟨d4,e4⟩:=C7.c4;have vq:=C7.s4 (.slice (some ⟨gm,0,none⟩) n n);have gU:W6.grownBy (W6.setCell ⟨lb,4,none⟩ (.slice (some ⟨gm,0,none⟩) n n)) (some lb):=DU _ lb 4 _;have BI:Below w.heap.size w (W6.setCell ⟨lb,4,none⟩ (.slice (some ⟨gm,0,none⟩) n n)):=(qh.trans (fR.mono qh.size)).setCell (p:=⟨lb,4,none⟩) qM.out.1 _;have I1:=iu (eH BW fR) gU Cc;have E8:=iu (eH Av fR) gU Mz;have IV:=iu (eH BV fR) gU (by have:=di.out;omega);have IW:=iu (eH BK fR) gU (by have:=di.out;have:=zU.out;omega);have Dq:=iu QN gU (by have:=di.out;have:=zU.out;omega);have wI:Hid (gl≠lb/\gl≠gr/\gl≠gt/\gl≠gc/\gl≠gm/\gc≠lb/\gc≠gr/\gc≠gt/\gc≠gm):=by
     have h1:=di.out;have h2:=zU.out;refine⟨?_,?_,?_,?_,?_,?_,?_,?_,?_⟩<;>omega
    have Jc:∀g,g=lb∨g=gr∨g=gt∨g=gc∨g=gl∨g=gm->g<(W6.setCell ⟨lb,4,none⟩ (.slice (some ⟨gm,0,none⟩) n n)).heap.size:=by
     have h1:=di.out;have h2:=zU.out;have h3:=fR.size;intro g hg;rw [aet];omega
    have Yq:yz (W6.setCell ⟨lb,4,none⟩ (.slice (some ⟨gm,0,none⟩) n n)) lb gt gm n ct n (.slice (some ⟨gr,0,none⟩) n cr) (.slice (some ⟨gc,0,none⟩) n n) (.slice (some ⟨gl,0,none⟩) n n) 0 (q.map cls):=
     ⟨vq,fun k hk=>by rw [iz];exact iJ E8 k hk,fun k hk=>by rw [iz];exact iJ Dq k hk,x9.out.1⟩
    have Kq:Hid (Calls prog 141 #[.pointer (some ⟨lb,0,none⟩),.int .i64 d] (W6.setCell ⟨lb,4,none⟩ (.slice (some ⟨gm,0,none⟩) n n)) fun e w'=>e= .returned (.int .i64 (gz (q.map cls) d))/\w'=(W6.setCell ⟨lb,4,none⟩ (.slice (some ⟨gm,0,none⟩) n n))):=akd _ lb gt gm n ct n _ _ _ 0 (q.map cls) Yq (by omega) d;have h7:=And.intro vq (And.intro BI (And.intro I1 (And.intro E8 (And.intro IV (And.intro IW (And.intro Dq Jc))))));have H7:=ah h7;clear nQ BK qh BW Av BV lN C7 vq gU BI I1 E8 IV IW Dq Jc Yq h7 QN fR ahn aho c1;go_wp2_with fail;generalize(W6.setCell ⟨lb,4,none⟩ (.slice (some ⟨gm,0,none⟩) n n))=W7 at*;refine Kq.out.mono ?_;rintro ev wx ⟨rfl,hx⟩;have hx':=hx.symm;subst hx';clear Kq d4 e4;obtain⟨vq,BI,I1,E8,IV,IW,Dq,Jc⟩:=H7.out;clear H7;generalize hpv:gz (q.map cls) d=pp at*;obtain⟨d5,e5⟩:=vq.c5;have Yp:=vq.s5 (.int .i64 pp);have nk:W7.grownBy (W7.setCell ⟨lb,5,none⟩ (.int .i64 pp)) (some lb):=DU _ lb 5 _;have X9:Below w.heap.size w (W7.setCell ⟨lb,5,none⟩ (.int .i64 pp)):=BI.setCell (p:=⟨lb,5,none⟩) qM.out.1 _;have ZM:=iu I1 nk Cc;have ZP:=iu E8 nk Mz;have ZG:=iu IV nk wI.out.2.2.2.2.2.1;have ZI:=iu IW nk wI.out.1;have ZJ:=iu Dq nk (by rintro rfl;exact jY Dq vq (by decide) rfl);have HX:Hid (LX (W7.setCell ⟨lb,5,none⟩ (.int .i64 pp)) ⟨w.heap.size,lb,gr,gt,gc,gl,gm,n,cr,ct,pp,q,q.map cls⟩ (q.map cls) (List.replicate n 0)):=by
     refine⟨Yp,fun k hk=> ?_,fun k hk=>by rw [iz];exact iJ ZP k hk,fun k hk=>by rw [iz];exact iJ ZJ k hk,x9.out.1,ZG,?_,?_,?_,?_⟩
     .rw [dg ZM k (by simpa using hk)];have:k<q.length:=by rw [x9.out.2.1];exact hk
      simp [nW,aO,aQ this]
     .show World.ownsRow _ _ _ _ _ _ _;rw [iv,List.map_replicate];exact ZI
     .intro g hg;rw [aet];apply Jc;unfold LP.has at hg;omega
     .exact⟨wI.out.1,wI.out.2.1,wI.out.2.2.1,wI.out.2.2.2.1,wI.out.2.2.2.2.1⟩
     .exact⟨wI.out.2.2.2.2.2.1,wI.out.2.2.2.2.2.2.1,wI.out.2.2.2.2.2.2.2.1,wI.out.2.2.2.2.2.2.2.2⟩
    have D3:=ah X9;have HPV:=ah hpv;clear vq BI I1 E8 IV IW Dq Jc Yp nk X9 ZM ZP ZG ZI ZJ hpv;go_wp2;go_ret;exact⟨⟨w.heap.size,lb,gr,gt,gc,gl,gm,n,cr,ct,pp,q,q.map cls⟩,rfl,HX.out,rfl,rfl,x9.out.2.1.symm,HPV.out.symm,rfl,D3.out⟩
end
theorem al9(w:World)(L:LP)(h:LX w L L.cs (List.replicate L.n 0))(hB:L.B<=w.heap.size)(hp:0<=L.p/\L.p<=125)(hn:L.n<=1000):
  Calls prog 85 #[.pointer (some ⟨L.lb,0,none⟩)] w fun e w'=>e= .returned (.tuple #[])/\LX w' L (kP L.cs L.p) (aZ L.cs L.p)/\Below L.B w w':=by
 obtain⟨s,hs⟩:∃s,s=w.heap.size:=⟨_,rfl⟩
 have hb1:Below w.heap.size w (w.alloc (.cells #[.pointer (some ⟨L.lb,0,none⟩),.slice none 0 0,.int .i64 0,.int .i64 0,.int .i64 0] 212)):=(aA _ _).alloc (ay _) _;have Bh:Hid (XP (w.alloc (.cells #[.pointer (some ⟨L.lb,0,none⟩),.slice none 0 0,.int .i64 0,.int .i64 0,.int .i64 0] 212)) L s (.slice none 0 0) L.cs (List.replicate L.n 0) ⟨[],0,0,0⟩):=
  ⟨⟨by rw [hs];exact mP,⟨rfl,.inl ⟨rfl,rfl⟩⟩,by rw [hs];exact hB⟩,h.below hb1,fun g hg=>⟨by have:=h.lt g hg;omega,by simp [Value.ownBlock]⟩⟩
 have c5:(w.alloc (.cells #[.pointer (some ⟨L.lb,0,none⟩),.slice none 0 0,.int .i64 0,.int .i64 0,.int .i64 0] 212)).cell? ⟨L.lb,5,none⟩=some (.int .i64 L.p):=az Bh.out.ln.cell 5;have aG:=ah (hb1.mono hB);have eP:=ah h.len;clear h hb1;go_enter func85,ntmps85;go_wp2_with fail;rw [<-hs];clear hs;refine(DG _ L.B s _ _ _ L.p (-1) false Bh.out.wk (by simp)).mono ?_;rintro ev w2 ⟨rfl,v2,hW,hF⟩;have iX:=ah (Bh.out.BF hW hF);have aJ:=ah (hF.ED Bh.out.wk aG.out);have a1:w2.cell? ⟨L.lb,1,none⟩=some (.slice (some ⟨L.gt,0,none⟩) L.n L.ct):=az iX.out.ln.cell 1;clear hW hF Bh aG c5;go_wp2;clear a1;go_loopg [18] L.n (fun gh kv W=>∃(k:Nat)(v:Value)(ks ls:List Int),k<=L.n/\gh=L.n - k/\kv= .int .i64 k/\XP W L s v ks ls (dW L.cs L.p k)/\Below L.B w W/\l8 L.n k ks (fun j=>xK (L.cs.getD j 0) (gG L.cs L.p j).o) (fun j=>L.cs.getD j 0)/\l8 L.n k ls (fun j=>(gG L.cs L.p j).l) (fun _=>0));case atStart=>
  refine⟨0,v2,L.cs,List.replicate L.n 0,by omega,rfl,rfl,iX.out,aJ.out,⟨eP.out,fun j _=>by rw [ai (by omega)]⟩,⟨by simp,fun j hj=> ?_⟩⟩;rw [ai (by omega),aO,OH,aj hj];rfl
 case round=>
  clear iX aJ;obtain⟨k,v,ks,ls,hk,rfl,rfl,hX,hBl,hK,hL⟩:=hrel;by_cases hlt:k<L.n
  .have hlt':(k:Int)<(L.n:Int):=by omega
   have ek:ks.getD k 0=L.cs.getD k 0:=by have:=hK.2 k hlt;rw [ai (by omega)]at this;exact this
   have HK:Hid (l8 L.n (k+1) (ks.set k (xK (ks.getD k 0) (aR (dL (dW L.cs L.p k) (L.cs.getD k 0)).st).o)) (fun j=>xK (L.cs.getD j 0) (gG L.cs L.p j).o) (fun j=>L.cs.getD j 0)):=by rw [ek];exact hK.step hlt
   have HL:=ah (hL.step hlt);have HS:Hid (Calls prog 143 #[.pointer (some ⟨s,0,none⟩),.int .i64 k] wr fun ev w'=>ev= .returned (.tuple #[])/\∃v',XP w' L s v' (ks.set k (xK (ks.getD k 0) (aR (dL (dW L.cs L.p k) (L.cs.getD k 0)).st).o)) (ls.set k (aR (dL (dW L.cs L.p k) (L.cs.getD k 0)).st).l) (dW L.cs L.p (k+1))/\Below L.B wr w'):=amW wr L s v ks ls (dW L.cs L.p k) k hX (wm L.cs L.p hp k) (by omega) hn k hlt;have kg:=ah hBl;clear hX hBl hK hL ek;go_wp2_with fail;refine HS.out.mono ?_;rintro ev w3 ⟨rfl,v3,xq,cV⟩;have jC:=ah xq;have aI:Hid _:=kg.out.trans cV;clear xq cV HS;go_wp2;go_roundg (L.n - (k+1));case measure=>omega
   case rel=>exact⟨k+1,v3,_,_,by omega,rfl,by go_num,jC.out,aI.out,HK.out,HL.out⟩
  .obtain rfl:k=L.n:=by omega
   have HX:=ah hX.ln;have kg:=ah hBl;have HK:Hid (ks=kP L.cs L.p):=by show _=_;rw [hK.done,kP,eP.out]
   have HL:Hid (ls=aZ L.cs L.p):=by show _=_;rw [hL.done,aZ,eP.out]
   clear hX hBl hK hL;go_wp2;go_end0;refine⟨rfl,?_,kg.out⟩;rw [<-HK.out,<-HL.out];exact HX.out
