import Derived.Test.YtkbinfhclaafhaaGreatDoorP16
import Derived.RangeFuncOwn
import Derived.Stop.RegionWithIn
import Derived.OwnWalkIn
import Derived.TacticsInMore
namespace Go.Proofs.YtkbinfhclaafhaaGreatDoor
open Go.RowKit
open Go.Proofs.Tryz
set_option maxRecDepth 100000
set_option maxHeartbeats 32000000
set_option linter.all false
structure RP where
 line:Nat
 start:Nat
 from_:Nat
 body:Nat
 at_:Nat
def bt(s:ByteArray)(i:Nat):Int:=if i<s.size then((s.get! i).toNat:Int)else 10
def oM {s:ByteArray}{i:Nat}(h:i<s.size):bt s i=((s[i]'h).toNat:Int):=by rw[bt,aj h,get_eq s i h]
def AR {s:ByteArray}{i:Nat}(h:¬i<s.size):bt s i=10:=by rw[bt,ai h]
def bS {w:World}{k:Nat}{o:Obj}(h:w.heap[k]? =some o):k<w.heap.size:=(M3.1 h).1
def tY(w:World)(o:Obj)(a:Addr)(h:a.block<w.heap.size):(w.alloc o).cell? a=w.cell? a:=World.cell?_of_block<|dw w o _ h
def oP(w:World)(r:Option Nat):w.grownBy w r:=⟨rfl,rfl,rfl,au _,λ_ _ _=>rfl⟩
def alj {a b c:World}{r:Option Nat}(h:a.grownBy b r)(k:b.grownBy c r):a.grownBy c r:=
 ⟨k.os.trans h.os,k.tape.trans h.tape,k.output.trans h.output,bP h.size k.size,λi e d=>(k.block i (kQ e h.size) d).trans (h.block i e d)⟩
def vI(W:World)(b i:Nat)(v:Value):W.grownBy (W.setCell ⟨b,i,none⟩ v) (some b):=⟨rfl,rfl,rfl,by simp,λk _ a=>iF _ _ _ _ (λe=>a<|by rw[e])⟩
def mX {a b:World}{c i:Nat}{v:Value}(h:a.grownBy b<|some c):a.grownBy (b.setCell ⟨c,i,none⟩ v) (some c):=alj h<|vI _ _ _ _
def DM {a b:World}{r:Option Nat}(h:a.grownBy b r){m:Nat}:a.grownBy (b.drewN m) r:=⟨h.os,h.tape,h.output,h.size,h.block⟩
def DL {a b:World}{r:Option Nat}(h:a.grownBy b r):a.grownBy b.drew r:=⟨h.os,h.tape,h.output,h.size,h.block⟩
def Rd(w:World)(a:Nat)(s:ByteArray)(c:Value)(p:RP)(b:Bool):Prop:=
 w.heap[a]? =some (.cells #[.string s,c,.int .i64 p.line,.int .i64 p.start,.int .i64 p.from_,.int .i64 p.body,.int .i64 p.at_,.bool b] 244 (0,0))
section
variable{w w':World}{rb:Nat}{s:ByteArray}{tv:Value}{p:RP}{st:Bool}
def Rd.c0(h:Rd w rb s tv p st):w.cell? ⟨rb,0,none⟩=some (.string s):=az h 0
def Rd.c1(h:Rd w rb s tv p st):w.cell? ⟨rb,1,none⟩=some tv:=az h 1
def Rd.c2(h:Rd w rb s tv p st):w.cell? ⟨rb,2,none⟩=some (.int .i64 p.line):=az h 2
def Rd.c3(h:Rd w rb s tv p st):w.cell? ⟨rb,3,none⟩=some (.int .i64 p.start):=az h 3
def Rd.c4(h:Rd w rb s tv p st):w.cell? ⟨rb,4,none⟩=some (.int .i64 p.from_):=az h 4
def Rd.c5(h:Rd w rb s tv p st):w.cell? ⟨rb,5,none⟩=some (.int .i64 p.body):=az h 5
def Rd.c6(h:Rd w rb s tv p st):w.cell? ⟨rb,6,none⟩=some (.int .i64 p.at_):=az h 6
def Rd.c7(h:Rd w rb s tv p st):w.cell? ⟨rb,7,none⟩=some (.bool st):=az h 7
def Rd.fz(h:Rd w rb s tv p st)(j:Nat):w.frozen? ⟨rb,j,none⟩=false:=cB h j
def Rd.lt(h:Rd w rb s tv p st):rb<w.heap.size:=bS h
def Rd.set(a:RP)(b:Bool)(c:w'.heap[rb]? =some (.cells #[.string s,tv,.int .i64 a.line,.int .i64 a.start,.int .i64 a.from_,.int .i64 a.body,.int .i64 a.at_,.bool b] 244 (0,0))):Rd w' rb s tv a b:=c
def Rd.other(h:Rd w rb s tv p st){r:Option Nat}(b:w.grownBy w' r)(a:some rb≠r):Rd w' rb s tv p st:=(b.block rb h.lt a).trans h
def Rd.s2(h:Rd w rb s tv p st)(v:Nat):Rd (w.setCell ⟨rb,2,none⟩ (.int .i64 v)) rb s tv ⟨v,p.start,p.from_,p.body,p.at_⟩ st:=by unfold Rd;rw[eW h];rfl
def Rd.s3(h:Rd w rb s tv p st)(v:Nat):Rd (w.setCell ⟨rb,3,none⟩ (.int .i64 v)) rb s tv ⟨p.line,v,p.from_,p.body,p.at_⟩ st:=by unfold Rd;rw[eW h];rfl
def Rd.s4(h:Rd w rb s tv p st)(v:Nat):Rd (w.setCell ⟨rb,4,none⟩ (.int .i64 v)) rb s tv ⟨p.line,p.start,v,p.body,p.at_⟩ st:=by unfold Rd;rw[eW h];rfl
def Rd.s5(h:Rd w rb s tv p st)(v:Nat):Rd (w.setCell ⟨rb,5,none⟩ (.int .i64 v)) rb s tv ⟨p.line,p.start,p.from_,v,p.at_⟩ st:=by unfold Rd;rw[eW h];rfl
def Rd.s6(h:Rd w rb s tv p st)(v:Nat):Rd (w.setCell ⟨rb,6,none⟩ (.int .i64 v)) rb s tv ⟨p.line,p.start,p.from_,p.body,v⟩ st:=by unfold Rd;rw[eW h];rfl
def Rd.s7(h:Rd w rb s tv p st)(v:Bool):Rd (w.setCell ⟨rb,7,none⟩ (.bool v)) rb s tv p v:=by unfold Rd;rw[eW h];rfl
def Rd.drewN(h:Rd w rb s tv p st)(m:Nat):Rd (w.drewN m) rb s tv p st:=h
end
def WO {a b:Bool}(h:a=b):Ending.returned (.bool a)= .returned (.bool b):=by rw[h]
def mH(s:ByteArray)(p:RP)(a:Bool):Bool:=a||decide (p.at_=s.size)
def yA(s:ByteArray)(p:RP)(a:Bool):Bool:=mH s p a||decide (bt s p.at_=10)
def Zd(w:World)(b:Nat)(s:ByteArray)(f:Value)(p:RP)(a:Bool)(h:Rd w b s f p a):
  Calls prog 177 #[.pointer<|some ⟨b,0,none⟩] w λe g=>e= .returned (.bool<|mH s p a)/\∃m,g=w.drewN m:=by
 have j:=h.c0;have d:=h.c6;have k:=h.c7;clear h;obtain⟨n,o,l,i,c⟩:=p;unfold mH;simp only at d ⊢;cases a with
 |true=>
  go_enter func177,ntmps177;go_wp2_with fail;go_quiet(fail);go_wp2;go_ret;exact⟨rfl,_,rfl⟩
 |false=>
  go_enter func177,ntmps177;go_wp2_with fail;go_quiet(fail);go_wp2;go_ret;exact⟨WO<|by rw[C7,C6];simp;omega,_,rfl⟩
def aec(w:World)(j:Nat)(s:ByteArray)(n:Value)(p:RP)(d:Bool)(h:Rd w j s n p d)(g:p.at_<=s.size):
  Calls prog 182 #[.pointer<|some ⟨j,0,none⟩] w λe l=>e= .returned (.bool<|yA s p d)/\∃m,l=w.drewN m:=by
 have i:Hid (∀m,Calls prog 177 #[.pointer<|some ⟨j,0,none⟩] (w.drewN m) λe l=>e= .returned (.bool<|mH s p d)/\∃k,l=(w.drewN m).drewN k):=λm=>Zd _ j s n p d (h.drewN m)
 have u:=h.c0;have o:=h.c6;clear h;unfold yA;by_cases a:mH s p d=true
 .rw[a]at i ⊢;clear a g;go_enter func182,ntmps182;go_wp2_with fail;go_quiet(first|(go_at_call 177;refine Calls.quiet_of<|i.out _));go_wp2;go_ret;exact⟨rfl,_,rfl⟩
 .have a:mH s p d=false:=by simpa using a
  have b:p.at_<s.size:=by
   unfold mH at a;simp only[Gm,Cm]at a;omega
  rw[a]at i ⊢;rw[oM b];clear a g;obtain⟨x,y,v,t,f⟩:=p;simp only at b o ⊢;have r:(f:Int)<(s.size:Int):=by omega
  obtain⟨c,q⟩:∃c,s[f]'b=c:=⟨_,rfl⟩
  rw[q];go_enter func182,ntmps182;go_wp2_with fail;go_quiet(first|(go_at_call 177;refine Calls.quiet_of<|i.out _));go_wp2;go_ret;exact⟨WO<|by rw[C7,C6];simp,_,rfl⟩
def oO(p:RP):RP:=⟨p.line+1,p.at_+1,p.at_+1,p.at_+1,p.at_+1⟩
def akV(w:World)(c:Nat)(s:ByteArray)(x:Value)(p:RP)(u:Bool)(h:Rd w c s x p u)(n:p.at_<=100000)(B:p.line<=100000):
  Calls prog 180 #[.pointer<|some ⟨c,0,none⟩] w λe y=>(∃v,e= .returned v)/\Rd y c s x (oO p) u/\w.grownBy y (some c):=by
 obtain⟨i,E,D,C,g⟩:=p;simp only at n B;unfold oO;simp only;obtain⟨a,d⟩:∃a,g+1=a:=⟨_,rfl⟩
 rw[d];have A:=ah d;clear d;have o:=ah h;have q:=h.c2;have m:=h.c6;have f2:=h.fz 2;have f3:=h.fz 3;have f4:=h.fz 4;have f5:=h.fz 5;have f6:=h.fz 6;have j:=h.c3;have k:=h.c4;have l:=h.c5;clear h;simp only at q j k l m;go_enter func180,ntmps180;go_wp2;have t:((g:Int)+1)=(a:Int):=by have:=A.out;omega
 have r:((i:Int)+1)=((i+1:Nat):Int):=by omega
 rw[t,r];clear t r q j k l m f2 f3 f4 f5 f6;have b:=(o.out.s6 a).s2 (i+1);have g1:w.grownBy ((w.setCell ⟨c,6,none⟩ (.int .i64 (a:Int))).setCell ⟨c,2,none⟩ (.int .i64 ((i+1:Nat):Int))) (some c):=mX<|mX<|oP _ _;generalize(w.setCell ⟨c,6,none⟩ (.int .i64 (a:Int))).setCell ⟨c,2,none⟩ (.int .i64 ((i+1:Nat):Int))=W at*;have m:=b.c6;have j:=b.c3;have k:=b.c4;have l:=b.c5;have f3:=b.fz 3;have f4:=b.fz 4;have f5:=b.fz 5;simp only at j k l m;have f:=ah b;have z:=ah g1;clear b g1 o;go_region;all_goals
  go_wp2;go_end0;refine⟨⟨_,rfl⟩,?_,?_⟩
  .first
    |exact((f.out.s3 a).s4 a).s5 a
    |exact((f.out.s3 a).s5 a).s4 a
    |exact((f.out.s4 a).s3 a).s5 a
    |exact((f.out.s4 a).s5 a).s3 a
    |exact((f.out.s5 a).s3 a).s4 a
    |exact((f.out.s5 a).s4 a).s3 a
  .exact DM (mX<|mX<|mX z.out)
def aqU(w:World)(b:Nat)(s:ByteArray)(u:Value)(p:RP)(t:Bool)(h:Rd w b s u p t)(g:p.at_<s.size)(C:s.size<=100000):
  Calls prog 178 #[.pointer<|some ⟨b,0,none⟩] w λe x=>e= .returned (.agg #[.int .u8<|bt s p.at_,.int .u8<|bt s<|p.at_+1])/\Below w.heap.size w x:=by
 have n:=h.c0;have m:=h.c6;have f:=ah h.lt;clear h;rw[oM g];obtain⟨D,E,B,A,a⟩:=p;simp only at g m ⊢;have r:(a:Int)<(s.size:Int):=by omega
 obtain⟨c,o⟩:∃c,s[a]'g=c:=⟨_,rfl⟩
 rw[o];have k:(w.alloc (.cells #[.int .u8 0,.int .u8 0] 246)).cell? ⟨b,0,none⟩=some (.string s):=(tY _ _ _ f.out).trans n;have l:(w.alloc (.cells #[.int .u8 0,.int .u8 0] 246)).cell? ⟨b,6,none⟩=some (.int .i64 a):=(tY _ _ _ f.out).trans m;have F:((w.alloc (.cells #[.int .u8 0,.int .u8 0] 246)).alloc (.cells #[.int .u8 0,.int .u8 0] 246)).cell? ⟨b,0,none⟩=some (.string s):=(tY _ _ _ (by simp;have:=f.out;omega)).trans k;have G:((w.alloc (.cells #[.int .u8 0,.int .u8 0] 246)).alloc (.cells #[.int .u8 0,.int .u8 0] 246)).cell? ⟨b,6,none⟩=some (.int .i64 a):=(tY _ _ _ (by simp;have:=f.out;omega)).trans l;by_cases i:a+1<s.size
 .rw[oM i];obtain⟨d,q⟩:∃d,s[a+1]'i=d:=⟨_,rfl⟩
  rw[q];have j:(a:Int)+1<(s.size:Int):=by omega
  go_enter func178,ntmps178;go_wp2;go_region;all_goals
   have y:((w.alloc (.cells #[.int .u8 0,.int .u8 0] 246)).alloc (.cells #[.int .u8 c.toNat,.int .u8 10] 246)).cell? ⟨b,0,none⟩=some (.string s):=(tY _ _ _ (by simp;have:=f.out;omega)).trans k;have z:((w.alloc (.cells #[.int .u8 0,.int .u8 0] 246)).alloc (.cells #[.int .u8 c.toNat,.int .u8 10] 246)).cell? ⟨b,6,none⟩=some (.int .i64 a):=(tY _ _ _ (by simp;have:=f.out;omega)).trans l;go_wp2;go_region;go_wp2;go_region;all_goals
    go_wp2;exact cI (v:= .agg #[.int .u8 c.toNat,.int .u8 d.toNat]) (by simp[results,results178,Tryz.isAgg246,Tryz.sizeOf246,go_sem]) rfl ⟨rfl,(((((aA _ _).alloc (au _) _).alloc (by simp) _).drew).drew).drew⟩
 .rw[AR i];have j:¬(a:Int)+1<(s.size:Int):=by omega
  go_enter func178,ntmps178;go_wp2;go_region;all_goals
   have y:((w.alloc (.cells #[.int .u8 0,.int .u8 0] 246)).alloc (.cells #[.int .u8 c.toNat,.int .u8 10] 246)).cell? ⟨b,0,none⟩=some (.string s):=(tY _ _ _ (by simp;have:=f.out;omega)).trans k;have z:((w.alloc (.cells #[.int .u8 0,.int .u8 0] 246)).alloc (.cells #[.int .u8 c.toNat,.int .u8 10] 246)).cell? ⟨b,6,none⟩=some (.int .i64 a):=(tY _ _ _ (by simp;have:=f.out;omega)).trans l;go_wp2;go_region;go_wp2;exact cI (v:= .agg #[.int .u8 c.toNat,.int .u8 10]) (by simp[results,results178,Tryz.isAgg246,Tryz.sizeOf246,go_sem]) rfl ⟨rfl,((((aA _ _).alloc (au _) _).alloc (by simp) _).drew).drew⟩
def bZ(s:ByteArray)(i:Nat):Nat:=if i<s.size/\bt s i≠10 then bZ s (i+1)else i
termination_by s.size - i
def Mk {s:ByteArray}{i:Nat}(h:i<=s.size):bZ s i<=s.size:=by
 fun_induction bZ s i with
 |case1 i a ih=>exact ih<|by omega
 |case2 i a=>exact h
def FV(s:ByteArray)(i:Nat):i<=bZ s i:=by
 fun_induction bZ s i with
 |case1 i a ih=>omega
 |case2 i a=>omega
def aqZ(w:World)(f:Nat)(s:ByteArray)(t:Value)(p:RP)(c:Bool)(h:Rd w f s t p c)(l:p.at_<=s.size)(N:s.size<=100000):
  Calls prog 183 #[.pointer<|some ⟨f,0,none⟩] w λe u=>(∃v,e= .returned v)/\Rd u f s t {p with at_:=if c then p.at_ else bZ s p.at_} c/\w.grownBy u (some f):=by
 obtain⟨n,o,k,j,r⟩:=p;simp only at l ⊢;obtain⟨E,z⟩:∃E,(if c then r else bZ s r)=E:=⟨_,rfl⟩
 rw[z];have D:=ah z;clear z;go_enter func183,ntmps183;go_wp2;go_loopg [] (s.size - r) (λH W=>∃a,a<=s.size/\H=s.size - a/\Rd W f s t ⟨n,o,k,j,a⟩ c/\w.grownBy W (some f)/\(if c then a else bZ s a)=E);exact⟨r,l,rfl,h,oP _ _,D.out⟩;obtain⟨a,I,rfl,i,A,d⟩:=hrel;have C:=ah i;have B:=ah A;have q:Hid (∀_x:Nat,Calls prog 182 #[.pointer<|some ⟨f,0,none⟩] wr λe u=>e= .returned (.bool<|yA s ⟨n,o,k,j,a⟩ c)/\∃m,u=wr.drewN m):=λ_=>aec wr f s t ⟨n,o,k,j,a⟩ c i I
 have L:=ah d;by_cases b:yA s ⟨n,o,k,j,a⟩ c=true
 .rw[b]at q;have x:Hid (a=E):=by
   show _=_;unfold yA mH at b;simp only[Gn,DD]at b;cases c with
   |true=>exact d
   |false=>
    rw[ai<|by decide,bZ,ai]at d
    .exact d
    .rintro⟨M,y⟩;rcases b with(g|g)|g
     .cases g
     .omega
     .exact y g
  clear b i A d;go_wp2_with(go_at_call 182;refine(q.out 0).mono ?_;rintro G K ⟨rfl,m,rfl⟩);go_end0;refine⟨⟨_,rfl⟩,?_,DM B.out⟩;rw[<-x.out];exact C.out.drewN _
 .have b:yA s ⟨n,o,k,j,a⟩ c=false:=by simpa using b
  rw[b]at q;unfold yA mH at b;simp only[Gm,Cm]at b;obtain⟨⟨rfl,y⟩,g⟩:=b;have x:Hid ((if false then a+1 else bZ s (a+1))=E):=by
   show(if false=true then _ else _)=_;rw[ai<|by decide]at d ⊢;rw[bZ,aj ⟨by omega,g⟩]at d;exact d
  have F:=i.c6;have f6:=i.fz 6;simp only at F;have J:a<s.size:=by omega
  clear i A d y g;go_wp2_with(go_at_call 182;refine(q.out 0).mono ?_;rintro G K ⟨rfl,m,rfl⟩);go_roundg (s.size - (a+1));exact⟨a+1,by omega,rfl,(C.out.drewN _).s6 (a+1),mX<|DM B.out,x.out⟩;omega
def Same(A B:World):Prop:=∀(k:Nat)(o:Obj),A.heap[k]? =some o->o.isCells=false->B.heap[k]? =some o
def apg {d:Type}(a:World->World->Prop)(I:List d->World->Prop)(c:Code->List d->World->Prop)(b:List d)(W:World):Exit->Act->World->Prop
 | .normal,_,W'=>Same W W'/\a W W'/\I b W'
 | .ret,_,W'=>Same W W'/\a W W'/\c .ret b W'
 | .exit id,_,W'=>Same W W'/\a W W'/\c (.exit id) b W'
 | .goto t,_,W'=>Same W W'/\a W W'/\c (.goto t) b W'
 | .panic _,_,_=>False
 | .outgrown,_,_=>False
def jy {W:World}{l k:Nat}{o:Obj}(h:k≠l):(W.putObj l o).heap[k]? =W.heap[k]? :=World.putObj_heap_other h
structure PR where
 line:Nat
 kind:Nat
 from_:Nat
 dH:Nat
 body:Nat
 end_:Nat
def Ow(x:PR):Array Value:=#[.int .i64 x.line,.agg #[.int .i64 x.kind,.int .i64 x.from_,.int .i64 x.dH,.int .i64 x.body,.int .i64 x.end_]]
structure kK(A B:World):Prop where
 os:B.os=A.os
 tape:B.tape=A.tape
 output:B.output=A.output
 size:A.heap.size<=B.heap.size
 block:∀(k:Nat)(o:Obj),A.heap[k]? =some o->(∀c fr,o=Obj.cells c 244 fr->¬(c.size=8/\∃t,c[0]? =some (.string t)))->B.heap[k]? =some o
structure zh(n₀:Nat)(A B:World):Prop where
 below:Below n₀ A B
 rd:∀(k:Nat)(c:Array Value)(fr:Nat×Nat),A.heap[k]? =some (Obj.cells c 244 fr)->B.heap[k]? =some (Obj.cells c 244 fr)
def kK.FZ {A B:World}{b:Nat}{c:Array Value}{d:Nat×Nat}(h:A.heap[b]? =some (.cells c 244 d))(a:A.grownBy B<|some b)(f:c.size=8/\∃t,c[0]? =some (.string t):=by exact⟨rfl,_,rfl⟩):kK A B where
 os:=a.os
 tape:=a.tape
 output:=a.output
 size:=a.size
 block k o hk hne:=by
  rw[a.block k<|bS hk]
  .exact hk
  .intro e;obtain rfl:=aJ e;rw[h]at hk;exact hne _ _ (aJ hk).symm f
structure Tl(l n₀:Nat)(J Jx:List PR->World->Prop)(X:List PR):Prop where
 hJ:∀pre A B,J pre A->kK A B->J pre B
 Cx:∀pre A B,Jx pre A->kK A B->Jx pre B
 hY:∀pre x W1,J pre W1->(pre++[x])<+:X->YieldAt Fence.wide 0 prog l (Ow x) W1 λe W'=>(e= .returned (.bool true)/\J (pre++[x]) W'/\zh n₀ W1 W')∨(e= .returned (.bool false)/\Jx (pre++[x]) W'/\zh n₀ W1 W')
structure Rs(w:World)(rb:Nat)(s:ByteArray)(l:Nat)(J Jx:List PR->World->Prop)(X:List PR)(p:RP)(st:Bool)(pre:List PR):Prop where
 rd:Rd w rb s (.func (.yield l) #[] #[]) p st
 go:st=false->J pre w
 no:st=true->∃q,q<+:X/\Jx q w
def dJ(k t:Nat)(p:RP):List PR:=if p.from_=p.at_+t then []else [⟨p.line,k,p.from_ - p.start,p.at_+t - p.start,if k=0 then 0 else p.body - p.start,if k=0 then 0 else p.at_ - p.start⟩]
def cM(t:Nat)(p:RP):RP:=if p.from_=p.at_+t then⟨p.line,p.start,p.from_,p.body,p.at_+t⟩else⟨p.line,p.start,p.at_+t,p.at_+t,p.at_+t⟩
def iu(t:Nat)(p:RP)(a:Bool):RP:=if a then⟨p.line,p.start,p.from_,p.body,p.at_+t⟩else cM t p
section
variable{w w':World}{rb:Nat}{s:ByteArray}{l n₀:Nat}{J Jx:List PR->World->Prop}{X:List PR}{p p':RP}{st st':Bool}{pre:List PR}
def Rs.ry(h:Rs w rb s l J Jx X p st pre)(T:Tl l n₀ J Jx X)(a:kK w w')(c:Rd w' rb s (.func (.yield l) #[] #[]) p' st):Rs w' rb s l J Jx X p' st pre:=
 ⟨c,λe=>T.hJ _ _ _ (h.go e) a,λe=>by obtain⟨q,b,hx⟩:=h.no e;exact⟨q,b,T.Cx _ _ _ hx a⟩⟩
def Rs.grown(h:Rs w rb s l J Jx X p st pre)(T:Tl l n₀ J Jx X)(a:w.grownBy w'<|some rb)(b:Rd w' rb s (.func (.yield l) #[] #[]) p' st):Rs w' rb s l J Jx X p' st pre:=
 h.ry T (kK.FZ h.rd a) b
end
def Hu {a b:World}{r:Option Nat}(h:a.grownBy b r)(o:Obj):a.grownBy (b.alloc o) r:=⟨h.os,h.tape,h.output,by have:=h.size;simp;omega,λk d c=>(dw _ _ _ (by have:=h.size;omega)).trans (h.block k d c)⟩
def Below.Eg {c:Nat}{a b:World}{d:Nat}(h:a.grownBy b<|some d)(f:c<=d)(g:c<=a.heap.size):Below c a b:=(aA c a).grown h g (λk e=>by obtain rfl:=aJ e;exact f)
def DJ(n:Nat):Code->Option Code
 | .region id ops d=>if id=n then some (.region id ops d)else none
 |.seq a b=>match DJ n a with
  |some c=>some c
  |none=>DJ n b
 | .block _ c=>DJ n c
 | .scope c=>DJ n c
 | .loop c=>DJ n c
 |.cond _ a b=>match DJ n a with
  |some c=>some c
  |none=>DJ n b
 |_=>none
noncomputable def ajV:Code:=((Tryz.f179.body.bind<|DJ 6).getD .skip)
def mA(w:World)(h o:Nat)(s:ByteArray)(l a:Nat)(J u:List PR->World->Prop)(X:List PR)(T:Tl l a J u X)(hn:a<=h)(p:RP)(c:List PR)(k F G B D:Nat)(d:World)
  (q:d.heap[o]? =some (.cells #[.int .i64 k,.int .i64 F,.int .i64 G,.int .i64 B,.int .i64 D] 75 (0,0))) (z:Below a w d) (t:Rs d h s l J u X p false c) (hX:(c++[(⟨p.line,k,F,G,B,D⟩:PR)])<+:X)
  (K:Act->World->Prop) (R0:Ending->World->Prop) (u1 u2 u3 u4 u5 u6 u8 u9 uC vK vL vM vN vO u16 vP vQ vR vS vT vU u23 u24 vV u26 vW u28 vX vY vZ u32 u33 wh wm wu wz wF wG wH wI wJ wK u44 wL wM wN wO wP wQ wR wT wU wV wW wX wY wZ w9 xd xg xh xm u64 xo xq xu xw xx xy xz xA xB yG yH yI yJ yK yL yM yN yO yP yQ yR yS u87 u88 u89 u90 u91 u92 u93 u94 u95 u96 u97 u98 u99 x y:Value)
  (hK:∀(b:Bool)(v:World)(N O P Q R S U V W Y XW Z XX aa:Value),Below a w v->Rd v h s (.func (.yield l) #[] #[]) p (!b)->(b=true->J (c++[⟨p.line,k,F,G,B,D⟩]) v)->(b=false->u (c++[⟨p.line,k,F,G,B,D⟩]) v)->K {tmps:=#[.pointer<|some ⟨h,0,none⟩,u1,u2,u3,u4,u5,u6,.pointer<|some ⟨o,0,none⟩,u8,u9,uC,vK,vL,vM,vN,vO,u16,vP,vQ,vR,vS,vT,vU,u23,u24,vV,u26,vW,u28,vX,vY,vZ,u32,u33,wh,wm,wu,wz,wF,wG,wH,wI,wJ,wK,u44,wL,wM,wN,wO,wP,wQ,wR,wT,wU,wV,wW,wX,wY,wZ,w9,xd,xg,xh,xm,u64,xo,xq,xu,xw,xx,xy,xz,xA,xB,N,O,P,Q,R,S,U,V,W,Y,XW,Z,XX,aa,u88,u89,u90,u91,u92,u93,u94,u95,u96,u97,u98,u99,x,y],defers:=[]} v):
  Code.wp prog ajV (Exit.then K<|bodyPost prog Tryz.f179 R0) {tmps:=#[.pointer<|some ⟨h,0,none⟩,u1,u2,u3,u4,u5,u6,.pointer<|some ⟨o,0,none⟩,u8,u9,uC,vK,vL,vM,vN,vO,u16,vP,vQ,vR,vS,vT,vU,u23,u24,vV,u26,vW,u28,vX,vY,vZ,u32,u33,wh,wm,wu,wz,wF,wG,wH,wI,wJ,wK,u44,wL,wM,wN,wO,wP,wQ,wR,wT,wU,wV,wW,wX,wY,wZ,w9,xd,xg,xh,xm,u64,xo,xq,xu,xw,xx,xy,xz,xA,xB,yG,yH,yI,yJ,yK,yL,yM,yN,yO,yP,yQ,yR,yS,u87,u88,u89,u90,u91,u92,u93,u94,u95,u96,u97,u98,u99,x,y],defers:=[]} d:=by
 conv=>arg 2;whnf
 have HK:=ah hK;have HP:=ah q;have C:Hid (Below a w d/\Rs d h s l J u X p false c):=⟨z,t⟩
 have HX:=ah hX;clear hK z hX;obtain⟨r,M,I,H,E⟩:=p;simp only at HX;have c1:=t.rd.c1;have c2:=t.rd.c2;simp only at c2;have q0:d.cell? ⟨o,0,none⟩=some (.int .i64 k):=az q 0;have q1:d.cell? ⟨o,1,none⟩=some (.int .i64 F):=az q 1;have q2:d.cell? ⟨o,2,none⟩=some (.int .i64 G):=az q 2;have q3:d.cell? ⟨o,3,none⟩=some (.int .i64 B):=az q 3;have q4:d.cell? ⟨o,4,none⟩=some (.int .i64 D):=az q 4;clear q t;obtain⟨fn,tmps,g,m,hy,hR⟩:=T.hY c ⟨r,k,F,G,B,D⟩ d.drew (T.hJ _ _ _ (C.out.2.go rfl) (kK.FZ C.out.2.rd<|DL<|oP _ _)) HX.out;have A:RoundIn Fence.wide 0 prog l fn tmps g m d.drew λe j=>∃b,e= .returned (.bool b)/\j.cell? ⟨h,7,none⟩=some (.bool false)/\j.frozen? ⟨h,7,none⟩=false/\Hid (Below a w j/\Rd j h s (.func (.yield l) #[] #[]) ⟨r,M,I,H,E⟩ false/\(b=true->J (c++[⟨r,k,F,G,B,D⟩]) j)/\(b=false->u (c++[⟨r,k,F,G,B,D⟩]) j)):=by
  refine hR.mono ?_;have z:=C.out.1;have t:=C.out.2.rd;rintro e j (⟨rfl,L,i⟩|⟨rfl,L,i⟩)
  .have f:Rd j h s (.func (.yield l) #[] #[]) ⟨r,M,I,H,E⟩ false:=i.rd _ _ _ t;exact⟨true,rfl,f.c7,f.fz 7,z.drew.trans i.below,f,λ_=>L,λe=>by cases e⟩
  .have f:Rd j h s (.func (.yield l) #[] #[]) ⟨r,M,I,H,E⟩ false:=i.rd _ _ _ t;exact⟨false,rfl,f.c7,f.fz 7,z.drew.trans i.below,f,(λe=>by cases e),λ_=>L⟩
 have ac:(Instr.yield l #[.int .i64 r,.agg #[.int .i64 k,.int .i64 F,.int .i64 G,.int .i64 B,.int .i64 D]]).run prog d.drew= .ok (.round l fn tmps g m) d.drew:=hy;clear hR hy;have ab:Fence.wide.depth=none:=rfl;refine(Qz (n:=0)).1 ?_
 gi_region_with (first|((first|refine A.mono ?_|refine⟨rfl,A.mono ?_⟩);rintro ev W4 ⟨b,rfl,v7,g7,H4⟩))
 all_goals
  obtain⟨k1,k2,k3,k4⟩:=H4.out;have ka:kK W4 (W4.setCell ⟨h,7,none⟩ (.bool (!b))):=kK.FZ k2<|mX<|oP _ _;exact HK.out b _ _ _ _ _ _ _ _ _ _ _ _ _ _ _ (k1.setCell (p:=⟨h,7,none⟩) hn _) (k2.s7 _) (λe=>T.hJ _ _ _ (k3 e) ka) (λe=>T.Cx _ _ _ (k4 e) ka)
def mE(w:World)(d:Nat)(s:ByteArray)(l a:Nat)(J I:List PR->World->Prop)(X:List PR)(T:Tl l a J I X)(hn:a<=d)(p:RP)(st:Bool)(f:List PR)(h:Rs w d s l J I X p st f)(k t:Nat)(hk:k<=2)(ht:t<=2)
  (h1:p.start<=p.from_) (h2:p.start<=p.body) (h3:p.start<=p.at_) (h4:p.at_<=100000) (h5:p.from_<=100000) (h6:p.body<=100000) (hX:st=false->(f++dJ k t p)<+:X):
  Calls prog 179 #[.pointer<|some ⟨d,0,none⟩,.int .i64 k,.int .i64 t] w λe w'=>(∃v,e= .returned v)/\Below a w w'/\∃L,(st=true->L=true)/\Rs w' d s l J I X (iu t p st) L (f++dJ k t p):=by
 obtain⟨j,g,n,u,nU⟩:=p;simp only at h1 h2 h3 h4 h5 h6;have aw:=h.rd.lt;have O:=h.rd.c6;have f6:=h.rd.fz 6;simp only at O;obtain⟨c,r⟩:=ac<|nU+t;have HA:=ah r;have HH:=ah h;have A:=h.rd.s6 c;have S:w.grownBy (w.setCell ⟨d,6,none⟩ (.int .i64 c)) (some d):=mX<|oP _ _;have dW:Rs (w.setCell ⟨d,6,none⟩ (.int .i64 c)) d s l J I X ⟨j,g,n,u,c⟩ st f:=h.grown T S A;have R:Below a w (w.setCell ⟨d,6,none⟩ (.int .i64 c)):=Below.Eg S hn (by omega);have e0:((nU:Int)+(t:Int))=(c:Int):=by omega
 cases st with
 |true=>
  have M:Hid (Below a w (w.setCell ⟨d,6,none⟩ (.int .i64 c))/\Rs (w.setCell ⟨d,6,none⟩ (.int .i64 c)) d s l J I X ⟨j,g,n,u,c⟩ true f):=⟨R,dW⟩
  have c7:=A.c7;have y:iu t ⟨j,g,n,u,nU⟩ true=⟨j,g,n,u,c⟩:=by rw[iu,aj rfl,r]
  rw[y];clear y h A S dW R r hX;go_enter func179,ntmps179;go_wp2;go_quiet(fail);go_wp2;refine cI (Bu rfl _ _ _) rfl ?_;refine⟨⟨_,rfl⟩,gH M.out.1 _,true,λ_=>rfl,⟨M.out.2.rd.drewN _,(λe=>by cases e),λ_=> ?_⟩⟩;obtain⟨q,hq,hx⟩:=M.out.2.no rfl;exact⟨q,hq,T.Cx _ _ _ hx (kK.FZ M.out.2.rd<|DM<|oP _ _)⟩
 |false=>
  have M:Hid (Below a w (w.setCell ⟨d,6,none⟩ (.int .i64 c))/\Rs (w.setCell ⟨d,6,none⟩ (.int .i64 c)) d s l J I X ⟨j,g,n,u,c⟩ false f):=⟨R,dW⟩
  have c7:=A.c7;have N:=A.c4;have S7:=A.c6;simp only at N S7;by_cases H:n=c
  .have y:iu t ⟨j,g,n,u,nU⟩ false=⟨j,g,n,u,c⟩:=(by rw[iu,ai<|by decide,cM,aj<|by rw[<-r];exact H,r]);have z:dJ k t ⟨j,g,n,u,nU⟩=[]:=(by rw[dJ,aj<|by rw[<-r];exact H]);rw[y,z,l5];have ad:((n:Int)==(c:Int))=true:=(by simp[H]);clear y z h A S dW R r hX H;go_enter func179,ntmps179;go_wp2;go_quiet(fail);go_wp2;refine cI (Bu rfl _ _ _) rfl ?_;exact⟨⟨_,rfl⟩,gH M.out.1 _,false,λe=>e,M.out.2.grown T (DM<|oP _ _)<|M.out.2.rd.drewN _⟩
  .have y:iu t ⟨j,g,n,u,nU⟩ false=⟨j,g,c,c,c⟩:=(by rw[iu,ai<|by decide,cM,ai<|by rw[<-r];exact H,r]);have ad:((n:Int)==(c:Int))=false:=(by simp;omega);have Q:=A.c3;obtain⟨F,hF⟩:∃F,n - g=F:=⟨_,rfl⟩
   obtain⟨G,hG⟩:∃G,nU+t - g=G:=⟨_,rfl⟩
   have eF:(n:Int) - (g:Int)=(F:Int):=(by omega);have eG:(c:Int) - (g:Int)=(G:Int):=(by omega);by_cases aa:k=0
   .subst aa;have z:dJ 0 t ⟨j,g,n,u,nU⟩=[⟨j,0,F,G,0,0⟩]:=(by rw[dJ,ai<|by rw[<-r];exact H,hF,hG,aj rfl,aj rfl]);have qA:=hX rfl;rw[z]at qA;rw[y,z];have HX:=ah qA;clear y z h A S dW R r hX qA H hF hG;go_enter func179,ntmps179;go_wp2;go_quiet(fail);go_wp2;obtain⟨m,P⟩:=ac<|(w.setCell ⟨d,6,none⟩ (.int .i64 c)).drewN nq;have E:Hid (Below a w m/\Rs m d s l J I X ⟨j,g,n,u,c⟩ false f):=by
     rw[P];exact⟨gH M.out.1 _,M.out.2.grown T (DM<|oP _ _)<|M.out.2.rd.drewN _⟩
    rw[<-P];clear P M c7 N S7 Q O f6;have Z:d<m.heap.size:=E.out.2.rd.lt;have Q:=E.out.2.rd.c3;have N:=E.out.2.rd.c4;have O:=E.out.2.rd.c6;simp only at Q N O;have z3:(m.alloc (.cells #[.int .i64 0,.int .i64 0,.int .i64 0,.int .i64 0,.int .i64 0] 75)).cell? ⟨d,3,none⟩=some (.int .i64 g):=(tY _ _ _ Z).trans Q;have z4:(m.alloc (.cells #[.int .i64 0,.int .i64 0,.int .i64 0,.int .i64 0,.int .i64 0] 75)).cell? ⟨d,4,none⟩=some (.int .i64 n):=(tY _ _ _ Z).trans N;have z6:(m.alloc (.cells #[.int .i64 0,.int .i64 0,.int .i64 0,.int .i64 0,.int .i64 0] 75)).cell? ⟨d,6,none⟩=some (.int .i64 c):=(tY _ _ _ Z).trans O;go_region;all_goals
     go_wp2;obtain⟨V,x⟩:=ac<|(m.alloc (.cells #[.int .i64 0,.int .i64 F,.int .i64 G,.int .i64 0,.int .i64 0] 75)).drew;have HP:Hid (V.heap[m.heap.size]? =some (.cells #[.int .i64 0,.int .i64 F,.int .i64 G,.int .i64 0,.int .i64 0] 75 (0,0))):=by
      rw[x];exact World.alloc_heap_new m _
     have K:m.grownBy V (some d):=(by rw[x];exact DL<|Hu (oP _ _) _);have xH:Hid (Below a w V/\Rs V d s l J I X ⟨j,g,n,u,c⟩ false f):=by
      refine⟨E.out.1.trans<|Below.Eg K hn<|by omega,E.out.2.grown T K ?_⟩;rw[x];exact(dw _ _ _ Z).trans E.out.2.rd
     rw[<-x];clear x K z3 z4 z6 Q N O Z E;generalize m.heap.size=U at*;refine mA w d U s l a J I X T hn ⟨j,g,n,u,c⟩ f 0 F G 0 0 V HP.out xH.out.1 xH.out.2 HX.out _ _ _ _ _ _ _ _ _ _ _ _ _ _ _ _ _ _ _ _ _ _ _ _ _ _ _ _ _ _ _ _ _ _ _ _ _ _ _ _ _ _ _ _ _ _ _ _ _ _ _ _ _ _ _ _ _ _ _ _ _ _ _ _ _ _ _ _ _ _ _ _ _ _ _ _ _ _ _ _ _ _ _ _ _ _ _ _ _ _ _ _ _ _ _ _ _ _ _ _ _ _ ?_;clear HP xH;intro b W ae af ag ak al am an ao ap aq XW ar XX au k1 C k3 k4;have H5:Hid (Below a w W/\Rd W d s (.func (.yield l) #[] #[]) ⟨j,g,n,u,c⟩ (!b)/\(b=true->J (f++[⟨j,0,F,G,0,0⟩]) W)/\(b=false->I (f++[⟨j,0,F,G,0,0⟩]) W)):=⟨k1,C,k3,k4⟩
     have N:=C.c4;have c5:=C.c5;have O:=C.c6;have f4:=C.fz 4;have f5:=C.fz 5;simp only at N c5 O;clear k1 C k3 k4;go_wp2;go_region;all_goals
      go_wp2;go_end0;have key:∀Y,W.grownBy Y (some d)->Rd Y d s (.func (.yield l) #[] #[]) ⟨j,g,c,c,c⟩ (!b)->(∃v,Ending.returned (Value.tuple #[])=Ending.returned v)/\Below a w Y/\∃L,(false=true->L=true)/\Rs Y d s l J I X ⟨j,g,c,c,c⟩ L (f++[⟨j,0,F,G,0,0⟩]):=λY hg hr=>by
       obtain⟨k1,C,k3,k4⟩:=H5.out;have ka:=kK.FZ C hg;refine⟨⟨_,rfl⟩,k1.trans<|Below.Eg hg hn<|by have:=C.lt;omega,!b,(λe=>by cases e),hr,λe=>T.hJ _ _ _ (k3<|by simpa using e) ka,λe=>⟨_,HX.out,T.Cx _ _ _ (k4<|by simpa using e) ka⟩⟩
      first
       |exact key _ (DL (mX (mX (oP _ _)))) ((H5.out.2.1.s4 c).s5 c)
       |exact key _ (DL (mX (mX (oP _ _)))) ((H5.out.2.1.s5 c).s4 c)
   .have av:((k:Int)==0)=false:=(by simp;omega);obtain⟨B,hB⟩:∃B,u - g=B:=⟨_,rfl⟩
    obtain⟨D,hD⟩:∃D,nU - g=D:=⟨_,rfl⟩
    have eB:(u:Int) - (g:Int)=(B:Int):=(by omega);have eD:(nU:Int) - (g:Int)=(D:Int):=(by omega);have z:dJ k t ⟨j,g,n,u,nU⟩=[⟨j,k,F,G,B,D⟩]:=(by rw[dJ,ai<|by rw[<-r];exact H,hF,hG,ai aa,ai aa,hB,hD]);have qA:=hX rfl;rw[z]at qA;rw[y,z];have HX:=ah qA;clear y z h A S dW R r hX qA H hF hG hB hD aa;go_enter func179,ntmps179;go_wp2;go_quiet(fail);go_wp2;obtain⟨m,P⟩:=ac<|(w.setCell ⟨d,6,none⟩ (.int .i64 c)).drewN nq;have E:Hid (Below a w m/\Rs m d s l J I X ⟨j,g,n,u,c⟩ false f):=by
     rw[P];exact⟨gH M.out.1 _,M.out.2.grown T (DM<|oP _ _)<|M.out.2.rd.drewN _⟩
    rw[<-P];clear P M c7 N S7 Q O f6;have Z:d<m.heap.size:=E.out.2.rd.lt;have Q:=E.out.2.rd.c3;have N:=E.out.2.rd.c4;have O:=E.out.2.rd.c6;simp only at Q N O;have z3:(m.alloc (.cells #[.int .i64 0,.int .i64 0,.int .i64 0,.int .i64 0,.int .i64 0] 75)).cell? ⟨d,3,none⟩=some (.int .i64 g):=(tY _ _ _ Z).trans Q;have z4:(m.alloc (.cells #[.int .i64 0,.int .i64 0,.int .i64 0,.int .i64 0,.int .i64 0] 75)).cell? ⟨d,4,none⟩=some (.int .i64 n):=(tY _ _ _ Z).trans N;have z6:(m.alloc (.cells #[.int .i64 0,.int .i64 0,.int .i64 0,.int .i64 0,.int .i64 0] 75)).cell? ⟨d,6,none⟩=some (.int .i64 c):=(tY _ _ _ Z).trans O;go_region;all_goals
     go_wp2;obtain⟨W7,A7⟩:=ac<|(m.alloc (.cells #[.int .i64 k,.int .i64 F,.int .i64 G,.int .i64 0,.int .i64 0] 75)).drew;have uI:Hid (W7.heap[m.heap.size]? =some (.cells #[.int .i64 k,.int .i64 F,.int .i64 G,.int .i64 0,.int .i64 0] 75 (0,0))):=by
      rw[A7];exact World.alloc_heap_new m _
     have gS:m.grownBy W7 (some d):=(by rw[A7];exact DL<|Hu (oP _ _) _);have BR:Hid (a<=m.heap.size/\m.heap.size≠d):=⟨by omega,by omega⟩
     have EH:Hid (Below a w W7/\Rs W7 d s l J I X ⟨j,g,n,u,c⟩ false f):=by
      refine⟨E.out.1.trans<|Below.Eg gS hn<|by omega,E.out.2.grown T gS ?_⟩;rw[A7];exact(dw _ _ _ Z).trans E.out.2.rd
     have Yl:Hid (∀W8,W7.grownBy W8 (some m.heap.size)->kK m W8):=λW8 jf=>by
      have a1:=kK.FZ E.out.2.rd gS;exact⟨jf.os.trans a1.os,jf.tape.trans a1.tape,jf.output.trans a1.output,bP a1.size jf.size,λi o hi ho=>(jf.block i (kQ (bS hi) a1.size) λe=>by have:=bS hi;have:=aJ e;omega).trans (a1.block i o hi ho)⟩
     rw[<-A7];clear A7 gS z3 z4 z6 Q N O Z;generalize m.heap.size=U at*;have Q:=EH.out.2.rd.c3;have c5:=EH.out.2.rd.c5;simp only at Q c5;have q3:W7.cell? ⟨U,3,none⟩=some (.int .i64 0):=az uI.out 3;have q4:W7.cell? ⟨U,4,none⟩=some (.int .i64 0):=az uI.out 4;have g3:=cB uI.out 3;have g4:=cB uI.out 4;have ab:U≠d:=BR.out.2;go_region;all_goals
      go_wp2;obtain⟨V,x⟩:=ac<|((W7.setCell ⟨U,3,none⟩ (.int .i64 B)).setCell ⟨U,4,none⟩ (.int .i64 D)).drew;have K:W7.grownBy V (some U):=(by rw[x];exact DL<|mX<|mX<|oP _ _);have HP:Hid (V.heap[U]? =some (.cells #[.int .i64 k,.int .i64 F,.int .i64 G,.int .i64 B,.int .i64 D] 75 (0,0))):=by
       rw[x];show((W7.setCell ⟨U,3,none⟩ (.int .i64 B)).setCell ⟨U,4,none⟩ (.int .i64 D)).heap[U]? =_;rw[eW<|eW uI.out _];rfl
      have xH:Hid (Below a w V/\Rs V d s l J I X ⟨j,g,n,u,c⟩ false f):=by
       refine⟨EH.out.1.trans<|Below.Eg K BR.out.1<|by have:=bS uI.out;have:=BR.out.1;omega,E.out.2.ry T (Yl.out V K)<|EH.out.2.rd.other K λe=>ab (aJ e).symm⟩
      rw[<-x];clear x K uI EH Yl E BR ab q3 q4 g3 g4 Q c5;refine mA w d U s l a J I X T hn ⟨j,g,n,u,c⟩ f k F G B D V HP.out xH.out.1 xH.out.2 HX.out _ _ _ _ _ _ _ _ _ _ _ _ _ _ _ _ _ _ _ _ _ _ _ _ _ _ _ _ _ _ _ _ _ _ _ _ _ _ _ _ _ _ _ _ _ _ _ _ _ _ _ _ _ _ _ _ _ _ _ _ _ _ _ _ _ _ _ _ _ _ _ _ _ _ _ _ _ _ _ _ _ _ _ _ _ _ _ _ _ _ _ _ _ _ _ _ _ _ _ _ _ _ ?_;clear HP xH;intro b W ae af ag ak al am an ao ap aq XW ar XX au k1 C k3 k4;have H5:Hid (Below a w W/\Rd W d s (.func (.yield l) #[] #[]) ⟨j,g,n,u,c⟩ (!b)/\(b=true->J (f++[⟨j,k,F,G,B,D⟩]) W)/\(b=false->I (f++[⟨j,k,F,G,B,D⟩]) W)):=⟨k1,C,k3,k4⟩
      have N:=C.c4;have c5:=C.c5;have O:=C.c6;have f4:=C.fz 4;have f5:=C.fz 5;simp only at N c5 O;clear k1 C k3 k4;go_wp2;go_region;all_goals
       go_wp2;go_end0;have key:∀Y,W.grownBy Y (some d)->Rd Y d s (.func (.yield l) #[] #[]) ⟨j,g,c,c,c⟩ (!b)->(∃v,Ending.returned (Value.tuple #[])=Ending.returned v)/\Below a w Y/\∃L,(false=true->L=true)/\Rs Y d s l J I X ⟨j,g,c,c,c⟩ L (f++[⟨j,k,F,G,B,D⟩]):=λY hg hr=>by
        obtain⟨k1,C,k3,k4⟩:=H5.out;have ka:=kK.FZ C hg;refine⟨⟨_,rfl⟩,k1.trans<|Below.Eg hg hn<|by have:=C.lt;omega,!b,(λe=>by cases e),hr,λe=>T.hJ _ _ _ (k3<|by simpa using e) ka,λe=>⟨_,HX.out,T.Cx _ _ _ (k4<|by simpa using e) ka⟩⟩
       first
        |exact key _ (DL (mX (mX (oP _ _)))) ((H5.out.2.1.s4 c).s5 c)
        |exact key _ (DL (mX (mX (oP _ _)))) ((H5.out.2.1.s5 c).s4 c)
def cW(b:Nat)(p:RP)(a:Bool):RP:=⟨(iu 0 p a).line,(iu 0 p a).start,(iu 0 p a).from_,(iu 0 p a).at_+b,(iu 0 p a).at_+b⟩
structure sw(s:ByteArray)(p:RP):Prop where
 a:p.start<=p.from_
 b:p.from_<=p.at_
 c:p.start<=p.body
 d:p.body<=s.size
 e:p.at_<=s.size
 f:p.line<=p.at_
section
variable{s:ByteArray}{p:RP}{st:Bool}{t:Nat}
def Kv:(iu t p st).at_=p.at_+t:=by unfold iu cM;split;rfl;split<;>rfl
def mC:(iu t p st).line=p.line:=by unfold iu cM;split;rfl;split<;>rfl
def sw.cut(h:sw s p)(g:p.at_+t<=s.size):sw s (iu t p st):=by
 obtain⟨a,b,c,d,e,f⟩:=h;unfold iu cM;split
 .constructor<;>simp only<;>omega
 .split
  .constructor<;>simp only<;>omega
  .constructor<;>simp only<;>omega
def sw.feed(h:sw s p)(g:p.at_+1<=s.size):sw s (oO p):=by
 obtain⟨a,b,c,d,e,f⟩:=h;unfold oO;constructor<;>simp only<;>omega
def sw.to(h:sw s p){j:Nat}(g:p.at_<=j)(i:j<=s.size):sw s ⟨p.line,p.start,p.from_,p.body,j⟩:=by
 obtain⟨a,b,c,d,e,f⟩:=h;constructor<;>simp only<;>omega
def sw.open(h:sw s p){g:Nat}(k:p.at_+g<=s.size):sw s (cW g p st):=by
 have i:=h.cut (t:=0) (st:=st) (by omega);obtain⟨a,b,c,d,e,f⟩:=i;have j:(iu 0 p st).at_=p.at_+0:=Kv;unfold cW;constructor<;>simp only<;>omega
def My {hd:Nat}:(cW hd p st).at_=p.at_+hd:=by show(iu 0 p st).at_+hd=_;rw[Kv];omega
end
def aol(w:World)(f:Nat)(s:ByteArray)(l a:Nat)(J m:List PR->World->Prop)(X:List PR)(T:Tl l a J m X)(F:a<=f)(p:RP)(g:Bool)(c:List PR)(h:Rs w f s l J m X p g c)(o:Nat)(O:o<=2)
  (d:sw s p) (U:s.size<=1000) (D:g=false->(c++dJ 0 0 p)<+:X):
  Calls prog 181 #[.pointer<|some ⟨f,0,none⟩,.int .i64 o] w λe r=>(∃v,e= .returned v)/\Below a w r/\∃b,(g=true->b=true)/\Rs r f s l J m X (cW o p g) b (c++dJ 0 0 p):=by
 have A:=mE w f s l a J m X T F p g c h 0 0 (by omega) (by omega) d.a d.c (by have:=d.a;have:=d.b;omega) (by have:=d.e;omega) (by have:=d.b;have:=d.e;omega) (by have:=d.d;omega) D;have B:=d.cut (t:=0) (st:=g) (by have:=d.e;omega);have G:(iu 0 p g).at_=p.at_:=Kv;unfold cW;generalize iu 0 p g=q at*;generalize dJ 0 0 p=C at*;have y:Hid (Calls prog 179 #[.pointer<|some ⟨f,0,none⟩,.int .i64 0,.int .i64 0] w λe r=>(∃v,e= .returned v)/\Below a w r/\∃b,(g=true->b=true)/\Rs r f s l J m X q b (c++C)):=A;have I:q.at_<=1000:=by have:=B.e;omega
 clear A h D B G d;obtain⟨P,Q,N,K,z⟩:=q;simp only at I ⊢;obtain⟨k,n⟩:∃k,z+o=k:=⟨_,rfl⟩
 rw[n];have R:((z:Int)+(o:Int))=(k:Int):=by omega
 clear n;go_enter func181,ntmps181;go_wp2_with(go_at_call 179;refine y.out.mono ?_;rintro S u ⟨⟨v,rfl⟩,x,b,j,i⟩;(have M:=i.rd.c6);(have L:=i.rd.c5);(have f6:=i.rd.fz 6);(have f5:=i.rd.fz 5);simp only at M L;(have H:Hid (Below a w u/\(g=true->b=true)/\Rs u f s l J m X ⟨P,Q,N,K,z⟩ b (c++C)):=⟨x,j,i⟩);clear x j i);go_end0;obtain⟨x,j,i⟩:=H.out;have E:u.grownBy ((u.setCell ⟨f,6,none⟩ (.int .i64 k)).setCell ⟨f,5,none⟩ (.int .i64 k)) (some f):=mX<|mX<|oP _ _;exact⟨⟨_,rfl⟩,x.trans<|Below.Eg E F<|by have:=i.rd.lt;omega,b,j,i.grown T E<|(i.rd.s6 k).s5 k⟩
def qR(s:ByteArray)(i:Nat):Nat×Bool:=
 if i<s.size/\bt s i≠10 then
  if bt s i=34 then(i,true)
  else if bt s i=92/\bt s (i+1)≠10 then qR s (i+2)
  else qR s (i+1)
 else(i,false)
termination_by s.size - i
def rA {s:ByteArray}{i:Nat}(h:bt s i≠10):i<s.size:=by
 rcases cP i s.size with a|a
 .exact a
 .exact absurd (AR<|by omega) h
def Mi(s:ByteArray)(i:Nat):i<=(qR s i).1:=by
 fun_induction qR s i<;>simp_all<;>omega
def apu {s:ByteArray}{i:Nat}(h:i<=s.size):(qR s i).1<=s.size:=by
 fun_induction qR s i with
 |case1 i a b=>exact h
 |case2 i a b c ih=>exact ih<|by have:=rA c.2;omega
 |case3 i a b c ih=>exact ih<|by omega
 |case4 i a=>exact h
def Qg {s:ByteArray}{i:Nat}(h:(qR s i).2=true):(qR s i).1<s.size/\bt s (qR s i).1=34:=by
 fun_induction qR s i with
 |case1 i a b=>exact⟨a.1,b⟩
 |case2 i a b c ih=>exact ih h
 |case3 i a b c ih=>exact ih h
 |case4 i a=>cases h
def qT(s:ByteArray)(i:Nat):Nat:=if(qR s i).2 then 1 else 0
def Qf {s:ByteArray}{i:Nat}(h:i<=s.size):(qR s i).1+qT s i<=s.size:=by
 unfold qT;split
 .have:=(Qg<|by assumption).1;omega
 .have:=apu h;omega
def cQ(p:RP)(j:Nat):RP:=⟨p.line,p.start,p.from_,p.body,j⟩
def jQ {t:Nat}{p:RP}:(cM t p).at_=p.at_+t:=by unfold cM;split<;>rfl
def AW {t:Nat}{p:RP}:iu t p false=cM t p:=by unfold iu;rfl
def cH(s:ByteArray)(a:Bool)(p:RP):List PR:=
 if p.at_<s.size then
  if a=true then
   if bt s p.at_=42/\bt s (p.at_+1)=47 then dJ 2 2 p++cH s false (cM 2 p)
   else if bt s p.at_=10 then dJ 2 0 p++cH s true (oO<|cM 0 p)
   else cH s true (cQ p<|p.at_+1)
  else if bt s p.at_=34 then
   dJ 0 0 p++(dJ 1 (qT s<|p.at_+1) (cQ (cW 1 p false) (qR s<|p.at_+1).1)++cH s false (cM (qT s<|p.at_+1)<|cQ (cW 1 p false) (qR s<|p.at_+1).1))
  else if bt s p.at_=47/\bt s (p.at_+1)=47 then
   dJ 0 0 p++(dJ 2 0 (cQ (cW 2 p false)<|bZ s<|p.at_+2)++cH s false (cM 0<|cQ (cW 2 p false)<|bZ s<|p.at_+2))
  else if bt s p.at_=47/\bt s (p.at_+1)=42 then dJ 0 0 p++cH s true (cW 2 p false)
  else if bt s p.at_=10 then dJ 0 0 p++cH s false (oO<|cM 0 p)
  else cH s false (cQ p<|p.at_+1)
 else dJ (if a then 2 else 0) 0 p
termination_by s.size - p.at_
decreasing_by
 .rw[jQ];omega
 .show _ - ((cM 0 p).at_+1)<_;rw[jQ];omega
 .show _ - (p.at_+1)<_;omega
 .rw[jQ];show _ - ((qR s<|p.at_+1).1+_)<_;have:=Mi s<|p.at_+1;omega
 .rw[jQ];show _ - (bZ s (p.at_+2)+0)<_;have:=FV s<|p.at_+2;omega
 .rw[My];omega
 .show _ - ((cM 0 p).at_+1)<_;rw[jQ];omega
 .show _ - (p.at_+1)<_;omega
structure Tk where
 k:Nat
 F:Nat
 T:Nat
 B:Nat
 E:Nat
def bR(s:ByteArray)(q:Nat):Nat×Bool:=
 if q<s.size then if bt s q=42/\bt s (q+1)=47 then(q,true)else bR s (q+1)else(q,false)
termination_by s.size - q
def bT(s:ByteArray)(q:Nat):Nat:=if(bR s q).2 then 2 else 0
def PE(s:ByteArray)(q:Nat):q<=(bR s q).1:=by
 fun_induction bR s q<;>simp_all<;>omega
def wS {s:ByteArray}{q:Nat}(h:q<=s.size):(bR s q).1+bT s q<=s.size:=by
 unfold bT
 fun_induction bR s q with
 |case1 q a b=>have:=rA (s:=s) (i:=q+1) (by rw[b.2];decide);simp;omega
 |case2 q a b ih=>exact ih<|by omega
 |case3 q a=>simp;omega
def dg(s:ByteArray)(p:Nat):Tk:=
 if bt s p=34 then⟨1,p,(qR s<|p+1).1+qT s (p+1),p+1,(qR s<|p+1).1⟩
 else if bt s p=47/\bt s (p+1)=47 then⟨2,p,bZ s p,p+2,bZ s p⟩
 else if bt s p=47/\bt s (p+1)=42 then⟨2,p,(bR s<|p+2).1+bT s (p+2),p+2,(bR s<|p+2).1⟩
 else⟨0,p,p+1,0,0⟩
def Ml {s:ByteArray}{p:Nat}(h:bt s p≠10):bZ s p=bZ s (p+1):=by
 rw[bZ,aj ⟨rA h,h⟩]
def BF(s:ByteArray)(p:Nat):p<(dg s p).T:=by
 unfold dg;split
 .have:=Mi s<|p+1;simp only;omega
 .split
  .rename_i h;simp only;rw[Ml<|by rw[h.1];decide];have:=FV s<|p+1;omega
  .split
   .have:=PE s<|p+2;simp only;omega
   .simp
def X0(s:ByteArray)(p:Nat):(dg s p).F=p:=by unfold dg;repeat (first|rfl|split)
def X4(s:ByteArray)(p:Nat)(h:(dg s p).k=0):dg s p=⟨0,p,p+1,0,0⟩:=by
 unfold dg at h ⊢;by_cases a:bt s p=34
 .rw[aj a]at h;cases h
 .rw[ai a]at h ⊢;by_cases b:bt s p=47/\bt s (p+1)=47
  .rw[aj b]at h;cases h
  .rw[ai b]at h ⊢;by_cases c:bt s p=47/\bt s (p+1)=42
   .rw[aj c]at h;cases h
   .rw[ai c]
def kB(t:Tk)(a:List Tk):List Tk:=
 if t.k=0 then
  match a with
  |u::us=>if u.k=0 then⟨0,t.F,u.T,0,0⟩::us else t::u::us
  |[]=>[t]
 else t::a
def dD(s:ByteArray)(p:Nat):List Tk:=if p<s.size then kB (dg s p) (dD s (dg s p).T)else []
termination_by s.size - p
decreasing_by have:=BF s p;omega
def wi(p b a:Nat):Nat:=if p<b then b else if a<p then a else p
def ey(c k a b p B E:Nat):List PR:=if b<p then [⟨c,k,b - a,p - a,if k=0 then 0 else wi B b p - a,if k=0 then 0 else wi E b p - a⟩]else []
def lT(s:ByteArray)(k T B E a b c p:Nat):List PR:=
 if p<T then if bt s p=10 then ey a k b c p B E++lT s k T B E (a+1) (p+1) (p+1) (p+1)else lT s k T B E a b c (p+1)
 else ey a k b c p B E
termination_by T - p
def jt(s:ByteArray)(T a b p:Nat):Nat×Nat:=
 if p<T then if bt s p=10 then jt s T (a+1) (p+1) (p+1)else jt s T a b (p+1)
 else(a,b)
termination_by T - p
section
variable{s:ByteArray}{k T B E ln bg fr p:Nat}
def Ge(h:p<T)(a:bt s p=10):lT s k T B E ln bg fr p=ey ln k bg fr p B E++lT s k T B E (ln+1) (p+1) (p+1) (p+1):=by rw[lT,aj h,aj a]
def Bx(h:p<T)(a:¬bt s p=10):lT s k T B E ln bg fr p=lT s k T B E ln bg fr (p+1):=by rw[lT,aj h,ai a]
def Bw(h:¬p<T):lT s k T B E ln bg fr p=ey ln k bg fr p B E:=by rw[lT,ai h]
def Hs(h:p<T)(a:bt s p=10):jt s T ln bg p=jt s T (ln+1) (p+1) (p+1):=by rw[jt,aj h,aj a]
def Ct(h:p<T)(a:¬bt s p=10):jt s T ln bg p=jt s T ln bg (p+1):=by rw[jt,aj h,ai a]
def Hr(h:¬p<T):jt s T ln bg p=(ln,bg):=by rw[jt,ai h]
end
def fK(s:ByteArray):List Tk->Nat->Nat->List PR
 |[],_,_=>[]
 |t::ts,ln,bg=>lT s t.k t.T t.B t.E ln bg t.F t.F++fK s ts (jt s t.T ln bg t.F).1 (jt s t.T ln bg t.F).2
def DG(s:ByteArray)(c b d a:Nat):List Tk->List PR
 |[]=>ey c 0 b d a 0 0
 |u::us=>if u.k=0 then lT s 0 u.T 0 0 c b d a++fK s us (jt s u.T c b a).1 (jt s u.T c b a).2 else ey c 0 b d a 0 0++fK s (u::us) c b
def MX(s:ByteArray)(p:Nat):∀u g,dD s p=u::g->u.F=p/\p<u.T/\(u.k=0->u.B=0/\u.E=0):=by
 intro u g h;rw[dD]at h;split at h
 .unfold kB at h;have d:=BF s p;have hF:=X0 s p;split at h
  .rename_i c;have i:(dg s p).B=0/\(dg s p).E=0:=(by rw[X4 s p c];exact⟨rfl,rfl⟩);split at h
   .rename_i k f j;split at h
    .injection h with a b
     subst a;refine⟨hF,?_,λ_=>⟨rfl,rfl⟩⟩;have:=MX s (dg s p).T k f j;simp only;omega
    .injection h with a b
     subst a;exact⟨hF,d,λ_=>i⟩
   .injection h with a b
    subst a;exact⟨hF,d,λ_=>i⟩
  .injection h with a b
   subst a;rename_i c;exact⟨hF,d,λe=>absurd e c⟩
 .cases h
termination_by s.size - p
decreasing_by have:=BF s p;omega
def FJ(b k a p B E:Nat):ey b k a p p B E=[]:=ai<|by omega
def mK(s:ByteArray)(c b p:Nat):DG s c b p p (dD s p)=fK s (dD s p) c b:=by
 cases h:dD s p with
 |nil=>exact FJ _ _ _ _ _ _
 |cons u f=>
  obtain⟨hF,i,g⟩:=MX s p u f h;show(if u.k=0 then _ else _)=_;by_cases a:u.k=0
  .obtain⟨d,e⟩:=g a;rw[aj a,fK,hF,a,d,e]
  .rw[ai a,FJ,si]
def aj5(s:ByteArray)(b c e a:Nat)(h:List Tk)(j:∀u f,h=u::f->a+1<u.T/\u.F=a+1):
  DG s b c e a (kB ⟨0,a,a+1,0,0⟩ h)=if bt s a=10 then ey b 0 c e a 0 0++DG s (b+1) (a+1) (a+1) (a+1) h else DG s b c e (a+1) h:=by
 unfold kB;rw[aj rfl];cases h with
 |nil=>
  show lT s 0 (a+1) 0 0 b c e a++fK s [] _ _=_;rw[fK,l5];by_cases d:bt s a=10
  .rw[aj d,Ge (by omega) d,Bw<|by omega];rfl
  .rw[ai d,Bx (by omega) d,Bw<|by omega];rfl
 |cons u f=>
  obtain⟨k,_⟩:=j u f rfl;simp only;by_cases i:u.k=0
  .rw[aj i];show lT s 0 u.T 0 0 b c e a++fK s f (jt s u.T b c a).1 (jt s u.T b c a).2=_;have g:∀b c e,DG s b c e (a+1) (u::f)=lT s 0 u.T 0 0 b c e (a+1)++fK s f (jt s u.T b c<|a+1).1 (jt s u.T b c<|a+1).2:=λ_ _ _=>aj i
   rw[g,g];by_cases d:bt s a=10
   .rw[aj d,Ge (by omega) d,Hs (by omega) d,dO]
   .rw[ai d,Bx (by omega) d,Ct (by omega) d]
  .rw[ai i];show lT s 0 (a+1) 0 0 b c e a++fK s (u::f) (jt s (a+1) b c a).1 (jt s (a+1) b c a).2=_;have g:∀b c e,DG s b c e (a+1) (u::f)=ey b 0 c e (a+1) 0 0++fK s (u::f) b c:=λ_ _ _=>ai i
   rw[g,g];by_cases d:bt s a=10
   .rw[aj d,Ge (by omega) d,Hs (by omega) d,Bw<|by omega,Hr<|by omega,dO]
   .rw[ai d,Bx (by omega) d,Ct (by omega) d,Bw<|by omega,Hr<|by omega]
def Qj {s:ByteArray}{k T B E ln bg fr:Nat}:∀(d p:Nat),T=p+d->(∀i,p<=i->i<T->bt s i≠10)->lT s k T B E ln bg fr p=ey ln k bg fr T B E/\jt s T ln bg p=(ln,bg)
 |0,p,hT,_=>by
  have:¬p<T:=by omega
  obtain rfl:p=T:=by omega
  exact⟨Bw this,Hr this⟩
 |d+1,p,hT,hb=>by
  have h:=hb p (au _) (by omega);rw[Bx (by omega) h,Ct (by omega) h];exact Qj d (p+1) (by omega) λi b a=>hb i (by omega) a
def Cq {k t:Nat}{p:RP}(e:p.from_<=p.at_)(B E:Nat)(c:k≠0->wi B p.from_ (p.at_+t)=p.body)(d:k≠0->wi E p.from_ (p.at_+t)=p.at_):dJ k t p=ey p.line k p.start p.from_ (p.at_+t) B E:=by
 unfold dJ ey;by_cases h:p.from_=p.at_+t
 .rw[aj h,ai<|by omega]
 .have b:p.from_<p.at_+t:=by omega
  by_cases a:k=0
  .simp[h,b,a]
  .simp[h,b,a,c a,d a]
def aps {s:ByteArray}{i:Nat}:∀j,i<=j->j<(qR s i).1+qT s i->bt s j≠10:=by
 unfold qT
 fun_induction qR s i with
 |case1 i a d=>intro j c b;simp at b;obtain rfl:j=i:=(by omega);rw[d];decide
 |case2 i a d c ih=>
  intro j b e;by_cases f:j=i
  .rw[f];exact a.2
  .by_cases g:j=i+1
   .rw[g];exact c.2
   .exact ih j (by omega) e
 |case3 i a d c ih=>
  intro j b e;by_cases f:j=i
  .rw[f];exact a.2
  .exact ih j (by omega) e
 |case4 i a=>intro j c b;simp at b;omega
def ant {s:ByteArray}{i:Nat}:∀j,i<=j->j<bZ s i->bt s j≠10:=by
 fun_induction bZ s i with
 |case1 i a ih=>
  intro j c b;by_cases d:j=i
  .rw[d];exact a.2
  .exact ih j (by omega) b
 |case2 i a=>intro j c b;omega
def SS {s:ByteArray}{a:Nat}(h:a<s.size)(b:bt s a=42/\bt s (a+1)=47):bR s a=(a,true):=by rw[bR,aj h,aj b]
def wE {s:ByteArray}{a:Nat}(h:a<s.size)(b:¬(bt s a=42/\bt s (a+1)=47)):bR s a=bR s (a+1):=by rw[bR,aj h,ai b]
def Ki {s:ByteArray}{a:Nat}(h:¬a<s.size):bR s a=(a,false):=by rw[bR,ai h]
def I7 {s:ByteArray}{a:Nat}(h:¬a<s.size):dD s a=[]:=by rw[dD,ai h]
def Af {p a b:Nat}(h:p<=b):wi p a b=if p<a then a else p:=by unfold wi;split;rfl;rw[ai<|by omega]
def asl {p b a:Nat}(h:b<=a)(c:a<=p):wi p b a=a:=by unfold wi;split;omega;split<;>omega
def aiY(s:ByteArray)(c:Nat)(H:∀e f q,c<q->q<=s.size->cH s false ⟨e,f,q,q,q⟩=fK s (dD s q) e f):∀(d a e f b g B:Nat),s.size - a<=d->c<a->b<=a->a<=s.size->B<=a->g=(if B<b then b else B)->
  cH s true ⟨e,f,b,g,a⟩=lT s 2 ((bR s a).1+bT s a) B (bR s a).1 e f b a++fK s (dD s<|(bR s a).1+bT s a) (jt s ((bR s a).1+bT s a) e f a).1 (jt s ((bR s a).1+bT s a) e f a).2:=by
 intro d
 induction d with
 |zero=>
  intro a e f b g B D C u A z o;have l:¬a<s.size:=by omega
  have n:(bR s a).1+bT s a=a:=by unfold bT;rw[Ki l];simp
  have r:(bR s a).1=a:=by rw[Ki l]
  rw[n,r,cH,ai l,Bw<|by omega,I7 l,fK,l5];exact Cq u B a (λ_=>by show wi B b (a+0)=g;rw[Af<|by omega,o]) λ_=>by show wi a b (a+0)=a;rw[Af<|by omega,ai<|by omega]
 |succ d ih=>
  intro a e f b g B D C u A z o;by_cases j:a<s.size
  .by_cases m:bt s a=42/\bt s (a+1)=47
   .have r:(bR s a).1=a:=(by rw[SS j m]);have n:(bR s a).1+bT s a=a+2:=(by unfold bT;rw[SS j m];simp);have v:=rA (s:=s) (i:=a+1) (by rw[m.2];decide);obtain⟨f1,f2⟩:=Qj (s:=s) (k:=2) (T:=a+2) (B:=B) (E:=a) (ln:=e) (bg:=f) (fr:=b) 2 a rfl (λi F G=>by
     by_cases y:i=a
     .rw[y,m.1];decide
     .rw[show i=a+1 by omega,m.2];decide)
    rw[n,r,f1,f2,cH,aj j,aj rfl,aj m];have hcut:cM 2 ⟨e,f,b,g,a⟩=⟨e,f,a+2,a+2,a+2⟩:=(by unfold cM;rw[ai<|by simp only;omega]);rw[hcut,H e f (a+2) (by omega)<|by omega];congr 1;exact Cq u B a (λ_=>by show wi B b (a+2)=g;rw[Af<|by omega,o]) λ_=>by show wi a b (a+2)=a;rw[Af<|by omega,ai<|by omega]
   .have w:=wE j m;have n:(bR s a).1+bT s a=(bR s<|a+1).1+bT s (a+1):=(by unfold bT;rw[w]);have I:=PE s<|a+1;rw[n,w,cH,aj j,aj rfl,ai m];by_cases h:bt s a=10
    .rw[aj h,Ge (by omega) h,Hs (by omega) h,dO];have hcut:oO (cM 0 ⟨e,f,b,g,a⟩)=⟨e+1,a+1,a+1,a+1,a+1⟩:=by
      have x:=jQ (t:=0) (p:=⟨e,f,b,g,a⟩);have v:(cM 0 ⟨e,f,b,g,a⟩).line=e:=(by rw[<-AW,mC]);unfold oO;rw[x,v]
     rw[hcut,ih (a+1) (e+1) (a+1) (a+1) (a+1) B (by omega) (by omega) (by omega) (by omega) (by omega)<|by rw[aj<|by omega]];congr 1;exact Cq u B _ (λ_=>by show wi B b (a+0)=g;rw[Af<|by omega,o]) (λ_=>by show wi _ b (a+0)=a;rw[asl (by omega)<|by omega];rfl)
    .rw[ai h,Bx (by omega) h,Ct (by omega) h];exact ih (a+1) e f b g B (by omega) (by omega) (by omega) (by omega) (by omega) o
  .have l:¬a<s.size:=j;have n:(bR s a).1+bT s a=a:=(by unfold bT;rw[Ki l];simp);have r:(bR s a).1=a:=(by rw[Ki l]);rw[n,r,cH,ai l,Bw<|by omega,I7 l,fK,l5];exact Cq u B a (λ_=>by show wi B b (a+0)=g;rw[Af<|by omega,o]) λ_=>by show wi a b (a+0)=a;rw[Af<|by omega,ai<|by omega]
