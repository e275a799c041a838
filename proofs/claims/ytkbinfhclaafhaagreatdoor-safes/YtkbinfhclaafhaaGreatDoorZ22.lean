import Derived.Test.YtkbinfhclaafhaaGreatDoorZ21
import Derived.Stop.RegionWithIn
import Derived.OwnWalkIn
import Derived.TacticsInMore
import Derived.Deep.LoopGhost
namespace Go.Proofs.YtkbinfhclaafhaaGreatDoor
open Go.RowKit
open Go.Proofs.Tryz
set_option maxRecDepth 100000
set_option maxHeartbeats 32000000
set_option linter.all false
structure PR where
 line:Nat
 kind:Nat
 from_:Nat
 dU:Nat
 body:Nat
 end_:Nat
def Pv(x:PR):Array Value:=#[.int .i64 x.line,.agg #[.int .i64 x.kind,.int .i64 x.from_,.int .i64 x.dU,.int .i64 x.body,.int .i64 x.end_]]
structure lq(A B:World):Prop where
 os:B.os=A.os
 tape:B.tape=A.tape
 output:B.output=A.output
 size:A.heap.size<=B.heap.size
 block:∀(k:Nat)(o:Obj),A.heap[k]? =some o->(∀c fr,o≠Obj.cells c 244 fr)->B.heap[k]? =some o
structure Bk(n₀:Nat)(A B:World):Prop where
 below:Below n₀ A B
 rd:∀(k:Nat)(c:Array Value)(fr:Nat×Nat),A.heap[k]? =some (Obj.cells c 244 fr)->B.heap[k]? =some (Obj.cells c 244 fr)
theorem lq.DD {A B:World}{rb:Nat}{c:Array Value}{fr:Nat×Nat}(h:A.heap[rb]? =some (.cells c 244 fr))(hg:A.grownBy B (some rb)):lq A B where
 os:=hg.os
 tape:=hg.tape
 output:=hg.output
 size:=hg.size
 block k o hk hne:=by
  rw [hg.block k (eO hk)]
  .exact hk
  .intro e;obtain rfl:=aK e;rw [h]at hk;exact hne _ _ (aK hk).symm
structure Tl(l n₀:Nat)(J Jx:List PR->World->Prop)(X:List PR):Prop where
 hJ:∀pre A B,J pre A->lq A B->J pre B
 Ak:∀pre A B,Jx pre A->lq A B->Jx pre B
 hY:∀pre x W1,J pre W1->(pre++[x])<+:X->YieldAt Fence.wide 0 prog l (Pv x) W1 fun e W'=>(e= .returned (.bool true)/\J (pre++[x]) W'/\Bk n₀ W1 W')∨(e= .returned (.bool false)/\Jx (pre++[x]) W'/\Bk n₀ W1 W')
structure Rs(w:World)(rb:Nat)(s:ByteArray)(l:Nat)(J Jx:List PR->World->Prop)(X:List PR)(p:RP)(st:Bool)(pre:List PR):Prop where
 rd:Rd w rb s (.func (.yield l) #[] #[]) p st
 go:st=false->J pre w
 no:st=true->∃q,q<+:X/\Jx q w
def dA(k t:Nat)(p:RP):List PR:=if p.from_=p.at_+t then []else [⟨p.line,k,p.from_ - p.start,p.at_+t - p.start,if k=0 then 0 else p.body - p.start,if k=0 then 0 else p.at_ - p.start⟩]
def cz(t:Nat)(p:RP):RP:=if p.from_=p.at_+t then⟨p.line,p.start,p.from_,p.body,p.at_+t⟩else⟨p.line,p.start,p.at_+t,p.at_+t,p.at_+t⟩
def gI(t:Nat)(p:RP)(st:Bool):RP:=if st then⟨p.line,p.start,p.from_,p.body,p.at_+t⟩else cz t p
section
variable{w w':World}{rb:Nat}{s:ByteArray}{l n₀:Nat}{J Jx:List PR->World->Prop}{X:List PR}{p p':RP}{st st':Bool}{pre:List PR}
theorem Rs.z8(h:Rs w rb s l J Jx X p st pre)(T:Tl l n₀ J Jx X)(ha:lq w w')(hr:Rd w' rb s (.func (.yield l) #[] #[]) p' st):Rs w' rb s l J Jx X p' st pre:=
 ⟨hr,fun e=>T.hJ _ _ _ (h.go e) ha,fun e=>by obtain⟨q,hq,hx⟩:=h.no e;exact⟨q,hq,T.Ak _ _ _ hx ha⟩⟩
theorem Rs.grown(h:Rs w rb s l J Jx X p st pre)(T:Tl l n₀ J Jx X)(hg:w.grownBy w' (some rb))(hr:Rd w' rb s (.func (.yield l) #[] #[]) p' st):Rs w' rb s l J Jx X p' st pre:=
 h.z8 T (lq.DD h.rd hg) hr
end
theorem X3 {a b:World}{r:Option Nat}(h:a.grownBy b r)(o:Obj):a.grownBy (b.alloc o) r:=⟨h.os,h.tape,h.output,by have:=h.size;simp;omega,fun k hk hne=>(dM _ _ _ (by have:=h.size;omega)).trans (h.block k hk hne)⟩
theorem Below.Cf {n₀:Nat}{a b:World}{rb:Nat}(h:a.grownBy b (some rb))(h1:n₀<=rb)(h2:n₀<=a.heap.size):Below n₀ a b:=(aA n₀ a).grown h h2 (fun k e=>by obtain rfl:=aK e;exact h1)
def BD(n:Nat):Code->Option Code
 | .region id ops d=>if id=n then some (.region id ops d)else none
 |.seq a b=>match BD n a with
  |some c=>some c
  |none=>BD n b
 | .block _ c=>BD n c
 | .scope c=>BD n c
 | .loop c=>BD n c
 |.cond _ a b=>match BD n a with
  |some c=>some c
  |none=>BD n b
 |_=>none
noncomputable def afY:Code:=((Tryz.f179.body.bind (BD 6)).getD .skip)
theorem WU(w:World)(rb pb:Nat)(s:ByteArray)(l n₀:Nat)(J Jx:List PR->World->Prop)(X:List PR)(T:Tl l n₀ J Jx X)(hn:n₀<=rb)(p:RP)(pre:List PR)(ki F G B D:Nat)(W3:World)
  (hP:W3.heap[pb]? =some (.cells #[.int .i64 ki,.int .i64 F,.int .i64 G,.int .i64 B,.int .i64 D] 75 (0,0))) (cV:Below n₀ w W3) (ni:Rs W3 rb s l J Jx X p false pre) (hX:(pre++[(⟨p.line,ki,F,G,B,D⟩:PR)])<+:X)
  (K:Act->World->Prop) (R0:Ending->World->Prop) (u1 u2 u3 u4 u5 u6 u8 u9 rN sP sQ sS sU sV u16 sW sX sY sZ s8 s9 u23 u24 tj u26 tq u28 tu tA tC u32 u33 tD tG tH tI tJ tK tM tN tP tQ u44 tR tS tU tV tW tX tY tZ ua ue uf ug uh uj um uo uq ur uu u64 uv uw uz uA uC uD uG uH uI vO vP vQ vR vS vT vU vV vW vX vY vZ wh u87 u88 u89 u90 u91 u92 u93 u94 u95 u96 u97 u98 u99 ac2 ac3:Value)
  (hK:∀(b:Bool)(W5:World)(v74 v75 v76 v77 v78 v79 v80 v81 v82 v83 TX v85 TY v87:Value),Below n₀ w W5->Rd W5 rb s (.func (.yield l) #[] #[]) p (!b)->(b=true->J (pre++[⟨p.line,ki,F,G,B,D⟩]) W5)->(b=false->Jx (pre++[⟨p.line,ki,F,G,B,D⟩]) W5)->K {tmps:=#[.pointer (some ⟨rb,0,none⟩),u1,u2,u3,u4,u5,u6,.pointer (some ⟨pb,0,none⟩),u8,u9,rN,sP,sQ,sS,sU,sV,u16,sW,sX,sY,sZ,s8,s9,u23,u24,tj,u26,tq,u28,tu,tA,tC,u32,u33,tD,tG,tH,tI,tJ,tK,tM,tN,tP,tQ,u44,tR,tS,tU,tV,tW,tX,tY,tZ,ua,ue,uf,ug,uh,uj,um,uo,uq,ur,uu,u64,uv,uw,uz,uA,uC,uD,uG,uH,uI,v74,v75,v76,v77,v78,v79,v80,v81,v82,v83,TX,v85,TY,v87,u88,u89,u90,u91,u92,u93,u94,u95,u96,u97,u98,u99,ac2,ac3],defers:=[]} W5):
  Code.wp prog afY (Exit.then K (bodyPost prog Tryz.f179 R0)) {tmps:=#[.pointer (some ⟨rb,0,none⟩),u1,u2,u3,u4,u5,u6,.pointer (some ⟨pb,0,none⟩),u8,u9,rN,sP,sQ,sS,sU,sV,u16,sW,sX,sY,sZ,s8,s9,u23,u24,tj,u26,tq,u28,tu,tA,tC,u32,u33,tD,tG,tH,tI,tJ,tK,tM,tN,tP,tQ,u44,tR,tS,tU,tV,tW,tX,tY,tZ,ua,ue,uf,ug,uh,uj,um,uo,uq,ur,uu,u64,uv,uw,uz,uA,uC,uD,uG,uH,uI,vO,vP,vQ,vR,vS,vT,vU,vV,vW,vX,vY,vZ,wh,u87,u88,u89,u90,u91,u92,u93,u94,u95,u96,u97,u98,u99,ac2,ac3],defers:=[]} W3:=by
 conv=>arg 2;whnf
 have HK:=ah hK;have HP:=ah hP;have uM:Hid (Below n₀ w W3/\Rs W3 rb s l J Jx X p false pre):=⟨cV,ni⟩
 have HX:=ah hX;clear hK cV hX;obtain⟨ln,sa,fr,bo,bB⟩:=p;simp only at HX;have c1:=ni.rd.c1;have c2:=ni.rd.c2;simp only at c2;have q0:W3.cell? ⟨pb,0,none⟩=some (.int .i64 ki):=az hP 0;have q1:W3.cell? ⟨pb,1,none⟩=some (.int .i64 F):=az hP 1;have q2:W3.cell? ⟨pb,2,none⟩=some (.int .i64 G):=az hP 2;have q3:W3.cell? ⟨pb,3,none⟩=some (.int .i64 B):=az hP 3;have q4:W3.cell? ⟨pb,4,none⟩=some (.int .i64 D):=az hP 4;clear hP ni;obtain⟨fn,tmps,assign,body,hy,hR⟩:=T.hY pre ⟨ln,ki,F,G,B,D⟩ W3.drew (T.hJ _ _ _ (uM.out.2.go rfl) (lq.DD uM.out.2.rd (BG (mZ _ _)))) HX.out;have hR':RoundIn Fence.wide 0 prog l fn tmps assign body W3.drew fun e W'=>∃b,e= .returned (.bool b)/\W'.cell? ⟨rb,7,none⟩=some (.bool false)/\W'.frozen? ⟨rb,7,none⟩=false/\Hid (Below n₀ w W'/\Rd W' rb s (.func (.yield l) #[] #[]) ⟨ln,sa,fr,bo,bB⟩ false/\(b=true->J (pre++[⟨ln,ki,F,G,B,D⟩]) W')/\(b=false->Jx (pre++[⟨ln,ki,F,G,B,D⟩]) W')):=by
  refine hR.mono ?_;have cV:=uM.out.1;have ni:=uM.out.2.rd;rintro e W' (⟨rfl,hj,hkp⟩|⟨rfl,hj,hkp⟩)
  .have hrd:Rd W' rb s (.func (.yield l) #[] #[]) ⟨ln,sa,fr,bo,bB⟩ false:=hkp.rd _ _ _ ni;exact⟨true,rfl,hrd.c7,hrd.fz 7,cV.drew.trans hkp.below,hrd,fun _=>hj,fun e=>by cases e⟩
  .have hrd:Rd W' rb s (.func (.yield l) #[] #[]) ⟨ln,sa,fr,bo,bB⟩ false:=hkp.rd _ _ _ ni;exact⟨false,rfl,hrd.c7,hrd.fz 7,cV.drew.trans hkp.below,hrd,(fun e=>by cases e),fun _=>hj⟩
 have hy':(Instr.yield l #[.int .i64 ln,.agg #[.int .i64 ki,.int .i64 F,.int .i64 G,.int .i64 B,.int .i64 D]]).run prog W3.drew= .ok (.round l fn tmps assign body) W3.drew:=hy;clear hR hy;have hdp:Fence.wide.depth=none:=rfl;refine(T9 (n:=0)).1 ?_
 gi_region_with (first|((first|refine hR'.mono ?_|refine⟨rfl,hR'.mono ?_⟩);rintro ev W4 ⟨b,rfl,v7,g7,H4⟩))
 all_goals
  obtain⟨k1,k2,k3,k4⟩:=H4.out;have ka:lq W4 (W4.setCell ⟨rb,7,none⟩ (.bool (!b))):=lq.DD k2 (lH (mZ _ _));exact HK.out b _ _ _ _ _ _ _ _ _ _ _ _ _ _ _ (k1.setCell (p:=⟨rb,7,none⟩) hn _) (k2.s7 _) (fun e=>T.hJ _ _ _ (k3 e) ka) (fun e=>T.Ak _ _ _ (k4 e) ka)
theorem WX(w:World)(rb:Nat)(s:ByteArray)(l n₀:Nat)(J Jx:List PR->World->Prop)(X:List PR)(T:Tl l n₀ J Jx X)(hn:n₀<=rb)(p:RP)(st:Bool)(pre:List PR)(h:Rs w rb s l J Jx X p st pre)(k t:Nat)(hk:k<=2)(ht:t<=2)
  (h1:p.start<=p.from_) (h2:p.start<=p.body) (h3:p.start<=p.at_) (h4:p.at_<=100000) (h5:p.from_<=100000) (h6:p.body<=100000) (hX:st=false->(pre++dA k t p)<+:X):
  Calls prog 179 #[.pointer (some ⟨rb,0,none⟩),.int .i64 k,.int .i64 t] w fun e w'=>(∃v,e= .returned v)/\Below n₀ w w'/\∃st',(st=true->st'=true)/\Rs w' rb s l J Jx X (gI t p st) st' (pre++dA k t p):=by
 obtain⟨ln,sa,fr,bo,mq⟩:=p;simp only at h1 h2 h3 h4 h5 h6;have hlt:=h.rd.lt;have c6:=h.rd.c6;have f6:=h.rd.fz 6;simp only at c6;obtain⟨bB,ha1⟩:∃bB,bB=mq+t:=⟨_,rfl⟩
 have HA:=ah ha1;have HH:=ah h;have hs1:=h.rd.s6 bB;have hg1:w.grownBy (w.setCell ⟨rb,6,none⟩ (.int .i64 bB)) (some rb):=lH (mZ _ _);have dQ:Rs (w.setCell ⟨rb,6,none⟩ (.int .i64 bB)) rb s l J Jx X ⟨ln,sa,fr,bo,bB⟩ st pre:=h.grown T hg1 hs1;have hb1:Below n₀ w (w.setCell ⟨rb,6,none⟩ (.int .i64 bB)):=Below.Cf hg1 hn (by omega);have e0:((mq:Int)+(t:Int))=(bB:Int):=by omega
 cases st with
 |true=>
  have HF:Hid (Below n₀ w (w.setCell ⟨rb,6,none⟩ (.int .i64 bB))/\Rs (w.setCell ⟨rb,6,none⟩ (.int .i64 bB)) rb s l J Jx X ⟨ln,sa,fr,bo,bB⟩ true pre):=⟨hb1,dQ⟩
  have c7:=hs1.c7;have hcs:gI t ⟨ln,sa,fr,bo,mq⟩ true=⟨ln,sa,fr,bo,bB⟩:=by rw [gI,aj rfl,ha1]
  rw [hcs];clear hcs h hs1 hg1 dQ hb1 ha1 hX;go_enter func179,ntmps179;go_wp2;go_quiet(fail);go_wp2;refine cG (zj rfl _ _ _) rfl ?_;refine⟨⟨_,rfl⟩,fZ HF.out.1 _,true,fun _=>rfl,⟨HF.out.2.rd.drewN _,(fun e=>by cases e),fun _=> ?_⟩⟩;obtain⟨q,hq,hx⟩:=HF.out.2.no rfl;exact⟨q,hq,T.Ak _ _ _ hx (lq.DD HF.out.2.rd (BH (mZ _ _)))⟩
 |false=>
  have HF:Hid (Below n₀ w (w.setCell ⟨rb,6,none⟩ (.int .i64 bB))/\Rs (w.setCell ⟨rb,6,none⟩ (.int .i64 bB)) rb s l J Jx X ⟨ln,sa,fr,bo,bB⟩ false pre):=⟨hb1,dQ⟩
  have c7:=hs1.c7;have c4:=hs1.c4;have Pd:=hs1.c6;simp only at c4 Pd;by_cases hfr:fr=bB
  .have hcs:gI t ⟨ln,sa,fr,bo,mq⟩ false=⟨ln,sa,fr,bo,bB⟩:=by rw [gI,ai (by decide),cz,aj (by rw [<-ha1];exact hfr),ha1]
   have hem:dA k t ⟨ln,sa,fr,bo,mq⟩=[]:=by rw [dA,aj (by rw [<-ha1];exact hfr)]
   rw [hcs,hem,lu];have ahk:((fr:Int)==(bB:Int))=true:=by simp [hfr]
   clear hcs hem h hs1 hg1 dQ hb1 ha1 hX hfr;go_enter func179,ntmps179;go_wp2;go_quiet(fail);go_wp2;refine cG (zj rfl _ _ _) rfl ?_;exact⟨⟨_,rfl⟩,fZ HF.out.1 _,false,fun e=>e,HF.out.2.grown T (BH (mZ _ _)) (HF.out.2.rd.drewN _)⟩
  .have hcs:gI t ⟨ln,sa,fr,bo,mq⟩ false=⟨ln,sa,bB,bB,bB⟩:=by rw [gI,ai (by decide),cz,ai (by rw [<-ha1];exact hfr),ha1]
   have ahk:((fr:Int)==(bB:Int))=false:=by simp;omega
   have c3:=hs1.c3;obtain⟨F,hF⟩:∃F,fr - sa=F:=⟨_,rfl⟩
   obtain⟨G,hG⟩:∃G,mq+t - sa=G:=⟨_,rfl⟩
   have eF:(fr:Int) - (sa:Int)=(F:Int):=by omega
   have eG:(bB:Int) - (sa:Int)=(G:Int):=by omega
   by_cases bX:k=0
   .subst bX;have hem:dA 0 t ⟨ln,sa,fr,bo,mq⟩=[⟨ln,0,F,G,0,0⟩]:=by rw [dA,ai (by rw [<-ha1];exact hfr),hF,hG,aj rfl,aj rfl]
    have oI:=hX rfl;rw [hem]at oI;rw [hcs,hem];have HX:=ah oI;clear hcs hem h hs1 hg1 dQ hb1 ha1 hX oI hfr hF hG;go_enter func179,ntmps179;go_wp2;go_quiet(fail);go_wp2;obtain⟨W2,hW2⟩:∃W2,W2=(w.setCell ⟨rb,6,none⟩ (.int .i64 bB)).drewN nq:=⟨_,rfl⟩
    have dX:Hid (Below n₀ w W2/\Rs W2 rb s l J Jx X ⟨ln,sa,fr,bo,bB⟩ false pre):=by
     rw [hW2];exact⟨fZ HF.out.1 _,HF.out.2.grown T (BH (mZ _ _)) (HF.out.2.rd.drewN _)⟩
    rw [<-hW2];clear hW2 HF c7 c4 Pd c3 c6 f6;have hz:rb<W2.heap.size:=dX.out.2.rd.lt;have c3:=dX.out.2.rd.c3;have c4:=dX.out.2.rd.c4;have c6:=dX.out.2.rd.c6;simp only at c3 c4 c6;have z3:(W2.alloc (.cells #[.int .i64 0,.int .i64 0,.int .i64 0,.int .i64 0,.int .i64 0] 75)).cell? ⟨rb,3,none⟩=some (.int .i64 sa):=(rA _ _ _ hz).trans c3;have z4:(W2.alloc (.cells #[.int .i64 0,.int .i64 0,.int .i64 0,.int .i64 0,.int .i64 0] 75)).cell? ⟨rb,4,none⟩=some (.int .i64 fr):=(rA _ _ _ hz).trans c4;have z6:(W2.alloc (.cells #[.int .i64 0,.int .i64 0,.int .i64 0,.int .i64 0,.int .i64 0] 75)).cell? ⟨rb,6,none⟩=some (.int .i64 bB):=(rA _ _ _ hz).trans c6;go_region;all_goals
     go_wp2;obtain⟨W3,hW3⟩:∃W3,W3=(W2.alloc (.cells #[.int .i64 0,.int .i64 F,.int .i64 G,.int .i64 0,.int .i64 0] 75)).drew:=⟨_,rfl⟩
     have HP:Hid (W3.heap[W2.heap.size]? =some (.cells #[.int .i64 0,.int .i64 F,.int .i64 G,.int .i64 0,.int .i64 0] 75 (0,0))):=by
      rw [hW3];exact World.alloc_heap_new W2 _
     have hg3:W2.grownBy W3 (some rb):=by rw [hW3];exact BG (X3 (mZ _ _) _)
     have uM:Hid (Below n₀ w W3/\Rs W3 rb s l J Jx X ⟨ln,sa,fr,bo,bB⟩ false pre):=by
      refine⟨dX.out.1.trans (Below.Cf hg3 hn (by omega)),dX.out.2.grown T hg3 ?_⟩;rw [hW3];exact(dM _ _ _ hz).trans dX.out.2.rd
     rw [<-hW3];clear hW3 hg3 z3 z4 z6 c3 c4 c6 hz dX;generalize W2.heap.size=pb at*;refine WU w rb pb s l n₀ J Jx X T hn ⟨ln,sa,fr,bo,bB⟩ pre 0 F G 0 0 W3 HP.out uM.out.1 uM.out.2 HX.out _ _ _ _ _ _ _ _ _ _ _ _ _ _ _ _ _ _ _ _ _ _ _ _ _ _ _ _ _ _ _ _ _ _ _ _ _ _ _ _ _ _ _ _ _ _ _ _ _ _ _ _ _ _ _ _ _ _ _ _ _ _ _ _ _ _ _ _ _ _ _ _ _ _ _ _ _ _ _ _ _ _ _ _ _ _ _ _ _ _ _ _ _ _ _ _ _ _ _ _ _ _ ?_;clear HP uM;intro b W5 v74 v75 v76 v77 v78 v79 v80 v81 v82 v83 TX v85 TY v87 k1 k2 k3 k4;have H5:Hid (Below n₀ w W5/\Rd W5 rb s (.func (.yield l) #[] #[]) ⟨ln,sa,fr,bo,bB⟩ (!b)/\(b=true->J (pre++[⟨ln,0,F,G,0,0⟩]) W5)/\(b=false->Jx (pre++[⟨ln,0,F,G,0,0⟩]) W5)):=⟨k1,k2,k3,k4⟩
     have c4:=k2.c4;have c5:=k2.c5;have c6:=k2.c6;have f4:=k2.fz 4;have f5:=k2.fz 5;simp only at c4 c5 c6;clear k1 k2 k3 k4;go_wp2;go_region;all_goals
      go_wp2;go_end0;have key:∀W6,W5.grownBy W6 (some rb)->Rd W6 rb s (.func (.yield l) #[] #[]) ⟨ln,sa,bB,bB,bB⟩ (!b)->(∃v,Ending.returned (Value.tuple #[])=Ending.returned v)/\Below n₀ w W6/\∃st',(false=true->st'=true)/\Rs W6 rb s l J Jx X ⟨ln,sa,bB,bB,bB⟩ st' (pre++[⟨ln,0,F,G,0,0⟩]):=fun W6 hg hr=>by
       obtain⟨k1,k2,k3,k4⟩:=H5.out;have ka:=lq.DD k2 hg;refine⟨⟨_,rfl⟩,k1.trans (Below.Cf hg hn (by have:=k2.lt;omega)),!b,(fun e=>by cases e),hr,fun e=>T.hJ _ _ _ (k3 (by simpa using e)) ka,fun e=>⟨_,HX.out,T.Ak _ _ _ (k4 (by simpa using e)) ka⟩⟩
      first
       |exact key _ (BG (lH (lH (mZ _ _)))) ((H5.out.2.1.s4 bB).s5 bB)
       |exact key _ (BG (lH (lH (mZ _ _)))) ((H5.out.2.1.s5 bB).s4 bB)
   .have hk1:((k:Int)==0)=false:=by simp;omega
    obtain⟨B,hB⟩:∃B,bo - sa=B:=⟨_,rfl⟩
    obtain⟨D,hD⟩:∃D,mq - sa=D:=⟨_,rfl⟩
    have eB:(bo:Int) - (sa:Int)=(B:Int):=by omega
    have eD:(mq:Int) - (sa:Int)=(D:Int):=by omega
    have hem:dA k t ⟨ln,sa,fr,bo,mq⟩=[⟨ln,k,F,G,B,D⟩]:=by rw [dA,ai (by rw [<-ha1];exact hfr),hF,hG,ai bX,ai bX,hB,hD]
    have oI:=hX rfl;rw [hem]at oI;rw [hcs,hem];have HX:=ah oI;clear hcs hem h hs1 hg1 dQ hb1 ha1 hX oI hfr hF hG hB hD bX;go_enter func179,ntmps179;go_wp2;go_quiet(fail);go_wp2;obtain⟨W2,hW2⟩:∃W2,W2=(w.setCell ⟨rb,6,none⟩ (.int .i64 bB)).drewN nq:=⟨_,rfl⟩
    have dX:Hid (Below n₀ w W2/\Rs W2 rb s l J Jx X ⟨ln,sa,fr,bo,bB⟩ false pre):=by
     rw [hW2];exact⟨fZ HF.out.1 _,HF.out.2.grown T (BH (mZ _ _)) (HF.out.2.rd.drewN _)⟩
    rw [<-hW2];clear hW2 HF c7 c4 Pd c3 c6 f6;have hz:rb<W2.heap.size:=dX.out.2.rd.lt;have c3:=dX.out.2.rd.c3;have c4:=dX.out.2.rd.c4;have c6:=dX.out.2.rd.c6;simp only at c3 c4 c6;have z3:(W2.alloc (.cells #[.int .i64 0,.int .i64 0,.int .i64 0,.int .i64 0,.int .i64 0] 75)).cell? ⟨rb,3,none⟩=some (.int .i64 sa):=(rA _ _ _ hz).trans c3;have z4:(W2.alloc (.cells #[.int .i64 0,.int .i64 0,.int .i64 0,.int .i64 0,.int .i64 0] 75)).cell? ⟨rb,4,none⟩=some (.int .i64 fr):=(rA _ _ _ hz).trans c4;have z6:(W2.alloc (.cells #[.int .i64 0,.int .i64 0,.int .i64 0,.int .i64 0,.int .i64 0] 75)).cell? ⟨rb,6,none⟩=some (.int .i64 bB):=(rA _ _ _ hz).trans c6;go_region;all_goals
     go_wp2;obtain⟨W7,Ig⟩:∃W7,W7=(W2.alloc (.cells #[.int .i64 k,.int .i64 F,.int .i64 G,.int .i64 0,.int .i64 0] 75)).drew:=⟨_,rfl⟩
     have rU:Hid (W7.heap[W2.heap.size]? =some (.cells #[.int .i64 k,.int .i64 F,.int .i64 G,.int .i64 0,.int .i64 0] 75 (0,0))):=by
      rw [Ig];exact World.alloc_heap_new W2 _
     have gU:W2.grownBy W7 (some rb):=by rw [Ig];exact BG (X3 (mZ _ _) _)
     have zK:Hid (n₀<=W2.heap.size/\W2.heap.size≠rb):=⟨by omega,by omega⟩
     have F6:Hid (Below n₀ w W7/\Rs W7 rb s l J Jx X ⟨ln,sa,fr,bo,bB⟩ false pre):=by
      refine⟨dX.out.1.trans (Below.Cf gU hn (by omega)),dX.out.2.grown T gU ?_⟩;rw [Ig];exact(dM _ _ _ hz).trans dX.out.2.rd
     have Uo:Hid (∀W8,W7.grownBy W8 (some W2.heap.size)->lq W2 W8):=fun W8 nk=>by
      have a1:=lq.DD dX.out.2.rd gU;exact⟨nk.os.trans a1.os,nk.tape.trans a1.tape,nk.output.trans a1.output,bU a1.size nk.size,fun i o hi ho=>(nk.block i (ku (eO hi) a1.size) (fun e=>by have:=eO hi;have:=aK e;omega)).trans (a1.block i o hi ho)⟩
     rw [<-Ig];clear Ig gU z3 z4 z6 c3 c4 c6 hz;generalize W2.heap.size=pb at*;have c3:=F6.out.2.rd.c3;have c5:=F6.out.2.rd.c5;simp only at c3 c5;have q3:W7.cell? ⟨pb,3,none⟩=some (.int .i64 0):=az rU.out 3;have q4:W7.cell? ⟨pb,4,none⟩=some (.int .i64 0):=az rU.out 4;have g3:=cH rU.out 3;have g4:=cH rU.out 4;have hnp:pb≠rb:=zK.out.2;go_region;all_goals
      go_wp2;obtain⟨W3,hW3⟩:∃W3,W3=((W7.setCell ⟨pb,3,none⟩ (.int .i64 B)).setCell ⟨pb,4,none⟩ (.int .i64 D)).drew:=⟨_,rfl⟩
      have hg3:W7.grownBy W3 (some pb):=by rw [hW3];exact BG (lH (lH (mZ _ _)))
      have HP:Hid (W3.heap[pb]? =some (.cells #[.int .i64 k,.int .i64 F,.int .i64 G,.int .i64 B,.int .i64 D] 75 (0,0))):=by
       rw [hW3];show((W7.setCell ⟨pb,3,none⟩ (.int .i64 B)).setCell ⟨pb,4,none⟩ (.int .i64 D)).heap[pb]? =_;rw [fK (fK rU.out _)];rfl
      have uM:Hid (Below n₀ w W3/\Rs W3 rb s l J Jx X ⟨ln,sa,fr,bo,bB⟩ false pre):=by
       refine⟨F6.out.1.trans (Below.Cf hg3 zK.out.1 (by have:=eO rU.out;have:=zK.out.1;omega)),dX.out.2.z8 T (Uo.out W3 hg3) (F6.out.2.rd.other hg3 (fun e=>hnp (aK e).symm))⟩
      rw [<-hW3];clear hW3 hg3 rU F6 Uo dX zK hnp q3 q4 g3 g4 c3 c5;refine WU w rb pb s l n₀ J Jx X T hn ⟨ln,sa,fr,bo,bB⟩ pre k F G B D W3 HP.out uM.out.1 uM.out.2 HX.out _ _ _ _ _ _ _ _ _ _ _ _ _ _ _ _ _ _ _ _ _ _ _ _ _ _ _ _ _ _ _ _ _ _ _ _ _ _ _ _ _ _ _ _ _ _ _ _ _ _ _ _ _ _ _ _ _ _ _ _ _ _ _ _ _ _ _ _ _ _ _ _ _ _ _ _ _ _ _ _ _ _ _ _ _ _ _ _ _ _ _ _ _ _ _ _ _ _ _ _ _ _ ?_;clear HP uM;intro b W5 v74 v75 v76 v77 v78 v79 v80 v81 v82 v83 TX v85 TY v87 k1 k2 k3 k4;have H5:Hid (Below n₀ w W5/\Rd W5 rb s (.func (.yield l) #[] #[]) ⟨ln,sa,fr,bo,bB⟩ (!b)/\(b=true->J (pre++[⟨ln,k,F,G,B,D⟩]) W5)/\(b=false->Jx (pre++[⟨ln,k,F,G,B,D⟩]) W5)):=⟨k1,k2,k3,k4⟩
      have c4:=k2.c4;have c5:=k2.c5;have c6:=k2.c6;have f4:=k2.fz 4;have f5:=k2.fz 5;simp only at c4 c5 c6;clear k1 k2 k3 k4;go_wp2;go_region;all_goals
       go_wp2;go_end0;have key:∀W6,W5.grownBy W6 (some rb)->Rd W6 rb s (.func (.yield l) #[] #[]) ⟨ln,sa,bB,bB,bB⟩ (!b)->(∃v,Ending.returned (Value.tuple #[])=Ending.returned v)/\Below n₀ w W6/\∃st',(false=true->st'=true)/\Rs W6 rb s l J Jx X ⟨ln,sa,bB,bB,bB⟩ st' (pre++[⟨ln,k,F,G,B,D⟩]):=fun W6 hg hr=>by
        obtain⟨k1,k2,k3,k4⟩:=H5.out;have ka:=lq.DD k2 hg;refine⟨⟨_,rfl⟩,k1.trans (Below.Cf hg hn (by have:=k2.lt;omega)),!b,(fun e=>by cases e),hr,fun e=>T.hJ _ _ _ (k3 (by simpa using e)) ka,fun e=>⟨_,HX.out,T.Ak _ _ _ (k4 (by simpa using e)) ka⟩⟩
       first
        |exact key _ (BG (lH (lH (mZ _ _)))) ((H5.out.2.1.s4 bB).s5 bB)
        |exact key _ (BG (lH (lH (mZ _ _)))) ((H5.out.2.1.s5 bB).s4 bB)
def cO(hd:Nat)(p:RP)(st:Bool):RP:=⟨(gI 0 p st).line,(gI 0 p st).start,(gI 0 p st).from_,(gI 0 p st).at_+hd,(gI 0 p st).at_+hd⟩
structure p6(s:ByteArray)(p:RP):Prop where
 a:p.start<=p.from_
 b:p.from_<=p.at_
 c:p.start<=p.body
 d:p.body<=s.size
 e:p.at_<=s.size
 f:p.line<=p.at_
section
variable{s:ByteArray}{p:RP}{st:Bool}{t:Nat}
theorem He:(gI t p st).at_=p.at_+t:=by unfold gI cz;split;rfl;split<;>rfl
theorem WW:(gI t p st).line=p.line:=by unfold gI cz;split;rfl;split<;>rfl
theorem p6.cut(h:p6 s p)(ht:p.at_+t<=s.size):p6 s (gI t p st):=by
 obtain⟨a,b,c,d,e,f⟩:=h;unfold gI cz;split
 .constructor<;>simp only<;>omega
 .split
  .constructor<;>simp only<;>omega
  .constructor<;>simp only<;>omega
theorem p6.feed(h:p6 s p)(ht:p.at_+1<=s.size):p6 s (mY p):=by
 obtain⟨a,b,c,d,e,f⟩:=h;unfold mY;constructor<;>simp only<;>omega
theorem p6.to(h:p6 s p){j:Nat}(hj:p.at_<=j)(hs:j<=s.size):p6 s ⟨p.line,p.start,p.from_,p.body,j⟩:=by
 obtain⟨a,b,c,d,e,f⟩:=h;constructor<;>simp only<;>omega
theorem p6.open(h:p6 s p){hd:Nat}(ht:p.at_+hd<=s.size):p6 s (cO hd p st):=by
 have h':=h.cut (t:=0) (st:=st) (by omega);obtain⟨a,b,c,d,e,f⟩:=h';have h1:(gI 0 p st).at_=p.at_+0:=He;unfold cO;constructor<;>simp only<;>omega
theorem JB {hd:Nat}:(cO hd p st).at_=p.at_+hd:=by show(gI 0 p st).at_+hd=_;rw [He];omega
end
theorem ajL(w:World)(rb:Nat)(s:ByteArray)(l n₀:Nat)(J Jx:List PR->World->Prop)(X:List PR)(T:Tl l n₀ J Jx X)(hn:n₀<=rb)(p:RP)(st:Bool)(pre:List PR)(h:Rs w rb s l J Jx X p st pre)(hd:Nat)(hd2:hd<=2)
  (hp:p6 s p) (hs:s.size<=1000) (hX:st=false->(pre++dA 0 0 p)<+:X):
  Calls prog 181 #[.pointer (some ⟨rb,0,none⟩),.int .i64 hd] w fun e w'=>(∃v,e= .returned v)/\Below n₀ w w'/\∃st',(st=true->st'=true)/\Rs w' rb s l J Jx X (cO hd p st) st' (pre++dA 0 0 p):=by
 have HC:=WX w rb s l n₀ J Jx X T hn p st pre h 0 0 (by omega) (by omega) hp.a hp.c (by have:=hp.a;have:=hp.b;omega) (by have:=hp.e;omega) (by have:=hp.b;have:=hp.e;omega) (by have:=hp.d;omega) hX;have HQ:=hp.cut (t:=0) (st:=st) (by have:=hp.e;omega);have HA:(gI 0 p st).at_=p.at_:=He;unfold cO;generalize gI 0 p st=q at*;generalize dA 0 0 p=em at*;have HC':Hid (Calls prog 179 #[.pointer (some ⟨rb,0,none⟩),.int .i64 0,.int .i64 0] w fun e w'=>(∃v,e= .returned v)/\Below n₀ w w'/\∃st',(st=true->st'=true)/\Rs w' rb s l J Jx X q st' (pre++em)):=HC;have Q5:q.at_<=1000:=by have:=HQ.e;omega
 clear HC h hX HQ HA hp;obtain⟨ln,sa,fr,bo,mq⟩:=q;simp only at Q5 ⊢;obtain⟨bB,ha1⟩:∃bB,mq+hd=bB:=⟨_,rfl⟩
 rw [ha1];have e0:((mq:Int)+(hd:Int))=(bB:Int):=by omega
 clear ha1;go_enter func181,ntmps181;go_wp2_with(go_at_call 179;refine HC'.out.mono ?_;rintro ev W1 ⟨⟨v,rfl⟩,hB,st',hst,hR⟩;(have c6:=hR.rd.c6);(have c5:=hR.rd.c5);(have f6:=hR.rd.fz 6);(have f5:=hR.rd.fz 5);simp only at c6 c5;(have HH:Hid (Below n₀ w W1/\(st=true->st'=true)/\Rs W1 rb s l J Jx X ⟨ln,sa,fr,bo,mq⟩ st' (pre++em)):=⟨hB,hst,hR⟩);clear hB hst hR);go_end0;obtain⟨hB,hst,hR⟩:=HH.out;have hg:W1.grownBy ((W1.setCell ⟨rb,6,none⟩ (.int .i64 bB)).setCell ⟨rb,5,none⟩ (.int .i64 bB)) (some rb):=lH (lH (mZ _ _));exact⟨⟨_,rfl⟩,hB.trans (Below.Cf hg hn (by have:=hR.rd.lt;omega)),st',hst,hR.grown T hg ((hR.rd.s6 bB).s5 bB)⟩
def qR(s:ByteArray)(i:Nat):Nat×Bool:=
 if i<s.size/\bt s i≠10 then
  if bt s i=34 then(i,true)
  else if bt s i=92/\bt s (i+1)≠10 then qR s (i+2)
  else qR s (i+1)
 else(i,false)
termination_by s.size - i
theorem o9 {s:ByteArray}{i:Nat}(h:bt s i≠10):i<s.size:=by
 rcases cK i s.size with h'|h'
 .exact h'
 .exact absurd (yL (by omega)) h
theorem Jm(s:ByteArray)(i:Nat):i<=(qR s i).1:=by
 fun_induction qR s i<;>simp_all<;>omega
theorem akT {s:ByteArray}{i:Nat}(h:i<=s.size):(qR s i).1<=s.size:=by
 fun_induction qR s i with
 |case1 i h1 h2=>exact h
 |case2 i h1 h2 h3 ih=>exact ih (by have:=o9 h3.2;omega)
 |case3 i h1 h2 h3 ih=>exact ih (by omega)
 |case4 i h1=>exact h
theorem MR {s:ByteArray}{i:Nat}(h:(qR s i).2=true):(qR s i).1<s.size/\bt s (qR s i).1=34:=by
 fun_induction qR s i with
 |case1 i h1 h2=>exact⟨h1.1,h2⟩
 |case2 i h1 h2 h3 ih=>exact ih h
 |case3 i h1 h2 h3 ih=>exact ih h
 |case4 i h1=>cases h
def qT(s:ByteArray)(i:Nat):Nat:=if(qR s i).2 then 1 else 0
theorem MQ {s:ByteArray}{i:Nat}(h:i<=s.size):(qR s i).1+qT s i<=s.size:=by
 unfold qT;split
 .have:=(MR (by assumption)).1;omega
 .have:=akT h;omega
def cI(p:RP)(j:Nat):RP:=⟨p.line,p.start,p.from_,p.body,j⟩
theorem jg {t:Nat}{p:RP}:(cz t p).at_=p.at_+t:=by unfold cz;split<;>rfl
theorem yN {t:Nat}{p:RP}:gI t p false=cz t p:=by unfold gI;rfl
def bY(s:ByteArray)(blk:Bool)(p:RP):List PR:=
 if p.at_<s.size then
  if blk=true then
   if bt s p.at_=42/\bt s (p.at_+1)=47 then dA 2 2 p++bY s false (cz 2 p)
   else if bt s p.at_=10 then dA 2 0 p++bY s true (mY (cz 0 p))
   else bY s true (cI p (p.at_+1))
  else if bt s p.at_=34 then
   dA 0 0 p++(dA 1 (qT s (p.at_+1)) (cI (cO 1 p false) (qR s (p.at_+1)).1)++bY s false (cz (qT s (p.at_+1)) (cI (cO 1 p false) (qR s (p.at_+1)).1)))
  else if bt s p.at_=47/\bt s (p.at_+1)=47 then
   dA 0 0 p++(dA 2 0 (cI (cO 2 p false) (bQ s (p.at_+2)))++bY s false (cz 0 (cI (cO 2 p false) (bQ s (p.at_+2)))))
  else if bt s p.at_=47/\bt s (p.at_+1)=42 then dA 0 0 p++bY s true (cO 2 p false)
  else if bt s p.at_=10 then dA 0 0 p++bY s false (mY (cz 0 p))
  else bY s false (cI p (p.at_+1))
 else dA (if blk then 2 else 0) 0 p
termination_by s.size - p.at_
decreasing_by
 .rw [jg];omega
 .show _ - ((cz 0 p).at_+1)<_;rw [jg];omega
 .show _ - (p.at_+1)<_;omega
 .rw [jg];show _ - ((qR s (p.at_+1)).1+_)<_;have:=Jm s (p.at_+1);omega
 .rw [jg];show _ - (bQ s (p.at_+2)+0)<_;have:=Dz s (p.at_+2);omega
 .rw [JB];omega
 .show _ - ((cz 0 p).at_+1)<_;rw [jg];omega
 .show _ - (p.at_+1)<_;omega
structure Tk where
 k:Nat
 F:Nat
 T:Nat
 B:Nat
 E:Nat
def bR(s:ByteArray)(q:Nat):Nat×Bool:=
 if q<s.size then if bt s q=42/\bt s (q+1)=47 then(q,true)else bR s (q+1)else(q,false)
termination_by s.size - q
def bT(s:ByteArray)(q:Nat):Nat:=if(bR s q).2 then 2 else 0
theorem Mt(s:ByteArray)(q:Nat):q<=(bR s q).1:=by
 fun_induction bR s q<;>simp_all<;>omega
theorem V4 {s:ByteArray}{q:Nat}(h:q<=s.size):(bR s q).1+bT s q<=s.size:=by
 unfold bT
 fun_induction bR s q with
 |case1 q h1 h2=>have:=o9 (s:=s) (i:=q+1) (by rw [h2.2];decide);simp;omega
 |case2 q h1 h2 ih=>exact ih (by omega)
 |case3 q h1=>simp;omega
def dc(s:ByteArray)(p:Nat):Tk:=
 if bt s p=34 then⟨1,p,(qR s (p+1)).1+qT s (p+1),p+1,(qR s (p+1)).1⟩
 else if bt s p=47/\bt s (p+1)=47 then⟨2,p,bQ s p,p+2,bQ s p⟩
 else if bt s p=47/\bt s (p+1)=42 then⟨2,p,(bR s (p+2)).1+bT s (p+2),p+2,(bR s (p+2)).1⟩
 else⟨0,p,p+1,0,0⟩
theorem Jp {s:ByteArray}{p:Nat}(h:bt s p≠10):bQ s p=bQ s (p+1):=by
 rw [bQ,aj ⟨o9 h,h⟩]
theorem zw(s:ByteArray)(p:Nat):p<(dc s p).T:=by
 unfold dc;split
 .have:=Jm s (p+1);simp only;omega
 .split
  .rename_i h;simp only;rw [Jp (by rw [h.1];decide)];have:=Dz s (p+1);omega
  .split
   .have:=Mt s (p+2);simp only;omega
   .simp
theorem T5(s:ByteArray)(p:Nat):(dc s p).F=p:=by unfold dc;repeat (first|rfl|split)
theorem T6(s:ByteArray)(p:Nat)(h:(dc s p).k=0):dc s p=⟨0,p,p+1,0,0⟩:=by
 unfold dc at h ⊢;by_cases h1:bt s p=34
 .rw [aj h1]at h;cases h
 .rw [ai h1]at h ⊢;by_cases h2:bt s p=47/\bt s (p+1)=47
  .rw [aj h2]at h;cases h
  .rw [ai h2]at h ⊢;by_cases h3:bt s p=47/\bt s (p+1)=42
   .rw [aj h3]at h;cases h
   .rw [ai h3]
def jR(t:Tk)(ts:List Tk):List Tk:=
 if t.k=0 then
  match ts with
  |u::us=>if u.k=0 then⟨0,t.F,u.T,0,0⟩::us else t::u::us
  |[]=>[t]
 else t::ts
def dD(s:ByteArray)(p:Nat):List Tk:=if p<s.size then jR (dc s p) (dD s (dc s p).T)else []
termination_by s.size - p
decreasing_by have:=zw s p;omega
def wi(p lo hi:Nat):Nat:=if p<lo then lo else if hi<p then hi else p
def dY(ln k bg fr p B E:Nat):List PR:=if fr<p then [⟨ln,k,fr - bg,p - bg,if k=0 then 0 else wi B fr p - bg,if k=0 then 0 else wi E fr p - bg⟩]else []
def lW(s:ByteArray)(k T B E ln bg fr p:Nat):List PR:=
 if p<T then if bt s p=10 then dY ln k bg fr p B E++lW s k T B E (ln+1) (p+1) (p+1) (p+1)else lW s k T B E ln bg fr (p+1)
 else dY ln k bg fr p B E
termination_by T - p
def iR(s:ByteArray)(T ln bg p:Nat):Nat×Nat:=
 if p<T then if bt s p=10 then iR s T (ln+1) (p+1) (p+1)else iR s T ln bg (p+1)
 else(ln,bg)
termination_by T - p
section
variable{s:ByteArray}{k T B E ln bg fr p:Nat}
theorem DR(h:p<T)(hb:bt s p=10):lW s k T B E ln bg fr p=dY ln k bg fr p B E++lW s k T B E (ln+1) (p+1) (p+1) (p+1):=by rw [lW,aj h,aj hb]
theorem zl(h:p<T)(hb:¬bt s p=10):lW s k T B E ln bg fr p=lW s k T B E ln bg fr (p+1):=by rw [lW,aj h,ai hb]
theorem zk(h:¬p<T):lW s k T B E ln bg fr p=dY ln k bg fr p B E:=by rw [lW,ai h]
theorem EL(h:p<T)(hb:bt s p=10):iR s T ln bg p=iR s T (ln+1) (p+1) (p+1):=by rw [iR,aj h,aj hb]
theorem Ag(h:p<T)(hb:¬bt s p=10):iR s T ln bg p=iR s T ln bg (p+1):=by rw [iR,aj h,ai hb]
theorem EK(h:¬p<T):iR s T ln bg p=(ln,bg):=by rw [iR,ai h]
end
def fQ(s:ByteArray):List Tk->Nat->Nat->List PR
 |[],_,_=>[]
 |t::ts,ln,bg=>lW s t.k t.T t.B t.E ln bg t.F t.F++fQ s ts (iR s t.T ln bg t.F).1 (iR s t.T ln bg t.F).2
def BB(s:ByteArray)(ln bg fr a:Nat):List Tk->List PR
 |[]=>dY ln 0 bg fr a 0 0
 |u::us=>if u.k=0 then lW s 0 u.T 0 0 ln bg fr a++fQ s us (iR s u.T ln bg a).1 (iR s u.T ln bg a).2 else dY ln 0 bg fr a 0 0++fQ s (u::us) ln bg
theorem J6(s:ByteArray)(p:Nat):∀u us,dD s p=u::us->u.F=p/\p<u.T/\(u.k=0->u.B=0/\u.E=0):=by
 intro u us h;rw [dD]at h;split at h
 .unfold jR at h;have hw:=zw s p;have hF:=T5 s p;split at h
  .rename_i hk;have vp:(dc s p).B=0/\(dc s p).E=0:=by rw [T6 s p hk];exact⟨rfl,rfl⟩
   split at h
   .rename_i u' us' he;split at h
    .injection h with h1 h2
     subst h1;refine⟨hF,?_,fun _=>⟨rfl,rfl⟩⟩;have:=J6 s (dc s p).T u' us' he;simp only;omega
    .injection h with h1 h2
     subst h1;exact⟨hF,hw,fun _=>vp⟩
   .injection h with h1 h2
    subst h1;exact⟨hF,hw,fun _=>vp⟩
  .injection h with h1 h2
   subst h1;rename_i hk;exact⟨hF,hw,fun e=>absurd e hk⟩
 .cases h
termination_by s.size - p
decreasing_by have:=zw s p;omega
theorem Xg(ln k bg p B E:Nat):dY ln k bg p p B E=[]:=ai (by omega)
theorem WZ(s:ByteArray)(ln bg p:Nat):BB s ln bg p p (dD s p)=fQ s (dD s p) ln bg:=by
 cases h:dD s p with
 |nil=>exact Xg _ _ _ _ _ _
 |cons u us=>
  obtain⟨hF,hT,vp⟩:=J6 s p u us h;show(if u.k=0 then _ else _)=_;by_cases hk:u.k=0
  .obtain⟨hB,hE⟩:=vp hk;rw [aj hk,fQ,hF,hk,hB,hE]
  .rw [ai hk,Xg,yx]
theorem af7(s:ByteArray)(ln bg fr a:Nat)(ts:List Tk)(hts:∀u us,ts=u::us->a+1<u.T/\u.F=a+1):
  BB s ln bg fr a (jR ⟨0,a,a+1,0,0⟩ ts)=if bt s a=10 then dY ln 0 bg fr a 0 0++BB s (ln+1) (a+1) (a+1) (a+1) ts else BB s ln bg fr (a+1) ts:=by
 unfold jR;rw [aj rfl];cases ts with
 |nil=>
  show lW s 0 (a+1) 0 0 ln bg fr a++fQ s [] _ _=_;rw [fQ,lu];by_cases hb:bt s a=10
  .rw [aj hb,DR (by omega) hb,zk (by omega)];rfl
  .rw [ai hb,zl (by omega) hb,zk (by omega)];rfl
 |cons u us=>
  obtain⟨h1,_⟩:=hts u us rfl;simp only;by_cases hk:u.k=0
  .rw [aj hk];show lW s 0 u.T 0 0 ln bg fr a++fQ s us (iR s u.T ln bg a).1 (iR s u.T ln bg a).2=_;have e1:∀ln bg fr,BB s ln bg fr (a+1) (u::us)=lW s 0 u.T 0 0 ln bg fr (a+1)++fQ s us (iR s u.T ln bg (a+1)).1 (iR s u.T ln bg (a+1)).2:=fun _ _ _=>aj hk
   rw [e1,e1];by_cases hb:bt s a=10
   .rw [aj hb,DR (by omega) hb,EL (by omega) hb,eV]
   .rw [ai hb,zl (by omega) hb,Ag (by omega) hb]
  .rw [ai hk];show lW s 0 (a+1) 0 0 ln bg fr a++fQ s (u::us) (iR s (a+1) ln bg a).1 (iR s (a+1) ln bg a).2=_;have e1:∀ln bg fr,BB s ln bg fr (a+1) (u::us)=dY ln 0 bg fr (a+1) 0 0++fQ s (u::us) ln bg:=fun _ _ _=>ai hk
   rw [e1,e1];by_cases hb:bt s a=10
   .rw [aj hb,DR (by omega) hb,EL (by omega) hb,zk (by omega),EK (by omega),eV]
   .rw [ai hb,zl (by omega) hb,Ag (by omega) hb,zk (by omega),EK (by omega)]
theorem MU {s:ByteArray}{k T B E ln bg fr:Nat}:∀(d p:Nat),T=p+d->(∀i,p<=i->i<T->bt s i≠10)->lW s k T B E ln bg fr p=dY ln k bg fr T B E/\iR s T ln bg p=(ln,bg)
 |0,p,hT,_=>by
  have:¬p<T:=by omega
  obtain rfl:p=T:=by omega
  exact⟨zk this,EK this⟩
 |d+1,p,hT,hb=>by
  have h:=hb p (ay _) (by omega);rw [zl (by omega) h,Ag (by omega) h];exact MU d (p+1) (by omega) (fun i h1 h2=>hb i (by omega) h2)
theorem Ad {k t:Nat}{p:RP}(hb:p.from_<=p.at_)(B E:Nat)(hB:k≠0->wi B p.from_ (p.at_+t)=p.body)(hE:k≠0->wi E p.from_ (p.at_+t)=p.at_):dA k t p=dY p.line k p.start p.from_ (p.at_+t) B E:=by
 unfold dA dY;by_cases h:p.from_=p.at_+t
 .rw [aj h,ai (by omega)]
 .have h':p.from_<p.at_+t:=by omega
  by_cases hk:k=0
  .simp [h,h',hk]
  .simp [h,h',hk,hB hk,hE hk]
theorem akS {s:ByteArray}{i:Nat}:∀j,i<=j->j<(qR s i).1+qT s i->bt s j≠10:=by
 unfold qT
 fun_induction qR s i with
 |case1 i h1 h2=>intro j h3 h4;simp at h4;obtain rfl:j=i:=(by omega);rw [h2];decide
 |case2 i h1 h2 h3 ih=>
  intro j h4 h5;by_cases h6:j=i
  .rw [h6];exact h1.2
  .by_cases h7:j=i+1
   .rw [h7];exact h3.2
   .exact ih j (by omega) h5
 |case3 i h1 h2 h3 ih=>
  intro j h4 h5;by_cases h6:j=i
  .rw [h6];exact h1.2
  .exact ih j (by omega) h5
 |case4 i h1=>intro j h3 h4;simp at h4;omega
theorem ai0 {s:ByteArray}{i:Nat}:∀j,i<=j->j<bQ s i->bt s j≠10:=by
 fun_induction bQ s i with
 |case1 i h1 ih=>
  intro j h2 h3;by_cases h6:j=i
  .rw [h6];exact h1.2
  .exact ih j (by omega) h3
 |case2 i h1=>intro j h2 h3;omega
theorem O3 {s:ByteArray}{a:Nat}(h:a<s.size)(hb:bt s a=42/\bt s (a+1)=47):bR s a=(a,true):=by rw [bR,aj h,aj hb]
theorem V3 {s:ByteArray}{a:Nat}(h:a<s.size)(hb:¬(bt s a=42/\bt s (a+1)=47)):bR s a=bR s (a+1):=by rw [bR,aj h,ai hb]
theorem GW {s:ByteArray}{a:Nat}(h:¬a<s.size):bR s a=(a,false):=by rw [bR,ai h]
theorem FL {s:ByteArray}{a:Nat}(h:¬a<s.size):dD s a=[]:=by rw [dD,ai h]
theorem xS {p lo hi:Nat}(h:p<=hi):wi p lo hi=if p<lo then lo else p:=by unfold wi;split;rfl;rw [ai (by omega)]
theorem anQ {p lo hi:Nat}(h:lo<=hi)(h2:hi<=p):wi p lo hi=hi:=by unfold wi;split;omega;split<;>omega
theorem ae6(s:ByteArray)(c:Nat)(H:∀ln bg a',c<a'->a'<=s.size->bY s false ⟨ln,bg,a',a',a'⟩=fQ s (dD s a') ln bg):∀(d a ln bg fr bo B:Nat),s.size - a<=d->c<a->fr<=a->a<=s.size->B<=a->bo=(if B<fr then fr else B)->
  bY s true ⟨ln,bg,fr,bo,a⟩=lW s 2 ((bR s a).1+bT s a) B (bR s a).1 ln bg fr a++fQ s (dD s ((bR s a).1+bT s a)) (iR s ((bR s a).1+bT s a) ln bg a).1 (iR s ((bR s a).1+bT s a) ln bg a).2:=by
 intro d
 induction d with
 |zero=>
  intro a ln bg fr bo B hd hc hf ha hB rD;have hn:¬a<s.size:=by omega
  have hT:(bR s a).1+bT s a=a:=by unfold bT;rw [GW hn];simp
  have hE:(bR s a).1=a:=by rw [GW hn]
  rw [hT,hE,bY,ai hn,zk (by omega),FL hn,fQ,lu];exact Ad hf B a (fun _=>by show wi B fr (a+0)=bo;rw [xS (by omega),rD]) (fun _=>by show wi a fr (a+0)=a;rw [xS (by omega),ai (by omega)])
 |succ d ih=>
  intro a ln bg fr bo B hd hc hf ha hB rD;by_cases hlt:a<s.size
  .by_cases hh:bt s a=42/\bt s (a+1)=47
   .have hE:(bR s a).1=a:=by rw [O3 hlt hh]
    have hT:(bR s a).1+bT s a=a+2:=by unfold bT;rw [O3 hlt hh];simp
    have h2:=o9 (s:=s) (i:=a+1) (by rw [hh.2];decide);obtain⟨f1,f2⟩:=MU (s:=s) (k:=2) (T:=a+2) (B:=B) (E:=a) (ln:=ln) (bg:=bg) (fr:=fr) 2 a rfl (fun i h3 h4=>by
     by_cases h5:i=a
     .rw [h5,hh.1];decide
     .rw [show i=a+1 by omega,hh.2];decide)
    rw [hT,hE,f1,f2,bY,aj hlt,aj rfl,aj hh];have hcut:cz 2 ⟨ln,bg,fr,bo,a⟩=⟨ln,bg,a+2,a+2,a+2⟩:=by unfold cz;rw [ai (by simp only;omega)]
    rw [hcut,H ln bg (a+2) (by omega) (by omega)]
    congr 1
    exact Ad hf B a (fun _=>by show wi B fr (a+2)=bo;rw [xS (by omega),rD]) (fun _=>by show wi a fr (a+2)=a;rw [xS (by omega),ai (by omega)])
   .have hg:=V3 hlt hh;have hT:(bR s a).1+bT s a=(bR s (a+1)).1+bT s (a+1):=by unfold bT;rw [hg]
    have hl:=Mt s (a+1);rw [hT,hg,bY,aj hlt,aj rfl,ai hh];by_cases h10:bt s a=10
    .rw [aj h10,DR (by omega) h10,EL (by omega) h10,eV];have hcut:mY (cz 0 ⟨ln,bg,fr,bo,a⟩)=⟨ln+1,a+1,a+1,a+1,a+1⟩:=by
      have h1:=jg (t:=0) (p:=⟨ln,bg,fr,bo,a⟩);have h2:(cz 0 ⟨ln,bg,fr,bo,a⟩).line=ln:=by rw [<-yN,WW]
      unfold mY;rw [h1,h2]
     rw [hcut,ih (a+1) (ln+1) (a+1) (a+1) (a+1) B (by omega) (by omega) (by omega) (by omega) (by omega) (by rw [aj (by omega)])]
     congr 1
     exact Ad hf B _ (fun _=>by show wi B fr (a+0)=bo;rw [xS (by omega),rD]) (fun _=>by show wi _ fr (a+0)=a;rw [anQ (by omega) (by omega)];rfl)
    .rw [ai h10,zl (by omega) h10,Ag (by omega) h10];exact ih (a+1) ln bg fr bo B (by omega) (by omega) (by omega) (by omega) (by omega) rD
  .have hn:¬a<s.size:=hlt;have hT:(bR s a).1+bT s a=a:=by unfold bT;rw [GW hn];simp
   have hE:(bR s a).1=a:=by rw [GW hn]
   rw [hT,hE,bY,ai hn,zk (by omega),FL hn,fQ,lu];exact Ad hf B a (fun _=>by show wi B fr (a+0)=bo;rw [xS (by omega),rD]) (fun _=>by show wi a fr (a+0)=a;rw [xS (by omega),ai (by omega)])
theorem TD {s:ByteArray}{a:Nat}(h:a<s.size)(hk:(dc s a).k≠0):dD s a=dc s a::dD s (dc s a).T:=by
 rw [dD,aj h];unfold jR;exact ai hk
theorem Pr {hd:Nat}{ln bg fr bo a:Nat}:cO hd ⟨ln,bg,fr,bo,a⟩ false=⟨ln,bg,a,a+hd,a+hd⟩:=by
 unfold cO;rw [yN];unfold cz;split
 .rename_i h;simp only at h;simp only [qY]at h ⊢;rw [h]
 .simp only [qY]
theorem alr(s:ByteArray):∀(d ln bg fr bo a:Nat),s.size - a<=d->fr<=a->a<=s.size->bY s false ⟨ln,bg,fr,bo,a⟩=BB s ln bg fr a (dD s a):=by
 intro d
 induction d with
 |zero=>
  intro ln bg fr bo a hd hf ha;have hn:¬a<s.size:=by omega
  rw [FL hn,bY,ai hn];exact Ad hf 0 0 (fun h=>absurd rfl h) (fun h=>absurd rfl h)
 |succ d ih=>
  intro ln bg fr bo a hd hf ha;have H:∀ln bg a',a<a'->a'<=s.size->bY s false ⟨ln,bg,a',a',a'⟩=fQ s (dD s a') ln bg:=fun ln bg a' h1 h2=>by
   rw [ih ln bg a' a' a' (by omega) (ay _) h2,WZ]
  have hem:dA 0 0 ⟨ln,bg,fr,bo,a⟩=dY ln 0 bg fr a 0 0:=Ad hf 0 0 (fun h=>absurd rfl h) (fun h=>absurd rfl h);have Qx:∀(u:Tk) us,u.k≠0->BB s ln bg fr a (u::us)=dY ln 0 bg fr a 0 0++fQ s (u::us) ln bg:=fun u us hk=>ai hk
  by_cases hlt:a<s.size
  .by_cases jT:bt s a=34
   .have hw:dc s a=⟨1,a,(qR s (a+1)).1+qT s (a+1),a+1,(qR s (a+1)).1⟩:=by unfold dc;rw [aj jT]
    have hq:=Jm s (a+1);have ht:=MQ (s:=s) (i:=a+1) (by omega);rw [TD hlt (by rw [hw];exact GM _),Qx _ _ (by rw [hw];exact GM _),hw,fQ,bY,aj hlt,ai (by decide),aj jT,hem];obtain⟨f1,f2⟩:=MU (s:=s) (k:=1) (T:=(qR s (a+1)).1+qT s (a+1)) (B:=a+1) (E:=(qR s (a+1)).1) (ln:=ln) (bg:=bg) (fr:=a) ((qR s (a+1)).1+qT s (a+1) - a) a (by omega) (fun i h1 h2=>by
     by_cases h3:i=a
     .rw [h3,jT];decide
     .exact akS i (by omega) h2)
    simp only;rw [f1,f2,Pr];have hcut:cz (qT s (a+1)) (cI ⟨ln,bg,a,a+1,a+1⟩ (qR s (a+1)).1)=⟨ln,bg,(qR s (a+1)).1+qT s (a+1),(qR s (a+1)).1+qT s (a+1),(qR s (a+1)).1+qT s (a+1)⟩:=by
     unfold cz cI;rw [ai (by simp only;omega)]
    rw [hcut,H _ _ _ (by omega) ht]
    congr 2
    exact Ad (p:=cI ⟨ln,bg,a,a+1,a+1⟩ (qR s (a+1)).1) (by show a<=(qR s (a+1)).1;omega) (a+1) (qR s (a+1)).1 (fun _=>by show wi (a+1) a ((qR s (a+1)).1+_)=a+1;rw [xS (by omega),ai (by omega)]) (fun _=>by show wi (qR s (a+1)).1 a ((qR s (a+1)).1+_)=(qR s (a+1)).1;rw [xS (by omega),ai (by omega)])
   .by_cases hlc:bt s a=47/\bt s (a+1)=47
    .have hle:bQ s a=bQ s (a+2):=by rw [Jp (by rw [hlc.1];decide),Jp (by rw [hlc.2];decide)]
     have hw:dc s a=⟨2,a,bQ s (a+2),a+2,bQ s (a+2)⟩:=by unfold dc;rw [ai jT,aj hlc,hle]
     have h2:=o9 (s:=s) (i:=a+1) (by rw [hlc.2];decide);have hq:=Dz s (a+2);have ht:=Jo (s:=s) (i:=a+2) (by omega);rw [TD hlt (by rw [hw];exact GM _),Qx _ _ (by rw [hw];exact GM _),hw,fQ,bY,aj hlt,ai (by decide),ai jT,aj hlc,hem];obtain⟨f1,f2⟩:=MU (s:=s) (k:=2) (T:=bQ s (a+2)) (B:=a+2) (E:=bQ s (a+2)) (ln:=ln) (bg:=bg) (fr:=a) (bQ s (a+2) - a) a (by omega) (fun i h1 h2=>ai0 (i:=a) i h1 (by rw [hle];exact h2));simp only;rw [f1,f2,Pr];have hcut:cz 0 (cI ⟨ln,bg,a,a+2,a+2⟩ (bQ s (a+2)))=⟨ln,bg,bQ s (a+2),bQ s (a+2),bQ s (a+2)⟩:=by
      unfold cz cI;rw [ai (by simp only;omega)];rfl
     rw [hcut,H _ _ _ (by omega) ht]
     congr 2
     exact Ad (p:=cI ⟨ln,bg,a,a+2,a+2⟩ (bQ s (a+2))) (by show a<=bQ s (a+2);omega) (a+2) (bQ s (a+2)) (fun _=>by show wi (a+2) a (bQ s (a+2)+0)=a+2;rw [xS (by omega),ai (by omega)]) (fun _=>by show wi (bQ s (a+2)) a (bQ s (a+2)+0)=bQ s (a+2);rw [xS (by omega),ai (by omega)])
    .by_cases hbb:bt s a=47/\bt s (a+1)=42
     .have hw:dc s a=⟨2,a,(bR s (a+2)).1+bT s (a+2),a+2,(bR s (a+2)).1⟩:=by unfold dc;rw [ai jT,ai hlc,aj hbb]
      have h2:=o9 (s:=s) (i:=a+1) (by rw [hbb.2];decide);have hq:=Mt s (a+2);have k1:¬bt s a=10:=by rw [hbb.1];decide
      have k2:¬bt s (a+1)=10:=by rw [hbb.2];decide
      rw [TD hlt (by rw [hw];exact GM _),Qx _ _ (by rw [hw];exact GM _),hw,fQ,bY,aj hlt,ai (by decide),ai jT,ai hlc,aj hbb,hem,Pr];simp only;rw [ae6 s a H (s.size - (a+2)) (a+2) ln bg a (a+2) (a+2) (ay _) (by omega) (by omega) (by omega) (ay _) (by rw [ai (by omega)])];rw [zl (p:=a) (by omega) k1,zl (p:=a+1) (by omega) k2,Ag (p:=a) (by omega) k1,Ag (p:=a+1) (by omega) k2]
     .have hw:dc s a=⟨0,a,a+1,0,0⟩:=by unfold dc;rw [ai jT,ai hlc,ai hbb]
      have hts:dD s a=jR ⟨0,a,a+1,0,0⟩ (dD s (a+1)):=by rw [dD,aj hlt,hw]
      rw [hts,af7 s ln bg fr a (dD s (a+1)) (fun u us h=>by obtain⟨e1,e2,_⟩:=J6 s (a+1) u us h;exact⟨e2,e1⟩),bY,aj hlt,ai (by decide),ai jT,ai hlc,ai hbb];by_cases h10:bt s a=10
      .rw [aj h10,aj h10,hem];have hcut:mY (cz 0 ⟨ln,bg,fr,bo,a⟩)=⟨ln+1,a+1,a+1,a+1,a+1⟩:=by
        have h1:=jg (t:=0) (p:=⟨ln,bg,fr,bo,a⟩);have h2:(cz 0 ⟨ln,bg,fr,bo,a⟩).line=ln:=by rw [<-yN,WW]
        unfold mY;rw [h1,h2]
       rw [hcut,ih (ln+1) (a+1) (a+1) (a+1) (a+1) (by omega) (ay _) (by omega)]
      .rw [ai h10,ai h10];exact ih ln bg fr bo (a+1) (by omega) (by omega) (by omega)
  .have hn:¬a<s.size:=hlt;rw [FL hn,bY,ai hn];exact Ad hf 0 0 (fun h=>absurd rfl h) (fun h=>absurd rfl h)
theorem SJ(s:ByteArray):bY s false ⟨0,0,0,0,0⟩=fQ s (dD s 0) 0 0:=by
 rw [alr s s.size 0 0 0 0 0 (by omega) (ay _) (rY _),WZ]
theorem Nb(p lo hi:Nat)(w:World):Calls prog 76 #[.int .i64 p,.int .i64 lo,.int .i64 hi] w fun e w'=>e= .returned (.int .i64 (wi p lo hi:Nat))/\w'=w:=by
 unfold wi;by_cases h1:p<lo
 .have h1':(p:Int)<(lo:Int):=by omega
  rw [aj h1];clear h1;go_enter func76,ntmps76;go_wp2;go_ret;exact⟨rfl,rfl⟩
 .have h1':¬(p:Int)<(lo:Int):=by omega
  rw [ai h1];clear h1;by_cases h2:hi<p
  .have h2':(hi:Int)<(p:Int):=by omega
   rw [aj h2];clear h2;go_enter func76,ntmps76;go_wp2;go_ret;exact⟨rfl,rfl⟩
  .have h2':¬(hi:Int)<(p:Int):=by omega
   rw [ai h2];clear h2;go_enter func76,ntmps76;go_wp2;go_ret;exact⟨rfl,rfl⟩
theorem agG(s:ByteArray)(p:Nat)(h:p+2<=s.size):(s.extract p (p+2)).toList=[s[p]'(by omega),s[p+1]'(by omega)]:=by
 rw [ByteArray.toList_eq,ByteArray.data_extract,Array.toList_extract];have hs:s.data.toList.length=s.size:=Uh;have e:s.data.toList.drop p=s[p]'(by omega)::s[p+1]'(by omega)::s.data.toList.drop (p+2):=by
  rw [l9 (by omega),l9 (by omega)];rfl
 rw [List.extract_eq_take_drop];rw [e,show p+2 - p=2 by omega];rfl
theorem agH(s:ByteArray)(p:Nat)(x y:UInt8)(h:p+2<=s.size):((s.extract p (p+2)).toList==[x,y])=decide (bt s p=x.toNat/\bt s (p+1)=y.toNat):=by
 rw [agG s p h,nN (by omega),nN (by omega),Cw,yH,decide_eq_true_iff];simp only [List.cons.injEq,and_true,Int.natCast_inj,UInt8.toNat_inj]
theorem O5(s:ByteArray)(p:Nat)(x y:UInt8)(w:World)(hz:s.size<=1000)(hp:p<=s.size)(hy:y.toNat≠10):
  Calls prog 193 #[.string s,.int .i64 p,.string ⟨#[x,y]⟩] w fun e w'=>e= .returned (.bool (decide (bt s p=x.toNat/\bt s (p+1)=y.toNat)))/\w'=w:=by
 have hl:(⟨#[x,y]⟩:ByteArray).size=2:=rfl;by_cases h:p+2<=s.size
 .have h':(p:Int)+2<=(s.size:Int):=by omega
  go_enter func193,ntmps193;go_wp2;go_ret;exact⟨SX (agH s p x y h),rfl⟩
 .have h':¬(p:Int)+2<=(s.size:Int):=by omega
  have e1:decide (bt s p=x.toNat/\bt s (p+1)=y.toNat)=false:=by
   rw [BA];rintro⟨_,h2⟩;rw [yL (by omega)]at h2;omega
  rw [e1];clear e1;go_enter func193,ntmps193;go_wp2;go_ret;exact⟨rfl,rfl⟩
theorem KW(s:ByteArray)(p:Nat)(w:World)(hz:s.size<=1000)(hp:p<=s.size):Calls prog 193 #[.string s,.int .i64 p,.string ⟨#[47,47]⟩] w fun e w'=>e= .returned (.bool (decide (bt s p=47/\bt s (p+1)=47)))/\w'=w:=O5 s p 47 47 w hz hp (by decide)
theorem KV(s:ByteArray)(p:Nat)(w:World)(hz:s.size<=1000)(hp:p<=s.size):Calls prog 193 #[.string s,.int .i64 p,.string ⟨#[47,42]⟩] w fun e w'=>e= .returned (.bool (decide (bt s p=47/\bt s (p+1)=42)))/\w'=w:=O5 s p 47 42 w hz hp (by decide)
theorem aeZ(s:ByteArray)(p:Nat)(w:World)(hz:s.size<=1000)(hp:p<=s.size):Calls prog 193 #[.string s,.int .i64 p,.string ⟨#[42,47]⟩] w fun e w'=>e= .returned (.bool (decide (bt s p=42/\bt s (p+1)=47)))/\w'=w:=O5 s p 42 47 w hz hp (by decide)
def zq(t:Tk):Value:= .agg #[.int .i64 t.k,.int .i64 t.F,.int .i64 t.T,.int .i64 t.B,.int .i64 t.E]
theorem anY(s:ByteArray)(p:Nat)(w:World)(hz:s.size<=1000)(hp:p<s.size)(jT:¬bt s p=34)(hlc:¬(bt s p=47/\bt s (p+1)=47))(hbb:¬(bt s p=47/\bt s (p+1)=42)):
  Calls prog 130 #[.string s,.int .i64 p] w fun e w'=>e= .returned (zq ⟨0,p,p+1,0,0⟩)/\Below w.heap.size w w':=by
 have aG:=KW s p (w.alloc (.cells #[.int .i64 0,.int .i64 0,.int .i64 0,.int .i64 0,.int .i64 0] 125)) hz (by omega);have aJ:=KV s p (w.alloc (.cells #[.int .i64 0,.int .i64 0,.int .i64 0,.int .i64 0,.int .i64 0] 125)) hz (by omega);rw [rB hlc]at aG;rw [rB hbb]at aJ;obtain⟨c,hc⟩:∃c,s[p]'hp=c:=⟨_,rfl⟩
 have AQ:((c.toNat:Int)==34)=false:=by rw [nN hp,hc]at jT;simpa using jT
 have hp':(p:Int)<(s.size:Int):=by omega
 clear jT hlc hbb;unfold zq;go_enter func130,ntmps130;go_wp2_with fail;refine aG.mono ?_;rintro ev wx ⟨rfl,rfl⟩;clear aG;go_wp2_with fail;refine aJ.mono ?_;rintro ev wx ⟨rfl,rfl⟩;clear aJ;go_wp2;exact cG (v:= .agg #[.int .i64 0,.int .i64 p,.int .i64 ((p:Int)+1),.int .i64 0,.int .i64 0]) (by simp [results,results130,Tryz.isAgg125,Tryz.sizeOf125,go_sem]) rfl ⟨rfl,(aA _ _).alloc (ay _) _⟩
theorem anZ(s:ByteArray)(p:Nat)(w:World)(hz:s.size<=1000)(hp:p<s.size)(hlc:bt s p=47/\bt s (p+1)=47):
  Calls prog 130 #[.string s,.int .i64 p] w fun e w'=>e= .returned (zq ⟨2,p,bQ s p,p+2,bQ s p⟩)/\Below w.heap.size w w':=by
 have aG:=KW s p (w.alloc (.cells #[.int .i64 0,.int .i64 0,.int .i64 0,.int .i64 0,.int .i64 0] 125)) hz (by omega);have aJ:=KV s p (w.alloc (.cells #[.int .i64 0,.int .i64 0,.int .i64 0,.int .i64 0,.int .i64 0] 125)) hz (by omega);rw [mX hlc]at aG;obtain⟨c,hc⟩:∃c,s[p]'hp=c:=⟨_,rfl⟩
 have AQ:((c.toNat:Int)==34)=false:=by have:=hlc.1;rw [nN hp,hc]at this;rw [this];rfl
 have hp':(p:Int)<(s.size:Int):=by omega
 clear hlc;obtain⟨E,hE⟩:∃E,bQ s p=E:=⟨_,rfl⟩
 rw [hE];have HE:=ah hE;clear hE;unfold zq;go_enter func130,ntmps130;go_wp2_with fail;refine aG.mono ?_;rintro ev wx ⟨rfl,rfl⟩;clear aG;go_wp2_with fail;refine aJ.mono ?_;rintro ev wx ⟨rfl,rfl⟩;clear aJ;go_wp2;go_loopg [7] (s.size - p) (fun gh qv W=>∃q:Nat,qv= .int .i64 q/\gh=s.size - q/\p<=q/\q<=s.size/\bQ s q=E/\W=w.alloc (.cells #[.int .i64 0,.int .i64 0,.int .i64 0,.int .i64 0,.int .i64 0] 125));case atStart=>exact⟨p,rfl,rfl,ay _,by omega,HE.out,rfl⟩
 case round=>
  obtain⟨q,rfl,rfl,h1,h2,h3,rfl⟩:=hrel;have H3:Hid (bQ s q=E/\p<=q/\q<=s.size):=⟨h3,h1,h2⟩
  clear h1 h3;by_cases hq:q<s.size
  .have hq':(q:Int)<(s.size:Int):=by omega
   obtain⟨d,hd⟩:∃d,s[q]'hq=d:=⟨_,rfl⟩
   by_cases h10:(d.toNat:Int)=10
   .have HX:Hid (q=E):=by
     have:=H3.out.1;rw [bQ,ai (by rintro⟨_,h⟩;exact h (by rw [nN hq,hd];exact h10))]at this;exact this
    have Co:((d.toNat:Int)==10)=true:=by simpa using h10
    clear h10;go_wp2;exact cG (v:= .agg #[.int .i64 2,.int .i64 p,.int .i64 q,.int .i64 ((p:Int)+2),.int .i64 q]) (by simp [results,results130,Tryz.isAgg125,Tryz.sizeOf125,go_sem]) rfl ⟨by rw [<-HX.out]<;>rfl,(aA _ _).alloc (ay _) _⟩
   .have HX:Hid (bQ s (q+1)=E):=by
     have:=H3.out.1;rw [bQ,aj ⟨hq,by rw [nN hq,hd];exact h10⟩]at this;exact this
    have Co:((d.toNat:Int)==10)=false:=by simpa using h10
    clear h10;go_wp2;go_roundg (s.size - (q+1));case measure=>omega
    case rel=>exact⟨q+1,by go_num,rfl,by have:=H3.out.2.1;omega,by omega,HX.out,rfl⟩
  .have hq':¬(q:Int)<(s.size:Int):=by omega
   have HX:Hid (q=E):=by
    have:=H3.out.1;rw [bQ,ai (by rintro⟨h,_⟩;exact hq h)]at this;exact this
   clear hq;go_wp2;exact cG (v:= .agg #[.int .i64 2,.int .i64 p,.int .i64 q,.int .i64 ((p:Int)+2),.int .i64 q]) (by simp [results,results130,Tryz.isAgg125,Tryz.sizeOf125,go_sem]) rfl ⟨by rw [<-HX.out]<;>rfl,(aA _ _).alloc (ay _) _⟩
theorem anX(s:ByteArray)(p:Nat)(w:World)(hz:s.size<=1000)(hp:p<s.size)(hbb:bt s p=47/\bt s (p+1)=42):
  Calls prog 130 #[.string s,.int .i64 p] w fun e w'=>e= .returned (zq ⟨2,p,(bR s (p+2)).1+bT s (p+2),p+2,(bR s (p+2)).1⟩)/\Below w.heap.size w w':=by
 have aG:=KW s p (w.alloc (.cells #[.int .i64 0,.int .i64 0,.int .i64 0,.int .i64 0,.int .i64 0] 125)) hz (by omega);have aJ:=KV s p (w.alloc (.cells #[.int .i64 0,.int .i64 0,.int .i64 0,.int .i64 0,.int .i64 0] 125)) hz (by omega);rw [mX hbb]at aJ;rw [rB (by rw [hbb.2];rintro⟨_,h⟩;exact absurd h (by decide))]at aG;obtain⟨c,hc⟩:∃c,s[p]'hp=c:=⟨_,rfl⟩
 have AQ:((c.toNat:Int)==34)=false:=by have:=hbb.1;rw [nN hp,hc]at this;rw [this];rfl
 have hp':(p:Int)<(s.size:Int):=by omega
 have h2:=o9 (s:=s) (i:=p+1) (by rw [hbb.2];decide);clear hbb;obtain⟨E,hE⟩:∃E,bR s (p+2)=E:=⟨_,rfl⟩
 have hT:bT s (p+2)=if E.2 then 2 else 0:=by unfold bT;rw [hE]
 rw [hE,hT];obtain⟨Tt,Db⟩:∃Tt,E.1+(if E.2=true then 2 else 0)=Tt:=⟨_,rfl⟩
 obtain⟨Ee,C5⟩:∃Ee,E.1=Ee:=⟨_,rfl⟩
 rw [Db,C5];have HT:Hid (E.1+(if E.2=true then 2 else 0)=Tt/\E.1=Ee):=⟨Db,C5⟩
 have HE:=ah hE;clear hE hT Db C5;unfold zq;go_enter func130,ntmps130;go_wp2_with fail;refine aG.mono ?_;rintro ev wx ⟨rfl,rfl⟩;clear aG;go_wp2_with fail;refine aJ.mono ?_;rintro ev wx ⟨rfl,rfl⟩;clear aJ;go_wp2;go_loopg [7] (s.size - (p+2)) (fun gh qv W=>∃q:Nat,qv= .int .i64 q/\gh=s.size - q/\p<=q/\q<=s.size/\bR s q=E/\W=w.alloc (.cells #[.int .i64 0,.int .i64 0,.int .i64 0,.int .i64 0,.int .i64 0] 125));case atStart=>exact⟨p+2,by go_num,rfl,by omega,by omega,HE.out,rfl⟩
 case round=>
  obtain⟨q,rfl,rfl,h1,h2,h3,rfl⟩:=hrel;have H3:Hid (bR s q=E/\p<=q/\q<=s.size):=⟨h3,h1,h2⟩
  clear h1 h3;by_cases hq:q<s.size
  .have hq':(q:Int)<(s.size:Int):=by omega
   have HB:=aeZ s q (w.alloc (.cells #[.int .i64 0,.int .i64 0,.int .i64 0,.int .i64 0,.int .i64 0] 125)) hz (by omega);by_cases hh:bt s q=42/\bt s (q+1)=47
   .rw [mX hh]at HB;have HX:Hid (Tt=q+2/\Ee=q):=by
     have e:E=(q,true):=by rw [<-H3.out.1,O3 hq hh]
     have h:=HT.out;rw [e]at h;exact⟨h.1.symm,h.2.symm⟩
    clear hh;go_wp2_with fail;refine HB.mono ?_;rintro ev wx ⟨rfl,rfl⟩;clear HB;go_wp2;exact cG (v:= .agg #[.int .i64 2,.int .i64 p,.int .i64 ((q:Int)+2),.int .i64 ((p:Int)+2),.int .i64 q]) (by simp [results,results130,Tryz.isAgg125,Tryz.sizeOf125,go_sem]) rfl ⟨by rw [HX.out.1,HX.out.2]<;>rfl,(aA _ _).alloc (ay _) _⟩
   .rw [rB hh]at HB;have HX:Hid (bR s (q+1)=E):=by show _=_;rw [<-V3 hq hh];exact H3.out.1
    clear hh;go_wp2_with fail;refine HB.mono ?_;rintro ev wx ⟨rfl,rfl⟩;clear HB;go_wp2;go_roundg (s.size - (q+1));case measure=>omega
    case rel=>exact⟨q+1,by go_num,rfl,by have:=H3.out.2.1;omega,by omega,HX.out,rfl⟩
  .have hq':¬(q:Int)<(s.size:Int):=by omega
   have HX:Hid (Tt=q/\Ee=q):=by
    have e:E=(q,false):=by rw [<-H3.out.1,GW hq]
    have h:=HT.out;rw [e]at h;exact⟨h.1.symm,h.2.symm⟩
   clear hq;go_wp2;exact cG (v:= .agg #[.int .i64 2,.int .i64 p,.int .i64 q,.int .i64 ((p:Int)+2),.int .i64 q]) (by simp [results,results130,Tryz.isAgg125,Tryz.sizeOf125,go_sem]) rfl ⟨by rw [HX.out.1,HX.out.2]<;>rfl,(aA _ _).alloc (ay _) _⟩
