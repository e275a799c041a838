import Derived.Test.YtkbinfhclaafhaaGreatDoorZ25
import Derived.Test.YtkbinfhclaafhaaGreatDoorShelfQ
import Derived.Lib.CountLaws
import Derived.Test.YtkbinfhclaafhaaGreatDoorZ20
import Derived.Test.YtkbinfhclaafhaaGreatDoorZ06
import Derived.Test.YtkbinfhclaafhaaGreatDoorZ17
namespace Go.Proofs.YtkbinfhclaafhaaGreatDoor
open Go.RowKit
open Go.Proofs.Tryz
set_option maxRecDepth 100000
set_option maxHeartbeats 32000000
set_option linter.all false
theorem acJ(s:ByteArray)(p:Nat)(_h:p<s.size)(h0:bu s p≠0):wd (iL s p)=bu s p:=by
 unfold iL;rw [Lib.decode_at];unfold bu at h0 ⊢;have l0:=(s.get! p).toNat_lt;have l1:=(s.get! (p+1)).toNat_lt;have l2:=(s.get! (p+2)).toNat_lt;have l3:=(s.get! (p+3)).toNat_lt;generalize(s.get! p).toNat=b0 at*;generalize(s.get! (p+1)).toNat=b1 at*;generalize(s.get! (p+2)).toNat=b2 at*;generalize(s.get! (p+3)).toNat=b3 at*;obtain⟨n,hn⟩:∃n,n=s.size - p:=⟨_,rfl⟩
 rw [<-hn]at h0 ⊢;by_cases a:b0<128
 .rw [pM (C2 a) (by omega),C2 a];unfold wd;rw [aj (by simp only;omega)]
 by_cases b:b0<194
 .exact absurd (ez (Lh (by omega) b)) h0
 by_cases c:245<=b0
 .exact absurd (ez (Li c (by omega))) h0
 by_cases d:b0<224
 .by_cases e:n<2∨b1<128∨191<b1
  .exact absurd (ez (EI (by omega) d (by omega) e)) h0
  .have hd:=Hf (n:=n) (b0:=b0) (b1:=b1) (b2:=b2) (b3:=b3) (by omega) d (by omega) (by omega) (by omega);rw [pM hd (by omega),hd];unfold wd;rw [ai (by simp only;omega),aj (by simp only;omega)]
 by_cases f:b0<240
 .by_cases e:n<3∨b1<128∨191<b1∨b2<128∨191<b2
  .exact absurd (ez (Bz (by omega) f (by omega) (by omega) e)) h0
  .by_cases g:b0%16*4096+b1%64*64+b2%64<2048∨(55296<=b0%16*4096+b1%64*64+b2%64/\b0%16*4096+b1%64*64+b2%64<=57343)
   .exact absurd (ez (Hg (by omega) f g)) h0
   .have hd:=EJ (n:=n) (b0:=b0) (b1:=b1) (b2:=b2) (b3:=b3) (by omega) f (by omega) (by omega) (by omega) (by omega) (by omega) (by omega) (by omega);rw [pM hd (by omega),hd];unfold wd;rw [ai (by simp only;omega),ai (by simp only;omega),aj (by simp only;omega)]
 by_cases e:n<4∨b1<128∨191<b1∨b2<128∨191<b2∨b3<128∨191<b3
 .exact absurd (ez (yO (by omega) (by omega) (by omega) (by omega) (by omega) e)) h0
 .by_cases g:b0%8*262144+b1%64*4096+b2%64*64+b3%64<65536∨1114111<b0%8*262144+b1%64*4096+b2%64*64+b3%64
  .exact absurd (ez (Hh (by omega) (by omega) g)) h0
  .have hd:=Hj (n:=n) (b0:=b0) (b1:=b1) (b2:=b2) (b3:=b3) (by omega) (by omega) (by omega) (by omega) (by omega) (by omega) (by omega) (by omega) (by omega) (by omega) (by omega);rw [pM hd (by omega),hd];unfold wd;rw [ai (by simp only;omega),ai (by simp only;omega),ai (by simp only;omega)]
theorem J3(s:ByteArray)(p:Nat)(h:p<s.size)(h0:bu s p≠0):p+bu s p<=s.size:=by
 rcases FK s p h h0 with⟨e1,_⟩|⟨e1,hn,_⟩|⟨e1,hn,_⟩|⟨e1,hn,_⟩<;>omega
def RA(s:ByteArray):Nat->List Int->Prop
 |p,[]=>p=s.size
 |p,r::rs=>p<s.size/\bu s p≠0/\r=iL s p/\RA s (p+bu s p) rs
theorem abR(s:ByteArray):∀(f p:Nat)(rs:List Int),p<=s.size->runesFrom s f p=some rs->s.size<=p+f->RA s p rs
 |0,p,rs,hp,h,hf=>by
  have hn:¬p<s.size:=by omega
  rw [DN s 0 p hn]at h;cases h;show p=s.size;omega
 |f+1,p,rs,hp,h,hf=>by
  by_cases hlt:p<s.size
  .by_cases hz:bu s p=0
   .rw [S8 s (f+1) p hf hlt hz]at h;cases h
   .have he:runesFrom s (f+1) p=(runesFrom s f (p+bu s p)).map (iL s p::·):=by simp [runesFrom,hlt,hz]
    rw [he]at h;cases hr:runesFrom s f (p+bu s p)with
    |none=>rw [hr]at h;cases h
    |some l=>
     rw [hr]at h;simp only [GP,Bo]at h;subst h;exact⟨hlt,hz,rfl,abR s f _ l (J3 s p hlt hz) hr (by omega)⟩
  .rw [DN s (f+1) p hlt]at h;cases h;show p=s.size;omega
theorem Fy {s:ByteArray}{rs:List Int}(h:fH s=some rs):RA s 0 rs:=abR s s.size 0 rs (by omega) h (by omega)
theorem abT {s:ByteArray}:∀{rs:List Int}{p:Nat},RA s p rs->∀j,j<rs.length->(dZ p rs).getD j 0<s.size
 |[],_,_,j,hj=>by simp at hj
 |r::rs,p,h,0,_=>by simpa [dZ]using h.1
 |r::rs,p,h,j+1,hj=>by
  obtain⟨h1,h2,h3,h4⟩:=h;have:=abT h4 j (by simpa using hj);rw [<-acJ s p h1 h2,<-h3]at this;simpa [dZ]using this
def wY:Nat->Nat->List PR->Prop
 |a,b,[]=>a=b
 |a,b,x::xs=>x.from_=a/\a<x.dU/\wY x.dU b xs
theorem aaq {L:List Nat}:∀{l:List PR}{line p:Nat},jn L line p l->∀x∈l,line<=x.line
 |[],_,_,_,x,hx=>by cases hx
 |y::ys,line,p,h,x,hx=>by
  obtain⟨h1,h2,h3,h4,h5,h6,h7⟩:=h;rcases jF.1 hx with rfl|hx
  .exact h1
  .exact bU h1 (aaq h7 x hx)
theorem ajE {l:List PR}{ln:Nat}(h:∀x∈l,ln<x.line):gX l ln=[]:=by
 unfold gX;rw [ad6];intro x hx;have:=h x hx;simp;omega
theorem ajD(x:PR)(xs:List PR)(ln:Nat):gX (x::xs) ln=if x.line=ln then x::gX xs ln else gX xs ln:=by
 unfold gX;by_cases h:x.line=ln<;>simp [h]
theorem Rz {L:List Nat}:∀{l:List PR}{line p:Nat},jn L line p l->∀ln,line<=ln->ln<L.length->wY (if ln=line then p else 0) (L.getD ln 0) (gX l ln)
 |[],line,p,h,ln,h1,h2=>by
  obtain⟨j1,j2,j3⟩:=h;show(if ln=line then p else 0)=L.getD ln 0;by_cases he:ln=line
  .rw [aj he,he,j2]
  .rw [ai he,j3 ln (by omega) h2]
 |x::xs,line,p,h,ln,h1,h2=>by
  obtain⟨j1,j2,j3,j4,j5,j6,j7⟩:=h;rw [ajD];by_cases hm:x.line=ln
  .rw [aj hm];have ih:=Rz j7 ln (by omega) h2;rw [aj hm.symm]at ih;refine⟨?_,?_,ih⟩
   .rw [j4];by_cases he:ln=line
    .rw [aj he,ai (by omega)]
    .rw [ai he,aj (by omega)]
   .have:x.from_=(if ln=line then p else 0):=by
     rw [j4];by_cases he:ln=line
     .rw [aj he,ai (by omega)]
     .rw [ai he,aj (by omega)]
    omega
  .rw [ai hm];by_cases hlt:ln<x.line
   .obtain⟨k1,k2⟩:=j3 (by omega);rw [ajE (fun y hy=>by have:=aaq j7 y hy;omega)];show(if ln=line then p else 0)=L.getD ln 0;by_cases he:ln=line
    .rw [aj he,he,k1]
    .rw [ai he,k2 ln (by omega) hlt]
   .have ih:=Rz j7 ln (by omega) h2;rw [ai (fun e=>hm e.symm)]at ih;rw [ai (by omega)];exact ih
theorem Wu {q:Nat}:∀{l:List PR}{a b:Nat},wY a b l->a<=q->q<b->∃k x,(∀c:Nat,pI q l c=((c+k:Nat):Int))/\l[k]? =some x/\x.from_<=q/\q<x.dU
 |[],a,b,h,h1,h2=>by have:a=b:=h;omega
 |x::xs,a,b,h,h1,h2=>by
  obtain⟨j1,j2,j3⟩:=h;by_cases hq:q<x.dU
  .exact⟨0,x,fun c=>by rw [pI,aj ⟨by omega,hq⟩];rfl,rfl,by omega,hq⟩
  .obtain⟨k,y,h3,h4,h5,h6⟩:=Wu j3 (by omega) h2;exact⟨k+1,y,fun c=>by rw [pI,ai (fun h=>hq h.2),h3];congr 1;omega,by simpa using h4,h5,h6⟩
theorem aiT {s:ByteArray}{bg i:Nat}(h:i<=s.size)(hb:bg<=i):(bF s bg i).map (·.size)=kV s bg i:=by
 fun_induction bF s bg i with
 |case1 bg i h1 h2 ih=>rw [RM h1 h2,pX,ih (by omega) (by omega)];congr 1;simp;omega
 |case2 bg i h1 h2 ih=>rw [aaz h1 h2,ih (by omega) (by omega)]
 |case3 bg i h1=>rw [aay h1];simp;omega
def nE(s:ByteArray)(i:Nat):List PR:=gX (nT s) i
theorem abN(s:ByteArray)(hz:s.size<=600)(i:Nat)(hi:i<(bF s 0 0).length):wY 0 ((bF s 0 0).getD i ⟨#[]⟩).size (nE s i):=by
 have hj:jn (kV s 0 0) 0 0 (nT s):=by
  unfold nT;rw [aj hz];have:=aiB s;rw [<-SJ]at this;exact this
 have hm:(bF s 0 0).map (·.size)=kV s 0 0:=aiT (by omega) (by omega);have h:=Rz hj i (by omega) (by rw [<-hm];simpa using hi);have e:(kV s 0 0).getD i 0=((bF s 0 0).getD i ⟨#[]⟩).size:=by
  rw [<-hm,aO,jO,aO,aQ hi];rfl
 rw [e]at h;have h0:(if i=0 then 0 else 0)=0:=by split<;>rfl
 rw [h0]at h;exact h
def Asc(s:ByteArray)(q:Nat):Prop:=q=0∨bt s q<128∨(0<q/\bt s (q - 1)<128)
theorem akR(s:ByteArray)(i:Nat):(qR s i).2=false->bt s (qR s i).1=10:=by
 fun_induction qR s i with
 |case1 i h1 h2=>intro h;simp at h
 |case2 i h1 h2 h3 ih=>exact ih
 |case3 i h1 h2 h3 ih=>exact ih
 |case4 i h1=>
  intro _;by_cases hi:i<s.size
  .exact adA fun h=>h1 ⟨hi,h⟩
  .exact yL hi
theorem aiZ(s:ByteArray)(i:Nat):bt s (bQ s i)=10:=by
 fun_induction bQ s i with
 |case1 i h1 ih=>exact ih
 |case2 i h1=>
  by_cases hi:i<s.size
  .exact adA fun h=>h1 ⟨hi,h⟩
  .exact yL hi
theorem aeT(s:ByteArray)(i:Nat):((bR s i).2=true->bt s (bR s i).1=42/\bt s ((bR s i).1+1)=47)/\((bR s i).2=false->bt s (bR s i).1=10):=by
 fun_induction bR s i with
 |case1 i h1 h2=>exact⟨fun _=>h2,fun h=>by simp at h⟩
 |case2 i h1 h2 ih=>exact ih
 |case3 i h1=>exact⟨fun h=>by simp at h,fun _=>yL h1⟩
structure WF(s:ByteArray)(t:Tk):Prop where
 aF:Asc s t.F
 aT:Asc s t.T
 aB:Asc s t.B
 aE:Asc s t.E
 fb:t.F<=t.B
 be:t.B<=t.E
 et:t.E<=t.T
 lb:∀q,t.F<=q->q<t.B->bt s q<128
 le:∀q,t.E<=q->q<t.T->bt s q<128
theorem an1(s:ByteArray)(p:Nat)(hk:(dc s p).k≠0):WF s (dc s p):=by
 unfold dc at hk ⊢;by_cases h1:bt s p=34
 .rw [aj h1];have hl:=Jm s (p+1);have hpb:bt s (p+1 - 1)<128:=by rw [kr,h1];decide
  have aE:Asc s (qR s (p+1)).1:=by
   cases hq:(qR s (p+1)).2 with
   |true=>right;left;rw [(MR hq).2];decide
   |false=>right;left;rw [akR s _ hq];decide
  refine⟨.inr (.inl (by simp only;rw [h1];decide)),?_,.inr (.inr ⟨by simp only;omega,hpb⟩),aE,by simp only;omega,by simp only;omega,by simp only;omega,fun q h2 h3=> ?_,fun q h2 h3=> ?_⟩
  .unfold qT;cases hq:(qR s (p+1)).2 with
   |true=>
    right;right;refine⟨by simp only [y8];omega,?_⟩;show bt s ((qR s (p+1)).1+1 - 1)<128;rw [kr,(MR hq).2];decide
   |false=>simpa using aE
  .simp only at h2 h3;obtain rfl:q=p:=by omega
   rw [h1];decide
  .simp only at h2 h3;unfold qT at h3;cases hq:(qR s (p+1)).2 with
   |true=>
    rw [hq]at h3;simp only [y8]at h3;obtain rfl:q=(qR s (p+1)).1:=by omega
    rw [(MR hq).2];decide
   |false=>rw [hq]at h3;simp at h3;omega
 .rw [ai h1]at hk ⊢;by_cases h2:bt s p=47/\bt s (p+1)=47
  .rw [aj h2];have h3:bQ s p=bQ s (p+1):=Jp (by rw [h2.1];decide);have h4:bQ s (p+1)=bQ s (p+2):=Jp (by rw [h2.2];decide);have h5:=Dz s (p+2);have aE:Asc s (bQ s p):= .inr (.inl (by rw [aiZ];decide));refine⟨.inr (.inl (by simp only;rw [h2.1];decide)),aE,.inr (.inr ⟨by simp only;omega,?_⟩),aE,by simp only;omega,by simp only;omega,by simp only;omega,fun q h6 h7=> ?_,fun q h6 h7=>by simp only at h6 h7;omega⟩
   .show bt s (p+1)<128;rw [h2.2];decide
   .simp only at h6 h7;by_cases hq:q=p
    .rw [hq,h2.1];decide
    .rw [show q=p+1 by omega,h2.2];decide
  .rw [ai h2]at hk ⊢;by_cases h3:bt s p=47/\bt s (p+1)=42
   .rw [aj h3];have hl:=Mt s (p+2);obtain⟨b1,b2⟩:=aeT s (p+2);have aE:Asc s (bR s (p+2)).1:=by
     cases hq:(bR s (p+2)).2 with
     |true=>right;left;rw [(b1 hq).1];decide
     |false=>right;left;rw [b2 hq];decide
    refine⟨.inr (.inl (by simp only;rw [h3.1];decide)),?_,.inr (.inr ⟨by simp only;omega,?_⟩),aE,by simp only;omega,by simp only;omega,by simp only;omega,fun q h6 h7=> ?_,fun q h6 h7=> ?_⟩
    .unfold bT;cases hq:(bR s (p+2)).2 with
     |true=>
      right;right;refine⟨by simp only [y8];omega,?_⟩;show bt s ((bR s (p+2)).1+1)<128;rw [(b1 hq).2];decide
     |false=>simpa using aE
    .show bt s (p+1)<128;rw [h3.2];decide
    .simp only at h6 h7;by_cases hq:q=p
     .rw [hq,h3.1];decide
     .rw [show q=p+1 by omega,h3.2];decide
    .simp only at h6 h7;unfold bT at h7;cases hq:(bR s (p+2)).2 with
     |true=>
      rw [hq]at h7;simp only [y8]at h7;by_cases he:q=(bR s (p+2)).1
      .rw [he,(b1 hq).1];decide
      .rw [show q=(bR s (p+2)).1+1 by omega,(b1 hq).2];decide
     |false=>rw [hq]at h7;simp at h7;omega
   .rw [ai h3]at hk;exact absurd rfl hk
def TW(s:ByteArray):Bool->List Tk->Prop
 |_,[]=>True
 |a,t::ts=>(t.k=0->(a=true->Asc s t.F)/\Asc s t.T)/\(t.k≠0->WF s t)/\TW s true ts
theorem TW.up {s:ByteArray}{ts:List Tk}(h:TW s false ts)(ha:∀u us,ts=u::us->u.k=0->Asc s u.F):TW s true ts:=by
 cases ts with
 |nil=>trivial
 |cons u us=>exact⟨fun hk=>⟨fun _=>ha u us rfl hk,(h.1 hk).2⟩,h.2.1,h.2.2⟩
theorem ac0(s:ByteArray)(p:Nat)(_hp:p<=s.size):TW s false (dD s p):=by
 by_cases hlt:p<s.size
 .have hw:=zw s p;have I8:=T7 hlt;have ih:=ac0 s (dc s p).T I8;have hh:=fun u us e=>J6 s (dc s p).T u us e
  rw [dD,aj hlt];by_cases hk:(dc s p).k=0
  .have hc:=T6 s p hk;rw [hc]at ih hh ⊢;simp only at ih hh ⊢;unfold jR;rw [aj rfl];cases hts:dD s (p+1)with
   |nil=>
    have hsz:¬p+1<s.size:=by
     intro h;have h2:dD s (p+1)=jR (dc s (p+1)) (dD s (dc s (p+1)).T):=by rw [dD,aj h]
     rw [hts]at h2;unfold jR at h2;split at h2
     .split at h2
      .split at h2<;>cases h2
      .cases h2
     .cases h2
    exact⟨fun _=>⟨(fun h=>by cases h),.inr (.inl (by simp only;rw [yL hsz];decide))⟩,fun h=>absurd rfl h,trivial⟩
   |cons u us=>
    rw [hts]at ih;simp only;by_cases hu:u.k=0
    .rw [aj hu];exact⟨fun _=>⟨(fun h=>by cases h),(ih.1 hu).2⟩,fun h=>absurd rfl h,ih.2.2⟩
    .rw [ai hu];have hF:=(hh u us hts).1;refine⟨fun _=>⟨(fun h=>by cases h),?_⟩,fun h=>absurd rfl h,fun h=>absurd h hu,ih.2.1,ih.2.2⟩;have:=(ih.2.1 hu).aF;rw [hF]at this;exact this
  .unfold jR;rw [ai hk];have hwf:=an1 s p hk;refine⟨fun h=>absurd h hk,fun _=>hwf,ih.up fun u us e hu=> ?_⟩;rw [(hh u us e).1];exact hwf.aT
 .rw [FL hlt];trivial
termination_by s.size - p
decreasing_by have:=zw s p;omega
theorem anA(s:ByteArray):TW s true (dD s 0):=(ac0 s 0 (by omega)).up fun u us e _=> .inl (J6 s 0 u us e).1
structure PX(x:ByteArray)(y:PR):Prop where
 ft:y.from_<y.dU
 tl:y.dU<=x.size
 aF:Asc x y.from_
 aT:Asc x y.dU
 bd:y.kind≠0->y.from_<=y.body/\y.body<=y.end_/\y.end_<=y.dU/\Asc x y.body/\Asc x y.end_/\(∀q,y.from_<=q->q<y.body->bt x q<128)/\(∀q,y.end_<=q->q<y.dU->bt x q<128)
theorem Lv {s:ByteArray}{bg e q:Nat}(hb:bg<=e)(he:e<=s.size)(h10:bt s e=10)(hq:q<=e - bg):bt (s.extract bg e) q=bt s (bg+q):=by
 have hsz:(s.extract bg e).size=e - bg:=by simp;omega
 by_cases h:q<e - bg
 .have h1:q<(s.extract bg e).size:=by omega
  have h2:bg+q<s.size:=by omega
  rw [nN h1,nN h2,Uk]
 .rw [yL (by omega),show bg+q=e by omega,h10]
theorem aeI {s:ByteArray}{bg e q:Nat}(hb:bg<=e)(he:e<=s.size)(h10:bt s e=10)(hq:q<=e - bg)(h:Asc s (bg+q)):Asc (s.extract bg e) q:=by
 rcases h with h|h|⟨h0,h⟩
 .exact .inl (by omega)
 .exact .inr (.inl (by rw [Lv hb he h10 hq];exact h))
 .by_cases hq0:q=0
  .exact .inl hq0
  .refine .inr (.inr ⟨by omega,?_⟩);rw [Lv hb he h10 (by omega),show bg+(q - 1)=bg+q - 1 by omega];exact h
theorem ai3(s:ByteArray)(bg p:Nat)(hp:p<=s.size):∃e tl,bF s bg p=s.extract bg e::tl/\p<=e/\e<=s.size/\bt s e=10:=by
 fun_induction bF s bg p with
 |case1 bg i h1 h2 ih=>exact⟨i,_,rfl,ay _,hp,h2⟩
 |case2 bg i h1 h2 ih=>
  obtain⟨e,tl,h3,h4,h5,h6⟩:=ih (by omega);exact⟨e,tl,h3,by omega,h5,h6⟩
 |case3 bg i h1=>exact⟨i,_,rfl,ay _,hp,yL h1⟩
def PG(LS:List ByteArray)(y:PR):Prop:=∃x,LS[y.line]? =some x/\PX x y
structure SF(s:ByteArray)(k F T B E:Nat):Prop where
 aT:Asc s T
 wf:k≠0->Asc s B/\Asc s E/\F<=B/\B<=E/\E<=T/\(∀q,F<=q->q<B->bt s q<128)/\(∀q,E<=q->q<T->bt s q<128)
theorem Xc {α:Type}{L:List α}{n:Nat}{x:α}{xs:List α}(h:L.drop n=x::xs):L[n]? =some x/\L.drop (n+1)=xs:=by
 have hl:n<L.length:=by
  rcases cK n L.length with h1|h1
  .exact h1
  .rw [uU h1]at h;cases h
 rw [l9 hl]at h;injection h with h1 h2
 exact⟨by rw [aQ hl,h1],h2⟩
theorem ac8 {s:ByteArray}{B fr p:Nat}(h1:Asc s fr)(h2:Asc s p)(h3:Asc s B):Asc s (wi B fr p):=by
 unfold wi;split
 .exact h1
 .split
  .exact h2
  .exact h3
theorem Xk {s:ByteArray}{LS:List ByteArray}{k F T B E ln bg fr p:Nat}(hS:SF s k F T B E)(hL:LS.drop ln=bF s bg p)(hp:p<=s.size)(ET:bg<=fr)(hF:F<=fr)(pH:fr<=p)(hpT:p<=T)(aF:Asc s fr)(aP:Asc s p):∀y∈dY ln k bg fr p B E,PG LS y:=by
 intro y hy;unfold dY at hy;split at hy
 .rename_i hlt;simp only [pY]at hy;subst hy;obtain⟨e,tl,h3,h4,h5,h6⟩:=ai3 s bg p hp;obtain⟨h7,_⟩:=Xc (hL.trans h3);refine⟨s.extract bg e,h7,?_⟩;have hsz:(s.extract bg e).size=e - bg:=by simp;omega
  have tr:∀q,bg<=q->q<=p->Asc s q->Asc (s.extract bg e) (q - bg):=fun q a b c=>aeI (by omega) h5 h6 (by omega) (by rw [show bg+(q - bg)=q by omega];exact c)
  refine⟨by simp only;omega,by simp only;omega,tr fr ET pH aF,tr p (by omega) (ay _) aP,fun hk=> ?_⟩;simp only at hk;obtain⟨aB,aE,fb,be,et,lb,le⟩:=hS.wf hk;simp only [ai hk];have hB:fr<=wi B fr p/\wi B fr p<=p:=by unfold wi;split;omega;split<;>omega
  have hE:fr<=wi E fr p/\wi E fr p<=p:=by unfold wi;split;omega;split<;>omega
  have vp:wi B fr p<=wi E fr p:=by
   unfold wi;split
   .split;omega;split<;>omega
   .split
    .split;omega;split<;>omega
    .split;omega;split<;>omega
  refine⟨by omega,by omega,by omega,tr _ (by omega) (by omega) (ac8 aF aP aB),tr _ (by omega) (by omega) (ac8 aF aP aE),fun q q1 q2=> ?_,fun q q1 q2=> ?_⟩
  .rw [Lv (by omega) h5 h6 (by omega)];refine lb (bg+q) (by omega) ?_;have:bg+q<wi B fr p:=by omega
   unfold wi at this;split at this
   .omega
   .split at this<;>omega
  .rw [Lv (by omega) h5 h6 (by omega)];refine le (bg+q) ?_ (by omega);have:wi E fr p<=bg+q:=by omega
   unfold wi at this;split at this
   .omega
   .split at this<;>omega
 .cases hy
theorem Tg {s:ByteArray}{LS:List ByteArray}{k F T B E ln bg fr p:Nat}(hS:SF s k F T B E)(hT:T<=s.size)(hL:LS.drop ln=bF s bg p)(ET:bg<=fr)(hF:F<=fr)(pH:fr<=p)(hpT:p<=T)(aF:Asc s fr):
  (∀y∈lW s k T B E ln bg fr p,PG LS y)/\LS.drop (iR s T ln bg p).1=bF s (iR s T ln bg p).2 T/\(iR s T ln bg p).2<=T:=by
 by_cases hlt:p<T
 .by_cases hb:bt s p=10
  .have hp1:Asc s p:= .inr (.inl (by rw [hb];decide));have hp2:Asc s (p+1):= .inr (.inr ⟨by omega,by rw [kr,hb];decide⟩);have hL2:=hL;rw [RR (by omega) hb]at hL2;have ih:=Tg (ln:=ln+1) (bg:=p+1) (fr:=p+1) (p:=p+1) hS hT (Xc hL2).2 (ay _) (by omega) (ay _) hlt hp2;rw [DR hlt hb,EL hlt hb];refine⟨fun y hy=> ?_,ih.2⟩;rcases kK.1 hy with hy|hy
   .exact Xk hS hL (by omega) ET hF pH (by omega) aF hp1 y hy
   .exact ih.1 y hy
  .rw [zl hlt hb,Ag hlt hb];rw [RQ (by omega) hb]at hL;exact Tg hS hT hL ET hF (by omega) hlt aF
 .obtain rfl:p=T:=by omega
  rw [zk hlt,EK hlt];exact⟨Xk hS hL (by omega) ET hF pH (ay _) aF hS.aT,hL,by simp only;omega⟩
termination_by T - p
theorem Xb {s:ByteArray}{LS:List ByteArray}:∀(ts:List Tk)(p ln bg:Nat),CC s p ts->TW s true ts->LS.drop ln=bF s bg p->bg<=p->∀y∈fQ s ts ln bg,PG LS y
 |[],_,_,_,_,_,_,_,y,hy=>by cases hy
 |t::ts,p,ln,bg,hc,ht,hL,hb,y,hy=>by
  obtain⟨c1,c2,c3,c4⟩:=hc;subst c1;have hS:SF s t.k t.F t.T t.B t.E:=by
   by_cases hk:t.k=0
   .exact⟨(ht.1 hk).2,fun h=>absurd hk h⟩
   .have w:=ht.2.1 hk;exact⟨w.aT,fun _=>⟨w.aB,w.aE,w.fb,w.be,w.et,w.lb,w.le⟩⟩
  have aF:Asc s t.F:=by
   by_cases hk:t.k=0
   .exact(ht.1 hk).1 rfl
   .exact(ht.2.1 hk).aF
  obtain⟨h1,h2,h3⟩:=Tg hS c3 hL hb (ay _) (ay _) (fW c2) aF;rw [fQ]at hy;rcases kK.1 hy with hy|hy
  .exact h1 y hy
  .exact Xb ts t.T _ _ c4 ht.2.2 h2 h3 y hy
theorem abr(s:ByteArray):∀y∈fQ s (dD s 0) 0 0,PG (bF s 0 0) y:=
 Xb _ 0 0 0 (Nj s 0 (by omega)) (anA s) rfl (ay _)
theorem Rl(c:UInt8):∀l:List UInt8,(Lib.indexByte l c= -1/\∀m:Nat,l[m]? ≠some c)∨∃j:Nat,Lib.indexByte l c=(j:Int)/\l[j]? =some c/\∀m:Nat,m<j->l[m]? ≠some c
 |[]=> .inl ⟨rfl,fun m=>by simp⟩
 |b::l=>by
  unfold Lib.indexByte;by_cases hb:b=c
  .right;refine⟨0,?_,by simp [hb],fun m hm=>by omega⟩;simp [hb]
  .rcases Rl c l with⟨h1,h2⟩|⟨j,h1,h2,h3⟩
   .left;refine⟨by simp [hb,h1],fun m=> ?_⟩;cases m with
    |zero=>simpa using hb
    |succ m=>simpa using h2 m
   .right;refine⟨j+1,?_,by simpa using h2,fun m hm=> ?_⟩
    .have hj:¬((j:Int)= -1):=by omega
     simp [hb,h1]
    .cases m with
     |zero=>simpa using hb
     |succ m=>simpa using h3 m (by omega)
theorem RS {s:ByteArray}{bg:Nat}:∀(d i:Nat),i+d<=s.size->(∀m,i<=m->m<i+d->bt s m≠10)->bF s bg i=bF s bg (i+d)
 |0,i,_,_=>rfl
 |d+1,i,h,hb=>by
  rw [RQ (by omega) (hb i (ay _) (by omega)),RS d (i+1) (by omega) (fun m h1 h2=>hb m (by omega) (by omega))]
  congr 1
  omega
theorem PA {s:ByteArray}{bg m:Nat}(h:bg+m<s.size):(s.extract bg s.size).data.toList[m]? =some (s[bg+m]'h):=by
 rw [Lib.extract_to_end,yu,Lib.data_getElem? _ _ h]
theorem agD {s:ByteArray}{bg m:Nat}{c:UInt8}(h:(s.extract bg s.size).data.toList[m]? =some c):∃h:bg+m<s.size,s[bg+m]'h=c:=by
 by_cases hlt:bg+m<s.size
 .rw [PA hlt]at h;exact⟨hlt,aK h⟩
 .rw [Lib.extract_to_end,yu,List.getElem?_eq_none_iff.2 (by rw [<-Lib.size_eq];omega)]at h;cases h
theorem O9 {s:ByteArray}{i:Nat}(h:i<s.size):bt s i=10↔s[i]'h=10:=by
 rw [nN h];constructor
 .intro e;apply UInt8.toNat_inj.1;have:(s[i]'h).toNat=10:=by omega
  rw [this];rfl
 .intro e;rw [e];rfl
theorem Mq(s:ByteArray):Lib.indexB s ⟨#[10]⟩=Lib.indexByte s.data.toList 10:=Lib.one s ⟨#[10]⟩ rfl
theorem amT(s:ByteArray):∀(k bg:Nat),bg<=s.size->Lib.countB (s.extract bg s.size) ⟨#[10]⟩=k->Lib.splitB ⟨#[10]⟩ 0 k (s.extract bg s.size)=bF s bg bg:=by
 intro k
 induction k with
 |zero=>
  intro bg hbg hk;rcases Rl 10 (s.extract bg s.size).data.toList with⟨h1,h2⟩|⟨j,h1,h2,h3⟩
  .rw [RS (s.size - bg) bg (by omega) (fun m h3 h4=> ?_),aaD (by omega),Lib.splitB_zero,show bg+(s.size - bg)=s.size by omega];intro h10;have hm:m<s.size:=by omega
   rw [O9 hm]at h10;refine h2 (m - bg) ?_;rw [PA (by omega)];simp only [show bg+(m - bg)=m by omega,h10]
  .rw [Lib.countB_hit _ ⟨#[10]⟩ j (by decide) (by rw [Mq];exact h1)]at hk;omega
 |succ k ih=>
  intro bg hbg hk;rcases Rl 10 (s.extract bg s.size).data.toList with⟨h1,h2⟩|⟨j,h1,h2,h3⟩
  .rw [Lib.countB_miss _ ⟨#[10]⟩ (by rw [Mq];exact h1)]at hk;omega
  .obtain⟨hj,ahr⟩:=agD h2;rw [Lib.countB_hit _ ⟨#[10]⟩ j (by decide) (by rw [Mq];exact h1)]at hk;rw [Lib.splitB_hit _ 0 k _ j (by rw [Mq];exact h1)];rw [RS j bg (by omega) (fun m h4 h5=> ?_),RR hj ((O9 hj).2 ahr)]
   .have e1:(s.extract bg s.size).extract 0 (j+0)=s.extract bg (bg+j):=by
     rw [ady];congr 1<;>omega
    have e2:(s.extract bg s.size).extract (j+(⟨#[10]⟩:ByteArray).size) (s.extract bg s.size).size=s.extract (bg+j+1) s.size:=by
     rw [ady];have hsz:(s.extract bg s.size).size=s.size - bg:=by simp
     have h1':(⟨#[10]⟩:ByteArray).size=1:=rfl;rw [hsz,h1']
     congr 1<;>omega
    rw [e2]at hk ⊢;rw [e1,ih (bg+j+1) (by omega) (by omega)]
   .intro h10;have hm:m<s.size:=by omega
    rw [O9 hm]at h10;refine h3 (m - bg) (by omega) ?_;rw [PA (by omega)];simp only [show bg+(m - bg)=m by omega,h10]
theorem amU(s:ByteArray):Lib.splitB ⟨#[10]⟩ 0 (Lib.countB s ⟨#[10]⟩) s=bF s 0 0:=by
 have h:=amT s (Lib.countB s ⟨#[10]⟩) 0 (by omega) (by rw [show s.extract 0 s.size=s by simp]);rw [show s.extract 0 s.size=s by simp]at h;exact h
theorem ahq:(prog.info? 9).map (fun i=>(i.zero,i.size,i.bytes))=some (some (.string ByteArray.empty),1,16):=by kernel_rfl
theorem acD(s:ByteArray)(m:Int)(w:World)(hs:s.size<4294967281)(hm:w.cell? ⟨10,0,none⟩=some (.int .i64 m)):
  Calls prog 62 #[.string s,.string ⟨#[10]⟩] w fun e w'=>e= .returned (.slice (some ⟨w.heap.size,0,none⟩) (bF s 0 0).length (bF s 0 0).length)/\w'=w.alloc (.cells (ny (bF s 0 0)).toArray 9):=by
 have h:=Any.strings_Split Tryz.lays146 ahq s ⟨#[10]⟩ m w hs hm (by decide);have hl:=Lib.splitB_all ⟨#[10]⟩ (by decide) 0 _ s rfl;rw [amU]at h hl;rw [<-hl]at h;exact h
theorem Ty(s:ByteArray)(p:Nat):bu s p=if(Utf8.decode s p).1=65533/\(Utf8.decode s p).2=1 then 0 else(Utf8.decode s p).2:=by
 unfold bu mO;rw [<-Lib.decode_at]
theorem afZ(n b0 b1 b2 b3 c1 c2 c3:Nat)(h1:1<n->b1=c1)(h2:2<n->b2=c2)(h3:3<n->b3=c3):Lib.decodeN n b0 b1 b2 b3=Lib.decodeN n b0 c1 c2 c3:=by
 by_cases a3:3<n
 .rw [h1 (by omega),h2 (by omega),h3 a3]
 .by_cases a2:2<n
  .rw [h1 (by omega),h2 a2];unfold Lib.decodeN;simp [a3]
  .by_cases a1:1<n
   .rw [h1 a1];unfold Lib.decodeN;simp [a3,a2]
   .unfold Lib.decodeN;simp [a3,a2,a1]
theorem af3(s:ByteArray)(p:Nat)(h:p<s.size):Lib.decodeGo (s.extract p s.size)=Utf8.decode s p:=by
 have hsz:=Tw s p;unfold Lib.decodeGo;rw [ai (by omega),Lib.decode_at,Lib.decode_at,hsz];have e0:=BC s p 0 (by omega);rw [e0];exact afZ _ _ _ _ _ _ _ _ (fun h1=>by rw [BC s p 1 (by omega)]) (fun h1=>by rw [BC s p 2 (by omega)]) (fun h1=>by rw [BC s p 3 (by omega)])
theorem af4(s:ByteArray)(p:Nat)(w:World)(h:p<s.size)(hT:Lib.Utf8Tabs (Tryz.lays197_ren.g 3) (Tryz.lays197_ren.g 4) w):
  Calls prog 174 #[.string (s.extract p s.size)] w fun e w'=>e= .returned (.tuple #[.int .i32 (Utf8.decode s p).1,.int .i64 (Utf8.decode s p).2])/\Below w.heap.size w w':=by
 have:=Any.utf8_DecodeRuneInString Tryz.lays197 (s.extract p s.size) w hT;rw [af3 s p h]at this;exact this
theorem af1(s:ByteArray)(p:Nat):(Utf8.decode s p).1<2000000/\(Utf8.decode s p).2<=4:=by
 rw [Lib.decode_at];have l0:=(s.get! p).toNat_lt;unfold Lib.decodeN
 repeat' split
 all_goals simp only
 all_goals omega
theorem Tz(s:ByteArray)(p:Nat)(h:p<s.size)(h0:bu s p≠0):p+bu s p<=s.size:=by
 rcases FK s p h h0 with⟨e1,_⟩|⟨e1,hn,_⟩|⟨e1,hn,_⟩|⟨e1,hn,_⟩<;>omega
theorem alA(s:ByteArray)(w:World)(hs:s.size<=1000)(hT:∀W,Below w.heap.size w W->Lib.Utf8Tabs (Tryz.lays197_ren.g 3) (Tryz.lays197_ren.g 4) W):
  Calls prog 104 #[.string s] w fun e w'=>e= .returned (.int .i64 (jS s 0:Nat))/\Below w.heap.size w w':=by
 have HT:=ah hT;obtain⟨R,hR⟩:∃R,R=jS s 0:=⟨_,rfl⟩
 rw [<-hR];have HR:=ah hR.symm;clear hT hR;go_enter func104,ntmps104;go_wp2;go_loopg [3,4,5] s.size (fun gk pv _ _ W=>∃(p:Nat),p<=s.size/\gk=s.size - p/\pv= .int .i64 p/\jS s p=R/\Below w.heap.size w W);case atStart=>exact⟨0,by omega,rfl,rfl,HR.out,aA _ _⟩
 case round=>
  obtain⟨p,hp,rfl,rfl,he,hb⟩:=hrel;have HB:=ah hb;have hbz:=hb.size;by_cases hlt:p<s.size
  .have hlt':(p:Int)<(s.size:Int):=by omega
   have HD:=ah (af4 s p wr hlt (HT.out wr hb));have hsz:=Ty s p;obtain⟨hd1,hd2⟩:=af1 s p;have UF:Hid (1<=(Utf8.decode s p).2):=by show _<=_;rw [Lib.decode_at];exact Lib.decodeN_ge1 _ _ _ _ _
   generalize(Utf8.decode s p).1=r at*;generalize(Utf8.decode s p).2=k at*;clear hb;by_cases hr:r=65533
   .by_cases hk:k=1
    .rw [aj ⟨hr,hk⟩]at hsz;have heq:p=R:=by rw [<-he,Lr hlt hsz]
     have HE:=ah heq;subst hr;subst hk;clear he heq hsz;go_wp2_with fail;refine HD.out.mono ?_;rintro ev w2 ⟨rfl,hb2⟩;have aJ:=ah (HB.out.trans (hb2.mono hbz));clear hb2;go_wp2;go_ret;exact⟨by rw [HE.out];rfl,aJ.out⟩
    .rw [ai (fun h=>hk h.2)]at hsz;have hk':((k:Int)==1)=false:=by simp;omega
     subst hr;have bX:bu s p≠0:=by have h2:=UF.out;omega
     have hle:p+k<=s.size:=by have:=Tz s p hlt bX;omega
     have HJ:Hid (jS s (p+k)=R):=by show _=_;rw [<-hsz,<-Ls hlt bX];exact he
     have hkp:0<k:=by omega
     clear he bX hsz;go_wp2_with fail;refine HD.out.mono ?_;rintro ev w2 ⟨rfl,hb2⟩;have aJ:=ah (HB.out.trans (hb2.mono hbz));clear hb2;go_wp2;go_roundg (s.size - (p+k));case measure=>omega
     case rel=>exact⟨p+k,hle,rfl,by go_num,HJ.out,aJ.out⟩
   .rw [ai (fun h=>hr h.1)]at hsz;have hr':((r:Int)==65533)=false:=by simp;omega
    have bX:bu s p≠0:=by have h2:=UF.out;omega
    have hle:p+k<=s.size:=by have:=Tz s p hlt bX;omega
    have HJ:Hid (jS s (p+k)=R):=by show _=_;rw [<-hsz,<-Ls hlt bX];exact he
    have hkp:0<k:=by omega
    clear he bX hsz;go_wp2_with fail;refine HD.out.mono ?_;rintro ev w2 ⟨rfl,hb2⟩;have aJ:=ah (HB.out.trans (hb2.mono hbz));clear hb2;go_wp2;go_roundg (s.size - (p+k));case measure=>omega
    case rel=>exact⟨p+k,hle,rfl,by go_num,HJ.out,aJ.out⟩
  .have hlt':¬(p:Int)<(s.size:Int):=by omega
   rw [Pw hlt]at he;subst he;clear hb;go_wp2;go_ret;exact⟨rfl,HB.out⟩
theorem af0(n n' b0 b1 b2 b3 c1 c2 c3:Nat)(l0:b0<256)(l1:b1<256)(l2:b2<256)(l3:b3<256)(h0:mO n b0 b1 b2 b3≠0)(hn:mO n b0 b1 b2 b3<=n')(h1:1<mO n b0 b1 b2 b3->b1=c1)(h2:2<mO n b0 b1 b2 b3->b2=c2)(h3:3<mO n b0 b1 b2 b3->b3=c3):Lib.decodeN n' b0 c1 c2 c3=Lib.decodeN n b0 b1 b2 b3:=by
 by_cases a:b0<128
 .rw [C2 a,C2 a]
 by_cases b:b0<194
 .exact absurd (ez (Lh (by omega) b)) h0
 by_cases c:245<=b0
 .exact absurd (ez (Li c (by omega))) h0
 by_cases d:b0<224
 .by_cases e:n<2∨b1<128∨191<b1
  .exact absurd (ez (EI (by omega) d (by omega) e)) h0
  .have hd:=Hf (n:=n) (b0:=b0) (b1:=b1) (b2:=b2) (b3:=b3) (by omega) d (by omega) (by omega) (by omega);have hs:mO n b0 b1 b2 b3=2:=by rw [pM hd (by omega)]
   obtain rfl:=h1 (by omega);rw [hd,Hf (n:=n') (b0:=b0) (b1:=b1) (b2:=c2) (b3:=c3) (by omega) d (by omega) (by omega) (by omega)]
 by_cases f:b0<240
 .by_cases e:n<3∨b1<128∨191<b1∨b2<128∨191<b2
  .exact absurd (ez (Bz (by omega) f (by omega) (by omega) e)) h0
  .by_cases g:b0%16*4096+b1%64*64+b2%64<2048∨(55296<=b0%16*4096+b1%64*64+b2%64/\b0%16*4096+b1%64*64+b2%64<=57343)
   .exact absurd (ez (Hg (by omega) f g)) h0
   .have hd:=EJ (n:=n) (b0:=b0) (b1:=b1) (b2:=b2) (b3:=b3) (by omega) f (by omega) (by omega) (by omega) (by omega) (by omega) (by omega) (by omega);have hs:mO n b0 b1 b2 b3=3:=by rw [pM hd (by omega)]
    obtain rfl:=h1 (by omega);obtain rfl:=h2 (by omega);rw [hd,EJ (n:=n') (b0:=b0) (b1:=b1) (b2:=b2) (b3:=c3) (by omega) f (by omega) (by omega) (by omega) (by omega) (by omega) (by omega) (by omega)]
 by_cases e:n<4∨b1<128∨191<b1∨b2<128∨191<b2∨b3<128∨191<b3
 .exact absurd (ez (yO (by omega) (by omega) (by omega) (by omega) (by omega) e)) h0
 .by_cases g:b0%8*262144+b1%64*4096+b2%64*64+b3%64<65536∨1114111<b0%8*262144+b1%64*4096+b2%64*64+b3%64
  .exact absurd (ez (Hh (by omega) (by omega) g)) h0
  .have hd:=Hj (n:=n) (b0:=b0) (b1:=b1) (b2:=b2) (b3:=b3) (by omega) (by omega) (by omega) (by omega) (by omega) (by omega) (by omega) (by omega) (by omega) (by omega) (by omega);have hs:mO n b0 b1 b2 b3=4:=by rw [pM hd (by omega)]
   obtain rfl:=h1 (by omega);obtain rfl:=h2 (by omega);obtain rfl:=h3 (by omega);rw [hd,Hj (n:=n') (b0:=b0) (b1:=b1) (b2:=b2) (b3:=b3) (by omega) (by omega) (by omega) (by omega) (by omega) (by omega) (by omega) (by omega) (by omega) (by omega) (by omega)]
theorem M3 {x:ByteArray}{a b c:Nat}(hb:b<=x.size)(h:c<b)(ha:a<=c):(x.extract a b).get! (c - a)=x.get! c:=by
 have h1:c - a<(x.extract a b).size:=by simp;omega
 rw [get_eq _ _ h1,get_eq _ _ (by omega:c<x.size),Uk]
 congr 1
 omega
theorem af2 {x:ByteArray}{a b c:Nat}(hb:b<=x.size)(ha:a<=c)(h:c<b)(h0:bu x c≠0)(hk:c+bu x c<=b):Utf8.decode (x.extract a b) (c - a)=Utf8.decode x c:=by
 rw [Lib.decode_at,Lib.decode_at];have hsz:(x.extract a b).size=b - a:=by simp;omega
 rw [hsz,M3 hb h ha];have hs:bu x c=mO (x.size - c) (x.get! c).toNat (x.get! (c+1)).toNat (x.get! (c+2)).toNat (x.get! (c+3)).toNat:=rfl;refine af0 (x.size - c) _ _ _ _ _ _ _ _ (x.get! c).toNat_lt (x.get! (c+1)).toNat_lt (x.get! (c+2)).toNat_lt (x.get! (c+3)).toNat_lt (by rw [<-hs];exact h0) (by rw [<-hs];omega) (fun h1=> ?_) (fun h1=> ?_) (fun h1=> ?_)
 .rw [<-hs]at h1;rw [show c - a+1=c+1 - a by omega,M3 hb (by omega) (by omega)]
 .rw [<-hs]at h1;rw [show c - a+2=c+2 - a by omega,M3 hb (by omega) (by omega)]
 .rw [<-hs]at h1;rw [show c - a+3=c+3 - a by omega,M3 hb (by omega) (by omega)]
def RX(x:ByteArray):Nat->Nat->List Int->Prop
 |a,b,[]=>a=b
 |a,b,r::rs=>a<x.size/\bu x a≠0/\r=iL x a/\RX x (a+bu x a) b rs
theorem FB {x:ByteArray}:∀{rs:List Int}{a b:Nat},RX x a b rs->a<=b
 |[],a,b,h=>Nat.le_of_eq h
 |r::rs,a,b,h=>by have:=FB h.2.2.2;omega
theorem WR {x:ByteArray}{p q:Nat}(hp:p<x.size)(h0:bu x p≠0)(h1:p<q)(h2:q<p+bu x p):¬Asc x q:=by
 have hle:=J3 x p hp h0;have key:∀j,j<bu x p->1<bu x p->¬bt x (p+j)<128:=by
  intro j hj hs;have hj2:p+j<x.size:=by omega
  have e:bt x (p+j)=((x.get! (p+j)).toNat:Int):=by unfold bt;rw [aj hj2]
  rw [e];rcases FK x p hp h0 with⟨e1,_⟩|⟨e1,_,c1,c2,c3,c4,_⟩|⟨e1,_,c1,c2,c3,c4,c5,c6,_⟩|⟨e1,_,c1,c2,c3,c4,c5,c6,c7,c8,_⟩
  .omega
  .match j,(by omega:j<2)with
   |0,_=>simp only [qY];omega
   |1,_=>omega
  .match j,(by omega:j<3)with
   |0,_=>simp only [qY];omega
   |1,_=>omega
   |2,_=>omega
  .match j,(by omega:j<4)with
   |0,_=>simp only [qY];omega
   |1,_=>omega
   |2,_=>omega
   |3,_=>omega
 intro ha;rcases ha with h|h|⟨_,h⟩
 .omega
 .exact key (q - p) (by omega) (by omega) (by rw [show p+(q - p)=q by omega];exact h)
 .exact key (q - 1 - p) (by omega) (by omega) (by rw [show p+(q - 1 - p)=q - 1 by omega];exact h)
theorem JI {x:ByteArray}{q:Nat}(hq:q<=x.size)(ha:Asc x q):∀(rs:List Int)(p:Nat),RA x p rs->p<=q->∃r1 r2,rs=r1++r2/\RX x p q r1/\RA x q r2
 |rs,p,h,hp=>by
  by_cases he:p=q
  .subst he;exact⟨[],rs,rfl,rfl,h⟩
  .cases rs with
   |nil=>have:p=x.size:=h;omega
   |cons r rs=>
    obtain⟨h1,h2,h3,h4⟩:=h;by_cases hin:q<p+bu x p
    .exact absurd ha (WR h1 h2 (by omega) hin)
    .obtain⟨r1,r2,e1,e2,e3⟩:=JI hq ha rs (p+bu x p) h4 (by omega);exact⟨r::r1,r2,by rw [e1];rfl,⟨h1,h2,h3,e2⟩,e3⟩
theorem abU {t:ByteArray}:∀(f:Nat)(rs:List Int)(p:Nat),RA t p rs->t.size<=p+f->runesFrom t f p=some rs
 |0,rs,p,h,hf=>by
  cases rs with
  |nil=>exact DN t 0 p (by omega)
  |cons r rs=>have:=h.1;omega
 |f+1,rs,p,h,hf=>by
  cases rs with
  |nil=>have:p=t.size:=h;exact DN t (f+1) p (by omega)
  |cons r rs=>
   obtain⟨h1,h2,h3,h4⟩:=h;have he:runesFrom t (f+1) p=(runesFrom t f (p+bu t p)).map (iL t p::·):=by simp [runesFrom,h1,h2]
   rw [he,abU f rs _ h4 (by omega),h3];rfl
theorem acn {x:ByteArray}{a b:Nat}(hb:b<=x.size):∀(rs:List Int)(c:Nat),a<=c->RX x c b rs->RA (x.extract a b) (c - a) rs
 |[],c,ha,h=>by
  have:c=b:=h;show c - a=(x.extract a b).size;simp;omega
 |r::rs,c,ha,h=>by
  obtain⟨h1,h2,h3,h4⟩:=h;have hle:=FB h4;have hd:=af2 hb ha (by omega) h2 hle;have hs:bu (x.extract a b) (c - a)=bu x c:=by rw [Ty,Ty,hd]
  have hr:iL (x.extract a b) (c - a)=iL x c:=by unfold iL;rw [hd]
  refine⟨by simp;omega,by rw [hs];exact h2,by rw [hr];exact h3,?_⟩;rw [hs,show c - a+bu x c=c+bu x c - a by omega];exact acn hb rs (c+bu x c) (by omega) h4
theorem JP {x:ByteArray}{a b:Nat}{rs:List Int}(hb:b<=x.size)(h:RX x a b rs):fH (x.extract a b)=some rs:=by
 have:=acn hb rs a (ay _) h;rw [nK]at this;exact abU _ rs 0 this (by omega)
theorem abS {x:ByteArray}{rs:List Int}{a b:Nat}(h:RA x 0 rs)(hab:a<=b)(hb:b<=x.size)(ha:Asc x a)(hb2:Asc x b):∃r0 r1 r2,rs=r0++(r1++r2)/\RX x 0 a r0/\RX x a b r1/\RA x b r2:=by
 obtain⟨r0,r',e1,e2,e3⟩:=JI (by omega:a<=x.size) ha rs 0 h (by omega);obtain⟨r1,r2,e4,e5,e6⟩:=JI hb hb2 r' a e3 hab;exact⟨r0,r1,r2,by rw [e1,e4],e2,e5,e6⟩
structure iY(w:World)(B s:Nat)(v:Value)(l:List Nat):Prop where
 cell:w.heap[s]? =some (.cells #[v] 296 (0,0))
 row:w.ownsRow B 108 1 v l.length (iv (nl l))
 low:B<=s
structure xX(w w':World)(s:Nat)(v v':Value):Prop where
 os:w'.os=w.os
 tape:w'.tape=w.tape
 output:w'.output=w.output
 size:w.heap.size<=w'.heap.size
 block:∀k,k<w.heap.size->k≠s->v.ownBlock≠some k->w'.heap[k]? =w.heap[k]?
 own:v'.ownBlock=v.ownBlock∨∀k,v'.ownBlock=some k->w.heap.size<=k
theorem xX.below {w w' w0:World}{B s:Nat}{v v':Value}{l:List Nat}(h:xX w w' s v v')(hs:iY w B s v l)(hb:Below B w0 w):Below B w0 w':=
 hb.trans ⟨h.os,h.tape,h.output,h.size,fun k hk=>by
  have IA:=hs.low;have hlt:k<w.heap.size:=ku (ku hk IA) (fW (bZ hs.cell));refine h.block k hlt (by omega) ?_;intro e;have:=sJ hs.row k e;omega⟩
theorem iY.ne {w:World}{B s:Nat}{v:Value}{l:List Nat}(h:iY w B s v l):v.ownBlock≠some s:=by
 rcases h.row.2 with⟨rfl,_⟩|⟨g,cp,cur,rfl,_,hh,_⟩
 .simp [Value.ownBlock]
 .simp only [Value.ownBlock];intro e;obtain rfl:=aK e;rw [h.cell]at hh;simp at hh
theorem iY.grow {w w5:World}{B s:Nat}{v v5:Value}{l l':List Nat}{m:Nat}(h:iY w B s v l)(hown:w5.ownsRow B 108 1 v5 m (iv (nl l')))(hg:w.grownBy w5 v.ownBlock)(hv:v5.ownBlock=v.ownBlock∨v5.ownBlock=some (w.heap.size+1)):
  iY (w5.setCell ⟨s,0,none⟩ v5) B s v5 l'/\xX w (w5.setCell ⟨s,0,none⟩ v5) s v v5/\w5.cell? ⟨s,0,none⟩=some v/\w5.frozen? ⟨s,0,none⟩=false:=by
 have hlt:=bZ h.cell;have iF:w5.heap[s]? =some (.cells #[v] 296 (0,0)):=by rw [hg.block s hlt h.ne.symm];exact h.cell
 have hne:v5.ownBlock≠some s:=by
  rcases hv with hv|hv
  .rw [hv];exact h.ne
  .rw [hv];intro e;have:=aK e;omega
 have hm:m=l'.length:=by have:=hown.1;rw [mH,gw]at this;omega
 subst hm;refine⟨⟨by rw [fK iF];rfl,jm hown hne 0 v5,h.low⟩,⟨hg.os,hg.tape,hg.output,?_,?_,?_⟩,az iF 0,cH iF 0⟩
 .have:=hg.size;simpa using this
 .intro k hk hks hkv;rw [gK]
  .exact hg.block k hk (fun e=>hkv e.symm)
  .exact hks
 .rcases hv with hv|hv
  .exact .inl hv
  .exact .inr fun k hk=>by rw [hv]at hk;have:=aK hk;omega
theorem aiQ(w:World)(B s:Nat)(v:Value)(l:List Nat)(h:iY w B s v l):Calls prog 260 #[.pointer (some ⟨s,0,none⟩)] w fun e w'=>e= .returned (.int .i64 l.length)/\w'=w:=by
 obtain⟨a,c,rfl⟩:=ey h.row;have c0:w.cell? ⟨s,0,none⟩=some (.slice a l.length c):=az h.cell 0;clear h;go_enter func260,ntmps260;go_wp2;go_ret;exact⟨rfl,rfl⟩
theorem aeL(w:World)(B s:Nat)(v:Value)(l:List Nat)(i:Nat)(h:iY w B s v l)(hi:i<l.length):Calls prog 275 #[.pointer (some ⟨s,0,none⟩),.int .i64 i] w fun e w'=>e= .returned (.tuple #[.int .i64 (l.getD i 0:Nat),.bool true])/\w'=w:=by
 obtain⟨g,c,rfl,_,_,_⟩:=fS h.row (by omega);have c0:w.cell? ⟨s,0,none⟩=some (.slice (some ⟨g,0,none⟩) l.length c):=az h.cell 0;have c1:=iJ h.row i (by rw [gw];exact hi);rw [mJ _ _ hi]at c1;generalize l.getD i 0=x at*;generalize l.length=n at*;have hi':((i:Int)<(n:Int)):=by omega
 have hg:decide ((i:Int)<0)=false:=by simp
 clear h;go_enter func275,ntmps275;go_wp2;go_ret2;exact⟨rfl,rfl⟩
theorem aeM(w:World)(s:Nat)(i:Int)(hi:i<0):Calls prog 275 #[.pointer (some ⟨s,0,none⟩),.int .i64 i] w fun e w'=>e= .returned (.tuple #[.int .i64 0,.bool false])/\w'=w:=by
 go_enter func275,ntmps275;go_wp2;go_ret2;exact⟨rfl,rfl⟩
theorem abP(w:World)(B s:Nat)(v:Value)(l:List Nat)(i:Nat)(h:iY w B s v l)(hl:l.length<=1000000):Calls prog 258 #[.pointer (some ⟨s,0,none⟩),.int .i64 i] w fun e w'=>e= .returned (.tuple #[])/\∃v',iY w' B s v' (l++[i])/\xX w w' s v v':=by
 obtain⟨iI,eY,eZ,fe,fh⟩:=gW Tryz.Fb;have c0:w.cell? ⟨s,0,none⟩=some v:=az h.cell 0;have f0:w.frozen? ⟨s,0,none⟩=false:=cH h.cell 0;have hrow:=h.row;have hbz:B<=w.heap.size:=bU h.low (fW (bZ h.cell));have HS:=ah h;obtain⟨a,c,rfl⟩:=ey hrow;clear h;go_enter func258,ntmps258;go_wp2_with(at_builtin;refine xU _ rfl _ _ 139 rfl B 108 iI (.int .i64 0) 8 underlying139 eY eZ fe fh rfl (by decide) _ _ _ rfl hrow _ _ _ rfl rfl rfl hl hbz ?_);intro v5 w5 b9 cA lM;obtain⟨a5,yM,rfl⟩:=ey b9;obtain⟨qj,xg,c5,f5⟩:=HS.out.grow (by rw [Dx,MA]at b9;exact b9) cA lM;have fC:=ah qj;have F5:=ah xg;clear qj xg b9 cA lM hrow c0 f0;go_wp2;go_end0;exact⟨rfl,_,fC.out,F5.out⟩
theorem iY.cut {w:World}{B s g c n:Nat}{l:List Nat}{vs:List Value}(h:iY w B s (.slice (some ⟨g,0,none⟩) l.length c) l)(hn:n<l.length):
  iY ((w.setCells g n vs).setCell ⟨s,0,none⟩ (.slice (some ⟨g,0,none⟩) n c)) B s (.slice (some ⟨g,0,none⟩) n c) (l.take n)/\xX w ((w.setCells g n vs).setCell ⟨s,0,none⟩ (.slice (some ⟨g,0,none⟩) n c)) s (.slice (some ⟨g,0,none⟩) l.length c) (.slice (some ⟨g,0,none⟩) n c)/\(w.setCells g n vs).cell? ⟨s,0,none⟩=some (.slice (some ⟨g,0,none⟩) l.length c)/\(w.setCells g n vs).frozen? ⟨s,0,none⟩=false:=by
 have hlt:=bZ h.cell;have hne:=h.ne;have gV:g≠s:=by simpa [Value.ownBlock]using hne
 obtain⟨xs',h1,h2,h3⟩:=MI vs n w _ h.row;have iF:(w.setCells g n vs).heap[s]? =some (.cells #[.slice (some ⟨g,0,none⟩) l.length c] 296 (0,0)):=by rw [h2.block s hlt (by simpa using gV.symm)];exact h.cell
 have h4:=MJ h1 n (by omega);rw [GL,TA _ _ n h3,<-GL n,Rw,GL]at h4;refine⟨⟨by rw [fK iF];rfl,?_,h.low⟩,⟨h2.os,h2.tape,h2.output,by have:=h2.size;simpa using this,?_,.inl rfl⟩,az iF 0,cH iF 0⟩
 .have:=jm h4 (s:=s) (by simpa [Value.ownBlock]using gV) 0 (.slice (some ⟨g,0,none⟩) n c);simpa [jd (fW hn)]using this
 .intro k hk hks hkv;rw [gK]
  .exact h2.block k hk (fun e=>hkv (by rw [e];rfl))
  .exact hks
theorem afW(w:World)(B s:Nat)(v:Value)(l:List Nat)(n:Nat)(h:iY w B s v l)(hn:n<l.length)(hl:l.length<=1000000):Calls prog 276 #[.pointer (some ⟨s,0,none⟩),.int .i64 n] w fun e w'=>e= .returned (.tuple #[])/\∃v',iY w' B s v' (l.take n)/\xX w w' s v v':=by
 obtain⟨g,c,rfl,hcap,sw,hgB⟩:=fS h.row (by omega);have c0:w.cell? ⟨s,0,none⟩=some (.slice (some ⟨g,0,none⟩) l.length c):=az h.cell 0;have f0:w.frozen? ⟨s,0,none⟩=false:=cH h.cell 0;have Y0:=adY (P:=prog) w 139 108 0 (.int .i64 0) underlying139 Tryz.zeroValue108 rfl rfl g n (l.length - n) (c - n) (by omega) (fun j hj=>by
   rw [iJ h.row (n+j) (by rw [gw];omega)];rfl) (fun j _=>Bu h.row (n+j))
 have Zt:n<=c:=by omega
 have hni:((n:Int)<(l.length:Int)):=by omega
 obtain⟨hS,hF,c5,f5⟩:=h.cut (vs:=List.replicate (l.length - n) (.int .i64 0)) hn;have HS:=ah hS;have HF:=ah hF;clear h hS hF;generalize w.setCells g n (List.replicate (l.length - n) (.int .i64 0))=Wc at*;generalize l.length=L at*;go_enter func276,ntmps276;go_wp2;go_end0;exact⟨rfl,_,HS.out,HF.out⟩
theorem abI(w:World)(B s:Nat)(v:Value)(l:List Nat)(x:Nat)(h:iY w B s v (l++[x]))(hl:l.length<=100000):Calls prog 259 #[.pointer (some ⟨s,0,none⟩)] w fun e w'=>e= .returned (.tuple #[.int .i64 x,.bool true])/\∃v',iY w' B s v' l/\xX w w' s v v':=by
 have hlen:(l++[x]).length=l.length+1:=by simp
 obtain⟨a,c,rfl⟩:=ey h.row;have c0:w.cell? ⟨s,0,none⟩=some (.slice a (l.length+1) c):=by have:=az h.cell 0;rw [hlen]at this;exact this
 have kf:Hid (Calls prog 275 #[.pointer (some ⟨s,0,none⟩),.int .i64 l.length] w fun e w'=>e= .returned (.tuple #[.int .i64 x,.bool true])/\w'=w):=by
  have:=aeL w B s _ (l++[x]) l.length h (by omega);have hx:(l++[x]).getD l.length 0=x:=by simp
  rw [hx]at this;exact this
 have zB:Hid (Calls prog 276 #[.pointer (some ⟨s,0,none⟩),.int .i64 l.length] w fun e w'=>e= .returned (.tuple #[])/\∃v',iY w' B s v' l/\xX w w' s (.slice a (l++[x]).length c) v'):=by
  have:=afW w B s _ (l++[x]) l.length h (by omega) (by omega);have hx:(l++[x]).take l.length=l:=by simp
  rw [hx]at this;exact this
 clear h hlen;generalize l.length=L at*;go_enter func259,ntmps259;go_wp2_with fail;refine kf.out.mono ?_;rintro ev wx ⟨rfl,hx⟩;have hx':=hx.symm;subst hx';go_wp2_with fail;refine zB.out.mono ?_;rintro ev w2 ⟨rfl,v',hS,hF⟩;have HS:=ah hS;have HF:=ah hF;clear hS hF;go_wp2;go_ret2;exact⟨rfl,_,HS.out,HF.out⟩
theorem akx(w:World)(B s:Nat)(v:Value)(h:iY w B s v []):Calls prog 259 #[.pointer (some ⟨s,0,none⟩)] w fun e w'=>e= .returned (.tuple #[.int .i64 0,.bool false])/\w'=w:=by
 obtain⟨a,c,rfl⟩:=ey h.row;have c0:w.cell? ⟨s,0,none⟩=some (.slice a 0 c):=az h.cell 0;clear h;go_enter func259,ntmps259;go_wp2_with fail;refine(aeM w s (-1) (by omega)).mono ?_;rintro ev wx ⟨rfl,hx⟩;have hx':=hx.symm;subst hx';go_wp2;go_ret2;exact⟨rfl,rfl⟩
theorem Po {w:World}{aL aT aC:Addr}(h:Env w aL aT aC)(r:Int):Calls prog 66 #[.int .i32 r] w fun e w'=>e= .returned (.int .i64 (cls r))/\Below w.heap.size w w':=by
 obtain⟨t,fr,hsp⟩:=h.MX;exact WE r w t fr hsp
def kZ(c:Int):Bool:=decide (13<=c)&&decide (c<=21)
theorem acZ(c:Int)(w:World):Calls prog 223 #[.int .i64 c] w fun e w'=>e= .returned (.bool (kZ c))/\w'=w:=by
 obtain⟨q,hq⟩:∃q,q=kZ c:=⟨_,rfl⟩
 rw [<-hq];have HQ:=ah hq;clear hq;by_cases h1:13<=c
 .have h1':c ≥ 13:=h1;by_cases h2:c<=21
  .go_enter func223,ntmps223;go_wp2;go_ret;exact⟨iw (by rw [HQ.out,kZ];simp [h1,h2]),rfl⟩
  .go_enter func223,ntmps223;go_wp2;go_ret;exact⟨iw (by rw [HQ.out,kZ];simp [h1,h2]),rfl⟩
 .have h1':¬c ≥ 13:=h1;go_enter func223,ntmps223;go_wp2;go_ret;exact⟨iw (by rw [HQ.out,kZ,rB (by omega)];rfl),rfl⟩
theorem aiu(r:Int)(w:World)(aL aT aC:Addr)(hE:Env w aL aT aC):Calls prog 172 #[.int .i32 r] w fun e w'=>e= .returned (.bool (kZ (cls r)))/\Below w.heap.size w w':=by
 have HC:=ah (Po hE r);clear hE;go_enter func172,ntmps172;go_wp2_with fail;refine HC.out.mono ?_;rintro ev w1 ⟨rfl,hb⟩;have HB:=ah hb;clear hb;go_wp2_with fail;refine(acZ (cls r) w1).mono ?_;rintro ev wx ⟨rfl,hwx⟩;have jK:=hwx.symm;subst jK;clear hwx;go_wp2;go_ret;exact⟨rfl,HB.out⟩
theorem akc(s:ByteArray)(l:List Int)(w:World)(aL aT aC:Addr)(hs:s.size<=600)(hr:fH s=some l)(hE:Env w aL aT aC):
  Calls prog 108 #[.string s] w fun e w'=>e= .returned (.int .i64 (found (l.map cls)))/\Below w.heap.size w w':=by
 have hp:∀cs,gz cs 2=found cs:=fun cs=>by unfold gz;simp
 have HN:Hid (Calls prog 84 #[.string s,.int .i64 2] w fun e w'=>∃lb,e= .returned (.pointer (some ⟨lb,0,none⟩))/\w'.cell? ⟨lb,5,none⟩=some (.int .i64 (found (l.map cls)))/\Below w.heap.size w w'):=by
  by_cases h0:s.size=0
  .obtain rfl:=ach hr h0;refine(aaT s 2 w h0).mono ?_;rintro e w' ⟨lb,gc,gl,gm,rfl,hL,_,hb⟩;rw [hp]at hL;exact⟨lb,rfl,(LB.c5 hL).1,hb⟩
  .refine(aaU s l 2 w hs hr (acg hr (by omega)) (fun r W hW=>Po (hE.below hW) r)).mono ?_;rintro e w' ⟨L,rfl,hL,_,_,_,Hz,_,hb⟩;refine⟨L.lb,rfl,?_,hb⟩;rw [<-hp,<-Hz];exact az hL.cell 5
 clear hE hr hp;go_enter func108,ntmps108;go_wp2_with fail;refine HN.out.mono ?_;rintro ev w1 ⟨lb,rfl,hc,hb⟩;have HB:=ah hb;clear hb HN;go_wp2;go_ret;exact⟨rfl,HB.out⟩
def qb:List Int->List Nat->Bool
 |[],st=>st.isEmpty
 |r::rs,st=>
  if kS (cls r)=true then qb rs (st++[17])
  else if aS (cls r)=true then qb rs (st++[21])
  else if kZ (cls r)=true then
   match st.getLast? with
   |none=>false
   |some x=>if(x:Int)=cls r then qb rs st.dropLast else false
  else qb rs st
theorem iY.keep {w w':World}{B s:Nat}{v:Value}{l:List Nat}(h:iY w B s v l)(hk:∀k o,w.heap[k]? =some o->(k=s∨v.ownBlock=some k)->w'.heap[k]? =some o):iY w' B s v l:=
 ⟨hk s _ h.cell (.inl rfl),nC h.row fun k o ho hh=>hk k o hh (.inr ho),h.low⟩
theorem iY.below {w w':World}{B s:Nat}{v:Value}{l:List Nat}(h:iY w B s v l)(hb:Below w.heap.size w w'):iY w' B s v l:=h.keep fun _ _ ho _=>cB hb ho
theorem xX.iter {w w':World}{B s K p:Nat}{v v':Value}{l:List Nat}{t:ByteArray}(hf:xX w w' s v v')(h:iY w B s v l)(hit:w.heap[K]? =some (.stringIter t p)):w'.heap[K]? =some (.stringIter t p):=by
 rw [hf.block K (eO hit) ?_ (Cj h.row hit)]
 .exact hit
 .rintro rfl;rw [h.cell]at hit;cases hit
theorem aeO(s:ByteArray)(rs:List Int)(w:World)(aL aT aC:Addr)(hs:s.size<=600)(hr:fH s=some rs)(hE:Env w aL aT aC):
  Calls prog 229 #[.string s] w fun e w'=>e= .returned (.bool (qb rs []))/\Below w.heap.size w w':=by
 have oV:Hid (∀(r:Int)(W:World),Below w.heap.size w W->Calls prog 66 #[.int .i32 r] W fun e w'=>e= .returned (.int .i64 (cls r))/\Below W.heap.size W w'):=fun r W hW=>Po (hE.below hW) r
 have Gn:=ah (Fy hr);obtain⟨R,hR⟩:∃R,R=qb rs []:=⟨_,rfl⟩
 rw [<-hR];have HR:=ah hR.symm;clear hE hr hR;go_enter func229,ntmps229;go_wp2;have E9:(w.alloc (.cells #[.slice none 0 0] 296)).heap.size=w.heap.size+1:=by simp
 go_loopg [5,6,7,8] s.size (fun gk _ _ _ _ W=>∃(p:Nat)(rt:List Int)(st:List Nat)(v:Value),p<=s.size/\gk=s.size - p/\RA s p rt/\qb rt st=R/\st.length<=p/\W.heap[w.heap.size+1]? =some (.stringIter s p)/\iY W w.heap.size w.heap.size v st/\Below w.heap.size w W);case atStart=>
  refine⟨0,rs,[],.slice none 0 0,by omega,rfl,Gn.out,HR.out,by simp,?_,⟨?_,jw _ _ _ _,ay _⟩,((aA _ _).alloc (ay _) _).alloc (by simp) _⟩
  .have:=OU (w.alloc (.cells #[.slice none 0 0] 296)) s 0;rw [E9]at this;exact this
  .exact(dM _ _ _ (by simp)).trans (World.alloc_heap_new _ _)
 case round=>
  obtain⟨p,rt0,st,v,hp,rfl,iq,hj,hst,hit,hS,hb⟩:=hrel;have hbz:=hb.size;by_cases hlt:p<s.size
  .cases rt0 with
   |nil=>exact absurd iq (by show¬p=s.size;omega)
   |cons r0 rt=>
    obtain⟨_,hz,E5,IP⟩:=iq;have Ec:=ah IP;have hle:p+bu s p<=s.size:=J3 s p hlt hz;have hzp:0<bu s p:=by omega
    have hw:=J2 s p hz;have hnx:∀ty,(Instr.next (.pointer (some ⟨w.heap.size+1,0,none⟩)) true ty).run prog wr= .ok (.tuple #[.bool true,.int .i64 p,.int .i32 (iL s p)]) (wr.iterAt (w.heap.size+1) s (p+bu s p)):=fun ty=>by
     rw [Vv wr (w.heap.size+1) s p ty hit hlt,hw];rfl
    have HIT:=ah hit;have HS:=ah hS;have HB:=ah hb;rw [E5]at hj;clear IP hz hw hit hS hb E5;generalize bu s p=n at*;generalize iL s p=r at*;obtain⟨wi,hwi⟩:∃wi,wi=wr.iterAt (w.heap.size+1) s (p+n):=⟨_,rfl⟩
    have rQ:Hid (wi.heap[w.heap.size+1]? =some (.stringIter s (p+n))):=by show _=_;rw [hwi];exact Vu wr _ s p _ HIT.out
    have aG:Hid (Below w.heap.size w wi):=by show Below _ _ _;rw [hwi];exact Vt HB.out (by omega) _ _
    have bD:Hid (iY wi w.heap.size w.heap.size v st):=HS.out.keep fun k o ho hk=>by
     rw [hwi,KF]
     .exact ho
     .rintro rfl;rcases hk with hk|hk
      .omega
      .exact Cj HS.out.row HIT.out hk
    rw [<-hwi]at hnx;clear hwi;have UA:=ah (oV.out r wi aG.out);rw [qb]at hj;generalize cls r=c at*;go_wp2_with fail;refine UA.out.mono ?_;rintro ev w3 ⟨rfl,hb3⟩;have zF:=ah (cB hb3 rQ.out);have jB:=ah (bD.out.below hb3);have aI:=ah (aG.out.trans (hb3.mono aG.out.size));clear hnx hb3 UA;go_wp2_with fail;refine(C3 c w3).mono ?_;rintro ev wx ⟨rfl,hwx⟩;have jK:=hwx.symm;subst jK;clear hwx;cases hem:kS c
    .rw [hem,ai (by simp)]at hj;go_wp2_with fail;refine(mG c w3).mono ?_;rintro ev wx ⟨rfl,hwx⟩;have jK:=hwx.symm;subst jK;clear hwx;cases bH:aS c
     .rw [bH,ai (by simp)]at hj;go_wp2_with fail;refine(acZ c w3).mono ?_;rintro ev wx ⟨rfl,hwx⟩;have jK:=hwx.symm;subst jK;clear hwx;cases htu:kZ c
      .rw [htu,ai (by simp)]at hj;have HJ:=ah hj;clear hj;go_wp2;go_roundg (s.size - (p+n));case measure=>omega
       case rel=>exact⟨p+n,rt,st,v,hle,rfl,Ec.out,HJ.out,by omega,zF.out,jB.out,aI.out⟩
      .rw [htu,aj rfl]at hj;rcases wO st with rfl|⟨st',x,rfl⟩
       .have hj':false=R:=hj;subst hj';go_wp2_with fail;refine(akx w3 w.heap.size w.heap.size v jB.out).mono ?_;rintro ev wx ⟨rfl,hwx⟩;have jK:=hwx.symm;subst jK;clear hwx;go_wp2;go_ret;exact⟨rfl,aI.out⟩
       .rw [zW]at*;simp only [KI,aea,Option.some_or,Ei]at hj;have hsl:(st'++[x]).length=st'.length+1:=by simp
        rw [hsl]at hst;by_cases Ja:(x:Int)=c
        .rw [aj Ja]at hj;have HJ:=ah hj;clear hj;subst Ja;go_wp2_with fail;refine(abI w3 w.heap.size w.heap.size v st' x jB.out (by omega)).mono ?_;rintro ev w4 ⟨rfl,v',jk,nP⟩;have uP:=ah jk;have ya:=ah (nP.iter jB.out zF.out);have fB:=ah (nP.below jB.out aI.out);clear jk nP;go_wp2;go_roundg (s.size - (p+n));case measure=>omega
         case rel=>exact⟨p+n,rt,st',v',hle,rfl,Ec.out,HJ.out,by omega,ya.out,uP.out,fB.out⟩
        .rw [ai Ja]at hj;have aoU:((x:Int)==c)=false:=by simpa using Ja
         have aoV:((x:Int) !=c)=true:=by simpa using Ja
         subst hj;go_wp2_with fail;refine(abI w3 w.heap.size w.heap.size v st' x jB.out (by omega)).mono ?_;rintro ev w4 ⟨rfl,v',jk,nP⟩;have fB:=ah (nP.below jB.out aI.out);clear jk nP;go_wp2;go_ret;exact⟨rfl,fB.out⟩
     .rw [bH,aj rfl]at hj;have HJ:=ah hj;clear hj;go_wp2_with fail;refine(abP w3 w.heap.size w.heap.size v st 21 jB.out (by omega)).mono ?_;rintro ev w4 ⟨rfl,v',jk,nP⟩;have uP:=ah jk;have ya:=ah (nP.iter jB.out zF.out);have fB:=ah (nP.below jB.out aI.out);clear jk nP;go_wp2;go_roundg (s.size - (p+n));case measure=>omega
      case rel=>exact⟨p+n,rt,st++[21],v',hle,rfl,Ec.out,HJ.out,by simp;omega,ya.out,uP.out,fB.out⟩
    .rw [hem,aj rfl]at hj;have HJ:=ah hj;clear hj;go_wp2_with fail;refine(abP w3 w.heap.size w.heap.size v st 17 jB.out (by omega)).mono ?_;rintro ev w4 ⟨rfl,v',jk,nP⟩;have uP:=ah jk;have ya:=ah (nP.iter jB.out zF.out);have fB:=ah (nP.below jB.out aI.out);clear jk nP;go_wp2;go_roundg (s.size - (p+n));case measure=>omega
     case rel=>exact⟨p+n,rt,st++[17],v',hle,rfl,Ec.out,HJ.out,by simp;omega,ya.out,uP.out,fB.out⟩
  .have hnx:∀ty,(Instr.next (.pointer (some ⟨w.heap.size+1,0,none⟩)) true ty).run prog wr= .ok (.tuple #[.bool false]) wr:=fun ty=>OA wr (w.heap.size+1) s p ty hit hlt
   cases rt0 with
   |cons r0 rt=>exact absurd iq.1 hlt
   |nil=>
    rw [qb]at hj;have HS:=ah hS;have HB:=ah hb;have eP:=ah (aiQ wr w.heap.size w.heap.size v st hS);clear iq hit hS hb;cases st with
    |nil=>
     have hj':true=R:=hj;subst hj';go_wp2_with fail;refine eP.out.mono ?_;rintro ev wx ⟨rfl,hwx⟩;have jK:=hwx.symm;subst jK;clear hwx;go_wp2;go_ret;exact⟨rfl,HB.out⟩
    |cons x xs=>
     have hj':false=R:=hj;subst hj';have h0:(((x::xs).length:Int)==0)=false:=by simp;omega
     go_wp2_with fail;refine eP.out.mono ?_;rintro ev wx ⟨rfl,hwx⟩;have jK:=hwx.symm;subst jK;clear hwx;generalize(x::xs).length=q at*;go_wp2;go_ret;exact⟨by first|rfl|simp [h0],HB.out⟩
