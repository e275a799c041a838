import Derived.Test.YtkbinfhclaafhaaGreatDoorP22
import Derived.RangeFuncBox
import Derived.LoopNIn
namespace Go.Proofs.YtkbinfhclaafhaaGreatDoor
open Go.RowKit
open Go.Proofs.Tryz
set_option maxRecDepth 100000
set_option maxHeartbeats 32000000
set_option linter.all false
def apA(C:RC)(O:oL C)(w:World)(p:RP)(L:Bool)(F:List PR)(h:RW C w p L F)(hX:L=false->C.X=F++cH C.s false p)(n:Nat)(hn:n=if L then 0 else 2*(C.s.size - p.at_)+3)
  (K:Nat->Act->World->Prop) (hK:∀l m a w,m<n->LJ C l m a w->K l a w) (u0 u1 u2 u3 u5 u6 u7 u8 u9 uC vK vL vM vN vO u16 vP vQ vR vS vT vU u23 u24 vV u26 vW u28 vX vY vZ u32 u33 wh wm wu wz wF wG wH wI wJ wK u44 wL wM wN wO wP wQ wR wT wU wV wW wX wY wZ w9 xd xg xh xm u64 xo xq xu xw xx xy xz xA xB yG yH yI yJ yK yL yM yN yO yP yQ yR yS:Value):
  Code.wp prog (IV 3) (jumps K<|bodyPost prog Tryz.f107<|RE C) {tmps:=#[u0,u1,u2,u3,.pointer<|some ⟨C.rb,0,none⟩,u5,u6,u7,u8,u9,uC,vK,vL,vM,vN,vO,u16,vP,vQ,vR,vS,vT,vU,u23,u24,vV,u26,vW,u28,vX,vY,vZ,u32,u33,wh,wm,wu,wz,wF,wG,wH,wI,wJ,wK,u44,wL,wM,wN,wO,wP,wQ,wR,wT,wU,wV,wW,wX,wY,wZ,w9,xd,xg,xh,xm,u64,xo,xq,xu,xw,xx,xy,xz,xA,xB,yG,yH,yI,yJ,yK,yL,yM,yN,yO,yP,yQ,yR,yS],defers:=[]} w:=by
 conv=>arg 2;whnf
 have T:=ah hK;have U:=ah hn;clear hK hn;go_wp2;go_loopg [] (C.s.size - p.at_) (λgh W=>∃b d c,gh=C.s.size - b.at_/\RW C W b d c/\(d=false->C.X=c++cH C.s false b)/\(d=false->L=false/\p.at_<=b.at_));exact⟨p,L,F,rfl,h,hX,λe=>⟨e,au _⟩⟩;obtain⟨b,d,c,rfl,J,R,D⟩:=hrel;have HW:=ah J;have Z:=ah R;have pE:=ah D;clear hX h;by_cases k:mH C.s b d=true
 .have z:=J.over O;rw[k]at z;have s:Hid (d=false->C.X=c++dJ 0 0 b):=λe=>by
   rw[R e,cH,ai]
   .rfl
   .subst e;simp[mH]at k;omega
  clear k J R D;go_wp2_with fail;refine z.mono ?_;rintro N W1 ⟨rfl,r⟩;have H:=r.cut O 0 0 (by omega) (by omega) (by have:=r.ok.e;omega) (λe=>by rw[s.out e];exact ZR _);clear z r;go_wp2_with fail;refine H.mono ?_;rintro N V ⟨⟨v,rfl⟩,ac,u,i⟩;have HF:Hid (RE C (.returned (.tuple #[])) V):=i.end (λe=>by
   have:d=false:=by cases hs:d with
    |true=>rw[u hs]at e;cases e
    |false=>rfl
   exact s.out this) _
  clear H u i;go_wp2;exact cI (Bu rfl _ _ _) rfl HF.out
 .have k:mH C.s b d=false:=by simpa using k
  have z:=J.over O;rw[k]at z;have Y:d=false:=by simp[mH]at k;exact k.1
  have E:b.at_<C.s.size:=by have:=J.ok.e;simp[mH]at k;omega
  subst Y;have f:=ah E;clear k J R D;have P:Hid (C.X=c++cH C.s false b):=Z.out rfl;have g:Hid (L=false/\p.at_<=b.at_):=pE.out rfl;clear Z pE;go_wp2_with fail;refine z.mono ?_;rintro N W1 ⟨rfl,r⟩;have HS:=r.sign O E;clear z r E;go_wp2_with fail;refine HS.mono ?_;rintro N V ⟨rfl,u⟩;obtain⟨o,A⟩:∃o,bt C.s b.at_=o:=⟨_,rfl⟩
  obtain⟨t,B⟩:∃t,bt C.s (b.at_+1)=t:=⟨_,rfl⟩
  have M:Hid (bt C.s b.at_=o/\bt C.s (b.at_+1)=t):=⟨A,B⟩
  rw[A,B];clear A B HS;have i:RW C (V.alloc (.cells #[.int .u8 o,.int .u8 t] 246)) b false c:=u.al O _;obtain⟨⟨y1,y2⟩,⟨y3,y4⟩,y5,y6⟩:=(i.env O).cells;have G:=ah i;have c6:=i.rs.rd.c6;have f6:=i.rs.rd.fz 6;clear u i;by_cases x:o=34
  .subst x;go_wp2;refine Je ?_;exact T.out 0 (2*(C.s.size - b.at_)+2) _ _ (by have:=U.out;rw[g.out.1]at this;have r:=g.out.2;have u:=f.out;simp at this;omega) ⟨⟨_,_,_,_,_,_,_,_,_,_,_,_,_,_,_,_,_,_,_,_,_,_,_,_,_,_,_,_,_,_,_,_,_,_,_,_,_,_,_,_,_,_,_,_,_,_,_,_,_,_,_,_,_,_,_,_,_,_,_,_,_,_,_,_,_,_,_,_,_,_,_,_,_,_,_,_,_,_,_,_,_,_,_,_,_,_,rfl⟩,b,false,c,G.out,.inr ⟨rfl,P.out,f.out,rfl,.inl ⟨rfl,M.out.1⟩⟩⟩
  .have S:=ae x;by_cases y:o=47/\t=47
   .obtain⟨rfl,rfl⟩:=y;clear x S;go_wp2;refine Je ?_;exact T.out 1 (2*(C.s.size - b.at_)+2) _ _ (by have:=U.out;rw[g.out.1]at this;have r:=g.out.2;have u:=f.out;simp at this;omega) ⟨⟨_,_,_,_,_,_,_,_,_,_,_,_,_,_,_,_,_,_,_,_,_,_,_,_,_,_,_,_,_,_,_,_,_,_,_,_,_,_,_,_,_,_,_,_,_,_,_,_,_,_,_,_,_,_,_,_,_,_,_,_,_,_,_,_,_,_,_,_,_,_,_,_,_,_,_,_,_,_,_,_,_,_,_,_,_,_,rfl⟩,b,false,c,G.out,.inr ⟨rfl,P.out,f.out,rfl,.inr (.inl ⟨rfl,M.out⟩)⟩⟩
   .by_cases I:o=47/\t=42
    .obtain⟨rfl,rfl⟩:=I;clear x S y;go_wp2;refine Je ?_;exact T.out 2 (2*(C.s.size - b.at_)+2) _ _ (by have:=U.out;rw[g.out.1]at this;have r:=g.out.2;have u:=f.out;simp at this;omega) ⟨⟨_,_,_,_,_,_,_,_,_,_,_,_,_,_,_,_,_,_,_,_,_,_,_,_,_,_,_,_,_,_,_,_,_,_,_,_,_,_,_,_,_,_,_,_,_,_,_,_,_,_,_,_,_,_,_,_,_,_,_,_,_,_,_,_,_,_,_,_,_,_,_,_,_,_,_,_,_,_,_,_,_,_,_,_,_,_,rfl⟩,b,false,c,G.out,.inr ⟨rfl,P.out,f.out,rfl,.inr (.inr ⟨rfl,M.out⟩)⟩⟩
    .by_cases Q:o=10
     .subst Q;clear x S y I;have s:Hid (C.X=(c++dJ 0 0 b)++cH C.s false (oO<|cM 0 b)):=by
       show _=_;have q:=M.out.1;rw[P.out,cH,aj f.out,ai<|by decide,ai<|by rw[q];decide,ai (by rw[q];rintro⟨h,_⟩;exact absurd h<|by decide),ai (by rw[q];rintro⟨h,_⟩;exact absurd h<|by decide),aj q,dO]
      have H:=G.out.cut O 0 0 (by omega) (by omega) (by have:=f.out;omega) (λ_=>⟨_,s.out.symm⟩);rw[AW]at H;clear c6 f6;go_wp2_with fail;refine H.mono ?_;rintro N W3 ⟨⟨v,rfl⟩,qI,_,i⟩;have pX:=i.feed O (by rw[jQ];have:=f.out;omega);clear H i;go_wp2_with fail;refine pX.mono ?_;rintro N W4 ⟨⟨v,rfl⟩,h4⟩;have H4:=ah h4;clear pX h4;go_wp2;have O5:(oO<|cM 0 b).at_=b.at_+1:=(by show(cM 0 b).at_+1=_;rw[jQ]);go_roundg (C.s.size - (b.at_+1));exact⟨_,qI,_,by rw[O5],H4.out,λ_=>s.out,λ_=>⟨g.out.1,by have:=g.out.2;omega⟩⟩;have:=f.out;omega
     .have Ep:=ae Q;have s:Hid (C.X=c++cH C.s false (cQ b<|b.at_+1)):=by
       show _=_;obtain⟨q,e2⟩:=M.out;rw[P.out,cH,aj f.out,ai<|by decide,ai<|by rw[q];exact x,ai<|by rw[q,e2];exact y,ai<|by rw[q,e2];exact I,ai<|by rw[q];exact Q]
      have HZ:Hid (b.at_+1<=1000):=(by have:=f.out;have:=O.hz;show _<=_;omega);have aa:(b.at_:Int)<=1000:=(by have:=HZ.out;omega);by_cases X:o=47
      .subst X;have r1:(t==47)=false:=(by simpa using y);have r2:(t==42)=false:=(by simpa using I);clear x y I Q;go_wp2;go_roundg (C.s.size - (b.at_+1));exact⟨_,false,_,rfl,G.out.step O (j:=b.at_+1) (by omega)<|by have:=f.out;omega,λ_=>s.out,λ_=>⟨g.out.1,by have:=g.out.2;show _<=b.at_+1;omega⟩⟩;have:=f.out;omega
      .have ab:=ae X;clear x y I Q X;go_wp2;go_roundg (C.s.size - (b.at_+1));exact⟨_,false,_,rfl,G.out.step O (j:=b.at_+1) (by omega)<|by have:=f.out;omega,λ_=>s.out,λ_=>⟨g.out.1,by have:=g.out.2;show _<=b.at_+1;omega⟩⟩;have:=f.out;omega
def apC(C:RC)(O:oL C)(w:World)(p:RP)(c:List PR)(h:RW C w p false c)(B:C.X=c++cH C.s false p)(f:p.at_<C.s.size)(i:bt C.s p.at_=47)(j:bt C.s (p.at_+1)=47)(n:Nat)(D:n=2*(C.s.size - p.at_)+2)
  (K:Nat->Act->World->Prop) (A:∀l m a w,m<n->LJ C l m a w->K l a w) (u0 u1 u2 u3 u5 u6 u7 u8 u9 I J L M N P u16 Q R S T U V u23 u24 W u26 X u28 Y Z vZ u32 u33 wh wm wu wz wF wG wH wI wJ wK u44 wL wM wN wO wP wQ wR wT wU wV wW wX wY wZ w9 xd xg xh xm u64 xo xq xu xw xx xy xz xA xB yG yH yI yJ yK yL yM yN yO yP yQ yR yS:Value):
  Code.wp prog (IV 1) (jumps K<|bodyPost prog Tryz.f107<|RE C) {tmps:=#[u0,u1,u2,u3,.pointer<|some ⟨C.rb,0,none⟩,u5,u6,u7,u8,u9,I,J,L,M,N,P,u16,Q,R,S,T,U,V,u23,u24,W,u26,X,u28,Y,Z,vZ,u32,u33,wh,wm,wu,wz,wF,wG,wH,wI,wJ,wK,u44,wL,wM,wN,wO,wP,wQ,wR,wT,wU,wV,wW,wX,wY,wZ,w9,xd,xg,xh,xm,u64,xo,xq,xu,xw,xx,xy,xz,xA,xB,yG,yH,yI,yJ,yK,yL,yM,yN,yO,yP,yQ,yR,yS],defers:=[]} w:=by
 conv=>arg 2;whnf
 have F:=ah A;have G:=ah D;clear A D;have y:Hid (p.at_+1<C.s.size):=rA (by rw[j];decide);have g:Hid (C.X=(c++dJ 0 0 p)++(dJ 2 0 (cQ (cW 2 p false)<|bZ C.s<|p.at_+2)++cH C.s false (cM 0<|cQ (cW 2 p false)<|bZ C.s<|p.at_+2))):=by
  show _=_;rw[B,cH,aj f,ai<|by decide,ai<|by rw[i];decide,aj ⟨i,j⟩,dO]
 have t:=h.open O 2 (by omega) (by have:=y.out;omega) (λ_=>⟨_,g.out.symm⟩);clear h B f i j;go_wp2_with fail;refine t.mono ?_;rintro z W1 ⟨⟨v,rfl⟩,b,_,k⟩;have u:=k.aqY O;clear t k;go_wp2_with fail;refine u.mono ?_;rintro z W2 ⟨⟨v,rfl⟩,d⟩;rw[My]at d;have s:=d.cut O 2 0 (by omega) (by omega) (by have:=d.ok.e;omega) (λe=>by rw[e,ai<|by decide,g.out,<-dO];exact Sv _ _);clear u d;go_wp2_with fail;refine s.mono ?_;rintro z W3 ⟨⟨v,rfl⟩,r,x,o⟩;have E:=ah o;have H:=ah x;clear s o x;go_wp2;refine Je ?_;have q:p.at_<(iu 0 (cQ (cW 2 p false) (if b then p.at_+2 else bZ C.s (p.at_+2))) b).at_:=by
  rw[Kv];show _<(if b then p.at_+2 else bZ C.s (p.at_+2))+0;have:=FV C.s<|p.at_+2;split<;>omega
 have hx:r=false->C.X=((c++dJ 0 0 p)++dJ 2 0 (cQ (cW 2 p false) (if b then p.at_+2 else bZ C.s (p.at_+2))))++cH C.s false (iu 0 (cQ (cW 2 p false) (if b then p.at_+2 else bZ C.s (p.at_+2))) b):=λe=>by
  have:b=false:=by cases hs:b with
   |true=>rw[H.out hs]at e;cases e
   |false=>rfl
  subst this;rw[ai<|by decide,AW,dO];exact g.out
 exact F.out 3 (if r then 0 else 2*(C.s.size - (iu 0 (cQ (cW 2 p false) (if b then p.at_+2 else bZ C.s (p.at_+2))) b).at_)+3) _ _ (by have k:=G.out;have d:=q;have o:=y.out;split<;>omega) ⟨⟨_,_,_,_,_,_,_,_,_,_,_,_,_,_,_,_,_,_,_,_,_,_,_,_,_,_,_,_,_,_,_,_,_,_,_,_,_,_,_,_,_,_,_,_,_,_,_,_,_,_,_,_,_,_,_,_,_,_,_,_,_,_,_,_,_,_,_,_,_,_,_,_,_,_,_,_,_,_,_,_,_,_,_,_,_,_,rfl⟩,iu 0 (cQ (cW 2 p false) (if b then p.at_+2 else bZ C.s (p.at_+2))) b,r,_,E.out,.inl ⟨rfl,hx,rfl⟩⟩
def apz(C:RC)(O:oL C)(w:World)(p:RP)(A:List PR)(h:RW C w p false A)(hX:C.X=A++cH C.s false p)(f:p.at_<C.s.size)(S:bt C.s p.at_=47)(u:bt C.s (p.at_+1)=42)(n:Nat)(hn:n=2*(C.s.size - p.at_)+2)
  (K:Nat->Act->World->Prop) (hK:∀l m a w,m<n->LJ C l m a w->K l a w) (u0 u1 u2 u3 u5 u6 u7 u8 u9 uC vK vL vM vN vO u16 vP vQ vR vS vT vU u23 u24 vV u26 vW u28 vX vY vZ u32 u33 wh wm wu wz wF wG wH wI wJ wK u44 wL wM wN wO wP wQ wR wT wU wV wW wX wY wZ w9 xd xg xh xm u64 xo xq xu xw xx xy xz xA xB yG yH yI yJ yK yL yM yN yO yP yQ yR yS:Value):
  Code.wp prog (IV 2) (jumps K<|bodyPost prog Tryz.f107<|RE C) {tmps:=#[u0,u1,u2,u3,.pointer<|some ⟨C.rb,0,none⟩,u5,u6,u7,u8,u9,uC,vK,vL,vM,vN,vO,u16,vP,vQ,vR,vS,vT,vU,u23,u24,vV,u26,vW,u28,vX,vY,vZ,u32,u33,wh,wm,wu,wz,wF,wG,wH,wI,wJ,wK,u44,wL,wM,wN,wO,wP,wQ,wR,wT,wU,wV,wW,wX,wY,wZ,w9,xd,xg,xh,xm,u64,xo,xq,xu,xw,xx,xy,xz,xA,xB,yG,yH,yI,yJ,yK,yL,yM,yN,yO,yP,yQ,yR,yS],defers:=[]} w:=by
 conv=>arg 2;whnf
 have HK:=ah hK;have HN:=ah hn;clear hK hn;have dF:Hid (p.at_+1<C.s.size):=rA (by rw[u];decide);have Y:Hid (C.X=(A++dJ 0 0 p)++cH C.s true (cW 2 p false)):=by
  show _=_;rw[hX,cH,aj f,ai<|by decide,ai<|by rw[S];decide,ai (by rw[u];rintro⟨_,h⟩;exact absurd h<|by decide),aj ⟨S,u⟩,dO]
 have o:=h.open O 2 (by omega) (by have:=dF.out;omega) (λ_=>⟨_,Y.out.symm⟩);clear h hX f S u;go_wp2_with fail;refine o.mono ?_;rintro x W1 ⟨⟨v,rfl⟩,jX,_,E⟩;have H1:=ah E;clear o E;go_wp2;go_loopg [] (C.s.size - (cW 2 p false).at_) (λgh W=>∃b d c,gh=C.s.size - b.at_/\RW C W b d c/\(d=false->C.X=c++cH C.s true b)/\p.at_<b.at_);exact⟨cW 2 p false,jX,_,rfl,H1.out,λ_=>Y.out,by rw[My];omega⟩;obtain⟨b,d,c,rfl,F,N,I⟩:=hrel;have HW:=ah F;have X:=ah N;have M:=ah I;clear I;by_cases r:mH C.s b d=true
 .have o:=F.over O;rw[r]at o;have g:Hid (d=false->C.X=c++dJ 2 0 b):=λe=>by
   rw[N e,cH,ai]
   .rfl
   .subst e;simp[mH]at r;omega
  clear r F N;go_wp2_with fail;refine o.mono ?_;rintro x W2 ⟨rfl,q⟩;have k:=q.cut O 2 0 (by omega) (by omega) (by have:=q.ok.e;omega) (λe=>by rw[g.out e];exact ZR _);clear o q;go_wp2_with fail;refine k.mono ?_;rintro x Q ⟨⟨v,rfl⟩,ac,q,s⟩;have HF:Hid (RE C (.returned (.tuple #[])) Q):=s.end (λe=>by
   have:d=false:=by cases hs:d with
    |true=>rw[q hs]at e;cases e
    |false=>rfl
   exact g.out this) _
  clear k q s;go_wp2;go_end0;exact HF.out
 .have r:mH C.s b d=false:=by simpa using r
  have o:=F.over O;rw[r]at o;have U:d=false:=by simp[mH]at r;exact r.1
  have f:b.at_<C.s.size:=by have:=F.ok.e;simp[mH]at r;omega
  subst U;have i:=ah f;clear r F N;have V:Hid (C.X=c++cH C.s true b):=X.out rfl;clear X;go_wp2_with fail;refine o.mono ?_;rintro x W2 ⟨rfl,E⟩;have Z:=E.sign O f;clear o E f;go_wp2_with fail;refine Z.mono ?_;rintro x Q ⟨rfl,q⟩;obtain⟨t,y⟩:∃t,bt C.s b.at_=t:=⟨_,rfl⟩
  obtain⟨D,z⟩:∃D,bt C.s (b.at_+1)=D:=⟨_,rfl⟩
  have G:Hid (bt C.s b.at_=t/\bt C.s (b.at_+1)=D):=⟨y,z⟩
  rw[y,z];clear y z Z;have s:RW C (Q.alloc (.cells #[.int .u8 t,.int .u8 D] 246)) b false c:=q.al O _;obtain⟨⟨y1,y2⟩,⟨y3,y4⟩,y5,y6⟩:=(s.env O).cells;have L:=ah s;have c6:=s.rs.rd.c6;have f6:=s.rs.rd.fz 6;clear q s;by_cases B:t=42/\D=47
  .obtain⟨rfl,rfl⟩:=B;have g:Hid (C.X=(c++dJ 2 2 b)++cH C.s false (cM 2 b)):=by
    show _=_;rw[V.out,cH,aj i.out,aj rfl,aj G.out,dO]
   have Jt:Hid (b.at_+1<C.s.size):=rA (by rw[G.out.2];decide);have k:=L.out.cut O 2 2 (by omega) (by omega) (by have:=Jt.out;omega) (λ_=>⟨_,g.out.symm⟩);rw[AW]at k;clear c6 f6;go_wp2_with fail;refine k.mono ?_;rintro x W4 ⟨⟨v,rfl⟩,P,_,H⟩;have H4:=ah H;clear k H;go_wp2;refine Je ?_;have T:p.at_<(cM 2 b).at_:=(by rw[jQ];have:=M.out;omega);exact HK.out 3 (if P then 0 else 2*(C.s.size - (cM 2 b).at_)+3) _ _ (by have E:=HN.out;have q:=T;have s:=dF.out;split<;>omega) ⟨⟨_,_,_,_,_,_,_,_,_,_,_,_,_,_,_,_,_,_,_,_,_,_,_,_,_,_,_,_,_,_,_,_,_,_,_,_,_,_,_,_,_,_,_,_,_,_,_,_,_,_,_,_,_,_,_,_,_,_,_,_,_,_,_,_,_,_,_,_,_,_,_,_,_,_,_,_,_,_,_,_,_,_,_,_,_,_,rfl⟩,cM 2 b,P,_,H4.out,.inl ⟨rfl,λ_=>g.out,rfl⟩⟩
  .by_cases J:t=10
   .subst J;clear B;have g:Hid (C.X=(c++dJ 2 0 b)++cH C.s true (oO<|cM 0 b)):=by
     show _=_;rw[V.out,cH,aj i.out,aj rfl,ai (by rw[G.out.1];rintro⟨h,_⟩;exact absurd h<|by decide),aj G.out.1,dO]
    have k:=L.out.cut O 2 0 (by omega) (by omega) (by have:=i.out;omega) (λ_=>⟨_,g.out.symm⟩);rw[AW]at k;clear c6 f6;go_wp2_with fail;refine k.mono ?_;rintro x W4 ⟨⟨v,rfl⟩,P,_,H⟩;have pX:=H.feed O (by rw[jQ];have:=i.out;omega);clear k H;go_wp2_with fail;refine pX.mono ?_;rintro x W5 ⟨⟨v,rfl⟩,h5⟩;have H5:=ah h5;clear pX h5;go_wp2;have O5:(oO<|cM 0 b).at_=b.at_+1:=(by show(cM 0 b).at_+1=_;rw[jQ]);go_roundg (C.s.size - (b.at_+1));exact⟨_,P,_,by rw[O5],H5.out,λ_=>g.out,by rw[O5];have:=M.out;omega⟩;have:=i.out;omega
   .have Ep:=ae J;have g:Hid (C.X=c++cH C.s true (cQ b<|b.at_+1)):=by
     show _=_;obtain⟨u,e2⟩:=G.out;rw[V.out,cH,aj i.out,aj rfl,ai<|by rw[u,e2];exact B,ai<|by rw[u];exact J]
    have aa:(b.at_:Int)<=1000:=(by have:=i.out;have:=O.hz;omega);by_cases R:t=42
    .subst R;have r1:(D==47)=false:=(by simpa using B);clear B J;go_wp2;go_roundg (C.s.size - (b.at_+1));exact⟨_,false,_,rfl,L.out.step O (j:=b.at_+1) (by omega)<|by have:=i.out;omega,λ_=>g.out,by have:=M.out;show _<b.at_+1;omega⟩;have:=i.out;omega
    .have ab:=ae R;clear B J R;go_wp2;go_roundg (C.s.size - (b.at_+1));exact⟨_,false,_,rfl,L.out.step O (j:=b.at_+1) (by omega)<|by have:=i.out;omega,λ_=>g.out,by have:=M.out;show _<b.at_+1;omega⟩;have:=i.out;omega
def apB(C:RC)(O:oL C)(w:World)(p:RP)(c:List PR)(h:RW C w p false c)(hX:C.X=c++cH C.s false p)(d:p.at_<C.s.size)(e0:bt C.s p.at_=34)(n:Nat)(hn:n=2*(C.s.size - p.at_)+2)
  (K:Nat->Act->World->Prop) (hK:∀l m a w,m<n->LJ C l m a w->K l a w) (u0 u1 u2 u3 u5 u6 u7 u8 u9 uC vK vL vM vN vO u16 vP vQ vR vS vT vU u23 u24 vV u26 vW u28 vX vY vZ u32 u33 wh wm wu wz wF wG wH wI wJ wK u44 wL wM wN wO wP wQ wR wT wU wV wW wX wY wZ w9 xd xg xh xm u64 xo xq xu xw xx xy xz xA xB yG yH yI yJ yK yL yM yN yO yP yQ yR yS:Value):
  Code.wp prog (IV 0) (jumps K<|bodyPost prog Tryz.f107<|RE C) {tmps:=#[u0,u1,u2,u3,.pointer<|some ⟨C.rb,0,none⟩,u5,u6,u7,u8,u9,uC,vK,vL,vM,vN,vO,u16,vP,vQ,vR,vS,vT,vU,u23,u24,vV,u26,vW,u28,vX,vY,vZ,u32,u33,wh,wm,wu,wz,wF,wG,wH,wI,wJ,wK,u44,wL,wM,wN,wO,wP,wQ,wR,wT,wU,wV,wW,wX,wY,wZ,w9,xd,xg,xh,xm,u64,xo,xq,xu,xw,xx,xy,xz,xA,xB,yG,yH,yI,yJ,yK,yL,yM,yN,yO,yP,yQ,yR,yS],defers:=[]} w:=by
 conv=>arg 2;whnf
 have V:=ah hK;have X:=ah hn;clear hK hn;have dF:=ah d;have R:Hid (C.X=(c++dJ 0 0 p)++(dJ 1 (qT C.s<|p.at_+1) (cQ (cW 1 p false) (qR C.s<|p.at_+1).1)++cH C.s false (cM (qT C.s<|p.at_+1)<|cQ (cW 1 p false) (qR C.s<|p.at_+1).1))):=by
  show _=_;rw[hX,cH,aj d,ai<|by decide,aj e0,dO]
 have k:=h.open O 1 (by omega) (by omega) (λ_=>⟨_,R.out.symm⟩);clear h hX d e0;go_wp2_with fail;refine k.mono ?_;rintro G W1 ⟨⟨v,rfl⟩,g,_,r⟩;have H1:=ah r;clear k r;have HZ:=ah O.hz;obtain⟨Q,hQ⟩:∃Q,qR C.s (p.at_+1)=Q:=⟨_,rfl⟩
 have S:=ah hQ;clear hQ;go_wp2;go_loopg [] (C.s.size - (p.at_+1)) (λgh W=>∃a,gh=C.s.size - a/\RW C W (cQ (cW 1 p false) a) g (c++dJ 0 0 p)/\(g=false->qR C.s a=Q)/\p.at_<a);exact⟨p.at_+1,rfl,by have:=H1.out;rw[show cQ (cW 1 p false) (p.at_+1)=cW 1 p false by rw[<-My (p:=p) (st:=false)];rfl];exact this,λ_=>S.out,by omega⟩;obtain⟨a,rfl,D,N,H⟩:=hrel;have HW:=ah D;have Z:=ah N;have J:=ah H;have U:Hid (a<=C.s.size):=D.ok.e;clear H;by_cases q:yA C.s (cQ (cW 1 p false) a) g=true
 .have k:=D.aeb O;rw[q]at k;have fe:Hid (g=false->Q=(a,false)):=λe=>by
   rw[<-N e,qR,ai];subst e;rintro⟨r,f⟩;simp only[yA,mH,Gn,cQ]at q;rcases q with(b|b)|b
   .cases b
   .have:=Mw b;omega
   .exact f (Mw b)
  clear q D N;go_wp2_with fail;refine k.mono ?_;rintro G W2 ⟨rfl,f⟩;have F:Hid (g=false->C.X=(c++dJ 0 0 p)++(dJ 1 0 (cQ (cW 1 p false) a)++cH C.s false (cM 0<|cQ (cW 1 p false) a))):=λe=>by
   have:=R.out;rw[qT,S.out,fe.out e]at this;exact this
  have A:=f.cut O 1 0 (by omega) (by omega) (by have:=U.out;exact this) (λe=>by rw[F.out e,<-dO];exact Sv _ _);clear k f;go_wp2_with fail;refine A.mono ?_;rintro G T ⟨⟨v,rfl⟩,E,KL,b⟩;have z:=ah b;have QF:=ah KL;clear A b KL;go_wp2;refine Je ?_;have u:p.at_<(iu 0 (cQ (cW 1 p false) a) g).at_:=by
   rw[Kv];exact J.out
  have hx:E=false->C.X=((c++dJ 0 0 p)++dJ 1 0 (cQ (cW 1 p false) a))++cH C.s false (iu 0 (cQ (cW 1 p false) a) g):=λe=>by
   have:g=false:=by cases hs:g with
    |true=>rw[QF.out hs]at e;cases e
    |false=>rfl
   subst this;rw[AW,dO];exact F.out rfl
  exact V.out 3 (if E then 0 else 2*(C.s.size - (iu 0 (cQ (cW 1 p false) a) g).at_)+3) _ _ (by have r:=X.out;have f:=u;have b:=dF.out;split<;>omega) ⟨⟨_,_,_,_,_,_,_,_,_,_,_,_,_,_,_,_,_,_,_,_,_,_,_,_,_,_,_,_,_,_,_,_,_,_,_,_,_,_,_,_,_,_,_,_,_,_,_,_,_,_,_,_,_,_,_,_,_,_,_,_,_,_,_,_,_,_,_,_,_,_,_,_,_,_,_,_,_,_,_,_,_,_,_,_,_,_,rfl⟩,iu 0 (cQ (cW 1 p false) a) g,E,_,z.out,.inl ⟨rfl,hx,rfl⟩⟩
 .have q:yA C.s (cQ (cW 1 p false) a) g=false:=by simpa using q
  have k:=D.aeb O;rw[q]at k;simp only[yA,mH,Gm,Cm]at q;obtain⟨⟨rfl,f⟩,b⟩:=q;have d:a<C.s.size:=by have:=U.out;have f:¬a=C.s.size:=f;omega
  have b:bt C.s a≠10:=b;have i:Hid (a<C.s.size/\bt C.s a≠10):=⟨d,b⟩
  have P:Hid (qR C.s a=Q):=Z.out rfl;clear f b D N Z;go_wp2_with fail;refine k.mono ?_;rintro G W2 ⟨rfl,r⟩;have Y:=r.sign O d;clear k r d;go_wp2_with fail;refine Y.mono ?_;rintro G T ⟨rfl,f⟩;obtain⟨t,x⟩:∃t,bt C.s (cQ (cW 1 p false) a).at_=t:=⟨_,rfl⟩
  obtain⟨B,y⟩:∃B,bt C.s ((cQ (cW 1 p false) a).at_+1)=B:=⟨_,rfl⟩
  have o:Hid (bt C.s a=t/\bt C.s (a+1)=B):=⟨x,y⟩
  rw[x,y];clear x y Y;have b:RW C (T.alloc (.cells #[.int .u8 t,.int .u8 B] 246)) (cQ (cW 1 p false) a) false (c++dJ 0 0 p):=f.al O _;have z:=ah b;have c6:(T.alloc (.cells #[.int .u8 t,.int .u8 B] 246)).cell? ⟨C.rb,6,none⟩=some (.int .i64 a):=b.rs.rd.c6;have f6:=b.rs.rd.fz 6;clear f b;have aa:(a:Int)<=1000:=by have:=i.out.1;have:=HZ.out;omega
  by_cases L:t=34
  .subst L;have s:Hid (Q=(a,true)):=(by show _=_;rw[<-P.out,qR,aj i.out,aj o.out.1]);have F:Hid (C.X=(c++dJ 0 0 p)++(dJ 1 1 (cQ (cW 1 p false) a)++cH C.s false (cM 1<|cQ (cW 1 p false) a))):=by
    have:=R.out;rw[qT,S.out,s.out]at this;exact this
   have A:=z.out.cut O 1 1 (by omega) (by omega) (by have:=i.out.1;show a+1<=_;omega) (λ_=>by rw[F.out,<-dO];exact Sv _ _);rw[AW]at A;clear c6 f6;go_wp2_with fail;refine A.mono ?_;rintro G W4 ⟨⟨v,rfl⟩,E,_,h4⟩;have H4:=ah h4;clear A h4;go_wp2;refine Je ?_;have u:p.at_<(cM 1<|cQ (cW 1 p false) a).at_:=(by rw[jQ];have:=J.out;show _<a+1;omega);exact V.out 3 (if E then 0 else 2*(C.s.size - (cM 1<|cQ (cW 1 p false) a).at_)+3) _ _ (by have r:=X.out;have f:=u;have b:=dF.out;split<;>omega) ⟨⟨_,_,_,_,_,_,_,_,_,_,_,_,_,_,_,_,_,_,_,_,_,_,_,_,_,_,_,_,_,_,_,_,_,_,_,_,_,_,_,_,_,_,_,_,_,_,_,_,_,_,_,_,_,_,_,_,_,_,_,_,_,_,_,_,_,_,_,_,_,_,_,_,_,_,_,_,_,_,_,_,_,_,_,_,_,_,rfl⟩,cM 1<|cQ (cW 1 p false) a,E,_,H4.out,.inl ⟨rfl,λ_=>by rw[dO];exact F.out,rfl⟩⟩
  .have CV:=ae L;by_cases M:t=92
   .subst M;clear L CV;by_cases I:B=10
    .subst I;have s:Hid (qR C.s (a+1)=Q):=(by show _=_;rw[<-P.out];conv=>rhs;rw[qR,aj i.out,ai<|by rw[o.out.1];decide,ai<|by rw[o.out.2];rintro⟨_,h⟩;exact h rfl]);go_wp2;go_roundg (C.s.size - (a+1));exact⟨a+1,rfl,z.out.step O (j:=a+1) (by show a<=_;omega)<|by have:=i.out.1;omega,λ_=>s.out,by have:=J.out;omega⟩;have:=i.out.1;omega
    .have Ep:=ae I;have s:Hid (qR C.s (a+2)=Q):=(by show _=_;rw[<-P.out];conv=>rhs;rw[qR,aj i.out,ai<|by rw[o.out.1];decide,aj<|by rw[o.out.1,o.out.2];exact⟨rfl,I⟩]);have EM:Hid (a+1<C.s.size):=rA (by rw[o.out.2];exact I);clear I;go_wp2;go_roundg (C.s.size - (a+2));exact⟨a+2,rfl,z.out.step O (j:=a+2) (by show a<=_;omega)<|by have:=EM.out;omega,λ_=>s.out,by have:=J.out;omega⟩;have:=i.out.1;omega
   .have ab:=ae M;have s:Hid (qR C.s (a+1)=Q):=(by show _=_;rw[<-P.out];conv=>rhs;rw[qR,aj i.out,ai<|by rw[o.out.1];exact L,ai<|by rw[o.out.1];rintro⟨h,_⟩;exact M h]);clear L M;go_wp2;go_roundg (C.s.size - (a+1));exact⟨a+1,rfl,z.out.step O (j:=a+1) (by show a<=_;omega)<|by have:=i.out.1;omega,λ_=>s.out,by have:=J.out;omega⟩;have:=i.out.1;omega
@[go_sem] theorem atX (P:Program) (w:World) (a:Addr) (l:Nat) (m:Mode):(store a (.func (.yield l) #[] #[]) m).run P w=stored P w a (.func (.yield l) #[] #[]) m:=run_store P w a _ m rfl
def Ac:RP:=⟨0,0,0,0,0⟩
def afu(C:RC)(O:oL C)(c n:Nat)(a:Act)(w:World)(h:LJ C c n a w):findLabel aft c=some (.seq .skip<|IV c)/\Code.wp prog (IV c) (jumps (λs r u=>∃m,m<n/\LJ C s m r u)<|bodyPost prog Tryz.f107<|RE C) a w:=by
 obtain⟨b,p,t,d,k,q⟩:=h;obtain⟨u0,b⟩:=b;obtain⟨u1,b⟩:=b;obtain⟨u2,b⟩:=b;obtain⟨u3,b⟩:=b;obtain⟨u5,b⟩:=b;obtain⟨u6,b⟩:=b;obtain⟨u7,b⟩:=b;obtain⟨u8,b⟩:=b;obtain⟨u9,b⟩:=b;obtain⟨v,b⟩:=b;obtain⟨x,b⟩:=b;obtain⟨y,b⟩:=b;obtain⟨z,b⟩:=b;obtain⟨A,b⟩:=b;obtain⟨B,b⟩:=b;obtain⟨u16,b⟩:=b;obtain⟨D,b⟩:=b;obtain⟨E,b⟩:=b;obtain⟨F,b⟩:=b;obtain⟨G,b⟩:=b;obtain⟨H,b⟩:=b;obtain⟨I,b⟩:=b;obtain⟨u23,b⟩:=b;obtain⟨u24,b⟩:=b;obtain⟨J,b⟩:=b;obtain⟨u26,b⟩:=b;obtain⟨K,b⟩:=b;obtain⟨u28,b⟩:=b;obtain⟨L,b⟩:=b;obtain⟨M,b⟩:=b;obtain⟨N,b⟩:=b;obtain⟨u32,b⟩:=b;obtain⟨u33,b⟩:=b;obtain⟨wh,b⟩:=b;obtain⟨wm,b⟩:=b;obtain⟨wu,b⟩:=b;obtain⟨wz,b⟩:=b;obtain⟨Q,b⟩:=b;obtain⟨R,b⟩:=b;obtain⟨S,b⟩:=b;obtain⟨T,b⟩:=b;obtain⟨U,b⟩:=b;obtain⟨V,b⟩:=b;obtain⟨u44,b⟩:=b;obtain⟨W,b⟩:=b;obtain⟨X,b⟩:=b;obtain⟨Y,b⟩:=b;obtain⟨Z,b⟩:=b;obtain⟨wP,b⟩:=b;obtain⟨wQ,b⟩:=b;obtain⟨wR,b⟩:=b;obtain⟨wT,b⟩:=b;obtain⟨wU,b⟩:=b;obtain⟨wV,b⟩:=b;obtain⟨wW,b⟩:=b;obtain⟨wX,b⟩:=b;obtain⟨wY,b⟩:=b;obtain⟨wZ,b⟩:=b;obtain⟨P,b⟩:=b;obtain⟨xd,b⟩:=b;obtain⟨xg,b⟩:=b;obtain⟨xh,b⟩:=b;obtain⟨xm,b⟩:=b;obtain⟨u64,b⟩:=b;obtain⟨xo,b⟩:=b;obtain⟨xq,b⟩:=b;obtain⟨xu,b⟩:=b;obtain⟨xw,b⟩:=b;obtain⟨xx,b⟩:=b;obtain⟨xy,b⟩:=b;obtain⟨xz,b⟩:=b;obtain⟨xA,b⟩:=b;obtain⟨xB,b⟩:=b;obtain⟨yG,b⟩:=b;obtain⟨yH,b⟩:=b;obtain⟨yI,b⟩:=b;obtain⟨yJ,b⟩:=b;obtain⟨yK,b⟩:=b;obtain⟨yL,b⟩:=b;obtain⟨yM,b⟩:=b;obtain⟨yN,b⟩:=b;obtain⟨yO,b⟩:=b;obtain⟨yP,b⟩:=b;obtain⟨yQ,b⟩:=b;obtain⟨yR,b⟩:=b;obtain⟨yS,b⟩:=b;subst b;rcases q with⟨rfl,i,j⟩|⟨rfl,i,e,j,⟨rfl,g⟩|⟨rfl,g,o⟩|⟨rfl,g,o⟩⟩
 .exact⟨rfl,apA C O w p t d k i n j _ (λl m a w f h=>⟨m,f,h⟩) _ _ _ _ _ _ _ _ _ _ _ _ _ _ _ _ _ _ _ _ _ _ _ _ _ _ _ _ _ _ _ _ _ _ _ _ _ _ _ _ _ _ _ _ _ _ _ _ _ _ _ _ _ _ _ _ _ _ _ _ _ _ _ _ _ _ _ _ _ _ _ _ _ _ _ _ _ _ _ _ _ _ _ _ _ _⟩
 .exact⟨rfl,apB C O w p d k i e g n j _ (λl m a w f h=>⟨m,f,h⟩) _ _ _ _ _ _ _ _ _ _ _ _ _ _ _ _ _ _ _ _ _ _ _ _ _ _ _ _ _ _ _ _ _ _ _ _ _ _ _ _ _ _ _ _ _ _ _ _ _ _ _ _ _ _ _ _ _ _ _ _ _ _ _ _ _ _ _ _ _ _ _ _ _ _ _ _ _ _ _ _ _ _ _ _ _ _⟩
 .exact⟨rfl,apC C O w p d k i e g o n j _ (λl m a w f h=>⟨m,f,h⟩) _ _ _ _ _ _ _ _ _ _ _ _ _ _ _ _ _ _ _ _ _ _ _ _ _ _ _ _ _ _ _ _ _ _ _ _ _ _ _ _ _ _ _ _ _ _ _ _ _ _ _ _ _ _ _ _ _ _ _ _ _ _ _ _ _ _ _ _ _ _ _ _ _ _ _ _ _ _ _ _ _ _ _ _ _ _⟩
 .exact⟨rfl,apz C O w p d k i e g o n j _ (λl m a w f h=>⟨m,f,h⟩) _ _ _ _ _ _ _ _ _ _ _ _ _ _ _ _ _ _ _ _ _ _ _ _ _ _ _ _ _ _ _ _ _ _ _ _ _ _ _ _ _ _ _ _ _ _ _ _ _ _ _ _ _ _ _ _ _ _ _ _ _ _ _ _ _ _ _ _ _ _ _ _ _ _ _ _ _ _ _ _ _ _ _ _ _ _⟩
def apy(w:World)(s:ByteArray)(l b:Nat)(J j:List PR->World->Prop)(T:Tl l b J j<|cH s false Ac)(p:b<=w.heap.size)(g:10<=b)(u:s.size<=1000)(f:mR w)(r:J [] w):
  Calls prog 107 #[.string s,.func (.yield l) #[] #[]] w λe d=>(∃v,e= .returned v)/\Below b w d/\(J (cH s false Ac) d∨∃c,c<+:cH s false Ac/\j c d):=by
 obtain⟨C,m⟩:∃C:RC,C=⟨w,w.heap.size,s,l,b,J,j,cH s false Ac⟩:=⟨_,rfl⟩
 have O:oL C:=by subst m;exact⟨T,p,g,u,f⟩
 have q:Hid (RE C=λe d=>(∃v,e= .returned v)/\Below b w d/\(J (cH s false Ac) d∨∃c,c<+:cH s false Ac/\j c d)):=by subst m;rfl
 have x:LJ C 3 (2*s.size+3) ⟨#[.string s,.func (.yield l) #[] #[],undef,undef,.pointer<|some ⟨w.heap.size,0,none⟩,undef,undef,undef,.string s,.func (.yield l) #[] #[],.agg #[.string s,.func (.yield l) #[] #[],.int .i64 0,.int .i64 0,.int .i64 0,.int .i64 0,.int .i64 0,.bool false],undef,undef,undef,undef,undef,undef,undef,undef,undef,undef,undef,undef,undef,undef,undef,undef,undef,undef,undef,undef,undef,undef,undef,undef,undef,undef,undef,undef,undef,undef,undef,undef,undef,undef,undef,undef,undef,undef,undef,undef,undef,undef,undef,undef,undef,undef,undef,undef,undef,undef,undef,undef,undef,undef,undef,undef,undef,undef,undef,undef,undef,undef,undef,undef,undef,undef,undef,undef,undef,undef,undef,undef,undef,undef,undef,undef],[]⟩ (w.alloc (.cells #[.string s,.func (.yield l) #[] #[],.int .i64 0,.int .i64 0,.int .i64 0,.int .i64 0,.int .i64 0,.bool false] 244)):=by
  subst m;refine⟨⟨_,_,_,_,_,_,_,_,_,_,_,_,_,_,_,_,_,_,_,_,_,_,_,_,_,_,_,_,_,_,_,_,_,_,_,_,_,_,_,_,_,_,_,_,_,_,_,_,_,_,_,_,_,_,_,_,_,_,_,_,_,_,_,_,_,_,_,_,_,_,_,_,_,_,_,_,_,_,_,_,_,_,_,_,_,_,rfl⟩,Ac,false,[],⟨⟨World.alloc_heap_new w _,λ_=>T.hJ _ _ _ r ⟨rfl,rfl,rfl,by simp,λk o t _=>(dw w _ k (bS t)).trans t⟩,(λe=>by cases e)⟩,⟨au _,au _,au _,mQ _,mQ _,au _⟩,(aA _ _).alloc p _⟩,.inl ⟨rfl,λ_=>rfl,by simp[Ac]⟩⟩
 rw[<-q.out];clear T p g u f r m q;go_enter func107,ntmps107;refine asw 3 (LJ C) ?_ rfl (λi n a w h=>⟨_,(afu C O i n a w h).1,(afu C O i n a w h).2⟩);go_wp2;exact⟨_,x⟩
def Z5 {h:Type}(d:Nat)(P:Program)(m:Nat)(n:Array Value)(c:h->Array Value)(j i:World->World->Prop)(X:List h)(k:World):Prop:=
 ∀(l:Nat)(J f:List h->World->Prop)(W:World),Below k.heap.size k W->(∀a A B,J a A->i A B->J a B)->(∀a A B,f a A->i A B->f a B)->
  (∀a x g,J a g->(a++[x])<+:X->YieldAt Fence.wide 0 P l (c x) g λe b=>(e= .returned (.bool true)/\J (a++[x]) b/\j g b)∨(e= .returned (.bool false)/\f (a++[x]) b/\j g b))->
  J [] W->Calls P m (#[.func (.yield l) #[] #[]]++n) W λe b=>(∃v,e= .returned v)/\Below d W b/\(J X b∨∃a,a<+:X/\f a b)
theorem afs {α:Type}{P:Program}{g:Operand}{ps:Array Tmp}{assign body:Code}{Q:Exit->Act->World->Prop}{a:Act}{w:World}{gf:Nat}{lb:Array Value}(hg:a.eval g= .func (.func gf) #[] lb)(eg:∀args w,(callFunc gf args).run P w= .ok (.enter gf args) w)
  {encs:α->Array Value} {Kp Ab:World->World->Prop} {X:List α} {n₀:Nat} (hn0:n₀<=w.heap.size) (hseq:Z5 n₀ P gf lb encs Kp Ab X w) (hps:∀x,(encs x).size=ps.size)
  (hKt:∀{A B C:World},Kp A B->Kp B C->Kp A C) (hKp:∀(W:World)(l:Nat)(o o':Obj),w.heap.size<=l->W.heap[l]? =some o->o.isCells=false->Kp W (W.putObj l o')) (OP:∀A B,Ab A B->Same A B)
  (I:List α->World->Prop) (Ix:Code->List α->World->Prop) (hI:∀pre A B,I pre A->Ab A B->I pre B) (hIx:∀c pre A B,Ix c pre A->Ab A B->Ix c pre B)
  (hIp:∀pre (W:World)(l:Nat)(o o':Obj),w.heap.size<=l->W.heap[l]? =some o->o.isCells=false->I pre W->I pre (W.putObj l o'))
  (OU:∀c pre (W:World)(l:Nat)(o o':Obj),w.heap.size<=l->W.heap[l]? =some o->o.isCells=false->Ix c pre W->Ix c pre (W.putObj l o'))
  (h0:∀o1 o2,I [] ((w.alloc o1).alloc o2))
  (ame:∀(l:Nat)(pre:List α)(x:α)(W:World),w.heap.size<=l->I pre W->(pre++[x])<+:X->
   assign.wpIn (Fence.wide.inRound l) 0 P (Exit.then (fun a₁ W₁=>Same W W₁/\Kp W W₁/\∀o o',W₁.heap[l]? =some o->o.isCells=false->body.wpIn (Fence.wide.inRound l) 0 P (apg Kp I Ix (pre++[x]) (W₁.putObj l o')) a₁ (W₁.putObj l o')) (fun _ _ _=>False))
    {tmps:=(ps.zip (encs x)).foldl (fun t (p,v)=>t.setIfInBounds p v) a.tmps,defers:=[]} W)
  (hdone:∀(D:Nat)(W:World),w.heap.size<=D->Below n₀ w W->I X W->W.heap[D]? =some (.deferred (some []))->Q .normal {a with defers:={target:= .collected D,args:=#[]}::a.defers} W)
  (hstop:∀(D:Nat)(c:Code)(pre:List α)(W:World),w.heap.size<=D->Below n₀ w W->pre<+:X->Ix c pre W->W.heap[D]? =some (.deferred (some []))->c.wp P Q {a with defers:={target:= .collected D,args:=#[]}::a.defers} W):
  (Code.rangeFunc g ps assign body).wp P Q a w:=by
 refine(Qz (n:=0)).1 (wpIn_rangeFunc fun fn _=> ?_)
 -- the record of the loop,as it is ready,busy,done
 let rc:LoopState->Option Code->Loop:=fun st pe=>{state:=st,pending:=pe,fn,tmps:=a.tmps,params:=ps,assign,body,defers:=w.heap.size}
 have hz1:(w.alloc (.deferred (some []))).heap.size=w.heap.size+1:=by simp
 generalize hW1:(w.alloc (.deferred (some []))).alloc (.loop (rc .ready none))=W1;have hl1:W1.heap[w.heap.size+1]? =some (.loop (rc .ready none)):=by
  rw[<-hW1,<-hz1];exact World.alloc_heap_new _ _
 have hd1:W1.heap[w.heap.size]? =some (.deferred (some [])):=by
  rw[<-hW1];exact(dw _ _ _ (by simp)).trans (World.alloc_heap_new w _)
 refine⟨w.heap.size+1,[{target:= .collected w.heap.size,args:=#[]}],W1,{target:= .fn (.func gf) lb,args:=#[.func (.yield (w.heap.size+1)) #[] #[]]},W1,gf,#[.func (.yield (w.heap.size+1)) #[] #[]]++lb,W1,?_,?_,fun _ _=>trivial,?_,(fun h=>by cases h),?_⟩
 .rw[<-hW1];exact run_enterLoop_outer fn a.tmps ps assign body
 .simp only[resolve,hg];simp[go_sem]
 .simp[invoke,go_sem,eg]
 .refine Kr.2 ?_;refine(hseq (w.heap.size+1)
   (fun pre W=>I pre W/\W.heap[w.heap.size+1]? =some (.loop (rc .ready none))/\W.heap[w.heap.size]? =some (.deferred (some [])))
   (fun pre W=>∃c,Ix c pre W/\W.heap[w.heap.size+1]? =some (.loop (rc .done (some c)))/\W.heap[w.heap.size]? =some (.deferred (some []))) W1
   (by rw[<-hW1];exact((aA _ _).alloc (au _) _).alloc (by simp) _)
   (fun pre A B ⟨h1,h2,h3⟩ hab=>⟨hI pre A B h1 hab,OP A B hab _ _ h2 rfl,OP A B hab _ _ h3 rfl⟩)
   (fun pre A B ⟨c,h1,h2,h3⟩ hab=>⟨c,hIx c pre A B h1 hab,OP A B hab _ _ h2 rfl,OP A B hab _ _ h3 rfl⟩) ?_
   ⟨by rw[<-hW1];exact h0 _ _,hl1,hd1⟩).mono ?_
  .rintro pre x W ⟨hi,hl,hd⟩ hx;refine⟨fn,_,assign,body,run_yield hl (hps x),roundIn_of_wpIn trivial (wpIn_mono (ame (w.heap.size+1) pre x W (by omega) hi hx) ?_)⟩;intro e a₁ W₁ hK;cases e with
   |normal=>
    obtain⟨hs,hk,hb⟩:=hK;have hl':=hs _ _ hl rfl;have hd':=hs _ _ hd rfl;refine⟨_,run_beginRound hl' rfl,wpIn_mono (hb _ (.loop (rc .busy none)) hl' rfl) ?_⟩;have hk2:Kp W (W₁.putObj (w.heap.size+1) (.loop (rc .busy none))):=hKt hk (hKp W₁ _ _ _ (by omega) hl' rfl);have hl2:(W₁.putObj (w.heap.size+1) (.loop (rc .busy none))).heap[w.heap.size+1]? =some (.loop (rc .busy none)):=World.putObj_heap_same (M3.1 hl').1;have hd2:(W₁.putObj (w.heap.size+1) (.loop (rc .busy none))).heap[w.heap.size]? =some (.deferred (some [])):=(jy (by omega)).trans hd';intro e2 a2 W2 hq
    -- behind the body,whatever the jump
    have fin:∀jump:Option Code,Same (W₁.putObj (w.heap.size+1) (.loop (rc .busy none))) W2->Kp (W₁.putObj (w.heap.size+1) (.loop (rc .busy none))) W2->∃W3,W3=W2.putObj (w.heap.size+1) (.loop (rc (if jump.isNone then .ready else .done) jump))/\(Instr.endRound (w.heap.size+1) jump).run P W2= .ok (.bool jump.isNone) W3/\W2.heap[w.heap.size+1]? =some (.loop (rc .busy none))/\W3.heap[w.heap.size+1]? =some (.loop (rc (if jump.isNone then .ready else .done) jump))/\W3.heap[w.heap.size]? =some (.deferred (some []))/\Kp W W3:=fun jump h1 h2=>by
     have hb2:=h1 _ _ hl2 rfl;exact⟨_,rfl,run_endRound jump hb2,hb2,World.putObj_heap_same (M3.1 hb2).1,(jy (by omega)).trans (h1 _ _ hd2 rfl),hKt (hKt hk2 h2) (hKp W2 _ _ _ (by omega) hb2 rfl)⟩
    cases e2 with
    |normal=>
     obtain⟨q1,q2,q3⟩:=hq;obtain⟨W3,rfl,f1,f2,f3,f4,f5⟩:=fin none q1 q2;exact⟨_,_,f1,.inl ⟨rfl,⟨hIp _ _ _ _ _ (by omega) f2 rfl q3,f3,f4⟩,f5⟩⟩
    |ret=>
     obtain⟨q1,q2,q3⟩:=hq;obtain⟨W3,rfl,f1,f2,f3,f4,f5⟩:=fin (some .ret) q1 q2;exact⟨_,_,f1,.inr ⟨rfl,⟨_,OU _ _ _ _ _ _ (by omega) f2 rfl q3,f3,f4⟩,f5⟩⟩
    |exit id=>
     obtain⟨q1,q2,q3⟩:=hq;obtain⟨W3,rfl,f1,f2,f3,f4,f5⟩:=fin (some (.exit id)) q1 q2;exact⟨_,_,f1,.inr ⟨rfl,⟨_,OU _ _ _ _ _ _ (by omega) f2 rfl q3,f3,f4⟩,f5⟩⟩
    |goto t=>
     obtain⟨q1,q2,q3⟩:=hq;obtain⟨W3,rfl,f1,f2,f3,f4,f5⟩:=fin (some (.goto t)) q1 q2;exact⟨_,_,f1,.inr ⟨rfl,⟨_,OU _ _ _ _ _ _ (by omega) f2 rfl q3,f3,f4⟩,f5⟩⟩
    |panic ch=>exact hq.elim
    |outgrown=>exact hq.elim
   |ret=>exact hK.elim
   |exit id=>exact hK.elim
   |goto t=>exact hK.elim
   |panic ch=>exact hK.elim
   |outgrown=>exact hK.elim
  .have hb1:Below n₀ w W1:=by rw[<-hW1];exact((aA _ _).alloc hn0 _).alloc (by simp;omega) _
   have sS:∀(W:World)(o':Obj),Below n₀ w W->Below n₀ w (W.putObj (w.heap.size+1) o'):=fun W o' h=>h.trans ⟨rfl,rfl,rfl,by simp[World.putObj],fun k hk=>jy (by omega)⟩
   rintro e W2 ⟨⟨v,rfl⟩,hbl,⟨hi,hl,hd⟩|⟨pre,hp,c,hi,hl,hd⟩⟩
   .exact⟨none,_,run_endLoop hl (by simp[rc]),hdone _ _ (au _) (sS _ _ (hb1.trans hbl)) (hIp _ _ _ _ _ (by omega) hl rfl hi) ((jy (by omega)).trans hd)⟩
   .exact⟨some c,_,run_endLoop hl (by simp[rc]),(Qz (n:=0)).2 (hstop _ c pre _ (au _) (sS _ _ (hb1.trans hbl)) hp (OU _ _ _ _ _ _ (by omega) hl rfl hi) ((jy (by omega)).trans hd))⟩
def akC {P:Program}(w:World)(d:Nat)(t:TypeId)(x y:Array TypeId)(b:Bool)(f:Fn)(v:Array Value)(h:P.underlying t=some (.func x y b)):(Op.equalIn (d+1) t (.func f #[] v) .nilFunc).run P w= .ok false w:=by
 simp[Op.equalIn,Bv h]
def Tryz.anV(l:Nat)(w:World):(binOp .neq 171 (.func (.yield l) #[] #[]) .nilFunc).run prog w= .ok (.bool true) w:=by
 have e:(Op.equalIn 10000 171 (.func (.yield l) #[] #[]) .nilFunc).run prog w= .ok false w:=akC w 9999 _ _ _ _ _ #[] underlying171;simp only[binOp];simp[Op.equal,Op.maxDepth,e]
def fD(s:ByteArray):List PR:=if s.size<=600 then cH s false Ac else []
def Tt(i:World)(a g:Nat)(s:ByteArray)(A:i.cell? ⟨g,0,none⟩=some (.string s))(m:mR i)(c:10<=a)(f:a<=i.heap.size):
  Z5 a prog 106 #[.pointer<|some ⟨g,0,none⟩] Ow (zh a) kK (fD s) i:=by
 intro l J z W d n j o h;have B:W.cell? ⟨g,0,none⟩=some (.string s):=eu d A;have k:mR W:=m.below c<|d.mono f;show Calls prog 106 #[.func (.yield l) #[] #[],.pointer<|some ⟨g,0,none⟩] W _;by_cases t:s.size<=600
 .have p:(s.size:Int)<=600:=by omega
  have b:fD s=cH s false Ac:=aj t;have C:=λw=>Tryz.anV l w
  have q:=apy W s l a J z ⟨n,j,by rw[<-b];exact o⟩ (bP f d.size) c (by omega) k h;rw[<-b]at q;clear n j o h k d b;go_enter func106,ntmps106;go_wp2_with fail;refine q.mono ?_;rintro E D ⟨⟨v,rfl⟩,e,r⟩;have y:=ah e;have x:=ah r;clear r e;go_wp2;go_end0;exact⟨⟨_,rfl⟩,y.out,x.out⟩
 .have p:¬(s.size:Int)<=600:=by omega
  have b:fD s=[]:=ai t;rw[b];have u:=ah h;clear n j o k d b h;go_enter func106,ntmps106;go_wp2;go_end0;exact⟨⟨_,rfl⟩,aA _ _,.inl u.out⟩
def Il(w:World)(s:ByteArray):Calls prog 63 #[.string s] w λe a=>e= .returned (.func (.func 106) #[] #[.pointer<|some ⟨w.heap.size,0,none⟩])/\a=w.alloc (.cells #[.string s] 9):=by
 go_enter func63,ntmps63;go_wp2;go_ret;exact⟨rfl,rfl⟩
section
attribute [local go_sem] Oper.semAt_some
def anv(l:List PR):List Value:=l.map λx=> .int .i64 x.line
def tq(x:PR):List Value:=[.int .i64 x.kind,.int .i64 x.from_,.int .i64 x.dH,.int .i64 x.body,.int .i64 x.end_]
def rN(l:List PR):List Value:=l.flatMap tq
def aoS(l:List PR)(x:PR):rN (l++[x])=rN l++tq x:=by simp[rN]
def P8 {w f:World}{a:Nat}{e:TypeId}{size:Nat}{v:Value}{n:Nat}{i:List Value}(h:w.ownsRow a e size v n i)(p:kK w f)(q:e≠244):f.ownsRow a e size v n i:=by
 refine⟨h.1,?_⟩;rcases h.2 with h|⟨g,b,d,rfl,l,m,o⟩
 .exact .inl h
 .exact .inr ⟨g,b,d,rfl,l,p.block g _ m (λc r k=>by injection k with _ j _;exact absurd j q),o⟩
def IM {w:World}{a:Nat}{e:TypeId}{size:Nat}{v:Value}{n:Nat}{f:List Value}(h:w.ownsRow a e size v n f){l:Nat}{o:Obj}(m:w.heap[l]? =some o)(k:o.isCells=false)(p:Obj):(w.putObj l p).ownsRow a e size v n f:=by
 refine⟨h.1,?_⟩;rcases h.2 with h|⟨g,b,c,rfl,i,d,j⟩
 .exact .inl h
 .refine .inr ⟨g,b,c,rfl,i,?_,j⟩;rw[jy]
  .exact d
  .rintro rfl;rw[m]at d;obtain rfl:=aJ d;cases k
def N1 {B:Nat}{w W:World}(h:Below B w W){l:Nat}(c:B<=l)(a:Obj):Below B w (W.putObj l a):=
 h.trans ⟨rfl,rfl,rfl,by simp[World.putObj],λk b=>jy<|by omega⟩
structure PI(w:World)(n:Int)(pre:List PR)(W:World):Prop where
 bn:W.heap[w.heap.size]? =some (.cells #[.int .i64 n] 3 (0,0))
 rows:∃lv pv,W.heap[w.heap.size+1]? =some (.cells #[lv] 31 (0,0))/\W.heap[w.heap.size+2]? =some (.cells #[pv] 71 (0,0))/\W.ownsRow (w.heap.size+4) 3 1 lv pre.length (anv pre)/\W.ownsRow (w.heap.size+4) 75 5 pv pre.length (rN pre)
 sz:w.heap.size+4<=W.heap.size
def PI.ry {w:World}{n:Int}{b:List PR}{A B:World}(h:PI w n b A)(a:kK A B):PI w n b B:=by
 obtain⟨k,l,f,g,i,j⟩:=h.rows;exact⟨a.block _ _ h.bn (λc d e=>by cases e),⟨k,l,a.block _ _ f (λc d e=>by cases e),a.block _ _ g (λc d e=>by cases e),P8 i a<|by decide,P8 j a<|by decide⟩,bP h.sz a.size⟩
def PI.put {w:World}{n:Int}{a:List PR}{W:World}(h:PI w n a W){l:Nat}{o:Obj}(m:w.heap.size+4<=l)(d:W.heap[l]? =some o)(c:o.isCells=false)(b:Obj):PI w n a (W.putObj l b):=by
 obtain⟨j,k,e,f,g,i⟩:=h.rows;exact⟨(jy<|by omega).trans h.bn,⟨j,k,(jy<|by omega).trans e,(jy<|by omega).trans f,IM g d c b,IM i d c b⟩,by simp[World.putObj];exact h.sz⟩
def PZ(t:TypeId):Prop:=t=3∨t=31∨t=75∨t=71
structure Kb(B:Nat)(A C:World):Prop where
 below:Below B A C
 keep:∀(k:Nat)(o:Obj),A.heap[k]? =some o->(∀c t fr,o=Obj.cells c t fr->¬PZ t)->C.heap[k]? =some o
def Kb.refl(B:Nat)(A:World):Kb B A A:=⟨aA _ _,λ_ _ h _=>h⟩
def Kb.trans {B:Nat}{A C D:World}(h:Kb B A C)(k:Kb B C D):Kb B A D:=⟨h.below.trans k.below,λi o b a=>k.keep i o (h.keep i o b a) a⟩
def Kb.al {B:Nat}{A C:World}(h:Kb B A C)(b:B<=C.heap.size)(o:Obj):Kb B A (C.alloc o):=h.trans ⟨(aA _ _).alloc b o,λk _ a _=>(dw C o k<|bS a).trans a⟩
def Kb.grown {B:Nat}{A C D:World}{r:Option Nat}(h:Kb B A C)(d:C.grownBy D r)(j:B<=C.heap.size)(f:∀k,r=some k->B<=k/\∃c t b,C.heap[k]? =some (Obj.cells c t b)/\PZ t):Kb B A D:=by
 refine h.trans ⟨(aA _ _).grown d j (λk e=>(f k e).1),λk o a l=> ?_⟩;refine(d.block k (bS a) ?_).trans a;intro e;obtain⟨_,c,t,b,g,i⟩:=f k e.symm;rw[g]at a;exact l c t b (aJ a).symm i
def Kb.same {B:Nat}{A C:World}(h:Kb B A C):Same A C:=λk o b a=>h.keep k o b λc t d e=>by subst e;cases a
def Kb.PC {B:Nat}{A C:World}(h:Kb B A C):zh B A C:=⟨h.below,λk c g d=>h.keep k _ d (λf t b e=>by injection e with _ a _;subst a;unfold PZ;decide)⟩
def pQ {w:World}{a:Nat}{e:TypeId}{size:Nat}{v:Value}{n:Nat}{l:List Value}(h:w.ownsRow a e size v n l){k:Nat}(b:v.ownBlock=some k):a<=k/\∃c,w.heap[k]? =some (Obj.cells c e (0,0)):=by
 rcases h.2 with⟨rfl,_⟩|⟨g,d,f,rfl,i,j,m⟩
 .simp[Value.ownBlock]at b
 .simp only[Value.ownBlock]at b;obtain rfl:=aJ b;exact⟨i,_,j⟩
def P4 {w d:World}{a:Nat}{e:TypeId}{size:Nat}{v:Value}{n:Nat}{f:List Value}{r:Option Nat}(h:w.ownsRow a e size v n f)(g:w.grownBy d r)(b:∀k,v.ownBlock=some k->some k≠r):d.ownsRow a e size v n f:=
 nB h λk _ i c=>(g.block k (bS c)<|b k i).trans c
def aoX(w:World)(a b c d e:Value)(t:TypeId):∀j u,[a,b,c,d,e][j]? =some u->(w.alloc (.cells #[a,b,c,d,e] t)).cell? ((⟨w.heap.size,0,none⟩:Addr).add j)=some u:=by
 intro j u f;have key:=λi=>az (World.alloc_heap_new w (.cells #[a,b,c,d,e] t)) i
 match j,f with
 |0,f=>exact(key 0).trans f
 |1,f=>exact(key 1).trans f
 |2,f=>exact(key 2).trans f
 |3,f=>exact(key 3).trans f
 |4,f=>exact(key 4).trans f
 |j+5,f=>simp at f
end
section
attribute [local go_sem] Oper.semAt_some
def uB(w:World)(a b c d:Obj):((((w.alloc a).alloc b).alloc c).alloc d).heap[w.heap.size]? =some a/\((((w.alloc a).alloc b).alloc c).alloc d).heap[w.heap.size+1]? =some b/\((((w.alloc a).alloc b).alloc c).alloc d).heap[w.heap.size+2]? =some c/\((((w.alloc a).alloc b).alloc c).alloc d).heap[w.heap.size+3]? =some d:=by
 have i:(w.alloc a).heap.size=w.heap.size+1:=by simp
 have j:((w.alloc a).alloc b).heap.size=w.heap.size+2:=by simp
 have k:(((w.alloc a).alloc b).alloc c).heap.size=w.heap.size+3:=by simp
 have e:(w.alloc a).heap[w.heap.size]? =some a:=World.alloc_heap_new w a;have f:((w.alloc a).alloc b).heap[w.heap.size+1]? =some b:=by have:=World.alloc_heap_new (w.alloc a) b;rw[i]at this;exact this
 have g:(((w.alloc a).alloc b).alloc c).heap[w.heap.size+2]? =some c:=by have:=World.alloc_heap_new ((w.alloc a).alloc b) c;rw[j]at this;exact this
 have h:((((w.alloc a).alloc b).alloc c).alloc d).heap[w.heap.size+3]? =some d:=by have:=World.alloc_heap_new (((w.alloc a).alloc b).alloc c) d;rw[k]at this;exact this
 exact⟨(dw _ _ _ (by omega)).trans ((dw _ _ _ (by omega)).trans ((dw _ _ _ (by omega)).trans e)),(dw _ _ _ (by omega)).trans ((dw _ _ _ (by omega)).trans f),(dw _ _ _ (by omega)).trans g,h⟩
def Dy(w:World)(o:Obj):kK w (w.alloc o):=⟨rfl,rfl,rfl,by simp,λk _ a _=>(dw w o k<|bS a).trans a⟩
def Ek {w:World}{b a:Nat}{e:TypeId}{size:Nat}{v:Value}{n:Nat}{f:List Value}(h:w.ownsRow b e size v n f)(l:a<=b):w.ownsRow a e size v n f:=by
 refine⟨h.1,?_⟩;rcases h.2 with h|⟨g,c,d,rfl,k,i,j⟩
 .exact .inl h
 .exact .inr ⟨g,c,d,rfl,by omega,i,j⟩
def R3 {n:Nat}{A B C:World}(h:zh n A B)(k:zh n B C):zh n A C:=⟨h.below.trans k.below,λ_ _ _ e=>k.rd _ _ _ (h.rd _ _ _ e)⟩
def Q5 {n:Nat}{W:World}{l:Nat}{o:Obj}(d:n<=l)(f:W.heap[l]? =some o)(b:o.isCells=false)(a:Obj):zh n W (W.putObj l a):=
 ⟨N1 (aA _ _) d a,λi c g e=>by
  rw[jy]
  .exact e
  .rintro rfl;rw[f]at e;obtain rfl:=aJ e;cases b⟩
def afY {A B:World}(h:kK A B):Same A B:=λk o b a=>h.block k o b λc d e=>by subst e;cases a
def Tryz.amG:(prog.info? 75).map (λi=>(i.zero,i.size,i.bytes))=some (some (.agg #[.int .i64 0,.int .i64 0,.int .i64 0,.int .i64 0,.int .i64 0]),5,40):=by kernel_rfl
end
def Cr(k t:Nat)(p:RP)(a:p.from_<=p.at_):(dJ k t p).length<=(cM t p).from_ - p.from_/\p.from_<=(cM t p).from_/\(cM t p).from_<=(cM t p).at_:=by
 unfold dJ cM;split
 .simp only[jZ];omega
 .simp only[eJ,jZ];omega
def Wl(a:Nat)(p:RP):(cW a p false).from_=(cM 0 p).from_:=by unfold cW;rw[AW]
def apY(s:ByteArray)(a:Bool)(p:RP)(g:p.from_<=p.at_)(u:p.at_<=s.size):(cH s a p).length<=s.size - p.from_:=by
 fun_induction cH s a p with
 |case1 p c d ih=>
  have e:=Cr 2 2 p g;have h:=jQ (t:=2) (p:=p);have f:=rA (s:=s) (i:=p.at_+1) (by rw[d.2];decide);have:=ih e.2.2 (by rw[jQ];omega);rw[bH];omega
 |case2 p c d f ih=>
  have e:=Cr 2 0 p g;have h:=jQ (t:=0) (p:=p);have j:(oO<|cM 0 p).from_=(cM 0 p).at_+1:=rfl;have b:(oO<|cM 0 p).at_=(cM 0 p).at_+1:=rfl;have:=ih (by omega) (by rw[b,jQ];omega);rw[bH];omega
 |case3 p c d f ih=>
  have j:(cQ p<|p.at_+1).from_=p.from_:=rfl;have b:(cQ p<|p.at_+1).at_=p.at_+1:=rfl;have:=ih (by omega) (by omega);omega
 |case4 a p c d f ih=>
  have e:=Cr 0 0 p g;have j:(cQ (cW 1 p false) (qR s<|p.at_+1).1).from_=(cM 0 p).from_:=Wl 1 p;have b:(cQ (cW 1 p false) (qR s<|p.at_+1).1).at_=(qR s<|p.at_+1).1:=rfl;have q:=Mi s<|p.at_+1;have h:=jQ (t:=0) (p:=p);have m:=Cr 1 (qT s<|p.at_+1) (cQ (cW 1 p false) (qR s<|p.at_+1).1) (by omega);have n:=jQ (t:=qT s<|p.at_+1) (p:=cQ (cW 1 p false) (qR s<|p.at_+1).1);have r:=Qf (s:=s) (i:=p.at_+1) (by omega);have:=ih m.2.2 (by rw[jQ,b];exact r);rw[bH,bH];omega
 |case5 a p c d f k ih=>
  have e:=Cr 0 0 p g;have j:(cQ (cW 2 p false)<|bZ s<|p.at_+2).from_=(cM 0 p).from_:=Wl 2 p;have b:(cQ (cW 2 p false)<|bZ s<|p.at_+2).at_=bZ s (p.at_+2):=rfl;have q:=FV s<|p.at_+2;have h:=jQ (t:=0) (p:=p);have l:=rA (s:=s) (i:=p.at_+1) (by rw[k.2];decide);have m:=Cr 2 0 (cQ (cW 2 p false)<|bZ s<|p.at_+2) (by omega);have n:=jQ (t:=0) (p:=cQ (cW 2 p false)<|bZ s<|p.at_+2);have v:=Mk (s:=s) (i:=p.at_+2) (by omega);have:=ih m.2.2 (by rw[jQ,b];omega);rw[bH,bH];omega
 |case6 a p c d f k l ih=>
  have e:=Cr 0 0 p g;have j:=Wl 2 p;have b:=My (hd:=2) (p:=p) (st:=false);have h:=jQ (t:=0) (p:=p);have o:=rA (s:=s) (i:=p.at_+1) (by rw[l.2];decide);have:=ih (by omega) (by omega);rw[bH];omega
 |case7 a p c d f k l o ih=>
  have e:=Cr 0 0 p g;have h:=jQ (t:=0) (p:=p);have j:(oO<|cM 0 p).from_=(cM 0 p).at_+1:=rfl;have b:(oO<|cM 0 p).at_=(cM 0 p).at_+1:=rfl;have:=ih (by omega) (by rw[b,jQ];omega);rw[bH];omega
 |case8 a p c d f k l o ih=>
  have j:(cQ p<|p.at_+1).from_=p.from_:=rfl;have b:(cQ p<|p.at_+1).at_=p.at_+1:=rfl;have:=ih (by omega) (by omega);omega
 |case9 a p c=>
  have e:=Cr (if a=true then 2 else 0) 0 p g;have h:=jQ (t:=0) (p:=p);omega
def MF(s:ByteArray):(fD s).length<=600:=by
 unfold fD;split
 .have:=apY s false Ac (au _) (mQ _);omega
 .simp
