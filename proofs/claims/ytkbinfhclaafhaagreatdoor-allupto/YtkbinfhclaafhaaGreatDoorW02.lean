import Derived.Test.YtkbinfhclaafhaaGreatDoorW01
import Derived.Deep.DeepCutAuto
namespace Go.Proofs.YtkbinfhclaafhaaGreatDoor
open Go.RowKit
open Go.Proofs.Tryz
set_option maxRecDepth 100000
set_option maxHeartbeats 32000000
set_option linter.all false
open Go.Value renaming int->Y,slice->R,bool->ce,tuple->de,agg->df
open Go.IntKind renaming i64->Z
open Option renaming none->U,some->V
open Go.Addr renaming mk->S
open Go.Obj renaming cells->bi
open Go.Ending renaming returned->bj
open Go renaming World->cw,Value->cJ,Calls->cP
open Go.RowKit renaming Below->cD,Hid->dd
open Bool renaming false->da,true->db
def Az:aw:=[40,91,123,12296]
def DG:aw:=[41,93,125,12297]
def Er(c:Int):Nat->Int×Int
 |0=>(0,0)
 |m+1=>if c=Az.getD (3 - m) 0 then(1,c)else if c=DG.getD (3 - m) 0 then(2,Az.getD (3 - m) 0)else Er c m
def akO(r:Int):brk r=Er (canon r) 4:=by unfold brk;generalize canon r=c;simp only[Er,Az,DG];by_cases a:c=40;subst a;rfl;by_cases b:c=41;subst b;rfl;by_cases d:c=91;subst d;rfl;by_cases e:c=93;subst e;rfl;by_cases f:c=123;subst f;rfl;by_cases g:c=125;subst g;rfl;by_cases h:c=12296;subst h;rfl;by_cases i:c=12297;subst i;rfl;simp[a,b,d,e,f,g,h,i]
def akN(c:Int)(m:Nat)(a:m<4):Er c (4 - m)=if c=Az.getD m 0 then(1,c)else if c=DG.getD m 0 then(2,Az.getD m 0)else Er c (4 - (m+1)):=by rw[show 4 - m=(4 - (m+1))+1 by omega,Er,show 3 - (4 - (m+1))=m by omega]
def E4(r:Int)(w:cw):cP prog 191 #[Y Z r] w λe E=>e=bj (de #[Y Z (brk r).1,Y Z (brk r).2])/\cD w.1.size w E:=by
 have y:=akO r;generalize brk r=q at*;have t:dd (cD w.1.size w<|(w.alloc<|bi #[Y Z 40,Y Z 91,Y Z 123,Y Z 12296] 3).alloc (bi #[Y Z 41,Y Z 93,Y Z 125,Y Z 12297] 3)):=
  ((aA _ _).alloc (au _) _).alloc (by simp) _
 have j:∀m:Nat,m<4->((w.alloc<|bi #[Y Z 40,Y Z 91,Y Z 123,Y Z 12296] 3).alloc (bi #[Y Z 41,Y Z 93,Y Z 125,Y Z 12297] 3)).cell? (S w.1.size m U)=V (Y Z<|Az.getD m 0):=by
  intro m p
  match m,p with
  |0,_=>simp[Az]
  |1,_=>simp[Az]
  |2,_=>simp[Az]
  |3,_=>simp[Az]
 have l:∀m:Nat,m<4->((w.alloc<|bi #[Y Z 40,Y Z 91,Y Z 123,Y Z 12296] 3).alloc (bi #[Y Z 41,Y Z 93,Y Z 125,Y Z 12297] 3)).cell? ⟨w.1.size+1,m,U⟩=V (Y Z<|DG.getD m 0):=by
  intro m p
  match m,p with
  |0,_=>simp[DG]
  |1,_=>simp[DG]
  |2,_=>simp[DG]
  |3,_=>simp[DG]
 have B:=ah j;have C:=ah l;obtain⟨c,x⟩:=ac<|canon r;have D:(r=9001/\c=12296)∨(r=9002/\c=12297)∨((r==9001)=da/\(r==9002)=da/\c=r):=by rw[x];unfold canon;by_cases i:r=9001;exact .inl ⟨i,by rw[aj i]⟩;by_cases n:r=9002;exact .inr (.inl ⟨n,by rw[ai i,aj n]⟩);exact .inr (.inr ⟨by simpa using i,by simpa using n,by rw[ai i,ai n]⟩)
 have z:dd (q=Er c 4):=by show q=_;rw[y,x]
 clear y x j l;rcases D with⟨rfl,rfl⟩|⟨rfl,rfl⟩|⟨H,I,rfl⟩;all_goals
  go_enter func191,ntmps191;go_wp2;go_loop [6] (λk=>∃m:Nat,m<=4/\k=Y Z m/\q=Er _ (4 - m)) (λk=>4 - (intOf k).toNat);case atStart=>exact⟨0,by omega,rfl,z⟩
  case round=>
   obtain⟨m,p,rfl,a⟩:=hrel;have f:=ah a;clear a z;by_cases d:m<4
   .have F:=B.out m d;have G:=C.out m d;have a:=f.out;rw[akN _ m d]at a;generalize Az.getD m 0=o at*;generalize DG.getD m 0=s at*;split at a
    .rename_i h;have A:(_==o)=db:=vS.2 h;have b:=ah a;clear a h f;go_wp2;exact bU (v:=de #[Y Z q.1,Y Z q.2]) (by rw[b.out];simp[results,results191,go_sem]) rfl ⟨rfl,t.out⟩
    rename_i h;split at a
    .rename_i g;have A:(_==o)=da:=LN.2 h;have u:(_==s)=db:=vS.2 g;have b:=ah a;clear a h g f;go_wp2;go_region;go_wp2;exact bU (v:=de #[Y Z q.1,Y Z q.2]) (by rw[b.out];simp[results,results191,go_sem]) rfl ⟨rfl,t.out.drew⟩
    .rename_i g;have A:(_==o)=da:=LN.2 h;have u:(_==s)=da:=LN.2 g;have b:=ah a;clear a h g f;go_wp2;go_round;case rel=>exact⟨m+1,by omega,by go_num,b⟩
     case measure=>simp[intOf];omega
   have b:dd (q=(0,0)):=(by have:=f.out;rw[show 4 - m=0 by omega]at this;exact this);go_wp2;exact bU (v:=de #[Y Z q.1,Y Z q.2]) (by rw[b.out];simp[results,results191,go_sem]) rfl ⟨rfl,t.out⟩
def Tryz.dW(a b:Int)(w:cw):(Instr.field 194 (df #[Y Z a,Y Z b]) 0).run prog w= .ok (Y Z a) w:=by kernel_rfl
def Tryz.pairT(a b:Int)(w:cw):(Instr.field 194 (df #[Y Z a,Y Z b]) 1).run prog w= .ok (Y Z b) w:=by kernel_rfl
def bJ.stay {w d:cw}{B b a:Nat}{l:aw}(h:bJ w b a l)(e:cD B w d)(c:b<B):bJ d b a l:=λi f=>by rw[e.cell (p:=(S b (a+i) U)) c];exact h i f
def Dr(f z:Nat):Nat->Nat
 |0=>f
 |_=>z
def AR(a:aw)(d:Int)(f z:Nat)(t:aw):Nat->aw
 |0=>t
 |j+1=>qi a d (Dr f z j)<|AR a d f z t j
def ahz(a:aw)(d:Int)(f z:Nat)(t:aw)(j:Nat)(_:j<2):AR a d f z t (j+1)=qi a d (Dr f z j) (AR a d f z t j):=rfl
def aeO {f z n:Nat}(a:f<z)(b:z<n):∀j,Dr f z j<n
 |0=>Nat.lt_trans a b
 |_+1=>b
def sH {W w:cw}{g b k:Nat}(h:W.grownBy w<|V g)(c:b<W.1.size)(a:b≠g):w.cell? (S b k U)=W.cell? (S b k U):=by simp only[World.cell?];rw[h.block b c<|by simpa using a]
def aqp(t a:aw)(f z:Nat)(e C:Int)(B g n r D oo co:Nat)(w:cw)(hr:bI w B g n r t)(hn:n<=100000)(L:a.length=n)(Q5:bJ w D oo a)(ao:D<w.1.size)(ap:D≠g)(an:f<z)(hz:z<n):cP prog 126 #[.slice (V<|S g 0 U) n r,.slice (V<|S D oo U) n co,df #[Y Z f,Y Z z],Y Z e,Y Z C] w λev w'=>ev=bj (de #[])/\bI w' B g n r (uu t a (f,z) e C)/\w.grownBy w' (V g):=by
 have HR:=ah hr;have HO:=ah Q5;have Il:=ah L;have KI:dd (D<w.1.size/\D≠g):=⟨ao,ap⟩
 clear hr Q5 L ao ap;have fF:=Tryz.dW;have fT:=Tryz.pairT;obtain⟨q,hq⟩:=ac<|uu t a (f,z) e C;rw[<-hq];have HQ:=ah hq;clear hq;have am:B<=g/\g<w.1.size:=Bu HR g rfl;have mW:dd (w.grownBy (w.alloc<|bi #[Y Z f,Y Z z] 194)<|V g):=⟨rfl,rfl,rfl,by simp,λk H _=>dh w _ k H⟩
 have dH:dd (bI (w.alloc<|bi #[Y Z f,Y Z z] 194) B g n r t):=lZ HR _;have jf:dd (bJ (w.alloc<|bi #[Y Z f,Y Z z] 194) D oo a):=HO.out.stay ((aA w.1.size w).alloc (au _) _) KI.out.1;have c0:(w.alloc<|bi #[Y Z f,Y Z z] 194).cell? (S w.1.size 0 U)=V (Y Z f):=by simp
 have c1:(w.alloc<|bi #[Y Z f,Y Z z] 194).cell? (S w.1.size 1 U)=V (Y Z z):=by simp
 have HC:dd (w.1.size<(w.alloc<|bi #[Y Z f,Y Z z] 194).1.size):=by show _<_;simp
 have Kz:=ah am;clear am HR HO;go_enter func126,ntmps126;go_wp2;generalize w.alloc (bi #[Y Z f,Y Z z] 194)=W1 at*;generalize w.1.size=h at*;go_loopg [10,11,12] (z - (f+1)) (λgk sv ov i wr=>∃m:Nat,f+1+m<=z/\gk=z - (f+1) - m/\sv=ce (mJ (Fp e) t (f+1) m)/\ov=ce (mJ (zg e) t (f+1) m)/\i=Y Z ((f+1+m:Nat):Int)/\wr=W1);exact⟨0,by omega,rfl,rfl,rfl,by simp,rfl⟩;obtain⟨m,hm,rfl,rfl,rfl,rfl,hw⟩:=hrel;subst hw;have J:=show mJ (Fp e) t (f+1) (m+1)=(mJ (Fp e) t (f+1) m||(bH (t.getD (f+1+m) 0)==e))from rfl
 have MX:=show mJ (zg e) t (f+1) (m+1)=(mJ (zg e) t (f+1) m||(decide (0<=bH (t.getD (f+1+m) 0))&&bH (t.getD (f+1+m) 0) !=e))from rfl
 by_cases W:f+1+m<z
 .have d:=dH.out.cell (f+1+m) (by omega);generalize t.getD (f+1+m) 0=c at d J MX;obtain⟨p,s⟩:=ac<|f+1+m;have v:=ah s;rw[<-s]at d W ⊢;clear s;obtain⟨K,A⟩:=ac<|bH c;rw[<-A]at J MX;have CP:=ah A;clear A;generalize mJ (Fp e) t (f+1) m=sm at*;generalize mJ (zg e) t (f+1) m=om at*;have FQ:=ah J;have ag:=ah MX;clear J MX;have pn:p<n:=by omega
  have hh:∃b1 b2,b1=(K==e)/\b2=decide (0<=K):=⟨_,_,rfl,rfl⟩
  cases sm<;>cases om<;>rcases Int.lt_or_le K 0 with I|I<;>by_cases rJ:K=e
  all_goals
   first
   |have ak:(K==e)=db:=by simpa using rJ
    have al:(K !=e)=da:=by simpa using rJ
   |have ak:(K==e)=da:=by simpa using rJ
    have al:(K !=e)=db:=by simpa using rJ
   have TB:=FQ.out;have K7:=ag.out;rw[ak]at TB;rw[al]at K7
   first
   |rw[nB I]at K7
   |rw[sB (by omega)]at K7
   have ax:dd _:=TB;have av:dd _:=K7;clear TB K7 hh FQ ag rJ;go_wp2_with fail;refine(Fs c _).mono ?_;rintro ev _ ⟨rfl,rfl⟩;rw[<-CP.out];go_wp2;go_roundg (z - (f+1) - (m+1));exact⟨m+1,by have:=v.out;omega,rfl,by rw[ax.out];rfl,by rw[av.out];rfl,by have:=v.out;simp;omega,rfl⟩;have:=v.out;omega
 have JC:m=z - (f+1):=by omega
 subst JC;clear J MX W;rw[show f+1+(z - (f+1))=z by omega];cases hS:mJ (Fp e) t (f+1)<|z - (f+1)
 .cases hO:mJ (zg e) t (f+1)<|z - (f+1)
  .have HV:dd (q=t):=(by show q=t;rw[HQ.out];unfold uu;rw[aj ⟨hS,hO⟩]);clear hS hO;go_wp2;refine bU (Cg rfl _ _ _) rfl ?_;exact⟨rfl,HV.out▸dH.out,mW⟩
  have ar:dd (q=AR a (lM C t f) f z t 2):=by show q=_;have s:AG t (f,z) e C=lM C t f:=(by unfold AG;rw[ai<|by rw[hS];decide]);rw[HQ.out];unfold uu;rw[ai<|by rw[hO];simp,s];rfl
  clear hS hO;go_wp2;go_loopg [15,16] f (λgk lv iv wl=>∃m:Nat,m<=f/\gk=f - m/\lv=Y Z (lM C t m)/\iv=Y Z m/\wl=wr);exact⟨0,by omega,rfl,rfl,rfl,rfl⟩;obtain⟨m,hm,rfl,rfl,rfl,hw⟩:=hrel;subst hw;by_cases W:m<f
  .have d:=dH.out.cell m (by omega);have hl:=show lM C t (m+1)=if bH (t.getD m 0)<0 then lM C t m else bH (t.getD m 0)from rfl
   generalize t.getD m 0=c at d hl;obtain⟨K,A⟩:=ac<|bH c;rw[<-A]at hl;have CP:=ah A;clear A;have aB:m<n:=(by omega);rcases Int.lt_or_le K 0 with I|I
   .have KR:dd (lM C t (m+1)=lM C t m):=(by show _=_;rw[hl,aj I]);clear hl;go_wp2_with fail;refine(Fs c _).mono ?_;rintro ev _ ⟨rfl,rfl⟩;rw[<-CP.out];go_wp2;go_roundg (f - (m+1));exact⟨m+1,by omega,rfl,by rw[KR.out],by simp,rfl⟩;omega
   have KR:dd (lM C t (m+1)=K):=(by show _=_;rw[hl,ai<|by omega]);clear hl;go_wp2_with fail;refine(Fs c _).mono ?_;rintro ev _ ⟨rfl,rfl⟩;rw[<-CP.out];go_wp2;go_roundg (f - (m+1));exact⟨m+1,by omega,rfl,by rw[KR.out],by simp,rfl⟩;omega
  .obtain rfl:f=m:=(by omega);clear W;generalize lM C t f=l at*;by_cases af:l=e;all_goals
    first|subst af|(have az:(l !=e)=db:=(by simpa using af);clear af)
    have HV:=ah ar.out;have gG:dd (bI (wr.alloc<|bi #[Y Z f,Y Z z] 3) B g n r t):=lZ dH _;have aa:dd (w.grownBy (wr.alloc<|bi #[Y Z f,Y Z z] 3)<|V g):=mW.out.trans ⟨rfl,rfl,rfl,by simp,λk H _=>dh wr _ k H⟩;have bP:dd (bJ (wr.alloc<|bi #[Y Z f,Y Z z] 3) D oo a):=jf.out.stay ((aA wr.1.size wr).alloc (au _) _) (by have:=KI.out.1;have:=HC.out;omega);have d0:(wr.alloc<|bi #[Y Z f,Y Z z] 3).cell? (S wr.1.size 0 U)=V (Y Z f):=(by simp);have d1:(wr.alloc<|bi #[Y Z f,Y Z z] 3).cell? (S wr.1.size 1 U)=V (Y Z z):=(by simp);have HD:dd (∀j:Nat,j<2->(wr.alloc<|bi #[Y Z f,Y Z z] 3).cell? (S wr.1.size j U)=V (Y Z (Dr f z j:Nat))):=by
     intro j T
     match j,T with
     |0,_=>exact d0
     |1,_=>exact d1
    have N:dd (wr.1.size<(wr.alloc<|bi #[Y Z f,Y Z z] 3).1.size/\wr.1.size≠g/\D<(wr.alloc<|bi #[Y Z f,Y Z z] 3).1.size/\D≠g):=(by have x:=KI.out;have h2:=HC.out;have h3:=Kz.out;exact⟨by simp,by omega,by simp;omega,x.2⟩);clear d0 d1;go_wp2;generalize wr.alloc (bi #[Y Z f,Y Z z] 3)=W2 at*;generalize wr.1.size=h2 at*;go_loopg [85] 2 (λgk iv wr=>∃(j:Nat)(u:aw),j<=2/\gk=2 - j/\iv=Y Z j/\bI wr B g n r u/\W2.grownBy wr (V g)/\u=AR a l f z t j);exact⟨0,t,by omega,rfl,rfl,gG,kI _ _,rfl⟩;clear dH jf mW c0 c1;obtain⟨j,u,ay,rfl,rfl,G,R,hE⟩:=hrel;have P:=ah G;have HG:=ah R;have HE:=ah hE;clear hE;by_cases T:j<2
    .have H:=HD.out j T;rw[<-sH R N.out.1 N.out.2.1]at H;have ad:Dr f z j<n:=aeO an hz j;have F:=ah<|ahz a l f z t j T;generalize Dr f z j=b at*;have d:=G.cell b ad;have ab:=G.frozen b;generalize u.getD b 0=cc at d;clear G R;go_wp2;rw[nB (show((j:Int)<2)by omega)];go_loopg [20] (n - (b+1)) (λgk iv wi=>∃m:Nat,b+1+m<=n/\gk=n - (b+1+m)/\iv=Y Z ((b+1+m:Nat):Int)/\bI wi B g n r (dV u b l (1+m))/\W2.grownBy wi (V g)/\sS (a.drop<|b+1)=m+sS (a.drop<|b+1+m));exact⟨0,by omega,rfl,by simp,P.out.set b l,HG.out.trans<|P.out.grown b l,by simp⟩;obtain⟨m,hm,rfl,rfl,E,O,hN⟩:=hrel;have M:=ah E;have X:=ah O;have HN:=ah hN;clear P HG d ab H;by_cases o:b+1+m<n
     .have L:=bP.out (b+1+m) (by rw[Il.out];exact o);rw[<-sH O N.out.2.2.1 N.out.2.2.2]at L;have y:=XZ (l:=a) (m:=b+1+m) (by rw[Il.out];exact o);have p8:=E.cell (b+1+m) o;have GD:=E.frozen<|b+1+m;generalize(dV u b l (1+m)).getD (b+1+m) 0=cq at p8;generalize a.getD (b+1+m) 0=oc at L y;have KX:=ah y;clear E O hN y;obtain⟨p,s⟩:=ac<|b+1+m;have v:=ah s;rw[<-s]at L p8 GD o ⊢;clear s;by_cases Q:oc=8
      .subst Q;go_wp2;go_roundg (n - (b+1+(m+1)));case measure=>have:=v.out;omega
       case rel=>refine⟨m+1,by have:=v.out;omega,rfl,by have:=v.out;simp;omega,?_,X.out.trans<|M.out.grown p l,?_⟩;have x:=M.out.set p l;rw[v.out,show b+1+m=b+(1+m)by omega]at x;rw[v.out,show b+1+m=b+(1+m)by omega,show 1+(m+1)=(1+m)+1 by omega];exact x;have x:=KX.out;simp only[Aq]at x;rw[HN.out,x,show b+1+(m+1)=b+1+m+1 by omega];omega
      have q8:=ae Q;have HF:dd (dV u b l (1+m)=AR a l f z t (j+1)):=(by show _=_;rw[F.out,<-HE.out,qi,HN.out,KX.out,ai Q,qE]);clear Q;go_wp2;go_roundg (2 - (j+1));exact⟨j+1,_,by omega,rfl,by simp,HF.out▸M.out,X,rfl⟩;omega
     have HF:dd (dV u b l (1+m)=AR a l f z t (j+1)):=(by show _=_;rw[F.out,<-HE.out,qi,HN.out,XY<|by rw[Il.out];exact o,qE]);clear E O hN;obtain⟨p,s⟩:=ac<|b+1+m;rw[<-s]at o ⊢;have uh:p=n:=(by omega);clear s;subst uh;go_wp2;go_roundg (2 - (j+1));exact⟨j+1,_,by omega,rfl,by simp,HF.out▸M.out,X,rfl⟩;omega
    obtain rfl:j=2:=(by omega);clear G R;go_wp2;go_end0;refine⟨rfl,?_,aa.out.trans HG⟩;rw[HV.out];exact HE.out▸P.out
 have HV:dd (q=AR a e f z t 2):=by show q=_;have s:AG t (f,z) e C=e:=(by unfold AG;rw[aj hS]);rw[HQ.out];unfold uu;rw[ai<|by rw[hS];simp,s];rfl
 clear hS;have gG:dd (bI (wr.alloc<|bi #[Y Z f,Y Z z] 3) B g n r t):=lZ dH _;have aa:dd (w.grownBy (wr.alloc<|bi #[Y Z f,Y Z z] 3)<|V g):=mW.out.trans ⟨rfl,rfl,rfl,by simp,λk H _=>dh wr _ k H⟩;have bP:dd (bJ (wr.alloc<|bi #[Y Z f,Y Z z] 3) D oo a):=jf.out.stay ((aA wr.1.size wr).alloc (au _) _) (by have:=KI.out.1;have:=HC.out;omega);have d0:(wr.alloc<|bi #[Y Z f,Y Z z] 3).cell? (S wr.1.size 0 U)=V (Y Z f):=(by simp);have d1:(wr.alloc<|bi #[Y Z f,Y Z z] 3).cell? (S wr.1.size 1 U)=V (Y Z z):=(by simp);have HD:dd (∀j:Nat,j<2->(wr.alloc<|bi #[Y Z f,Y Z z] 3).cell? (S wr.1.size j U)=V (Y Z (Dr f z j:Nat))):=by
  intro j T
  match j,T with
  |0,_=>exact d0
  |1,_=>exact d1
 have N:dd (wr.1.size<(wr.alloc<|bi #[Y Z f,Y Z z] 3).1.size/\wr.1.size≠g/\D<(wr.alloc<|bi #[Y Z f,Y Z z] 3).1.size/\D≠g):=by have x:=KI.out;have h2:=HC.out;have h3:=Kz.out;exact⟨by simp,by omega,by simp;omega,x.2⟩
 clear d0 d1;go_wp2;generalize wr.alloc (bi #[Y Z f,Y Z z] 3)=W2 at*;generalize wr.1.size=h2 at*;go_loopg [85] 2 (λgk iv wr=>∃(j:Nat)(u:aw),j<=2/\gk=2 - j/\iv=Y Z j/\bI wr B g n r u/\W2.grownBy wr (V g)/\u=AR a e f z t j);exact⟨0,t,by omega,rfl,rfl,gG,kI _ _,rfl⟩;clear dH jf mW c0 c1;obtain⟨j,u,ay,rfl,rfl,G,R,hE⟩:=hrel;have P:=ah G;have HG:=ah R;have HE:=ah hE;clear hE;by_cases T:j<2
 .have H:=HD.out j T;rw[<-sH R N.out.1 N.out.2.1]at H;have ad:Dr f z j<n:=aeO an hz j;have F:=ah<|ahz a e f z t j T;generalize Dr f z j=b at*;have d:=G.cell b ad;have ab:=G.frozen b;generalize u.getD b 0=cc at d;clear G R;go_wp2;rw[nB (show((j:Int)<2)by omega)];go_loopg [20] (n - (b+1)) (λgk iv wi=>∃m:Nat,b+1+m<=n/\gk=n - (b+1+m)/\iv=Y Z ((b+1+m:Nat):Int)/\bI wi B g n r (dV u b e (1+m))/\W2.grownBy wi (V g)/\sS (a.drop<|b+1)=m+sS (a.drop<|b+1+m));exact⟨0,by omega,rfl,by simp,P.out.set b e,HG.out.trans<|P.out.grown b e,by simp⟩;obtain⟨m,hm,rfl,rfl,E,O,hN⟩:=hrel;have M:=ah E;have X:=ah O;have HN:=ah hN;clear P HG d ab H;by_cases o:b+1+m<n
  .have L:=bP.out (b+1+m) (by rw[Il.out];exact o);rw[<-sH O N.out.2.2.1 N.out.2.2.2]at L;have y:=XZ (l:=a) (m:=b+1+m) (by rw[Il.out];exact o);have p8:=E.cell (b+1+m) o;have GD:=E.frozen<|b+1+m;generalize(dV u b e (1+m)).getD (b+1+m) 0=cq at p8;generalize a.getD (b+1+m) 0=oc at L y;have KX:=ah y;clear E O hN y;obtain⟨p,s⟩:=ac<|b+1+m;have v:=ah s;rw[<-s]at L p8 GD o ⊢;clear s;by_cases Q:oc=8
   .subst Q;go_wp2;go_roundg (n - (b+1+(m+1)));case measure=>have:=v.out;omega
    case rel=>refine⟨m+1,by have:=v.out;omega,rfl,by have:=v.out;simp;omega,?_,X.out.trans<|M.out.grown p e,?_⟩;have x:=M.out.set p e;rw[v.out,show b+1+m=b+(1+m)by omega]at x;rw[v.out,show b+1+m=b+(1+m)by omega,show 1+(m+1)=(1+m)+1 by omega];exact x;have x:=KX.out;simp only[Aq]at x;rw[HN.out,x,show b+1+(m+1)=b+1+m+1 by omega];omega
   have q8:=ae Q;have HF:dd (dV u b e (1+m)=AR a e f z t (j+1)):=(by show _=_;rw[F.out,<-HE.out,qi,HN.out,KX.out,ai Q,qE]);clear Q;go_wp2;go_roundg (2 - (j+1));exact⟨j+1,_,by omega,rfl,by simp,HF.out▸M.out,X,rfl⟩;omega
  have HF:dd (dV u b e (1+m)=AR a e f z t (j+1)):=by show _=_;rw[F.out,<-HE.out,qi,HN.out,XY<|by rw[Il.out];exact o,qE]
  clear E O hN;obtain⟨p,s⟩:=ac<|b+1+m;rw[<-s]at o ⊢;have uh:p=n:=(by omega);clear s;subst uh;go_wp2;go_roundg (2 - (j+1));exact⟨j+1,_,by omega,rfl,by simp,HF.out▸M.out,X,rfl⟩;omega
 obtain rfl:j=2:=(by omega);clear G R;go_wp2;go_end0;refine⟨rfl,?_,aa.out.trans HG⟩;rw[HV.out];exact HE.out▸P.out
def eV {w:cw}{B:Nat}{e:TypeId}{z n:Nat}{v:cJ}{d:List cJ}(h:w.ownsRow B e z v n d):∃a b,v=R a n b:=by rcases h.2 with⟨rfl,rfl⟩|⟨g,b,c,rfl,_⟩;exact⟨U,0,rfl⟩;exact⟨_,b,rfl⟩
def iq {w:cw}{B:Nat}{e:TypeId}{z n:Nat}{v:cJ}{j:List cJ}(h:w.ownsRow B e z v n j)(k:0<n):∃g a,v= .slice (V<|S g 0 U) n a/\n<=a/\g<w.1.size/\B<=g:=by rcases h.2 with⟨rfl,rfl⟩|⟨g,a,d,rfl,f,c,i,_⟩;omega;refine⟨g,a,rfl,i,?_,f⟩;rcases dc g w.1.size with b|b;exact b;rw[sV b]at c;cases c
def dg {w:cw}{k:Nat}{o:Obj}(h:w.1[k]? =V o):k<w.1.size:=by rcases dc k w.1.size with a|a;exact a;rw[sV a]at h;cases h
def eW {w c:cw}{B:Nat}{e:TypeId}{z n:Nat}{v:cJ}{d:List cJ}{r:Option Nat}(h:w.ownsRow B e z v n d)(f:w.grownBy c r)(a:v.ownBlock=U∨v.ownBlock≠r):c.ownsRow B e z v n d:=
 kS h λk o g b=>by rw[f.block k (dg b) ?_];exact b;rw[g]at a;rcases a with a|a;cases a;exact a
def fS {w b:cw}{B:Nat}{e:TypeId}{z n:Nat}{v:cJ}{c:List cJ}(h:w.ownsRow B e z v n c)(d:cD w.1.size w b):b.ownsRow B e z v n c:=
 kS h λk o _ a=>by rw[d.block k<|dg a];exact a
def mP {w:cw}{B j:Nat}{e f:TypeId}{z t n r:Nat}{v i:cJ}{s b:List cJ}(h:w.ownsRow B e z v n s)(o:w.ownsRow j f t i r b)(p:e≠f):v.ownBlock=U∨v.ownBlock≠i.ownBlock:=by rcases h.2 with⟨rfl,_⟩|⟨g,k,l,rfl,_,q,_⟩;exact .inl rfl;rcases o.2 with⟨rfl,_⟩|⟨u,c,d,rfl,_,a,_⟩;exact .inr (by simp[Value.ownBlock]);refine .inr ?_;simp only[Value.ownBlock];intro m;obtain rfl:=aI m;rw[q]at a;simp at a;exact p a.2
def RG {w:cw}{B:Nat}{e:TypeId}{z n g a:Nat}{f:List cJ}(h:w.ownsRow B e z (.slice (V<|S g 0 U) n a) n f)(k:Nat)(r:k<=n):w.ownsRow B e z (.slice (V<|S g 0 U) k a) k (f.take<|k*z):=by obtain⟨t,j⟩:=h;have c:k*z<=n*z:=ajw z r;refine⟨by rw[tM];omega,?_⟩;rcases j with⟨h,_⟩|⟨s,d,b,i,l,m,u,o,p,q⟩;cases h;cases i;refine .inr ⟨g,a,b,rfl,l,m,by omega,o,p,?_⟩;rw[<-q,List.take_take,kG c]
def wJ {w:cw}{B:Nat}{e:TypeId}{z n:Nat}{v:cJ}{b:List cJ}(h:w.ownsRow B e z v n b):∀k,v.ownBlock=V k->B<=k:=λk a=>(h.lt k a).1
def nl(l:ba):aw:=l.map Int.ofNat
def iz(l:ba):(nl l).length=l.length:=by simp[nl]
def pH(l:ba)(k:Nat)(h:k<l.length):(nl l).getD k 0=(l.getD k 0:Nat):=by simp[nl,aN,aK h]
def oC(l:aw):(iv l).length=l.length:=by simp[iv]
def jx {w:cw}{B g n a:Nat}{e:TypeId}{l:aw}(h:w.ownsRow B e 1 (.slice (V<|S g 0 U) n a) n<|iv l)(k:Nat)(b:k<l.length):w.cell? (S g k U)=V (Y Z<|l.getD k 0):=by rw[cT h k<|by have:=h.1;rw[oC]at this;omega];simp[iv,aN,aK b]
def G0(l:aw)(a:Int):iv l++[Y Z a]=iv (l++[a]):=by simp[iv]
def Rv(l:ba)(a:Nat):nl l++[(a:Int)]=nl (l++[a]):=by simp[nl]
def Xk(l:ba)(k:Nat):(iv<|nl l).take (k*1)=iv (nl<|l.take k):=by simp[iv,nl,fU]
def aib {P:Program}(w:cw){l:Array Oper}{rest:List Oper}{o:Oper}{a:Act}{Q:Exit->Act->cw->Prop}(B:o.guard=U)(s x:Operand)(t:TypeId) (M:o.op= .call {callee:= .builtin .append,args:=#[s,x],argTypes:=#[t,t]}) (b:Nat) (e:TypeId) (i:TypeInfo) (z:cJ) (bytes:Nat) (O:P.underlying t=V (.slice e)) (L:P.info? e=V i) (R:i.zero=V z) (d:i.size=2) (A:i.bytes=bytes) (E:z.cells.size=2) (T:bytes<=64) (v:cJ) (n:Nat) (F:List cJ) (N:a.eval s=v) (g:w.ownsRow b e 2 v n F) (q r:cJ) (H:TypeId) (k:Nat) (hx:a.eval x= .slice (V<|S k 0 U) 1 1) (C:k=w.1.size) (I:q.oneCell'=db) (J:r.oneCell'=db) (W:n<=1000000) (y:b<=w.1.size) (h:∀p m,m.ownsRow b e 2 p (n+1) (F++[q,r])->w.grownBy m v.ownBlock->wpList P l Q rest (a.put o.dst p) m):wpList P l Q (o::rest) a (w.alloc<|bi #[q,r] H):=by
 subst C;refine Kt _ B s x t M b e i z 2 bytes O L R d A E (by decide) v n F N (g.alloc _) (S w.1.size 0 U) 1 1 [q,r] hx rfl ?_ ?_ ?_ ?_ ?_ ?_
 .intro j u c
  match j,c with
  |0,c=>simp at c;subst c;simp[Addr.add]
  |1,c=>simp at c;subst c;simp[Addr.add]
 .intro u G;simp at G;rcases G with rfl|rfl;exact I;exact J
 .unfold maxLen;omega
 .have:(n+1)*bytes<=1000001*64:=zT (by omega) T;omega
 .simp;omega
 intro p m K f _;refine h p m K ⟨f.os,f.tape,f.output,?_,λk C D=> ?_⟩;have:=f.size;simp at this;omega;rw[f.block k (by simp;omega) D];exact dh w _ k C
def gK(l:List<|Nat×Nat):List cJ:=l.flatMap λp=>[Y Z (p.1:Nat),Y Z (p.2:Nat)]
def af1(l:List<|Nat×Nat):(gK l).length=l.length*2:=by
 induction l with
 |nil=>rfl
 |cons a r ih=>simp only[gK,yF,bG]at ih ⊢;rw[ih];simp;omega
def af2(l:List<|Nat×Nat)(p:Nat×Nat):gK l++[Y Z (p.1:Nat),Y Z (p.2:Nat)]=gK (l++[p]):=by simp[gK]
structure su(w0 w:World)(B:Nat)(sv ov:Value)(x:ba×List (Nat×Nat)):Prop where
 below:Below B w0 w
 st:w.ownsRow B 3 1 sv x.1.length<|iv<|nl x.1
 out:w.ownsRow B 194 2 ov x.2.length<|gK x.2
 base:B<=w.1.size
def su.call {e w d:cw}{B:Nat}{c b:cJ}{x:ba×List (Nat×Nat)}(h:su e w B c b x)(a:cD w.1.size w d):su e d B c b x:=
 ⟨h.below.trans<|a.mono h.base,fS h.st a,fS h.out a,bM h.base a.size⟩
def su.start(w:cw):su w w w.1.size (R U 0 0) (R U 0 0) ([],[]):=
 ⟨aA _ _,⟨rfl,.inl ⟨rfl,rfl⟩⟩,⟨rfl,.inl ⟨rfl,rfl⟩⟩,au _⟩
def su.push {g w c:cw}{B:Nat}{f e a:cJ}{x:ba×List (Nat×Nat)}{i:Nat}(h:su g w B f e x)(d:c.ownsRow B 3 1 a (x.1.length+1)<|iv (nl x.1)++[Y Z (i:Nat)])(b:w.grownBy c f.ownBlock):su g c B a e (x.1++[i],x.2):=
 ⟨h.below.grown b h.base<|wJ h.st,by rw[G0,Rv]at d;simpa using d,eW h.out b<|mP h.out h.st<|by decide,bM h.base b.size⟩
def su.pair {k w c:cw}{B g a:Nat}{j d:cJ}{x:ba×List (Nat×Nat)}{i m:Nat}(h:su k w B (.slice (V<|S g 0 U) x.1.length a) j x)(n:m<x.1.length) (f:c.ownsRow B 194 2 d (x.2.length+1)<|gK x.2++[Y Z (x.1.getD m 0:Nat),Y Z (i:Nat)]) (b:w.grownBy c j.ownBlock):su k c B (.slice (V<|S g 0 U) m a) d (x.1.take m,x.2++[(x.1.getD m 0,i)]):=by have l:=eW h.st b (mP h.st h.out<|by decide);have e:=RG l m (by omega);rw[Xk]at e;refine⟨h.below.grown b h.base<|wJ h.out,by simpa [kG<|gV n]using e,?_,bM h.base b.size⟩;rw[af2 x.2 (x.1.getD m 0,i)]at f;simpa using f
def Hr(a:aw)(b:List Bool)(i:Nat)(x:List ba×ba):List ba×ba:=
 if b.getD i da=da then x
 else if x.2≠[]/\a.getD (x.2.headD 0) 0≠a.getD i 0 then(x.1++[x.2],[i])else(x.1,x.2++[i])
def wM(x:List ba×ba):List ba:=if x.2=[]then x.1 else x.1++[x.2]
def zj(b:aw)(a:List Bool):Nat->Nat->List ba×ba->List ba
 |0,_,x=>wM x
 |n+1,i,x=>zj b a n (i+1)<|Hr b a i x
def dB(a:aw)(b:List Bool):List ba:=zj a b a.length 0 ([],[])
def vB(a:List ba)(m:Nat):Nat->Option Nat
 |0=>U
 |k+1=>if(a.getD k []).headD 0=m then V k else vB a m k
def iK(b:aw)(c:List ba)(a:Nat):Option Nat:=if aU (b.getD a 0)=db then vB c (mt b a) c.length else U
def cE(b:aw)(a:List ba):Nat->ba->ba
 |0,at'=>at'
 |f+1,at'=>match iK b a (at'.getLastD 0)with
  |none=>at'
  |some k=>cE b a f<|at'++a.getD k []
structure Sq where
 at':ba
 level:Int
 aq:Int
 ay:Int
def lD(c:aw)(b:List Bool)(a:Int):Nat->Int
 |0=>a
 |k+1=>if b.getD k da=db then c.getD k 0 else lD c b a k
def nu(d:aw)(c:List Bool)(a:Int)(b:Nat):Nat->Int
 |0=>a
 |m+1=>if c.getD (b - (m+1)) da=db then d.getD (b - (m+1)) 0 else nu d c a b m
def rz(c e:aw)(d:List Bool)(b:Int)(a:Nat):Int:=if aU (c.getD a 0)=db/\mt c a=c.length then b else nu e d b c.length (c.length - (a+1))
def tW(e c:aw)(d:List Bool)(b:Int)(a:ba):Sq:=
 ⟨a,c.getD (a.headD 0) 0,jA (c.getD (a.headD 0) 0)<|lD c d b<|a.headD 0,jA (c.getD (a.headD 0) 0)<|rz e c d b<|a.getLastD 0⟩
def iG(a:aw)(r:ba):Bool:= !(a.getD (r.headD 0) 0==21&&decide (0<=opener a (r.headD 0)))
def iL(b d:aw)(c:List Bool)(a:Int):List Sq:=
 ((dB d c).filter (iG b)).map λr=>tW b d c a<|cE b (dB d c) b.length r
def bz(l:aw)(a:ba):aw:=a.map λp=>l.getD p 0
def lF(l:List aY):Int:=((l.filter (·.i)).length:Int)
def alr:lF []=0:=rfl
def Jc(l:List aY)(e:aY):lF (l++[e])=lF l+(if e.i=db then 1 else 0):=by unfold lF;rw[tD,bG,tG,IA];cases e.i<;>simp
def PU(l:List aY):0<=lF l:=by unfold lF;omega
def agp(a:List aY)(e:aY)(b:e.i=db):∀(r:List aY),(∀y∈r,y.i=da)->iW (a++e::r.reverse)=a
 |[],_=>by simpa using RJ a e b
 |y::r,h=>by
  have:a++e::(y::r).reverse=(a++e::r.reverse)++[y]:=by simp
  rw[this,RM _ _ (h y<|by simp)];exact agp a e b r λz c=>h z<|by simp[c]
def aq0(a:List aY)(e:aY)(b:e.i=db)(s:List aY)(h:∀y∈s,y.i=da):iW (a++e::s)=a:=by have:=agp a e b s.reverse (by simpa using h);simpa using this
def agq(a:List aY):∀(r:List aY),0<lF r.reverse->∃s,iW (a++r.reverse)=a++s/\lF s=lF r.reverse - 1
 |[],h=>by simp[lF]at h
 |y::r,h=>by
  rw[List.reverse_cons]at h ⊢;rw[<-dY];cases hy:y.i with
  |true=>refine⟨r.reverse,RJ _ _ hy,?_⟩;rw[Jc,hy,aj rfl];omega
  |false=>rw[Jc,hy,ai<|by decide]at h;obtain⟨s,b,c⟩:=agq a r (by omega);refine⟨s,by rw[RM _ _ hy];exact b,?_⟩;rw[Jc,hy,ai<|by decide];omega
def aqZ(a s:List aY)(h:0<lF s):∃b,iW (a++s)=a++b/\lF b=lF s - 1:=by have:=agq a s.reverse (by simpa using h);simpa using this
inductive mY (base:List aY) (oz:Int) (n:Int) (x:XS):Prop
 |over (h1:x.st=base) (h2:x.aM=oz+n) (h3:0<=oz)
 |val (e:aY) (s:List aY) (h1:x.st=base++e::s) (h2:e.i=true) (h3:x.aM+lF s+1=n) (h4:0<=x.aM)
def ahI(a:List aY)(e:aY):bq (a++[e])=e:=by simp[bq]
def mY.akn {x:XS}(c:Int)(a:0<=x.aM):mY x.st x.aM 1 (jP x c):=by unfold jP;simp only;split;rename_i b;unfold pY at b;simp at b;exact .val ⟨_, -1,db⟩ [] (by simp;rfl) rfl (by simp only;rw[alr];omega) a;exact .over rfl rfl a
def mY.begin {a:List aY}{i n:Int}{x:XS}(h:mY a i n x)(k:1<=n)(j:Int):mY a i (n+1) (jP x j):=by
 unfold jP;simp only;split
 .rename_i g;unfold pY at g;simp at g;cases h with
  |over b c d=>omega
  |val e s b c d f=>refine .val e (s++[⟨_, -1,db⟩]) (by simp only;rw[b];simp;rfl) c ?_ f;rw[Jc];simp only[Aq];omega
 cases h with
 |over b c d=>exact .over b (by simp only;omega) d
 |val e s b c d f=>exact .val e s b c (by simp only;omega)<|by simp only;omega
def mY.U9 {a:List aY}{j n:Int}{x:XS}(h:mY a j n x)(k:1<=n)(c:Int):mY a j n (lH x c):=by
 unfold lH;simp only;generalize(if c=15 then(0:Int)else if c=16 then 1 else -1)=o;generalize jt (bq x.st).l _=m;split
 .rename_i i;unfold pY at i;simp at i;cases h with
  |over b d f=>omega
  |val e s b d f g=>refine .val e (s++[⟨_,_,da⟩]) (by simp only;rw[b];simp;exact⟨rfl,rfl⟩) d (by simp only;rw[Jc];simp;omega) g
 split
 .cases h with
  |over b d f=>exact .over b d f
  |val e s b d f g=>exact .val e s b d f g
 exact h
def mY.pop {a:List aY}{k n:Int}{x:XS}(h:mY a k n x)(m:1<=n):mY a k n (kZ x):=by
 unfold kZ;split;exact h;rename_i o;cases h with
 |over b c f=>omega
 |val e s b c f g=>split;exact .val e s b c f g;split;rename_i l;obtain⟨d,_⟩:=l;rcases Bh s with rfl|⟨i,y,rfl⟩;rw[b,ahI]at d;rw[c]at d;cases d;have j:x.st=(a++e::i)++[y]:=(by rw[b];simp);rw[j,ahI]at d;refine .val e i (by simp only;rw[j,Iz]) c ?_ g;have:=Jc i y;rw[d,ai<|by decide]at this;simp only[CX]at f;simp only;omega;exact .val e s b c f g
def mY.end {a:List aY}{g n m:Int}{x:XS}(h:mY a g n x)(q:2<=n)(j:eH m x):mY a g (n - 1) (jE x):=by
 unfold jE;split
 .cases h with
  |over b c d=>exact .over b (by simp only;omega) d
  |val e s b c d f=>exact .val e s b c (by simp only;omega)<|by simp only;omega
 rename_i u;cases h with
 |over b c d=>omega
 |val e s b c d f=>
  have t:x.valid=lF x.st:=j.cnt;have p:lF x.st=lF a+1+lF s:=by unfold lF;rw[b,tD,bG,tG,aj c,eU];omega
  have o:=PU a;have r:=PU s;rw[ai<|by omega];obtain⟨k,i,l⟩:=aqZ (a++[e]) s (by omega);refine .val e k ?_ c (by simp only;omega) f;simp only;rw[b,show a++e::s=(a++[e])++s by simp,i];simp
def mY.out {a:List aY}{j m:Int}{x:XS}(h:mY a j 1 x)(f:eH m x):(jE x).st=a:=by
 unfold jE;cases h with
 |over b c d=>rw[aj<|by omega];exact b
 |val e s b c d k=>
  have o:=PU s;have l:=PU a;have p:x.valid=lF x.st:=f.cnt;have n:lF x.st=lF a+1+lF s:=by unfold lF;rw[b,tD,bG,tG,aj c,eU];omega
  rw[ai<|by omega,ai<|by omega];simp only;rw[b];refine aq0 a e c s ?_;intro y g;cases hi:y.i with
  |false=>rfl
  |true=>exfalso;have:y∈s.filter (·.i):=uN.2 ⟨g,hi⟩;have:=List.length_pos_of_mem this;unfold lF at d;omega
def aeI {c:Int}(h:aU c=db):c=18∨c=19∨c=20:=by unfold aU at h;simp at h;omega
def ain(b:aw)(i:Nat)(x:XS)(c:Int)(h:aU c=db):∃a,gi b i x c=jP x a:=by unfold gi;rcases aeI h with rfl|rfl|rfl;exact⟨0,by simp⟩;exact⟨1,by simp⟩;exact⟨_,by simp;rfl⟩
def mY.step {b:aw}{a:Int}(p:0<=a/\a<=125){d:List aY}{j n:Int}{k:Nat}(h:mY d j n<|fE b a k)(g:1<=n)(m:b.getD k 0=21->2<=n):mY d j (if b.getD k 0=21 then n - 1 else if aU (b.getD k 0)=db then n+1 else n) (fE b a<|k+1):=by have i:=zF b a p k;rw[fE];generalize fE b a k=x at*;generalize b.getD k 0=c at*;by_cases e:c=21;subst e;rw[aj rfl,eP,aj rfl];have:=h.end (m rfl) i;unfold gi;simpa using this;rw[ai e,eP,ai e];by_cases f:aU c=db;rw[aj f];obtain⟨l,o⟩:=ain b k x c f;rw[o];exact h.begin g l;rw[ai f];unfold gi;split;exact h.U9 g c;rw[ai (by rintro rfl;exact f rfl),ai (by rintro rfl;exact f rfl),ai<|by rintro rfl;exact f rfl];split;exact h.pop g;exact h
def WX {c:aw}{a:Int}(i:0<=a/\a<=125){e:List aY}{o:Int}:∀(f k:Nat)(n:Int)(d:Nat),c.length<=k+f->1<=n->mY e o n (fE c a k)->dx (c.drop k) n=V d->(jE<|fE c a<|k+d).st=e/\c.getD (k+d) 0=21
 |0,k,n,d,hf,_,_,hm=>by rw[lu<|by omega]at hm;cases hm
 |f+1,k,n,d,hf,hn,h,hm=>by
  rcases dc k c.length with j|j
  .rw[drop_at j,dx]at hm;by_cases b:c.getD k 0=21
   .rw[aj b]at hm;by_cases l:n - 1=0;rw[aj l]at hm;obtain rfl:=aI hm;obtain rfl:n=1:=(by omega);exact⟨h.out<|zF c a i k,b⟩;rw[ai l]at hm;cases hr:dx (c.drop<|k+1) (n - 1)with
    |none=>rw[hr]at hm;cases hm
    |some g=>rw[hr]at hm;obtain rfl:=aI hm;have:=h.step i hn (λ_=>by omega);rw[aj b]at this;have:=WX i f (k+1) (n - 1) g (by omega) (by omega) this hr;rw[show k+(g+1)=k+1+g by omega];exact this
   rw[ai b]at hm;cases hr:dx (c.drop<|k+1) (if aU (c.getD k 0)=db then n+1 else n)with
   |none=>rw[hr]at hm;cases hm
   |some g=>rw[hr]at hm;obtain rfl:=aI hm;have:=h.step i hn (λm=>absurd m b);rw[ai b]at this;have:=WX i f (k+1) _ g (by omega) (by split<;>omega) this hr;rw[show k+(g+1)=k+1+g by omega];exact this
  rw[lu j]at hm;cases hm
def apu {b:aw}{a:Int}(k:0<=a/\a<=125){i:Nat}(m:i<b.length)(g:aU (b.getD i 0)=db)(j:mt b i<b.length):iM b a (mt b i)=iM b a i/\b.getD (mt b i) 0=21:=by
 have f:¬b.getD i 0=21:=by intro e;rw[e]at g;cases g
 obtain⟨l,n⟩:=ain b i (fE b a i) (b.getD i 0) g;have c:mY (fE b a i).st (fE b a i).aM 1 (fE b a<|i+1):=by rw[fE,eP,ai f,n];exact mY.akn l (zF b a k i).aM.1
 unfold mt at j ⊢;cases hd:dx (b.drop i) 0 with
 |none=>rw[hd]at j;simp at j
 |some d=>
  simp only;rw[drop_at m,dx,ai f,aj g]at hd;cases hr:dx (b.drop<|i+1) (0+1)with
  |none=>rw[hr]at hd;cases hd
  |some h=>rw[hr]at hd;obtain rfl:=aI hd;have:=WX k b.length (i+1) 1 h (by omega) (O6 _) c hr;rw[show i+(h+1)=i+1+h by omega];refine⟨?_,this.2⟩;unfold iM;rw[this.2,eP,aj rfl,this.1,eP,ai f]
def Rq(a:aw)(i:Nat)(x:aw×ba):aw×ba:=
 if aU (a.getD i 0)=db then(x.1.set i (-1),x.2++[i])
 else if a.getD i 0=21 then(match x.2.getLast? with
  |some k=>(((x.1.set i (-1)).set k (i:Int)).set i (k:Int),x.2.dropLast)
  |none=>(x.1.set i (-1),x.2))
 else(x.1.set i (-1),x.2)
def uj(a:aw):Nat->aw×ba
 |0=>(List.replicate a.length 0,[])
 |i+1=>Rq a i<|uj a i
def oD(a:aw):aw:=(uj a a.length).1
structure r9(cs:aw)(i:Nat)(x:aw×ba):Prop where
 le:i<=cs.length
 len:x.1.length=cs.length
 opn:∀(d k:Nat),x.2[d]? =some k->nj cs k i ((x.2.length:Int) - d)/\aU (cs.getD k 0)=true/\k<i/\x.1.getD k 0= -1
 EZ:∀k,k<i->aU (cs.getD k 0)=true->k∈x.2∨(mt cs k<i/\x.1.getD k 0=mt cs k)
 Fi:∀k,k<i->cs.getD k 0=21->(x.1.getD k 0= -1/\∀j,j<k->aU (cs.getD j 0)=true->mt cs j≠k)∨∃j,j<k/\aU (cs.getD j 0)=true/\mt cs j=k/\x.1.getD k 0=j
 AA:∀k,k<i->aU (cs.getD k 0)=false->cs.getD k 0≠21->x.1.getD k 0= -1
 vC:x.2.Nodup
def r9.start(a:aw):r9 a 0 (List.replicate a.length 0,[]):=
 ⟨lB _,by simp,λd k h=>by simp at h,λk h=>by omega,λk h=>by omega,λk h=>by omega,by simp⟩
def Ac {l:aw}{k:Nat}(h:k<l.length)(v:Int):(l.set k v).getD k 0=v:=by rw[aN,mB h];rfl
def getD_set_ne {l:aw}{k j:Nat}(h:k≠j)(v:Int):(l.set k v).getD j 0=l.getD j 0:=by rw[aN,ajc h,aN]
def r9.plain {l:aw}{i:Nat}{x:aw×ba}(h:r9 l i x)(o:i<l.length)(q:aU (l.getD i 0)=da)(r:l.getD i 0≠21):r9 l (i+1) (x.1.set i (-1),x.2):=by refine⟨o,by simp[h.len],?_,?_,?_,?_,h.vC⟩;intro d k m;obtain⟨a,b,c,e⟩:=h.opn d k m;refine⟨?_,b,by omega,by simp only;rw[getD_set_ne<|by omega];exact e⟩;have:=a.plain o r;rw[q]at this;simpa using this;intro k m g;rcases dc k i with f|f;rcases h.EZ k f g with p|⟨p,n⟩;exact .inl p;exact .inr ⟨by omega,by simp only;rw[getD_set_ne<|by omega];exact n⟩;obtain rfl:k=i:=(by omega);rw[q]at g;cases g;intro k m j;rcases dc k i with f|f;simp only;rw[getD_set_ne<|by omega];exact h.Fi k f j;obtain rfl:k=i:=(by omega);exact absurd j r;intro k m g j;simp only;rcases dc k i with f|f;rw[getD_set_ne<|by omega];exact h.AA k f g j;obtain rfl:k=i:=(by omega);rw[Ac<|by rw[h.len];exact o]
def r9.push {m:aw}{i:Nat}{x:aw×ba}(h:r9 m i x)(q:i<m.length)(n:aU (m.getD i 0)=db):r9 m (i+1) (x.1.set i (-1),x.2++[i]):=by
 have s:m.getD i 0≠21:=by intro e;rw[e]at n;cases n
 refine⟨q,by simp[h.len],?_,?_,?_,?_,?_⟩
 .intro d k j;simp only at j;rcases dc d x.2.length with p|p;rw[uM p]at j;obtain⟨a,b,c,e⟩:=h.opn d k j;refine⟨?_,b,by omega,by simp only;rw[getD_set_ne<|by omega];exact e⟩;have:=a.plain q s;rw[aj n]at this;simp only[bG,eU,kW];rw[show(((x.2.length+(0+1):Nat):Int) - d)=((x.2.length:Int) - d)+1 by omega];exact this;rw[tH p]at j;have t:d - x.2.length=0:=by rcases IL (d - x.2.length)with o|o;exact o;rw[tI<|by simp;omega]at j;cases j
  rw[t]at j;obtain rfl:i=k:=(by simpa using j);refine⟨?_,n,by omega,by simp only;rw[Ac<|by rw[h.len];exact q]⟩;have:=(nj.start m i<|by omega).plain q s;rw[aj n]at this;simp only[bG,eU,kW];rw[show(((x.2.length+(0+1):Nat):Int) - d)=0+1 by omega];exact this
 .intro k j g;rcases dc k i with f|f;rcases h.EZ k f g with o|⟨o,r⟩;exact .inl (by simp[o]);exact .inr ⟨by omega,by simp only;rw[getD_set_ne<|by omega];exact r⟩;obtain rfl:k=i:=(by omega);exact .inl<|by simp
 .intro k j l;rcases dc k i with f|f;simp only;rw[getD_set_ne<|by omega];exact h.Fi k f l;obtain rfl:k=i:=(by omega);exact absurd l s
 .intro k j g l;simp only;rcases dc k i with f|f;rw[getD_set_ne<|by omega];exact h.AA k f g l;obtain rfl:k=i:=(by omega);rw[n]at g;cases g
 simp only;rw[II];refine⟨h.vC,by simp,?_⟩;intro a v b u;simp at u;subst u;obtain⟨d,p⟩:=mA v;have:=(h.opn d a p).2.2.1;omega
def r9.none {g:aw}{i:Nat}{x:aw×ba}(h:r9 g i x)(o:i<g.length)(n:g.getD i 0=21)(hx:x.2=[]):r9 g (i+1) (x.1.set i (-1),x.2):=by refine⟨o,by simp[h.len],?_,?_,?_,?_,h.vC⟩;intro d k f;rw[hx]at f;simp at f;intro k f b;rcases dc k i with a|a;rcases h.EZ k a b with e|⟨e,l⟩;exact .inl e;exact .inr ⟨by omega,by simp only;rw[getD_set_ne<|by omega];exact l⟩;obtain rfl:k=i:=(by omega);rw[n]at b;cases b;intro k f c;rcases dc k i with a|a;simp only;rw[getD_set_ne<|by omega];exact h.Fi k a c;obtain rfl:k=i:=(by omega);refine .inl ⟨by simp only;rw[Ac<|by rw[h.len];exact o],λj p m=> ?_⟩;rcases h.EZ j p m with e|⟨e,_⟩;rw[hx]at e;cases e;omega;intro k f b c;simp only;rcases dc k i with a|a;rw[getD_set_ne<|by omega];exact h.AA k a b c;obtain rfl:k=i:=(by omega);exact absurd n c
def r9.aq5 {r:aw}{i o:Nat}{x:aw×ba}{q:ba}(h:r9 r i x)(z:i<r.length)(t:r.getD i 0=21)(hx:x.2=q++[o]):r9 r (i+1) (((x.1.set i (-1)).set o (i:Int)).set i (o:Int),q):=by
 have s:=h.len;have J:x.2[q.length]? =V o:=by rw[hx];simp
 obtain⟨a,b,c,e⟩:=h.opn _ _ J;have C:mt r o=i:=a.hit z t (by rw[hx];simp;omega);have u:=h.vC;rw[hx,II]at u;have B:o ∉ q:=λI=>u.2.2 o I o (by simp) rfl
 have m:∀k,k<i->k≠o->(((x.1.set i (-1)).set o (i:Int)).set i (o:Int)).getD k 0=x.1.getD k 0:=by intro k p g;rw[getD_set_ne<|by omega,getD_set_ne<|by omega,getD_set_ne<|by omega]
 have w:(((x.1.set i (-1)).set o (i:Int)).set i (o:Int)).getD o 0=i:=by rw[getD_set_ne<|by omega,Ac<|by simp;omega]
 have v:(((x.1.set i (-1)).set o (i:Int)).set i (o:Int)).getD i 0=o:=by rw[Ac<|by simp;omega]
 refine⟨z,by simp[s],?_,?_,?_,?_,u.1⟩
 .intro d k p;simp only at p;have H:d<q.length:=(tJ.1 p).1;have f:x.2[d]? =V k:=by rw[hx,uM H];exact p
  obtain⟨D,E,F,G⟩:=h.opn d k f;have A:k∈q:=Pq p;refine⟨?_,E,by omega,?_⟩;have:=D.Fi z t (by rw[hx];simp;omega);simp only;rw[show((q.length:Int) - d)=((x.2.length:Int) - d) - 1 by rw[hx];simp;omega];exact this;simp only;rw[m k F<|by rintro rfl;exact B A];exact G
 .intro k p j;rcases dc k i with f|f;by_cases g:k=o;subst g;exact .inr ⟨by omega,by simp only;rw[w,C]⟩;rcases h.EZ k f j with n|⟨n,y⟩;rw[hx]at n;refine .inl ?_;simp at n;rcases n with n|n;exact n;exact absurd n g;exact .inr ⟨by omega,by simp only;rw[m k f g];exact y⟩;obtain rfl:k=i:=(by omega);rw[t]at j;cases j
 .intro k p l;rcases dc k i with f|f;have g:k≠o:=(by rintro rfl;rw[l]at b;cases b);simp only;rw[m k f g];exact h.Fi k f l;obtain rfl:k=i:=(by omega);exact .inr ⟨o,c,b,C,by simp only;rw[v]⟩
 intro k p j l;rcases dc k i with f|f;have g:k≠o:=(by rintro rfl;rw[j]at b;cases b);simp only;rw[m k f g];exact h.AA k f j l;obtain rfl:k=i:=(by omega);exact absurd t l
def NK(a:aw):∀i,i<=a.length->r9 a i (uj a i)
 |0,_=>r9.start a
 |i+1,hi=>by have h:=NK a i (by omega);rw[uj,Rq];by_cases c:aU (a.getD i 0)=db;rw[aj c];exact h.push (by omega) c;rw[ai c];by_cases b:a.getD i 0=21;rw[aj b];rcases Bh (uj a i).2 with hx|⟨d,o,hx⟩;have:=h.none (by omega) b hx;rw[hx]at this ⊢;exact this;rw[CX]at hx;have:=h.aq5 (by omega) b hx;rw[hx];simpa using this;rw[ai b];exact h.plain (by omega) (by simpa using c) b
def afh(a:aw):(oD a).length=a.length:=(NK a _ (au _)).len
def XI {b:aw}{k:Nat}(l:k<b.length)(j:aU (b.getD k 0)=db):(oD b).getD k 0=if mt b k<b.length then(mt b k:Int)else -1:=by have h:=NK b _ (au _);rcases h.EZ k l j with c|⟨f,g⟩;obtain⟨d,i⟩:=mA c;obtain⟨a,_,_,e⟩:=h.opn d k i;rw[ai<|by rw[a.stop<|by omega];omega];exact e;rw[aj f];exact g
def afK(a:aw)(i:Nat):∀n,n<=i->(0<=Ay a i n↔∃j,i - n<=j/\j<i/\aU (a.getD j 0)=db/\mt a j=i)
 |0,_=>by rw[Ay];constructor;intro h;omega;rintro⟨j,c,b,_⟩;omega
 |n+1,hn=>by rw[Ay];have ih:=afK a i n (by omega);by_cases h:aU (a.getD (i - (n+1)) 0)=db/\mt a (i - (n+1))=i;rw[aj h];constructor;intro _;exact⟨i - (n+1),au _,by omega,h.1,h.2⟩;intro _;omega;rw[ai h,ih];constructor;rintro⟨j,c,b⟩;exact⟨j,by omega,b⟩;rintro⟨j,c,b,e,f⟩;rcases Nat.eq_or_lt_of_le c with d|d;subst d;exact absurd ⟨e,f⟩ h;exact⟨j,by omega,b,e,f⟩
def afL(a:aw)(i:Nat):0<=opener a i↔∃j,j<i/\aU (a.getD j 0)=db/\mt a j=i:=by unfold opener;rw[afK a i i<|au _];constructor;rintro⟨j,_,h⟩;exact⟨j,h⟩;rintro⟨j,h⟩;exact⟨j,by omega,h⟩
def api {d:aw}{k:Nat}(m:k<d.length)(n:d.getD k 0=21):((oD d).getD k 0≠ -1↔0<=opener d k):=by rw[afL];have h:=NK d _ (au _);rcases h.Fi k m n with⟨e,f⟩|⟨j,e,f,i,l⟩;constructor;intro g;exact absurd e g;rintro⟨j,a,b,c⟩;exact absurd c<|f j a b;constructor;intro _;exact⟨j,e,f,i⟩;intro _ g;have:(oD d).getD k 0=j:=l;omega
def rO(a:aw)(b:Nat):Nat->Nat->Int
 |0,_=>0
 |f+1,i=>if i<b then(if a.getD i 0=0 then 0 else if a.getD i 0=1∨a.getD i 0=2 then 1 else if aU (a.getD i 0)=db then rO a b f (mt a i+1)else rO a b f (i+1))else 0
def Yq(a:aw):∀f i,rO a a.length f i=lI a f i
 |0,i=>rfl
 |f+1,i=>by rw[rO,lI,Yq a f,Yq a f]
def Rt:∀(l:aw)(n a:Int)(d:Nat),1<=n->1<=a->dx l (n+a)=V d->∃b,b<d/\dx l n=V b
 |[],n,a,d,_,_,h=>by cases h
 |c::r,n,a,d,hn,ha,h=>by
  rw[dx]at h;rw[dx];by_cases i:c=21
  .rw[aj i]at h ⊢;rw[ai<|by omega]at h;cases hr:dx r (n+a - 1)with
   |none=>rw[hr]at h;cases h
   |some d1=>rw[hr]at h;obtain rfl:=aI h;by_cases f:n - 1=0;rw[aj f];exact⟨0,by simp,rfl⟩;rw[ai f];obtain⟨b,g,e⟩:=Rt r (n - 1) a d1 (by omega) ha (by rw[show n - 1+a=n+a - 1 by omega];exact hr);rw[e];exact⟨b+1,by simp;omega,rfl⟩
  rw[ai i]at h ⊢;cases hi:aU c with
  |true=>
   rw[hi,aj rfl]at h;rw[aj rfl];cases hr:dx r (n+a+1)with
   |none=>rw[hr]at h;cases h
   |some d1=>rw[hr]at h;obtain rfl:=aI h;obtain⟨b,g,e⟩:=Rt r (n+1) a d1 (by omega) ha (by rw[show n+1+a=n+a+1 by omega];exact hr);rw[e];exact⟨b+1,by simp;omega,rfl⟩
  |false=>
   rw[hi,ai<|by decide]at h;rw[ai<|by decide];cases hr:dx r (n+a)with
   |none=>rw[hr]at h;cases h
   |some d1=>rw[hr]at h;obtain rfl:=aI h;obtain⟨b,g,e⟩:=Rt r n a d1 hn ha hr;rw[e];exact⟨b+1,by simp;omega,rfl⟩
def XL:∀(l:aw)(n:Int)(d q:Nat),dx l n=V d->d<q->dx (l.take q) n=V d
 |[],n,d,q,h,_=>by cases h
 |c::r,n,d,0,_,hq=>by omega
 |c::r,n,d,q+1,h,hq=>by
  rw[Uh];rw[dx]at h ⊢;by_cases b:c=21
  .rw[aj b]at h ⊢;by_cases a:n - 1=0;rw[aj a]at h ⊢;exact h;rw[ai a]at h ⊢;cases hr:dx r (n - 1)with
   |none=>rw[hr]at h;cases h
   |some d1=>rw[hr]at h;obtain rfl:=aI h;rw[XL r (n - 1) d1 q hr (by simp at hq;omega)];rfl
  rw[ai b]at h ⊢;cases hr:dx r (if aU c=db then n+1 else n)with
  |none=>rw[hr]at h;cases h
  |some d1=>rw[hr]at h;obtain rfl:=aI h;rw[XL r _ d1 q hr (by simp at hq;omega)];rfl
def EF {b:aw}{i m:Nat}(q:i<b.length)(f:aU (b.getD i 0)=db)(c:dx (b.drop i) 0=V (m - i))(l:i<m):∀j,i+1+j<=m->∃n:Int,1<=n/\dx (b.drop<|i+1+j) n=V (m - (i+1+j))
 |0,h=>by
  have k:¬b.getD i 0=21:=by intro e;rw[e]at f;cases f
  rw[drop_at q,dx,ai k,aj f]at c;cases hr:dx (b.drop<|i+1) (0+1)with
  |none=>rw[hr]at c;cases c
  |some d=>rw[hr]at c;have:=aI c;simp at this;refine⟨0+1,by omega,?_⟩;rw[show i+1+0=i+1 by omega,hr];congr 1;omega
 |j+1,h=>by
  obtain⟨n,s,a⟩:=EF q f c l j (by omega);have r:i+1+j<b.length:=by rcases dc (i+1+j) b.length with g|g;exact g;rw[lu g]at a;cases a
  rw[drop_at r,dx]at a;by_cases p:b.getD (i+1+j) 0=21
  .rw[aj p]at a;by_cases o:n - 1=0;rw[aj o]at a;have:=aI a;omega;rw[ai o]at a;cases hr:dx (b.drop<|i+1+j+1) (n - 1)with
   |none=>rw[hr]at a;cases a
   |some d=>rw[hr]at a;have:=aI a;simp at this;refine⟨n - 1,by omega,?_⟩;rw[show i+1+(j+1)=i+1+j+1 by omega,hr];congr 1;omega
  rw[ai p]at a;cases hr:dx (b.drop<|i+1+j+1) (if aU (b.getD (i+1+j) 0)=db then n+1 else n)with
  |none=>rw[hr]at a;cases a
  |some d=>
   rw[hr]at a;have:=aI a;simp at this;refine⟨if aU (b.getD (i+1+j) 0)=db then n+1 else n,?_,?_⟩;split<;>omega
   rw[show i+1+(j+1)=i+1+j+1 by omega,hr];congr 1;omega
def afp {a:aw}{i k:Nat}(r:i<a.length)(m:aU (a.getD i 0)=db)(l:mt a i<a.length)(t:i<k)(u:k<mt a i)(g:aU (a.getD k 0)=db):∃d,dx (a.drop k) 0=V d/\k+d<mt a i:=by
 have j:i<mt a i:=by omega
 have h:dx (a.drop i) 0=V (mt a i - i):=by
  unfold mt at l ⊢;cases h:dx (a.drop i) 0 with
  |none=>rw[h]at l;simp at l
  |some d=>simp
 obtain⟨n,s,b⟩:=EF r m h j (k - (i+1)) (by omega);rw[show i+1+(k - (i+1))=k by omega]at b;have f:k<a.length:=by omega
 have c:¬a.getD k 0=21:=by intro e;rw[e]at g;cases g
 rw[drop_at f,dx,ai c,aj g]at b;rw[drop_at f,dx,ai c,aj g];cases hr:dx (a.drop<|k+1) (n+1)with
 |none=>rw[hr]at b;cases b
 |some d1=>rw[hr]at b;have p:=aI b;simp at p;obtain⟨o,v,q⟩:=Rt (a.drop<|k+1) 1 n d1 (by omega) s (by rw[show 1+n=n+1 by omega];exact hr);refine⟨o+1,by rw[show(0:Int)+1=1 by omega,q];rfl,by omega⟩
def apv {a:aw}{i k:Nat}(o:i<a.length)(h:aU (a.getD i 0)=db)(m:i<k)(n:k<mt a i)(p:aU (a.getD k 0)=db):mt ((a.take<|mt a i).drop (i+1)) (k - (i+1))+(i+1)=mt a k:=by
 have q:=vz a i (by omega);have b:((a.take<|mt a i).drop (i+1)).drop (k - (i+1))=(a.drop k).take (mt a i - k):=by rw[Pe,show i+1+(k - (i+1))=k by omega,List.drop_take]
 rcases dc (mt a i) a.length with g|g
 .obtain⟨d,c,r⟩:=afp o h g m n p;have j:mt a k=k+d:=by unfold mt;rw[c]
  have l:mt ((a.take<|mt a i).drop (i+1)) (k - (i+1))=k - (i+1)+d:=by have f:=XL _ _ _ (mt a i - k) c (by omega);rw[<-b]at f;generalize(a.take<|mt a i).drop (i+1)=u at*;unfold mt;rw[f]
  rw[j,l];omega
 have e:mt a i=a.length:=by omega
 have s:a.take (mt a i)=a:=by rw[e];exact Pt
 rw[s]at b ⊢;unfold mt;rw[Pe,show i+1+(k - (i+1))=k by omega];cases c:dx (a.drop k) 0 with
 |none=>simp;omega
 |some d=>simp;omega
def Yr {a:aw}{i:Nat}(g:i<a.length)(e:aU (a.getD i 0)=db):∀f q,rO a (mt a i) f (i+1+q)=lI ((a.take<|mt a i).drop (i+1)) f q
 |0,q=>rfl
 |f+1,q=>by
  have j:=vz a i (by omega);have c:((a.take<|mt a i).drop (i+1)).length=mt a i - (i+1):=by rw[Pm,tM];omega
  rw[rO,lI,c];by_cases d:i+1+q<mt a i;rw[aj d,aj (show q<mt a i - (i+1)by omega)];have h:((a.take<|mt a i).drop (i+1)).getD q 0=a.getD (i+1+q) 0:=(by rw[aN,zS,Ph,aj d,aN]);rw[h];by_cases b:aU (a.getD (i+1+q) 0)=db;have:=apv g e (show i<i+1+q by omega) d b;rw[show i+1+q - (i+1)=q by omega]at this;rw[aj b,aj b,<-this,show mt ((a.take<|mt a i).drop (i+1)) q+(i+1)+1=i+1+(mt ((a.take<|mt a i).drop (i+1)) q+1)by omega,Yr g e f];rw[ai b,ai b,show i+1+q+1=i+1+(q+1)by omega,Yr g e f];rw[ai d,ai (show¬q<mt a i - (i+1)by omega)]
def amL {a:aw}{i:Nat}(d:i<a.length)(c:aU (a.getD i 0)=db)(f:Nat)(g:mt a i - (i+1)<=f):rO a (mt a i) f (i+1)=tX a i:=by
 have:=Yr d c f 0;rw[show i+1+0=i+1 by omega]at this;rw[this];unfold tX found;have e:=vz a i (by omega);have b:((a.take<|mt a i).drop (i+1)).length=mt a i - (i+1):=by rw[Pm,tM];omega
 exact Vp _ _ _ _ (by omega) (by omega)
def l8(a:List Bool)(p:Nat):Bool:=a.getD p da
structure Bq(lv:aw)(lf:List Bool)(i:Nat)(x:List ba×ba):Prop where
 flat:x.1.flatten++x.2=(List.range i).filter (l8 lf)
 ne:∀r∈x.1,r≠[]
 lvl:∀r∈x.1,∀p∈r,lv.getD p 0=lv.getD (r.headD 0) 0
 cur:∀p∈x.2,lv.getD p 0=lv.getD (x.2.headD 0) 0
def Bq.start(b:aw)(a:List Bool):Bq b a 0 ([],[]):=⟨rfl,by simp,by simp,by simp⟩
def Bq.step {e:aw}{f:List Bool}{i:Nat}{x:List ba×ba}(h:Bq e f i x):Bq e f (i+1) (Hr e f i x):=by
 obtain⟨j,k,m,n⟩:=h;unfold Hr;split;rename_i q;refine⟨?_,k,m,n⟩;rw[j,IJ,tD,tG,IA,l8,q];simp;rename_i q;have d:l8 f i=db:=by simpa [l8]using q
 split;rename_i o;refine⟨?_,?_,?_,by simp⟩;simp only[List.flatten_append,Bj,List.flatten_nil,mH];rw[j,IJ,tD,tG,IA,d];rfl;intro r b;rcases ji.1 b with b|b;exact k r b;simp at b;subst b;exact o.1;intro r b;rcases ji.1 b with b|b;exact m r b;simp at b;subst b;exact n;rename_i o;refine⟨?_,k,m,?_⟩;simp only;rw[<-dY,j,IJ,tD,tG,IA,d];rfl;simp only;by_cases hx:x.2=[]
 .rw[hx];simp
 have s:(x.2++[i]).headD 0=x.2.headD 0:=by cases hx2:x.2 with
  |nil=>exact absurd hx2 hx
  |cons a l=>rfl
 rw[s];intro p c;rcases ji.1 c with c|c;exact n p c;simp at c;subst c;rcases Decidable.em (e.getD (x.2.headD 0) 0=e.getD p 0)with g|g;exact g.symm;exact absurd ⟨hx,g⟩ o
def ag6 {b:aw}{a:List Bool}:∀n i x,Bq b a i x->∃y,Bq b a (i+n) y/\zj b a n i x=wM y
 |0,i,x,h=>⟨x,h,rfl⟩
 |n+1,i,x,h=>by obtain⟨y,c,d⟩:=ag6 n (i+1) _ h.step;exact⟨y,by rw[show i+(n+1)=i+1+n by omega];exact c,by rw[zj];exact d⟩
def AJ(c:aw)(d:List Bool):(dB c d).flatten=(List.range c.length).filter (l8 d)/\(∀r∈dB c d,r≠[])/\∀r∈dB c d,∀p∈r,c.getD p 0=c.getD (r.headD 0) 0:=by obtain⟨y,b,f⟩:=ag6 c.length 0 ([],[])<|Bq.start c d;unfold dB;rw[f];unfold wM;rw[fV]at b;split;rename_i e;refine⟨?_,b.ne,b.lvl⟩;have:=b.flat;rw[e,mH]at this;exact this;rename_i e;refine⟨?_,?_,?_⟩;rw[<-b.flat];simp;intro r a;rcases ji.1 a with a|a;exact b.ne r a;simp at a;subst a;exact e;intro r a;rcases ji.1 a with a|a;exact b.lvl r a;simp at a;subst a;exact b.cur
def ag7(b:aw)(a:List Bool):(dB b a).flatten.Nodup:=by rw[(AJ b a).1];exact ki _ ajl
def RU {b:aw}{a:List Bool}{r:ba}{p:Nat}(d:r∈dB b a)(c:p∈r):p<b.length/\l8 a p=db:=by have:p∈(dB b a).flatten:=Ud.2 ⟨r,d,c⟩;rw[(AJ b a).1,uN,IG]at this;exact this
def jU(nx:Nat->Option Nat):Nat->Nat->Option Nat
 |0,i=>V i
 |a+1,i=>(jU nx a i).bind nx
def pJ(nx:Nat->Option Nat):Nat->Nat->ba
 |0,i=>[i]
 |f+1,i=>match nx i with
  |none=>[i]
  |some k=>i::pJ nx f k
def aeK(nx:Nat->Option Nat):∀a i k,nx i=V k->jU nx (a+1) i=jU nx a k
 |0,i,k,h=>by simp[jU,h]
 |a+1,i,k,h=>by rw[jU,aeK nx a i k h,jU]
def Rx(nx:Nat->Option Nat):∀f i k,k∈pJ nx f i->∃a,jU nx a i=V k
 |0,i,k,h=>by simp[pJ]at h;exact⟨0,by simp[jU,h]⟩
 |f+1,i,k,h=>by rw[pJ]at h;split at h;simp at h;exact⟨0,by simp[jU,h]⟩;rename_i q c;rcases gI.1 h with h|h;exact⟨0,by simp[jU,h]⟩;obtain⟨a,b⟩:=Rx nx f q k h;exact⟨a+1,by rw[aeK nx a i q c];exact b⟩
section
variable{nx:Nat->Option Nat}(inj:∀i j k,nx i=some k->nx j=some k->i=j)
include inj
def Ri:∀a b i j k,jU nx a i=V k->jU nx (a+b) j=V k->jU nx b j=V i
 |0,b,i,j,k,h1,h2=>by simp[jU]at h1;subst h1;rw[fV]at h2;exact h2
 |a+1,b,i,j,k,h1,h2=>by
  rw[show a+1+b=(a+b)+1 by omega]at h2;rw[jU]at h1 h2;cases h3:jU nx a i with
  |none=>rw[h3]at h1;cases h1
  |some p=>
   cases h4:jU nx (a+b) j with
   |none=>rw[h4]at h2;cases h2
   |some q=>rw[h3]at h1;rw[h4]at h2;have:p=q:=inj p q k h1 h2;subst this;exact Ri a b i j p h3 h4
omit inj in
def Xj {s:Nat}(a:∀i,nx i≠V s)(b j:Nat)(h:jU nx b j=V s):b=0/\j=s:=by
 cases b with
 |zero=>simp[jU]at h;exact⟨rfl,h⟩
 |succ b=>
  rw[jU]at h;cases h1:jU nx b j with
  |none=>rw[h1]at h;cases h
  |some q=>rw[h1]at h;exact absurd h<|a q
def ap8 {s t k:Nat}(l:∀i,nx i≠V s)(m:∀i,nx i≠V t){f g:Nat}(e:k∈pJ nx f s)(j:k∈pJ nx g t):s=t:=by obtain⟨a,c⟩:=Rx nx f s k e;obtain⟨b,d⟩:=Rx nx g t k j;rcases Nat.le_total a b with h|h;have:=Ri inj a (b - a) s t k c (by rw[show a+(b - a)=b by omega];exact d);exact(Xj l _ _ this).2.symm;have:=Ri inj b (a - b) t s k d (by rw[show b+(a - b)=a by omega];exact c);exact(Xj m _ _ this).2
def afO {s:Nat}(d:∀i,nx i≠V s):∀f i c,jU nx c s=V i->(pJ nx f i).Nodup
 |0,i,c,h=>by simp[pJ]
 |f+1,i,c,h=>by
  rw[pJ];split;simp;rename_i q b;rw[Ec];refine⟨?_,afO d f q (c+1)<|by rw[jU,h];exact b⟩;intro j;obtain⟨a,g⟩:=Rx nx f q i j;have e:jU nx (c+(a+1)) s=V i:=by
   have:∀a i q,jU nx c s=V i->nx i=V q->jU nx (c+(a+1)) s=jU nx a q:=by
    intro a
    induction a with
    |zero=>intro i q h b;show(jU nx c s).bind nx=V q;rw[h];exact b
    |succ a ih=>intro i q h b;rw[show c+(a+1+1)=(c+(a+1))+1 by omega,jU,ih i q h b];rfl
   rw[this a i q h b];exact g
  have:=Ri inj c (a+1) s s i h e;have:=(Xj d _ _ this).1;omega
def afP(f:Nat):∀(l:ba),l.Nodup->(∀s∈l,∀i,nx i≠V s)->(l.flatMap<|pJ nx f).Nodup
 |[],_,_=>by simp
 |s::l,hn,hs=>by rw[yF,II];refine⟨afO inj (hs s<|by simp) f s 0 rfl,afP f l (Ec.1 hn).2 (λt c=>hs t<|by simp[c]),?_⟩;intro a g b e d;subst d;obtain⟨t,c,e⟩:=IE.1 e;have:=ap8 inj (hs s<|by simp) (hs t<|by simp[c]) g e;subst this;exact(Ec.1 hn).1 c
end
def Tryz.aop:(prog.info? 194).map (λi=>(i.zero,i.size,i.bytes))=V (V<|df #[Y Z 0,Y Z 0],2,16):=by kernel_rfl
def akP(r:Int):(brk r).1=0∨(brk r).1=1∨(brk r).1=2:=by unfold brk;split;exact .inr (.inl rfl);split;exact .inr (.inr rfl);split;exact .inr (.inr rfl);split;exact .inr (.inr rfl);split;exact .inr (.inr rfl);exact .inl rfl
def Yi:∀(l:List<|Nat×Nat)(k:Nat),k<l.length->(gK l)[k*2]? =V (Y Z ((l.getD k (0,0)).1:Nat))/\(gK l)[k*2+1]? =V (Y Z ((l.getD k (0,0)).2:Nat))
 |[],k,h=>by simp at h
 |p::l,0,_=>by simp[gK]
 |p::l,k+1,h=>by
  have ih:=Yi l k (by simpa using h);have e:gK (p::l)=[Y Z (p.1:Nat),Y Z (p.2:Nat)]++gK l:=by simp[gK]
  rw[e,tH<|by simp;omega,tH<|by simp;omega];simp only[eU,kW,Pf];rw[show(k+1)*2 - (0+1+1)=k*2 by omega,show(k+1)*2+1 - (0+1+1)=k*2+1 by omega];exact ih
def Yg {w:cw}{B g a L:Nat}{l:List (Nat×Nat)}{e:TypeId}(h:w.ownsRow B e 2 (.slice (V<|S g 0 U) L a) L<|gK l)(k:Nat)(b:k<L):w.cell? (S g (k*2) U)=V (Y Z ((l.getD k (0,0)).1:Nat)):=by
 have c:l.length=L:=by have:=h.1;rw[af1]at this;omega
 rw[cT h (k*2)<|by omega];exact(Yi l k<|by omega).1
def Yh {w:cw}{B g a L:Nat}{l:List (Nat×Nat)}{e:TypeId}(h:w.ownsRow B e 2 (.slice (V<|S g 0 U) L a) L<|gK l)(k:Nat)(b:k<L):w.cell? (S g (k*2+1) U)=V (Y Z ((l.getD k (0,0)).2:Nat)):=by
 have c:l.length=L:=by have:=h.1;rw[af1]at this;omega
 rw[cT h (k*2+1)<|by omega];exact(Yi l k<|by omega).2
def Yj:∀(l:List<|Nat×Nat)(k:Nat)(p:Nat×Nat),((gK l).set (k*2) (Y Z (p.1:Nat))).set (k*2+1) (Y Z (p.2:Nat))=gK (l.set k p)
 |[],k,p=>by simp[gK]
 |a::l,0,p=>by simp[gK]
 |a::l,k+1,p=>by
  have ih:=Yj l k p;have e:∀l:List<|Nat×Nat,gK (a::l)=Y Z (a.1:Nat)::Y Z (a.2:Nat)::gK l:=λl=>by simp[gK]
  rw[ajs,e,e,<-ih,show(k+1)*2=k*2+1+1 by omega];simp only[ajs]
def aqt {n w:cw}{B g f L:Nat}{l:List (Nat×Nat)}(h:w.ownsRow B 194 2 (.slice (V<|S g 0 U) L f) L<|gK l)(v:cD B n w)(i:B<=g)(q a b c d:Nat)(o:Obj)(u:(a,b)=l.getD (q+1) (0,0))(m:(c,d)=l.getD q (0,0)):cD B n (((((w.setCell ⟨g,(q+1)*2,U⟩<|Y Z (c:Nat)).setCell ⟨g,(q+1)*2+1,U⟩ (Y Z (d:Nat))).setCell (S g (q*2) U) (Y Z (a:Nat))).setCell (S g (q*2+1) U) (Y Z (b:Nat))).alloc o)/\(((((w.setCell ⟨g,(q+1)*2,U⟩<|Y Z (c:Nat)).setCell ⟨g,(q+1)*2+1,U⟩ (Y Z (d:Nat))).setCell (S g (q*2) U) (Y Z (a:Nat))).setCell (S g (q*2+1) U) (Y Z (b:Nat))).alloc o).ownsRow B 194 2 (.slice (V<|S g 0 U) L f) L (gK<|swp l<|q+1):=by
 have r:=(C0 h ((q+1)*2)<|Y Z (c:Nat)).1;have s:=(C0 r ((q+1)*2+1)<|Y Z (d:Nat)).1;have t:=(C0 s (q*2)<|Y Z (a:Nat)).1;have j:=(C0 t (q*2+1)<|Y Z (b:Nat)).1;have e:swp l (q+1)=(l.set (q+1) (c,d)).set q (a,b):=by rw[u,m];rfl
 rw[Yj l (q+1) (c,d),Yj _ q (a,b),<-e]at j;have k:=(((v.setCell (p:=⟨g,(q+1)*2,U⟩) i<|Y Z (c:Nat)).setCell (p:=⟨g,(q+1)*2+1,U⟩) i (Y Z (d:Nat))).setCell (p:=(S g (q*2) U)) i (Y Z (a:Nat))).setCell (p:=(S g (q*2+1) U)) i (Y Z (b:Nat));exact⟨k.alloc (gV<|Nat.lt_of_le_of_lt i (j.lt g rfl).2) o,j.alloc o⟩
def Vr {l:ba}{i:Nat}(h:i<l.length):l.getD i 0∈l:=by rw[aN,aK h];exact nP h
def N2 {t a:aw}{n k:Nat}{x y:ba×List (Nat×Nat)}(c:k<n)(b:qg t a k x=V y):dW t a (n - k) k x=dW t a (n - (k+1)) (k+1) y:=by rw[show n - k=(n - (k+1))+1 by omega,dW,b]
def aqj {t a:aw}{n k:Nat}{x:ba×List (Nat×Nat)}(c:k<n)(b:qg t a k x=U):dW t a (n - k) k x=U:=by rw[show n - k=(n - (k+1))+1 by omega,dW,b]
def aql {t b:aw}{k:Nat}{x:ba×List (Nat×Nat)}{c a d:Int}(f:t.getD k 0=c)(e:brk (b.getD k 0)=(a,d)):qg t b k x=if c=12 then(if a=1 then(if x.1.length=63 then U else V (x.1++[k],x.2))else if a=2 then(match nJ b d x.1 x.1.length with
   |some m=>V (x.1.take m,x.2++[(x.1.getD m 0,k)])
   |none=>V x)else V x)else V x:=by unfold qg;rw[f,e];rfl
def aqs(t d:aw)(n gt ot ct gr aD cr:Nat)(w:cw)(ht:t.length=n)(hr:d.length=n)(hn:n<=100000)(aC:bJ w gt ot t)(Dk:bJ w gr aD d)(aA:gt<w.1.size)(az:gr<w.1.size):cP prog 125 #[.slice (V<|S gt ot U) n ct,.slice (V<|S gr aD U) n cr] w λev w'=>∃(v:cJ)(ps:List<|Nat×Nat),ev=bj v/\mG t d ps/\ps.length<=n/\cD w.1.size w w'/\w'.ownsRow w.1.size 194 2 v ps.length (gK ps):=by
 obtain⟨iI,gZ,ia,ic,ig⟩:=fP Tryz.sQ;obtain⟨iP,aP,Nu,Nv,Nw⟩:=fP Tryz.aop;have aJ:=ah aC;have ak:=ah Dk;have aF:=ah ht;have ag:=ah hr;have HB:dd (gt<w.1.size/\gr<w.1.size):=⟨aA,az⟩
 obtain⟨P,hP⟩:=ac<|dW t d n 0 ([],[]);have HP:dd (P=dW t d t.length 0 ([],[])):=by rw[ht];exact hP
 have La:=ah hP;clear aC Dk ht hr aA az hP;go_enter func125,ntmps125;go_wp2;go_loopg [5,6,7] n (λgk sv ov iv wr=>∃(k:Nat)(x:ba×List (Nat×Nat)),k<=n/\gk=n - k/\iv=Y Z k/\su w wr w.1.size sv ov x/\lX k x/\P=dW t d (n - k) k x);exact⟨0,([],[]),by omega,rfl,rfl,su.start w,lX.start,La⟩;clear La;obtain⟨k,x,hk,rfl,rfl,hS,F,hF⟩:=hrel;obtain⟨sa,sc,rfl⟩:=eV hS.st;obtain⟨G,H,rfl⟩:=eV hS.out;have HS:=ah hS;have Q:=ah F;have I:=ah hF;have a2:x.1.length<=63:=F.len;have aQ:x.2.length<=k:=F.few;clear hS F hF;by_cases e:k<n
 .have ax:=ak.out.stay HS.out.below HB.out.2 k (by rw[ag.out];exact e);generalize Ak:d.getD k 0=rk at ax;obtain⟨bk,s,Gy⟩:∃bk s,brk rk=(bk,s):=⟨_,_,rfl⟩
  have aE:=ah Gy;have Z9:dd (brk (d.getD k 0)=(bk,s)):=by rw[Ak];exact Gy
  have Wj:=akP rk;rw[Gy]at Wj;simp only at Wj;clear Gy Ak;go_wp2_with fail;refine(E4 rk _).mono ?_;rintro ev w1 ⟨rfl,aq⟩;rw[aE.out];simp only;have E:=ah<|HS.out.call aq;have ay:=aJ.out.stay E.out.below HB.out.1 k (by rw[aF.out];exact e);clear aq ax HS;generalize ar:t.getD k 0=c at ay;have u:=aql (x:=x) ar Z9;clear ar Z9;by_cases A:c=12
  .subst A;rw[aj rfl]at u;rcases Wj with rfl|rfl|rfl
   .have h:dd (P=dW t d (n - (k+1)) (k+1) x):=(by show _=_;rw[I.out];exact N2 e<|by rw[u];rfl);clear u;go_wp2;go_roundg (n - (k+1));exact⟨k+1,x,by omega,rfl,by simp,E,Q.out.more,h⟩;omega
   .rw[aj rfl]at u;by_cases T:x.1.length=63
    .have h:dd (P=U):=(by show _=_;rw[I.out];exact aqj e<|by rw[u,aj T]);have aR:((x.1.length:Int)==63)=db:=(by simp;omega);clear u;go_wp2;refine bU (v:=R U 0 0) (by simp[results,results125,go_sem]) rfl ⟨R U 0 0,[],rfl,?_,by simp,E.out.below,rfl,.inl ⟨rfl,rfl⟩⟩;unfold mG;rw[<-HP.out,h.out]
    have h:dd (P=dW t d (n - (k+1)) (k+1) (x.1++[k],x.2)):=(by show _=_;rw[I.out];exact N2 e<|by rw[u,ai T]);have aR:((x.1.length:Int)==63)=da:=(by simp;omega);have bP:=ah<|Q.out.push T;clear u;have f:=E.out.st;have W:=E.out.base;go_wp2_with(at_builtin;refine rT _ rfl _ _ 31 rfl w.1.size 3 iI (Y Z 0) 8 underlying31 gZ ia ic ig rfl (by decide) _ _ _ rfl f _ _ rfl rfl (by omega) W ?_);intro v' w5 cG bQ;have eZ:=ah<|E.out.push cG bQ;clear cG bQ f;go_wp2;go_roundg (n - (k+1));exact⟨k+1,_,by omega,rfl,by simp,eZ,bP,h⟩;omega
   rw[ai<|by decide,aj rfl]at u;have al:=ah u;clear u;go_wp2;go_loopg [5,6,10] x.1.length (λgk sv ov jv wj=>∃m:Nat,m<=x.1.length/\m=gk/\sv=R sa x.1.length sc/\ov=R G x.2.length H/\jv=Y Z ((m:Int) - 1)/\su w wj w.1.size (R sa x.1.length sc) (R G x.2.length H) x/\nJ d s x.1 x.1.length=nJ d s x.1 m);exact⟨x.1.length,au _,rfl,rfl,rfl,by simp,E,rfl⟩;clear E ay;obtain⟨m,hm,rfl,rfl,rfl,rfl,an,hM⟩:=hrel;have Le:=ah an;have HM:=ah hM;clear an hM;cases m with
   |zero=>have h:dd (P=dW t d (n - (k+1)) (k+1) x):=(by show _=_;rw[I.out];refine N2 e ?_;rw[al.out,HM.out];rfl);go_wp2;go_roundg (n - (k+1));exact⟨k+1,x,by omega,rfl,by simp,Le,Q.out.more,h⟩;omega
   |succ m=>
    obtain⟨g,O,hv,av,vX,_⟩:=iq Le.out.st (by omega);obtain⟨ab,ad⟩:sa=V (S g 0 U)/\sc=O:=(by simpa using hv);clear hv;subst ab;subst ad;have B:m<x.1.length:=(by omega);have X:=jx Le.out.st m (by rw[iz];exact B);rw[pH _ _ B]at X;have BM:x.1.getD m 0<k:=Q.out.st _ (Vr B);have FQ:dd (nJ d s x.1 (m+1)=if(brk<|d.getD (x.1.getD m 0) 0).2=s then V m else nJ d s x.1 m):=rfl;have aH:=ah<|Q.out.pop B;have CJ:dd (∀(w5:cw)(v':cJ)(w2:cw),su w w2 w.1.size (.slice (V<|S g 0 U) x.1.length sc) (R G x.2.length H) x->w5.ownsRow w.1.size 194 2 v' (x.2.length+1) (gK x.2++[Y Z (x.1.getD m 0:Nat),Y Z (k:Nat)])->w2.grownBy w5 (Value.slice G x.2.length H).ownBlock->su w w5 w.1.size (.slice (V<|S g 0 U) m sc) v' (x.1.take m,x.2++[(x.1.getD m 0,k)])):=λw5 v' w2 J h2 h3=>J.pair B h2 h3
    have aI:dd (nJ d s x.1 x.1.length=V m->P=dW t d (n - (k+1)) (k+1) (x.1.take m,x.2++[(x.1.getD m 0,k)])):=(by intro hh;rw[I.out];refine N2 e ?_;rw[al.out,hh]);generalize x.1.getD m 0=aa at*;have am:=ak.out.stay Le.out.below HB.out.2 aa (by rw[ag.out];omega);generalize d.getD aa 0=ra at am FQ;obtain⟨b2,o2,r⟩:∃b2 o2,brk ra=(b2,o2):=⟨_,_,rfl⟩
    rw[r]at FQ;have aG:=ah r;clear r;rw[show((m+1:Nat):Int) - 1=(m:Int)by omega];have aW:aa<n:=(by omega);go_wp2_with fail;refine(E4 ra _).mono ?_;rintro ev w2 ⟨rfl,r⟩;rw[aG.out];simp only;have OY:=ah<|Le.out.call r;have aT:w2.cell? (S g m U)=V (Y Z (aa:Nat)):=(by rw[r.cell (p:=(S g m U)) vX];exact X);clear r X am;by_cases JF:o2=s
    .have aS:(o2==s)=db:=(by simpa using JF);have h:dd (P=dW t d (n - (k+1)) (k+1) (x.1.take m,x.2++[(aa,k)])):=aI.out (by rw[HM.out,FQ.out,aj JF]);clear JF;have f:=OY.out.out;have W:=OY.out.base;go_wp2_with(at_builtin;refine aib _ rfl _ _ 190 rfl w.1.size 194 iP (df #[Y Z 0,Y Z 0]) 16 underlying190 aP Nu Nv Nw rfl (by decide) _ _ _ rfl f _ _ _ _ rfl (by simp) rfl rfl (by omega) W ?_);intro v' w5 cG bQ;have eZ:=ah<|CJ w5 v' w2 OY cG bQ;clear cG bQ f;have aU:0<sc:=(by omega);have aZ:m<=sc:=(by omega);go_wp2;go_roundg (n - (k+1));exact⟨k+1,_,by omega,rfl,by simp,eZ,aH,h⟩;omega
    have aS:(o2==s)=da:=(by simpa using JF);have h:dd (nJ d s x.1 x.1.length=nJ d s x.1 m):=(by show _=_;rw[HM.out,FQ.out,ai JF]);clear JF;go_wp2;go_roundg m;exact⟨m,by omega,rfl,rfl,rfl,by simp,OY,h⟩;omega
  rw[ai A]at u;have a3:=ae A;have aV:(c !=12)=db:=(by simpa using A);have h:dd (P=dW t d (n - (k+1)) (k+1) x):=by show _=_;rw[I.out];exact N2 e u
  clear u A;go_wp2;go_roundg (n - (k+1));exact⟨k+1,x,by omega,rfl,by simp,E,Q.out.more,h⟩;omega
 obtain rfl:k=n:=by omega
 have h:dd (P=V x.2):=by show _=_;rw[I.out,pT];rfl
 clear e;have af:dd (∀l:List<|Nat×Nat,Bt x.2 l x.2.length->l.length=x.2.length->mG t d l):=by intro l J h2;unfold mG;rw[<-HP.out,h.out];exact J.done<|by omega
 obtain⟨L,hL⟩:=ac x.2.length;have O4:dd (wr.ownsRow w.1.size 194 2 (R G L H) L<|gK x.2):=by rw[hL];exact HS.out.out
 have C:=ah HS.out.below;have DZ:=ah hL.symm;have aN:L<=k:=by omega
 rw[<-hL]at af ⊢;clear hL aQ HS I Q;go_wp2;go_loopg [13] (L - 1) (λgk iv ws=>∃(i:Nat)(l:List<|Nat×Nat),1<=i/\(i<=L∨i=1)/\gk=L - i/\iv=Y Z i/\cD w.1.size w ws/\ws.ownsRow w.1.size 194 2 (R G L H) L (gK l)/\Bt x.2 l i/\l.length=L);exact⟨1,x.2,by omega,.inr rfl,rfl,rfl,C,O4,⟨T5 _,λa b J h2=>by omega⟩,DZ⟩;clear O4 C;obtain⟨i,l,aX,aY,rfl,rfl,o,y,ao,K⟩:=hrel;have C:=ah o;have N:=ah y;have FR:=ah ao;have D:=ah K;clear o y ao K;by_cases e:i<L
 .go_wp2;go_loopg [14] i (λgk kv ws=>∃(p:Nat)(l:List<|Nat×Nat),p<=i/\p=gk/\kv=Y Z p/\cD w.1.size w ws/\ws.ownsRow w.1.size 194 2 (R G L H) L (gK l)/\El x.2 l i p/\l.length=L);exact⟨i,l,by omega,rfl,rfl,C,N,FR.out.sink,D⟩;clear C N FR D;obtain⟨p,z,hp,rfl,rfl,o,y,M,K⟩:=hrel;have C:=ah o;have N:=ah y;have D7:=ah M;have D:=ah K;cases p with
  |zero=>have rX:dd (Bt x.2 z<|i+1):=M.done (.inl rfl);clear o y M K;go_wp2;go_region;go_wp2;go_roundg (L - (i+1));exact⟨i+1,z,by omega,.inl<|by omega,rfl,by simp,C.out.drew,N,rX,D⟩;omega
  |succ q=>
   obtain⟨g,O,hv,av,vX,aO⟩:=iq y (by omega);obtain⟨ab,ad⟩:G=V (S g 0 U)/\H=O:=(by simpa using hv);clear hv;subst ab;subst ad;obtain⟨⟨a0,a1⟩,hA⟩:∃a:Nat×Nat,a=z.getD (q+1) (0,0):=⟨_,rfl⟩
   obtain⟨⟨b0,b1⟩,Mp⟩:∃a:Nat×Nat,a=z.getD q (0,0):=⟨_,rfl⟩
   have LZ:=Yg y (q+1) (by omega);have aK:=Yh y (q+1) (by omega);have aL:=Yg y q (by omega);have aM:=Yh y q (by omega);rw[<-hA]at LZ aK;rw[<-Mp]at aL aM;have QV:key z (q+1)=a0:=(by unfold key;rw[<-hA]);have QW:key z q=b0:=(by unfold key;rw[<-Mp]);have fr:=λj=>Em y j
   by_cases ap:a0<b0
   .have TH:dd (El x.2 (swp z<|q+1) i q):=M.swp (by omega) (by omega) (by rw[pS,QV,QW];exact ap);have HA:dd ((a0,a1)=z.getD (q+1) (0,0)/\(b0,b1)=z.getD q (0,0)):=⟨hA,Mp⟩
    clear o y M K hA Mp QV QW;go_wp2;go_region;go_wp2;go_roundg q;case measure=>omega
    case rel=>obtain⟨J,h2⟩:=HA.out;have aB:=aqt N C aO q a0 a1 b0 b1 (bi #[Y Z a0,Y Z a1] 194) J h2;exact⟨q,swp z<|q+1,by omega,rfl,by simp,aB.1.drew,aB.2,TH,by rw[as4];exact D.out⟩
   have rX:dd (Bt x.2 z<|i+1):=M.done (.inr<|by rw[pS,QV,QW];exact ap);clear o y M K hA Mp QV QW;go_wp2;go_region;go_wp2;go_roundg (L - (i+1));exact⟨i+1,z,by omega,.inl<|by omega,rfl,by simp,C.out.drew,N,rX,D⟩;omega
 have HV:dd (Bt x.2 l L):=⟨FR.out.1,λa b J h2=>FR.out.2 a b J<|by omega⟩
 go_wp2;refine bU (v:=R G L H) (by simp[results,results125,go_sem]) rfl ⟨_,l,rfl,af l HV D,by rw[D.out];exact aN,C,?_⟩;rw[D.out];exact N.out
def apG(t:aw)(o D e:Int)(B g n r:Nat)(w:cw)(hr:bI w B g n r t)(hn:n<=100000):cP prog 127 #[.slice (V<|S g 0 U) n r,Y Z o,Y Z D,Y Z e] w λF w'=>F=bj (de #[])/\bI w' B g n r (E7 o D e t)/\w.grownBy w' (V g):=by
 have HR:=ah hr;have A:=ah hr.len;clear hr;go_enter func127,ntmps127;go_wp2;go_loopg [9] n (λgk i wr=>∃(k:Nat)(s:Int)(z:aw),k<=n/\gk=n - k/\i=Y Z k/\bI wr B g n r z/\w.grownBy wr (V g)/\bC (fN D e) gN o t k s z/\Sm t z o k s);exact⟨0,o,t,by omega,rfl,rfl,HR,kI _ _,bC.start _ _ _ _,.inl ⟨rfl,rfl⟩⟩;clear HR;obtain⟨k,s,z,hk,rfl,rfl,hI,hG,hN,hA⟩:=hrel;have J:=ah hI;have HG:=ah hG;have K:=ah hN;have HA:=ah hA;clear hI hG hN hA;by_cases x:k<n
 rotate_left
 .have HE:dd (z=E7 o D e t):=K.out.stop (by rw[A.out];exact x);go_wp2;go_end0;exact⟨rfl,HE.out▸J.out,HG⟩
 go_wp2;go_loopg [10] (n - k) (λgk jv wj=>∃j:Nat,k<=j/\j<=n/\gk=n - j/\jv=Y Z j/\wj=wr/\∀q,k<=q->q<j->bH (t.getD q 0)<0);exact⟨k,by omega,by omega,rfl,rfl,rfl,λq E h2=>by omega⟩;obtain⟨j,ae,ag,rfl,rfl,hw,a⟩:=hrel;subst hw;have Jz:j<=t.length:=by rw[A.out];omega
 obtain⟨c,hx⟩:=ac<|t.getD j 0;obtain⟨H,f⟩:=ac<|bH c;obtain⟨b,G⟩:=ac<|vD D<|t.drop j;have R:=ah f;have HC:dd (j<n->wr.cell? (S g j U)=V (Y Z c)):=λh=>by have E:=J.out.cell j h;rw[K.out.at j ae,<-hx]at E;exact E
 by_cases M:j<n/\H<0
 .obtain⟨Q,M⟩:=M;have De:=HC.out Q;have lU:dd (∀q,k<=q->q<j+1->bH (t.getD q 0)<0):=by intro q E h2;rcases dc q j with h|h;exact a q E h;rw[show q=j by omega,<-hx,<-f];exact M
  clear a hx f G;go_wp2_with fail;refine(Fs c _).mono ?_;rintro F _ ⟨rfl,rfl⟩;rw[<-R.out];go_wp2;go_roundg (n - (j+1));exact⟨j+1,by omega,by omega,rfl,by simp,rfl,lU⟩;omega
 have HX:dd (j<t.length->¬bH (t.getD j 0)<0):=λh=>by rw[A.out]at h;rw[<-hx,<-f];omega
 have aa:dd (j<n->H=b):=λh=>by rw[G,apT (by rw[A.out];exact h)<|HX.out<|by rw[A.out];exact h,f,hx]
 have SD:dd (¬j<n->D=b):=λh=>by rw[G,apU<|by rw[A.out];exact h]
 by_cases QB:k<j
 rotate_left
 .obtain rfl:j=k:=by omega
  have De:=HC.out x;have L:dd (bC (fN D e) gN o t (j+1) H z/\Sm t z o (j+1) H):=by refine⟨?_,.inr (.inl ⟨by omega,?_⟩)⟩;rw[f,hx];exact arQ K (by rw[A.out];exact x) (HX<|by rw[A.out];exact x);rw[pS,K.out.at j<|au _,<-hx,f]
  have ad:¬H<0:=by omega
  clear hx f a G M;go_wp2_with fail;refine(Fs c _).mono ?_;rintro F _ ⟨rfl,rfl⟩;rw[<-R.out];go_wp2;go_roundg (n - (j+1));exact⟨j+1,_,_,by omega,rfl,by simp,J,HG,L.out.1,L.out.2⟩;omega
 obtain⟨d,W⟩:=ac (if s=b then s else e);have ab:dd (s=b->s=d):=λh=>by rw[W,aj h]
 have KC:dd (¬s=b->e=d):=λh=>by rw[W,ai h]
 have L:dd (bC (fN D e) gN o t j s (dV z k d<|j - k)/\Sm t (dV z k d<|j - k) o j s):=by have E:=agT (d:=d) K.out a Jz (by rw[W,G]) (j - k) (by omega);rw[show k+(j - k)=j by omega]at E;exact⟨E,.inr (.inr λh=>by have:=HX.out h;omega)⟩
 have HP:dd ((k=0/\s=o)∨∃k' p,k=k'+1/\s=bH p/\wr.cell? (S g k' U)=V (Y Z p)):=by rcases HA.out with h|⟨h0,h⟩|h;exact .inl h;exact .inr ⟨k - 1,_,by omega,h,J.out.cell (k - 1)<|by omega⟩;exact absurd (a k (au _) QB)<|h<|by rw[A.out];exact x
 clear a Jz hx f G W;by_cases Q:j<n
 focus
  have De:=HC.out Q;have ad:¬H<0:=by omega
  clear M;go_wp2_with fail;refine(Fs c _).mono ?_;rintro F wx ⟨rfl,y⟩;have O:=y.symm;subst O;rw[<-R.out]
 all_goals
  go_upto_if 42 with fail
  go_cut [11] (λv wc=>v=Y Z s/\wc=wr)
  case first=>
   rcases HP.out with⟨rfl,rfl⟩|⟨k',p,rfl,hs,pE⟩
   .go_wp2_with fail;go_meet;case rel=>exact⟨rfl,rfl⟩
   .go_wp2_with fail;refine(Fs p _).mono ?_;rintro F wx ⟨rfl,y⟩;have O:=y.symm;subst O;go_wp2_with fail;go_meet;case rel=>exact⟨by rw[hs],rfl⟩
  case rest=>
   obtain⟨rfl,u⟩:=hcut;have P:=u.symm;subst P
   go_upto_if 51 with fail
   go_cut [12] (λv wc=>v=Y Z b/\wc=wr)
   case first=>
    by_cases C:j<n
    .first
     |exact absurd C Q
     |(go_wp2_with fail
       refine(Fs c _).mono ?_;rintro F wx ⟨rfl,y⟩;have O:=y.symm;subst O;rw[<-R.out];go_wp2_with fail;go_meet;case rel=>exact⟨by rw[aa.out C],rfl⟩)
    first
    |exact absurd Q C
    |(go_wp2_with fail
      go_meet;case rel=>exact⟨by rw[SD.out C],rfl⟩)
   case rest=>
    obtain⟨rfl,u⟩:=hcut;have P:=u.symm;subst P
    go_upto_if 60 with fail
    go_cut [13] (λv wc=>v=Y Z d/\wc=wr)
    case first=>
     by_cases l:s=b
     .have af:(s==b)=db:=(by simpa using l);have H1:=ah<|ab l;clear l;go_wp2_with fail;go_meet;case rel=>exact⟨by rw[H1.out],rfl⟩
     .have af:(s==b)=da:=(by simpa using l);have H1:=ah<|KC l;clear l;go_wp2_with fail;go_meet;case rel=>exact⟨by rw[H1.out],rfl⟩
    case rest=>
     obtain⟨rfl,u⟩:=hcut;have P:=u.symm;subst P;go_wp2;go_loopg [14] (j - k) (λgk qv wq=>∃m:Nat,k+m<=j/\gk=j - k - m/\qv=Y Z ((k+m:Nat):Int)/\bI wq B g n r (dV z k d m)/\w.grownBy wq (V g));exact⟨0,by omega,rfl,rfl,J,HG⟩;obtain⟨m,hm,rfl,rfl,I,Gj⟩:=hrel;have X:=ah I;have KJ:=ah Gj;by_cases Wq:k+m<j
     .have GD:=I.frozen<|k+m;have p8:=I.cell (k+m) (by omega);generalize(dV z k d m).getD (k+m) 0=cq at p8;clear I Gj;obtain⟨q,hq⟩:=ac<|k+m;have T:=ah hq;rw[<-hq]at GD p8 Wq ⊢;clear hq;go_wp2;go_roundg (j - k - (m+1));case measure=>have:=T.out;omega
      case rel=>refine⟨m+1,by have:=T.out;omega,rfl,by have:=T.out;simp;omega,?_,?_⟩;rw[T.out];exact X.out.set (k+m) d;exact KJ.out.trans<|X.out.grown q d
     obtain rfl:m=j - k:=(by omega);clear I Gj;have N:k+(j - k)=j:=(by omega);rw[N];clear N;go_wp2;go_roundg (n - j);exact⟨j,_,_,by omega,rfl,by simp,X,KJ,L.out.1,L.out.2⟩;omega
def atY(t:aw)(E:Int)(vo:cJ)(B g n A:Nat)(w:cw)(hr:bI w B g n A t)(hn:n<=100000)(ao:0<n):cP prog 124 #[.slice (V<|S g 0 U) n A,vo,Y Z E] w λe w'=>e=bj (de #[])/\bI w' B g n A (vJ E t)/\w.grownBy w' (V g):=by
 have HR:=ah hr;have HL:=ah hr.len;clear hr;go_enter func124,ntmps124;go_wp2;go_loopg [7] n (λgk i wr=>∃(k:Nat)(s:Option Int)(o:aw),k<=n/\gk=n - k/\i=Y Z k/\bI wr B g n A o/\w.grownBy wr (V g)/\bC (f1 E) (g1 E) U t k s o/\jO o k s);exact⟨0,U,t,by omega,rfl,rfl,HR,kI _ _,bC.start _ _ _ _,jO.start _⟩;obtain⟨k,s,o,hk,rfl,rfl,r,D,y,L⟩:=hrel;have z:=ah r;have C:=ah D;by_cases u:k<n
 .have f:k<t.length:=by rw[HL.out];exact u
  have G:k<o.length:=by rw[r.len];exact u
  have l:=r.cell k u;rw[y.at k<|au _]at l;have ab:=r.frozen k;obtain⟨c,hx⟩:=ac<|t.getD k 0;rw[<-hx]at l;by_cases h8:c=8
  .subst h8;have key:∀v:Int,v=f1 E s 8 (t.drop<|k+1)->dd (bC (f1 E) (g1 E) U t (k+1) (V v) (o.set k v)/\jO (o.set k v) (k+1) (V v)):=λv hv=>
    ⟨y.step f v (V v) (by rw[<-hx];exact hv)<|by rw[<-hx,g1,<-hv],jO.set v G⟩
   cases k with
   |zero=>obtain rfl:s=U:=(by rcases L with⟨_,h⟩|⟨h,_⟩;exact h;omega);have x:=key E rfl;clear key r D y L hx f G;go_wp2;go_roundg (n - 1);exact⟨1,_,_,by omega,rfl,rfl,z.out.set 0 _,C.out.trans<|z.out.grown 0 _,x.out.1,x.out.2⟩;omega
   |succ j=>
    obtain⟨p,hp⟩:=ac<|o.getD j 0;obtain rfl:s=V p:=(by rcases L with⟨h,_⟩|⟨_,h⟩;omega;rw[h,pS,hp]);have MG:=r.cell j (by omega);rw[<-hp]at MG;have wm:∀a b:Int,bI ((wr.setCell (S g (j+1) U)<|Y Z a).setCell (S g (j+1) U) (Y Z b)) B g n A (o.set (j+1) b)/\w.grownBy ((wr.setCell (S g (j+1) U)<|Y Z a).setCell (S g (j+1) U) (Y Z b)) (V g):=λa b=>by have J:=(r.set (j+1) a).set (j+1) b;rw[Uf]at J;exact⟨J,(D.trans<|r.grown (j+1) a).trans ((r.set (j+1) a).grown (j+1) b)⟩
    have CQ:=ah wm;have OW:dd (∀a b c:Int,bI (((wr.setCell (S g (j+1) U)<|Y Z a).setCell (S g (j+1) U) (Y Z b)).setCell (S g (j+1) U) (Y Z c)) B g n A (o.set (j+1) c)/\w.grownBy (((wr.setCell (S g (j+1) U)<|Y Z a).setCell (S g (j+1) U) (Y Z b)).setCell (S g (j+1) U) (Y Z c)) (V g)):=λa b c=>by have J:=(wm a b).1.set (j+1) c;rw[Uf]at J;exact⟨J,(wm a b).2.trans ((wm a b).1.grown (j+1) c)⟩
    have HK:=ah key;clear key wm r D y L hx f G hp;cases bK:aU p
    .by_cases M:p=21
     .have x:=HK.out 12 (by simp[f1,M]);have DA:=an M;have zK:=ah bK;clear M bK;go_wp2_with fail;refine(Dq p _).mono ?_;rintro e _ ⟨rfl,rfl⟩;rw[zK.out];go_wp2;go_roundg (n - (j+1+1));exact⟨j+1+1,_,_,by omega,rfl,by simp,(OW _ _ _).1,(OW _ _ _).2,x.out.1,x.out.2⟩;omega
     have x:=HK.out p (by simp[f1,M,bK]);have DA:=ae M;have zK:=ah bK;clear M bK;go_wp2_with fail;refine(Dq p _).mono ?_;rintro e _ ⟨rfl,rfl⟩;rw[zK.out];go_wp2;go_roundg (n - (j+1+1));exact⟨j+1+1,_,_,by omega,rfl,by simp,(CQ _ _).1,(CQ _ _).2,x.out.1,x.out.2⟩;omega
    have x:=HK.out 12 (by simp[f1,bK]);have zK:=ah bK;clear bK;go_wp2_with fail;refine(Dq p _).mono ?_;rintro e _ ⟨rfl,rfl⟩;rw[zK.out];go_wp2;go_roundg (n - (j+1+1));exact⟨j+1+1,_,_,by omega,rfl,by simp,(OW _ _ _).1,(OW _ _ _).2,x.out.1,x.out.2⟩;omega
  have q8:=ae h8;have X:=y.stay f (V c) (by rw[<-hx,Qo h8]) (by rw[<-hx,g1,Qo h8]);have J:jO o (k+1) (V c):=(by rw[hx,<-y.at k (au _)];exact jO.stay);have bh:=ah X;have bL:=ah J;clear X J r D y L hx f G h8;go_wp2;go_roundg (n - (k+1));exact⟨k+1,_,_,by omega,rfl,by simp,z,C,bh,bL⟩;omega
 have K:dd (o=pass (f1 E) (g1 E) U t):=y.stop (by rw[HL.out];exact u);clear r D y L;go_wp2_with fail;refine(agH (pass (f1 E) (g1 E) U t) E 2 6 B g n A wr (K.out▸z.out) hn).mono ?_;rintro e w2 ⟨rfl,BJ,pz⟩;have CD:=ah BJ;have Q:=ah<|C.out.trans pz;have KQ:=ah BJ.len;clear BJ pz z C K;generalize ad:mO 2 6 E (pass (f1 E) (g1 E) U t)=T at CD KQ;have aG:=ah ad;clear ad;go_wp2;go_loopg [9] n (λgk i wr=>∃(k:Nat)(o:aw),k<=n/\gk=n - k/\i=Y Z k/\bI wr B g n A o/\w.grownBy wr (V g)/\bC f3 g3 () T k () o);exact⟨0,T,by omega,rfl,rfl,CD,Q,bC.start _ _ _ _⟩;clear CD Q;obtain⟨k,o,hk,rfl,rfl,r,D,y⟩:=hrel;have z:=ah r;have C:=ah D;by_cases u:k<n
 .have f:k<T.length:=(by rw[KQ.out];exact u);have l:=r.cell k u;rw[y.at k<|au _]at l;have ab:=r.frozen k;obtain⟨c,hx⟩:=ac<|T.getD k 0;rw[<-hx]at l;by_cases J:c=2
  .subst J;have x:dd (bC f3 g3 () T (k+1) ()<|o.set k 1):=y.step f 1 () (by rw[<-hx];rfl) rfl;clear r D y hx f;go_wp2;go_roundg (n - (k+1));exact⟨k+1,_,by omega,rfl,by simp,z.out.set k _,C.out.trans<|z.out.grown k _,x⟩;omega
  have q2:=ae J;have x:dd (bC f3 g3 () T (k+1) () o):=y.stay f () (by rw[<-hx,V4 J]) rfl;clear r D y hx f J;go_wp2;go_roundg (n - (k+1));exact⟨k+1,_,by omega,rfl,by simp,z,C,x⟩;omega
 have K:dd (o=pass f3 g3 () T):=y.stop (by rw[KQ.out];exact u);have rU:dd (bI wr B g n A<|pass f3 g3 () T):=K.out▸r;have FK:=ah rU.out.len;clear r D y z K;generalize af:pass f3 g3 () T=N at rU FK;have aJ:=ah af;clear af;go_wp2;go_loopg [10] (n - 1) (λgk i wr=>∃(k:Nat)(s:Int)(o:aw),1<=k/\k<=n/\gk=n - k/\i=Y Z k/\bI wr B g n A o/\w.grownBy wr (V g)/\bC f4 g4 U N k (V s) o/\s=o.getD (k - 1) 0);exact⟨1,_,N,by omega,by omega,by omega,rfl,rU,C,aga<|by rw[FK.out];exact ao,rfl⟩;clear rU C;obtain⟨k,a,o,ar,hk,rfl,rfl,r,D,y,L⟩:=hrel;have z:=ah r;have C:=ah D;by_cases u:k+1<n
 .obtain⟨j,rfl⟩:∃j,k=j+1:=⟨k - 1,by omega⟩
  have f:j+1<N.length:=(by rw[FK.out];omega);have G:j+1<o.length:=(by rw[r.len];omega);have l:=r.cell (j+1) (by omega);rw[y.at (j+1)<|au _]at l;have MG:=r.cell (j+1+1) (by omega);rw[y.at (j+1+1)<|by omega]at MG;have al:=r.cell j (by omega);rw[pS]at L;rw[<-L]at al;have ab:=r.frozen<|j+1;obtain⟨c,hx⟩:=ac<|N.getD (j+1) 0;obtain⟨d,hd⟩:=ac<|N.getD (j+1+1) 0;rw[<-hx]at l;rw[<-hd]at MG;have I:f4 (V a) c (N.drop<|j+1+1)=if a=d/\((c=4/\a=3)∨(c=7/\(a=3∨a=6)))then a else c:=by rw[drop_at (show j+1+1<N.length by rw[FK.out];omega),<-hd];exact Ve
  obtain⟨b,R⟩:=ac<|((a==d)&&(((c==4)&&(a==3))||((c==7)&&((a==3)||(a==6)))));have HB:=ah R;have hit:dd (b=db->bC f4 g4 U N (j+1+1) (V a) (o.set (j+1) a)/\a=(o.set (j+1) a).getD (j+1+1 - 1) 0):=λh=>by have h:a=d/\((c=4/\a=3)∨(c=7/\(a=3∨a=6))):=(by simpa [R]using h);exact⟨y.step f a (V a) (by rw[<-hx,I,aj h])<|by rw[<-hx,g4,I,aj h],by rw[pS,y.prev f a]⟩
  have P:dd (b=da->bC f4 g4 U N (j+1+1) (V c) o/\c=o.getD (j+1+1 - 1) 0):=λh=>by
   have h:¬(a=d/\((c=4/\a=3)∨(c=7/\(a=3∨a=6)))):=λe=>by have:b=db:=(by simpa [R]using e);rw[h]at this;cases this
   exact⟨y.stay f (V c) (by rw[<-hx,I,ai h])<|by rw[<-hx,g4,I,ai h],by rw[pS,y.at (j+1)<|au _,hx]⟩
  clear r D y L hx hd I f G R
  go_upto_region 21 with fail
  go_cut [119] (λv wc=>v=ce b/\wc=wr)
  case first=>
   cases qd:(a==d)
   rotate_left
   cases q4:(c==4)<;>cases q7:(c==7)<;>cases q3:(a==3)<;>cases q6:(a==6)
   all_goals
    go_wp2_with fail;go_meet;case rel=>exact⟨by first|simp[HB.out,qd,q4,q7,q3,q6]|simp[HB.out,qd],rfl⟩
  case rest=>
   obtain⟨rfl,aa⟩:=hcut;have vU:=aa.symm;subst vU;cases b
   .have x:dd _:=P.out rfl;clear hit P;go_wp2;go_roundg (n - (j+1+1));exact⟨j+1+1,_,_,by omega,by omega,rfl,by simp,z,C,x.out.1,x.out.2⟩;omega
   have x:dd _:=hit.out rfl;clear hit P;go_wp2;go_roundg (n - (j+1+1));exact⟨j+1+1,_,_,by omega,by omega,rfl,by simp,z.out.set (j+1) _,C.out.trans<|z.out.grown (j+1) _,x.out.1,x.out.2⟩;omega
 have K:dd (o=pass f4 g4 U N):=agb y (by rw[FK.out];exact u);have qz:dd (bI wr B g n A<|pass f4 g4 U N):=K.out▸r;have Bd:=ah qz.out.len;clear r D y z K L;generalize ag:pass f4 g4 U N=O at qz Bd;have cW:=ah ag;clear ag;go_wp2;go_loopg [12] n (λgk i wr=>∃(k:Nat)(s:Option Int)(o:aw),k<=n/\gk=n - k/\i=Y Z k/\bI wr B g n A o/\w.grownBy wr (V g)/\bC f5 g5 U O k s o/\jO o k s);exact⟨0,U,O,by omega,rfl,rfl,qz,C,bC.start _ _ _ _,jO.start _⟩;clear qz C;obtain⟨k,s,o,hk,rfl,rfl,r,D,y,L⟩:=hrel;have z:=ah r;have C:=ah D;have HN:=ah y;have HA:=ah L;clear r D y L;by_cases u:k<n
 .go_wp2;go_loopg [13] (n - k) (λgk jv wj=>∃j:Nat,k<=j/\j<=n/\gk=n - j/\jv=Y Z j/\wj=wr/\∀q,k<=q->q<j->O.getD q 0=5);exact⟨k,by omega,by omega,rfl,rfl,rfl,λq X J=>by omega⟩;obtain⟨j,am,ap,rfl,rfl,hw,H⟩:=hrel;subst hw;have Jz:j<=O.length:=(by rw[Bd.out];omega);obtain⟨c,hx⟩:=ac<|O.getD j 0;have HC:dd (j<n->wr.cell? (S g j U)=V (Y Z c)):=λh=>by have X:=z.out.cell j h;rw[HN.out.at j am,<-hx]at X;exact X
  by_cases F:j<n/\c=5
  .obtain⟨vZ,F⟩:=F;have De:=HC.out vZ;have q5:(c==5)=db:=(by simpa using F);have lU:dd (∀q,k<=q->q<j+1->O.getD q 0=5):=by intro q X J;rcases dc q j with h|h;exact H q X h;rw[show q=j by omega,<-hx,F]
   clear H hx F;go_wp2;go_roundg (n - (j+1));exact⟨j+1,by omega,by omega,rfl,by simp,rfl,lU⟩;omega
  by_cases QB:k<j
  rotate_left
  .obtain rfl:j=k:=(by omega);have F:¬c=5:=λe=>F ⟨u,e⟩
   have De:=HC.out u;have q5:(c==5)=da:=(by simpa using F);have x:dd (bC f5 g5 U O (j+1) (V c) o/\jO o (j+1) (V c)):=(by rw[hx];exact YM HN (by rw[Bd.out];exact u)<|by rw[<-hx];exact F);clear hx F H;go_wp2;go_roundg (n - (j+1));exact⟨j+1,_,_,by omega,rfl,by simp,z,C,x.out.1,x.out.2⟩;omega
  obtain⟨b,R⟩:=ac<|((s==V 3)||(decide (j<n)&&(c==3)));have hE:rC (O.drop j)=(decide (j<n)&&(c==3)):=by by_cases h:j<n;rw[hx,VP (by rw[Bd.out];exact h)<|by rw[<-hx];exact λe=>F ⟨h,e⟩];simp[h];rw[VQ<|by rw[Bd.out];exact h];simp[h]
  have bh:dd (b=db->_):=λh=>agN HN H Jz QB<|by rw[R]at h;rw[hE];simpa using h
  have bL:dd (b=da->_):=λh=>by rw[R]at h;simp only[Fy]at h;exact agP HN H Jz QB (by simpa using h.1)<|hE.trans h.2
  have HB:=ah R;have HP:dd ((k=0/\s=U)∨∃k' p,k=k'+1/\s=V p/\wr.cell? (S g k' U)=V (Y Z p)):=by rcases HA.out with h|⟨h0,h⟩;exact .inl h;exact .inr ⟨k - 1,_,by omega,h,z.out.cell (k - 1)<|by omega⟩
  clear H Jz hx R hE;by_cases vZ:j<n
  focus
   have De:=HC.out vZ;have q5:(c==5)=da:=by simpa using λe=>F ⟨vZ,e⟩
  all_goals
   clear F
   go_upto_region 29 with fail
   go_cut [168] (λv wc=>v=ce b/\wc=wr)
   case first=>
    cases qc:(c==3)
    all_goals
     rcases HP.out with⟨rfl,rfl⟩|⟨k',p,rfl,rfl,pE⟩
     rotate_left
     cases qp:(p==3)
    all_goals
     go_wp2_with fail;go_meet;case rel=>exact⟨by rw[HB.out];simp[*],rfl⟩
   case rest=>
    obtain⟨rfl,aa⟩:=hcut;have vU:=aa.symm;subst vU;cases b
    .have x:dd _:=bL.out rfl;clear bh bL;go_wp2;go_roundg (n - j);exact⟨j,_,_,by omega,rfl,by simp,z,C,x.out.1,x.out.2⟩;omega
    have x:dd _:=bh.out rfl;clear bh bL;go_wp2;go_loopg [14] (j - k) (λgk qv wq=>∃m:Nat,k+m<=j/\gk=j - k - m/\qv=Y Z ((k+m:Nat):Int)/\bI wq B g n A (z7 o k m)/\w.grownBy wq (V g));exact⟨0,by omega,rfl,rfl,z,C⟩;obtain⟨m,hm,rfl,rfl,Ag,Gj⟩:=hrel;have FI:=ah Ag;have KJ:=ah Gj;by_cases Wq:k+m<j
    .have GD:=Ag.frozen<|k+m;have p8:=Ag.cell (k+m) (by omega);generalize(z7 o k m).getD (k+m) 0=cq at p8;clear Ag Gj;obtain⟨q,hq⟩:=ac<|k+m;have HQ:=ah hq;rw[<-hq]at GD p8 Wq ⊢;clear hq;go_wp2;go_roundg (j - k - (m+1));case measure=>have:=HQ.out;omega
     case rel=>refine⟨m+1,by have:=HQ.out;omega,rfl,by have:=HQ.out;simp;omega,?_,?_⟩;rw[HQ.out];exact FI.out.set (k+m) 3;exact KJ.out.trans<|FI.out.grown q 3
    obtain rfl:m=j - k:=(by omega);clear Ag Gj;have ak:k+(j - k)=j:=(by omega);rw[ak];clear ak;go_wp2;go_roundg (n - j);exact⟨j,_,_,by omega,rfl,by simp,FI,KJ,x.out.1,x.out.2⟩;omega
 have K:dd (o=pass f5 g5 U O):=HN.out.stop (by rw[Bd.out];exact u);have OI:dd (bI wr B g n A<|pass f5 g5 U O):=K.out▸z.out;have Ik:=ah OI.out.len;clear HN z K HA;generalize bV:pass f5 g5 U O=W at OI Ik;have bF:=ah bV;clear bV;go_wp2;go_loopg [15] n (λgk i wr=>∃(k:Nat)(o:aw),k<=n/\gk=n - k/\i=Y Z k/\bI wr B g n A o/\w.grownBy wr (V g)/\bC f6 g3 () W k () o);exact⟨0,W,by omega,rfl,rfl,OI,C,bC.start _ _ _ _⟩;clear OI C;obtain⟨k,o,hk,rfl,rfl,r,D,y⟩:=hrel;have z:=ah r;have C:=ah D;by_cases u:k<n
 .have f:k<W.length:=(by rw[Ik.out];exact u);have l:=r.cell k u;rw[y.at k<|au _]at l;have ab:=r.frozen k;obtain⟨c,hx⟩:=ac<|W.getD k 0;rw[<-hx]at l;have hit:(c=4∨c=5∨c=7)->dd (bC f6 g3 () W (k+1) ()<|o.set k 12):=λh=>y.step f 12 () (by rw[<-hx,ams h]) rfl
  have P:¬(c=4∨c=5∨c=7)->dd (bC f6 g3 () W (k+1) () o):=λh=>y.stay f () (by rw[<-hx,V7 h]) rfl
  clear r D y hx f;by_cases h4:c=4
  .have x:=hit (.inl h4);have q4:=an h4;clear hit P h4;go_wp2;go_roundg (n - (k+1));exact⟨k+1,_,by omega,rfl,by simp,z.out.set k _,C.out.trans<|z.out.grown k _,x⟩;omega
  have q4:=ae h4;by_cases F:c=5
  .have x:=hit (.inr (.inl F));have q5:=an F;clear hit P h4 F;go_wp2;go_roundg (n - (k+1));exact⟨k+1,_,by omega,rfl,by simp,z.out.set k _,C.out.trans<|z.out.grown k _,x⟩;omega
  have q5:=ae F;by_cases h7:c=7
  .have x:=hit (.inr (.inr h7));have q7:=an h7;clear hit P h4 F h7;go_wp2;go_roundg (n - (k+1));exact⟨k+1,_,by omega,rfl,by simp,z.out.set k _,C.out.trans<|z.out.grown k _,x⟩;omega
  have q7:=ae h7;have x:=P (by omega);clear hit P h4 F h7;go_wp2;go_roundg (n - (k+1));exact⟨k+1,_,by omega,rfl,by simp,z,C,x⟩;omega
 have K:dd (o=pass f6 g3 () W):=y.stop (by rw[Ik.out];exact u);have HW:dd (vJ E t=mO 0 0 E (pass f6 g3 () W)):=(by show vJ E t=_;unfold vJ;rw[aG.out,aJ.out,cW.out,bF.out]);clear r D y;go_wp2_with fail;refine(agH (pass f6 g3 () W) E 0 0 B g n A wr (K.out▸z.out) hn).mono ?_;rintro e w2 ⟨rfl,BJ,pz⟩;have CD:=ah BJ;have Q:=ah<|C.out.trans pz;clear BJ pz z C K;go_wp2;go_end0;exact⟨rfl,HW.out▸CD.out,Q⟩
def AW {P:Program}(w:cw){l:Array Oper}{rest:List Oper}{o:Oper}{a:Act}{Q:Exit->Act->cw->Prop}(A:o.guard=U)(s x:Operand)(t:TypeId) (L:o.op= .call {callee:= .builtin .append,args:=#[s,x],argTypes:=#[t,t]}) (b:Nat) (e:TypeId) (i:TypeInfo) (z:cJ) (bytes:Nat) (N:P.underlying t=V (.slice e)) (K:P.info? e=V i) (O:i.zero=V z) (c:i.size=1) (r:i.bytes=bytes) (D:z.cells.size=1) (R:bytes<=64) (v:cJ) (n:Nat) (E:List cJ) (M:a.eval s=v) (g:w.ownsRow b e 1 v n E) (y:cJ) (G:TypeId) (k:Nat) (hx:a.eval x= .slice (V<|S k 0 U) 1 1) (B:k=w.1.size) (H:y.oneCell'=db) (T:n<=1000000) (q:b<=w.1.size) (h:∀d m,m.ownsRow b e 1 d (n+1) (E++[y])->w.grownBy m v.ownBlock->(d.ownBlock=v.ownBlock∨d.ownBlock=V (w.1.size+1))->wpList P l Q rest (a.put o.dst d) m):wpList P l Q (o::rest) a (w.alloc<|bi #[y] G):=by
 subst B;refine nY _ A s x t L b e i z 1 bytes N K O c r D (by decide) v n E M (g.alloc _) (S w.1.size 0 U) 1 1 [y] hx rfl ?_ ?_ ?_ ?_ ?_ ?_
 .intro j u p
  match j,p with
  |0,p=>simp at p;subst p;simp[Addr.add]
 .intro u F;simp at F;subst F;exact H
 .unfold maxLen;omega
 .have:(n+1)*bytes<=1000001*64:=zT (by omega) R;omega
 .simp;omega
 intro d m I f _ J;refine h d m I ⟨f.os,f.tape,f.output,?_,λk B C=> ?_⟩ (by simpa using J);have:=f.size;simp at this;omega;rw[f.block k (by simp;omega) C];exact dh w _ k B
def Vu {w a:cw}{r:Option Nat}(h:cD w.1.size w a):w.grownBy a r:=⟨h.os,h.tape,h.output,h.size,λk b _=>h.block k b⟩
def C3 {w:cw}{r:Option Nat}:w.grownBy w.drew r:=⟨rfl,rfl,rfl,au _,λ_ _ _=>rfl⟩
def qP(a b:Option Nat):Prop:=∀k,a=V k->b=V k->False
def qP.symm {a b:Option Nat}(h:qP a b):qP b a:=λk c d=>h k d c
def qP.ne {a b:Option Nat}(h:qP a b):a=U∨a≠b:=by
 cases a with
 |none=>exact .inl rfl
 |some k=>exact .inr λe=>h k rfl e.symm
def vE {w:cw}{B:Nat}{e:TypeId}{z n:Nat}{v:cJ}{b:List cJ}(h:w.ownsRow B e z v n b):∀k,v.ownBlock=V k->k<w.1.size:=λk a=>(h.lt k a).2
def qP.push {w:cw}{a c b:Option Nat}(h:qP a b)(d:c=a∨c=V (w.1.size+1))(g:∀k,b=V k->k<w.1.size):qP c b:=by intro k e f;rcases d with rfl|d;exact h k e f;rw[d]at e;have:=aI e;have:=g k f;omega
structure o8(w0 w:World)(B:Nat)(tv ov rv:Value)(t o r:aw):Prop where
 below:Below B w0 w
 base:B<=w.1.size
 ht:w.ownsRow B 3 1 tv t.length<|iv t
 ho:w.ownsRow B 3 1 ov o.length<|iv o
 hr:w.ownsRow B 3 1 rv r.length<|iv r
 to':qP tv.ownBlock ov.ownBlock
 tr:qP tv.ownBlock rv.ownBlock
 or':qP ov.ownBlock rv.ownBlock
def o8.start(a w:cw)(B:Nat)(c:cD B a w)(b:B<=w.1.size):o8 a w B (R U 0 0) (R U 0 0) (R U 0 0) [] [] []:=
 ⟨c,b,⟨rfl,.inl ⟨rfl,rfl⟩⟩,⟨rfl,.inl ⟨rfl,rfl⟩⟩,⟨rfl,.inl ⟨rfl,rfl⟩⟩,λk h=>(by cases h),λk h=>(by cases h),λk h=>(by cases h)⟩
def o8.YB {k w e:cw}{B:Nat}{d i j c:cJ}{t o r:aw}{a:Int}(h:o8 k w B d i j t o r)(f:e.ownsRow B 3 1 c (t.length+1)<|iv t++[Y Z a])(b:w.grownBy e d.ownBlock)(g:c.ownBlock=d.ownBlock∨c.ownBlock=V (w.1.size+1)):o8 k e B c i j (t++[a]) o r:=
 ⟨h.below.grown b h.base<|wJ h.ht,bM h.base b.size,by rw[G0]at f;simpa using f,eW h.ho b h.to'.symm.ne,eW h.hr b h.tr.symm.ne,h.to'.push g<|vE h.ho,h.tr.push g<|vE h.hr,h.or'⟩
def o8.arb {k w e:cw}{B:Nat}{j d i c:cJ}{t o r:aw}{a:Int}(h:o8 k w B j d i t o r)(f:e.ownsRow B 3 1 c (o.length+1)<|iv o++[Y Z a])(b:w.grownBy e d.ownBlock)(g:c.ownBlock=d.ownBlock∨c.ownBlock=V (w.1.size+1)):o8 k e B j c i t (o++[a]) r:=
 ⟨h.below.grown b h.base<|wJ h.ho,bM h.base b.size,eW h.ht b h.to'.ne,by rw[G0]at f;simpa using f,eW h.hr b h.or'.symm.ne,(h.to'.symm.push g<|vE h.ht).symm,h.tr,h.or'.push g<|vE h.hr⟩
def o8.N5 {k w e:cw}{B:Nat}{j i d c:cJ}{t o r:aw}{a:Int}(h:o8 k w B j i d t o r)(f:e.ownsRow B 3 1 c (r.length+1)<|iv r++[Y Z a])(b:w.grownBy e d.ownBlock)(g:c.ownBlock=d.ownBlock∨c.ownBlock=V (w.1.size+1)):o8 k e B j i c t o (r++[a]):=
 ⟨h.below.grown b h.base<|wJ h.hr,bM h.base b.size,eW h.ht b h.tr.ne,eW h.ho b h.or'.ne,by rw[G0]at f;simpa using f,h.to',(h.tr.symm.push g<|vE h.ht).symm,(h.or'.symm.push g<|vE h.ho).symm⟩
