import Derived.Test.YtkbinfhclaafhaaGreatDoorP02
namespace Go.Proofs.YtkbinfhclaafhaaGreatDoor
open Go.RowKit
open Go.Proofs.Tryz
set_option maxRecDepth 100000
set_option maxHeartbeats 32000000
set_option linter.all false
def zU:List Int:=[40,91,123,12296]
def C0:List Int:=[41,93,125,12297]
def DC(c:Int):Nat->Int×Int
 |0=>(0,0)
 |m+1=>if c=zU.getD (3 - m) 0 then(1,c)else if c=C0.getD (3 - m) 0 then(2,zU.getD (3 - m) 0)else DC c m
def ajf(r:Int):dV r=DC (canon r) 4:=by
 unfold dV;generalize canon r=c;simp only[DC,zU,C0];by_cases a:c=40
 .subst a;rfl
 by_cases b:c=41
 .subst b;rfl
 by_cases d:c=91
 .subst d;rfl
 by_cases e:c=93
 .subst e;rfl
 by_cases f:c=123
 .subst f;rfl
 by_cases g:c=125
 .subst g;rfl
 by_cases h:c=12296
 .subst h;rfl
 by_cases i:c=12297
 .subst i;rfl
 simp[a,b,d,e,f,g,h,i]
def aje(c:Int)(m:Nat)(a:m<4):DC c (4 - m)=if c=zU.getD m 0 then(1,c)else if c=C0.getD m 0 then(2,zU.getD m 0)else DC c (4 - (m+1)):=by
 rw[show 4 - m=(4 - (m+1))+1 by omega,DC,show 3 - (4 - (m+1))=m by omega]
def zF(r:Int)(w:World):Calls prog 191 #[.int .i64 r] w λe E=>e= .returned (.tuple #[.int .i64 (dV r).1,.int .i64 (dV r).2])/\Below w.heap.size w E:=by
 have y:=ajf r;generalize dV r=q at*;have t:Hid (Below w.heap.size w<|(w.alloc (.cells #[.int .i64 40,.int .i64 91,.int .i64 123,.int .i64 12296] 3)).alloc (.cells #[.int .i64 41,.int .i64 93,.int .i64 125,.int .i64 12297] 3)):=
  ((aA _ _).alloc (au _) _).alloc (by simp) _
 have j:∀m:Nat,m<4->((w.alloc (.cells #[.int .i64 40,.int .i64 91,.int .i64 123,.int .i64 12296] 3)).alloc (.cells #[.int .i64 41,.int .i64 93,.int .i64 125,.int .i64 12297] 3)).cell? ⟨w.heap.size,m,none⟩=some (.int .i64<|zU.getD m 0):=by
  intro m p
  match m,p with
  |0,_=>simp[zU]
  |1,_=>simp[zU]
  |2,_=>simp[zU]
  |3,_=>simp[zU]
 have l:∀m:Nat,m<4->((w.alloc (.cells #[.int .i64 40,.int .i64 91,.int .i64 123,.int .i64 12296] 3)).alloc (.cells #[.int .i64 41,.int .i64 93,.int .i64 125,.int .i64 12297] 3)).cell? ⟨w.heap.size+1,m,none⟩=some (.int .i64<|C0.getD m 0):=by
  intro m p
  match m,p with
  |0,_=>simp[C0]
  |1,_=>simp[C0]
  |2,_=>simp[C0]
  |3,_=>simp[C0]
 have B:=ah j;have C:=ah l;obtain⟨c,x⟩:=ac<|canon r;have D:(r=9001/\c=12296)∨(r=9002/\c=12297)∨((r==9001)=false/\(r==9002)=false/\c=r):=by
  rw[x];unfold canon;by_cases i:r=9001
  .exact .inl ⟨i,by rw[aj i]⟩
  .by_cases n:r=9002
   .exact .inr (.inl ⟨n,by rw[ai i,aj n]⟩)
   .exact .inr (.inr ⟨by simpa using i,by simpa using n,by rw[ai i,ai n]⟩)
 have z:Hid (q=DC c 4):=by show q=_;rw[y,x]
 clear y x j l;rcases D with⟨rfl,rfl⟩|⟨rfl,rfl⟩|⟨H,I,rfl⟩
 all_goals
  go_enter func191,ntmps191;go_wp2;go_loop [6] (λk=>∃m:Nat,m<=4/\k= .int .i64 m/\q=DC _ (4 - m)) (λk=>4 - (intOf k).toNat);case atStart=>exact⟨0,by omega,rfl,z.out⟩
  case round=>
   obtain⟨m,p,rfl,a⟩:=hrel;have f:=ah a;clear a z;by_cases d:m<4
   .have F:=B.out m d;have G:=C.out m d;have a:=f.out;rw[aje _ m d]at a;generalize zU.getD m 0=o at*;generalize C0.getD m 0=s at*;split at a
    .rename_i h;have A:(_==o)=true:=zx.2 h;have b:=ah a;clear a h f;go_wp2;exact cI (v:= .tuple #[.int .i64 q.1,.int .i64 q.2]) (by rw[b.out];simp[results,results191,go_sem]) rfl ⟨rfl,t.out⟩
    .rename_i h;split at a
     .rename_i g;have A:(_==o)=false:=Kk.2 h;have u:(_==s)=true:=zx.2 g;have b:=ah a;clear a h g f;go_wp2;go_region;go_wp2;exact cI (v:= .tuple #[.int .i64 q.1,.int .i64 q.2]) (by rw[b.out];simp[results,results191,go_sem]) rfl ⟨rfl,t.out.drew⟩
     .rename_i g;have A:(_==o)=false:=Kk.2 h;have u:(_==s)=false:=Kk.2 g;have b:=ah a;clear a h g f;go_wp2;go_round;case rel=>exact⟨m+1,by omega,by go_num,b.out⟩
      case measure=>simp[intOf];omega
   .have b:Hid (q=(0,0)):=(by have:=f.out;rw[show 4 - m=0 by omega]at this;exact this);go_wp2;exact cI (v:= .tuple #[.int .i64 q.1,.int .i64 q.2]) (by rw[b.out];simp[results,results191,go_sem]) rfl ⟨rfl,t.out⟩
def Tryz.dL(a b:Int)(w:World):(Instr.field 194 (.agg #[.int .i64 a,.int .i64 b]) 0).run prog w= .ok (.int .i64 a) w:=by kernel_rfl
def Tryz.pairT(a b:Int)(w:World):(Instr.field 194 (.agg #[.int .i64 a,.int .i64 b]) 1).run prog w= .ok (.int .i64 b) w:=by kernel_rfl
def bI.stay {w d:World}{B b a:Nat}{l:List Int}(h:bI w b a l)(e:Below B w d)(c:b<B):bI d b a l:=λi f=>by rw[e.cell (p:=⟨b,a+i,none⟩) c];exact h i f
def CL(f z:Nat):Nat->Nat
 |0=>f
 |_=>z
def Ad(a:List Int)(d:Int)(f z:Nat)(t:List Int):Nat->List Int
 |0=>t
 |j+1=>o8 a d (CL f z j)<|Ad a d f z t j
def agn(a:List Int)(d:Int)(f z:Nat)(t:List Int)(j:Nat)(_:j<2):Ad a d f z t (j+1)=o8 a d (CL f z j) (Ad a d f z t j):=rfl
def Qe {f z n:Nat}(a:f<z)(b:z<n):∀j,CL f z j<n
 |0=>Nat.lt_trans a b
 |_+1=>b
def rD {W w:World}{g b k:Nat}(h:W.grownBy w<|some g)(c:b<W.heap.size)(a:b≠g):w.cell? ⟨b,k,none⟩=W.cell? ⟨b,k,none⟩:=by
 simp only[World.cell?];rw[h.block b c<|by simpa using a]
def aoG(t a:List Int)(f z:Nat)(e C:Int)(B g n r D oo co:Nat)(w:World)(hr:bu w B g n r t)(hn:n<=100000)(L:a.length=n)(Pj:bI w D oo a)(am:D<w.heap.size)(an:D≠g)(al:f<z)(hz:z<n):
  Calls prog 126 #[.slice (some ⟨g,0,none⟩) n r,.slice (some ⟨D,oo,none⟩) n co,.agg #[.int .i64 f,.int .i64 z],.int .i64 e,.int .i64 C] w λev w'=>ev= .returned (.tuple #[])/\bu w' B g n r (s9 t a (f,z) e C)/\w.grownBy w' (some g):=by
 have HR:=ah hr;have HO:=ah Pj;have Gx:=ah L;have Jo:Hid (D<w.heap.size/\D≠g):=⟨am,an⟩
 clear hr Pj L am an;have fF:=Tryz.dL;have fT:=Tryz.pairT;obtain⟨q,hq⟩:=ac<|s9 t a (f,z) e C;rw[<-hq];have HQ:=ah hq;clear hq;have ak:B<=g/\g<w.heap.size:=AJ HR.out g rfl;have lX:Hid (w.grownBy (w.alloc (.cells #[.int .i64 f,.int .i64 z] 194))<|some g):=⟨rfl,rfl,rfl,by simp,λk G _=>dw w _ k G⟩
 have dI:Hid (bu (w.alloc (.cells #[.int .i64 f,.int .i64 z] 194)) B g n r t):=kT HR.out _;have Av:Hid (bI (w.alloc (.cells #[.int .i64 f,.int .i64 z] 194)) D oo a):=HO.out.stay ((aA w.heap.size w).alloc (au _) _) Jo.out.1;have c0:(w.alloc (.cells #[.int .i64 f,.int .i64 z] 194)).cell? ⟨w.heap.size,0,none⟩=some (.int .i64 f):=by simp
 have c1:(w.alloc (.cells #[.int .i64 f,.int .i64 z] 194)).cell? ⟨w.heap.size,1,none⟩=some (.int .i64 z):=by simp
 have HC:Hid (w.heap.size<(w.alloc (.cells #[.int .i64 f,.int .i64 z] 194)).heap.size):=by show _<_;simp
 have Ji:=ah ak;clear ak HR HO;go_enter func126,ntmps126;go_wp2;generalize w.alloc (.cells #[.int .i64 f,.int .i64 z] 194)=W1 at*;generalize w.heap.size=h at*;go_loopg [10,11,12] (z - (f+1)) (λgk sv ov i wr=>∃m:Nat,f+1+m<=z/\gk=z - (f+1) - m/\sv= .bool (lK (Ev e) t (f+1) m)/\ov= .bool (lK (yC e) t (f+1) m)/\i= .int .i64 ((f+1+m:Nat):Int)/\wr=W1);exact⟨0,by omega,rfl,rfl,rfl,by simp,rfl⟩;obtain⟨m,hm,rfl,rfl,rfl,rfl,hw⟩:=hrel;subst hw;have I:=show lK (Ev e) t (f+1) (m+1)=(lK (Ev e) t (f+1) m||(bD (t.getD (f+1+m) 0)==e))from rfl
 have Lz:=show lK (yC e) t (f+1) (m+1)=(lK (yC e) t (f+1) m||(decide (0<=bD (t.getD (f+1+m) 0))&&bD (t.getD (f+1+m) 0) !=e))from rfl
 by_cases T:f+1+m<z
 .have d:=dI.out.cell (f+1+m) (by omega);generalize t.getD (f+1+m) 0=c at d I Lz;obtain⟨p,s⟩:=ac<|f+1+m;have v:=ah s;rw[<-s]at d T ⊢;clear s;obtain⟨J,A⟩:=ac<|bD c;rw[<-A]at I Lz;have xM:=ah A;clear A;generalize lK (Ev e) t (f+1) m=sm at*;generalize lK (yC e) t (f+1) m=om at*;have EU:=ah I;have Y4:=ah Lz;clear I Lz;have pn:p<n:=by omega
  have hh:∃b1 b2,b1=(J==e)/\b2=decide (0<=J):=⟨_,_,rfl,rfl⟩
  cases sm<;>cases om<;>rcases Int.lt_or_le J 0 with H|H<;>by_cases qB:J=e
  all_goals
   first
   |have af:(J==e)=true:=by simpa using qB
    have ag:(J !=e)=false:=by simpa using qB
   |have af:(J==e)=false:=by simpa using qB
    have ag:(J !=e)=true:=by simpa using qB
   have RG:=EU.out;have JD:=Y4.out;rw[af]at RG;rw[ag]at JD
   first
   |rw[mz H]at JD
   |rw[rB (by omega)]at JD
   have ar:Hid _:=RG;have ap:Hid _:=JD;clear RG JD hh EU Y4 qB;go_wp2_with fail;refine(uA c _).mono ?_;rintro ev _ ⟨rfl,rfl⟩;rw[<-xM.out];go_wp2;go_roundg (z - (f+1) - (m+1));exact⟨m+1,by have:=v.out;omega,rfl,by rw[ar.out];rfl,by rw[ap.out];rfl,by have:=v.out;simp;omega,rfl⟩;have:=v.out;omega
 .have Ii:m=z - (f+1):=by omega
  subst Ii;clear I Lz T;rw[show f+1+(z - (f+1))=z by omega];cases hS:lK (Ev e) t (f+1)<|z - (f+1)
  .cases hO:lK (yC e) t (f+1)<|z - (f+1)
   .have HV:Hid (q=t):=(by show q=t;rw[HQ.out];unfold s9;rw[aj ⟨hS,hO⟩]);clear hS hO;go_wp2;refine cI (Bu rfl _ _ _) rfl ?_;exact⟨rfl,HV.out▸dI.out,lX.out⟩
   .have ao:Hid (q=Ad a (kG C t f) f z t 2):=by
     show q=_;have s:zX t (f,z) e C=kG C t f:=(by unfold zX;rw[ai<|by rw[hS];decide]);rw[HQ.out];unfold s9;rw[ai<|by rw[hO];simp,s];rfl
    clear hS hO;go_wp2;go_loopg [15,16] f (λgk lv iv wl=>∃m:Nat,m<=f/\gk=f - m/\lv= .int .i64 (kG C t m)/\iv= .int .i64 m/\wl=wr);exact⟨0,by omega,rfl,rfl,rfl,rfl⟩;obtain⟨m,hm,rfl,rfl,rfl,hw⟩:=hrel;subst hw;by_cases T:m<f
    .have d:=dI.out.cell m (by omega);have hl:=show kG C t (m+1)=if bD (t.getD m 0)<0 then kG C t m else bD (t.getD m 0)from rfl
     generalize t.getD m 0=c at d hl;obtain⟨J,A⟩:=ac<|bD c;rw[<-A]at hl;have xM:=ah A;clear A;have ax:m<n:=(by omega);rcases Int.lt_or_le J 0 with H|H
     .have Ng:Hid (kG C t (m+1)=kG C t m):=(by show _=_;rw[hl,aj H]);clear hl;go_wp2_with fail;refine(uA c _).mono ?_;rintro ev _ ⟨rfl,rfl⟩;rw[<-xM.out];go_wp2;go_roundg (f - (m+1));exact⟨m+1,by omega,rfl,by rw[Ng.out],by simp,rfl⟩;omega
     .have Ng:Hid (kG C t (m+1)=J):=(by show _=_;rw[hl,ai<|by omega]);clear hl;go_wp2_with fail;refine(uA c _).mono ?_;rintro ev _ ⟨rfl,rfl⟩;rw[<-xM.out];go_wp2;go_roundg (f - (m+1));exact⟨m+1,by omega,rfl,by rw[Ng.out],by simp,rfl⟩;omega
    .obtain rfl:f=m:=(by omega);clear T;generalize kG C t f=l at*;by_cases ad:l=e;all_goals
      first|subst ad|(have aw:(l !=e)=true:=(by simpa using ad);clear ad)
      have HV:=ah ao.out;have gD:Hid (bu (wr.alloc (.cells #[.int .i64 f,.int .i64 z] 3)) B g n r t):=kT dI.out _;have Y:Hid (w.grownBy (wr.alloc (.cells #[.int .i64 f,.int .i64 z] 3))<|some g):=lX.out.trans ⟨rfl,rfl,rfl,by simp,λk G _=>dw wr _ k G⟩;have bL:Hid (bI (wr.alloc (.cells #[.int .i64 f,.int .i64 z] 3)) D oo a):=Av.out.stay ((aA wr.heap.size wr).alloc (au _) _) (by have:=Jo.out.1;have:=HC.out;omega);have d0:(wr.alloc (.cells #[.int .i64 f,.int .i64 z] 3)).cell? ⟨wr.heap.size,0,none⟩=some (.int .i64 f):=(by simp);have d1:(wr.alloc (.cells #[.int .i64 f,.int .i64 z] 3)).cell? ⟨wr.heap.size,1,none⟩=some (.int .i64 z):=(by simp);have HD:Hid (∀j:Nat,j<2->(wr.alloc (.cells #[.int .i64 f,.int .i64 z] 3)).cell? ⟨wr.heap.size,j,none⟩=some (.int .i64 (CL f z j:Nat))):=by
       intro j S
       match j,S with
       |0,_=>exact d0
       |1,_=>exact d1
      have N:Hid (wr.heap.size<(wr.alloc (.cells #[.int .i64 f,.int .i64 z] 3)).heap.size/\wr.heap.size≠g/\D<(wr.alloc (.cells #[.int .i64 f,.int .i64 z] 3)).heap.size/\D≠g):=by
       have x:=Jo.out;have h2:=HC.out;have h3:=Ji.out;exact⟨by simp,by omega,by simp;omega,x.2⟩
      clear d0 d1;go_wp2;generalize wr.alloc (.cells #[.int .i64 f,.int .i64 z] 3)=W2 at*;generalize wr.heap.size=h2 at*;go_loopg [85] 2 (λgk iv wr=>∃(j:Nat)(u:List Int),j<=2/\gk=2 - j/\iv= .int .i64 j/\bu wr B g n r u/\W2.grownBy wr (some g)/\u=Ad a l f z t j);exact⟨0,t,by omega,rfl,rfl,gD.out,jO _ _,rfl⟩;clear dI Av lX c0 c1;obtain⟨j,u,av,rfl,rfl,F,R,hE⟩:=hrel;have P:=ah F;have X:=ah R;have V:=ah hE;clear hE;by_cases S:j<2
      .have G:=HD.out j S;rw[<-rD R N.out.1 N.out.2.1]at G;have ab:CL f z j<n:=Qe al hz j;have E:=ah<|agn a l f z t j S;generalize CL f z j=b at*;have d:=F.cell b ab;have aa:=F.frozen b;generalize u.getD b 0=cc at d;clear F R;go_wp2;rw[mz (show((j:Int)<2)by omega)];go_loopg [20] (n - (b+1)) (λgk iv wi=>∃m:Nat,b+1+m<=n/\gk=n - (b+1+m)/\iv= .int .i64 ((b+1+m:Nat):Int)/\bu wi B g n r (bM u b l (1+m))/\W2.grownBy wi (some g)/\rM (a.drop<|b+1)=m+rM (a.drop<|b+1+m));exact⟨0,by omega,rfl,by simp,P.out.set b l,X.out.trans<|P.out.grown b l,by simp⟩;obtain⟨m,hm,rfl,rfl,K,O,hN⟩:=hrel;have M:=ah K;have U:=ah O;have Z:=ah hN;clear P X d aa G;by_cases o:b+1+m<n
       .have L:=bL.out (b+1+m) (by rw[Gx.out];exact o);rw[<-rD O N.out.2.2.1 N.out.2.2.2]at L;have y:=Wa (l:=a) (m:=b+1+m) (by rw[Gx.out];exact o);have dK:=K.cell (b+1+m) o;have jV:=K.frozen<|b+1+m;generalize(bM u b l (1+m)).getD (b+1+m) 0=cq at dK;generalize a.getD (b+1+m) 0=oc at L y;have JA:=ah y;clear K O hN y;obtain⟨p,s⟩:=ac<|b+1+m;have v:=ah s;rw[<-s]at L dK jV o ⊢;clear s;by_cases Q:oc=8
        .subst Q;go_wp2;go_roundg (n - (b+1+(m+1)));case measure=>have:=v.out;omega
         case rel=>
          refine⟨m+1,by have:=v.out;omega,rfl,by have:=v.out;simp;omega,?_,U.out.trans<|M.out.grown p l,?_⟩
          .have x:=M.out.set p l;rw[v.out,show b+1+m=b+(1+m)by omega]at x;rw[v.out,show b+1+m=b+(1+m)by omega,show 1+(m+1)=(1+m)+1 by omega];exact x
          .have x:=JA.out;simp only[zP]at x;rw[Z.out,x,show b+1+(m+1)=b+1+m+1 by omega];omega
        .have q8:=ae Q;have W:Hid (bM u b l (1+m)=Ad a l f z t (j+1)):=by
          show _=_;rw[E.out,<-V.out,o8,Z.out,JA.out,ai Q,p9]
         clear Q;go_wp2;go_roundg (2 - (j+1));exact⟨j+1,_,by omega,rfl,by simp,W.out▸M.out,U.out,rfl⟩;omega
       .have W:Hid (bM u b l (1+m)=Ad a l f z t (j+1)):=by
         show _=_;rw[E.out,<-V.out,o8,Z.out,V8<|by rw[Gx.out];exact o,p9]
        clear K O hN;obtain⟨p,s⟩:=ac<|b+1+m;rw[<-s]at o ⊢;have sV:p=n:=(by omega);clear s;subst sV;go_wp2;go_roundg (2 - (j+1));exact⟨j+1,_,by omega,rfl,by simp,W.out▸M.out,U.out,rfl⟩;omega
      .obtain rfl:j=2:=(by omega);clear F R;go_wp2;go_end0;refine⟨rfl,?_,Y.out.trans X.out⟩;rw[HV.out];exact V.out▸P.out
  .have HV:Hid (q=Ad a e f z t 2):=by
    show q=_;have s:zX t (f,z) e C=e:=(by unfold zX;rw[aj hS]);rw[HQ.out];unfold s9;rw[ai<|by rw[hS];simp,s];rfl
   clear hS;have gD:Hid (bu (wr.alloc (.cells #[.int .i64 f,.int .i64 z] 3)) B g n r t):=kT dI.out _;have Y:Hid (w.grownBy (wr.alloc (.cells #[.int .i64 f,.int .i64 z] 3))<|some g):=lX.out.trans ⟨rfl,rfl,rfl,by simp,λk G _=>dw wr _ k G⟩;have bL:Hid (bI (wr.alloc (.cells #[.int .i64 f,.int .i64 z] 3)) D oo a):=Av.out.stay ((aA wr.heap.size wr).alloc (au _) _) (by have:=Jo.out.1;have:=HC.out;omega);have d0:(wr.alloc (.cells #[.int .i64 f,.int .i64 z] 3)).cell? ⟨wr.heap.size,0,none⟩=some (.int .i64 f):=(by simp);have d1:(wr.alloc (.cells #[.int .i64 f,.int .i64 z] 3)).cell? ⟨wr.heap.size,1,none⟩=some (.int .i64 z):=(by simp);have HD:Hid (∀j:Nat,j<2->(wr.alloc (.cells #[.int .i64 f,.int .i64 z] 3)).cell? ⟨wr.heap.size,j,none⟩=some (.int .i64 (CL f z j:Nat))):=by
    intro j S
    match j,S with
    |0,_=>exact d0
    |1,_=>exact d1
   have N:Hid (wr.heap.size<(wr.alloc (.cells #[.int .i64 f,.int .i64 z] 3)).heap.size/\wr.heap.size≠g/\D<(wr.alloc (.cells #[.int .i64 f,.int .i64 z] 3)).heap.size/\D≠g):=by
    have x:=Jo.out;have h2:=HC.out;have h3:=Ji.out;exact⟨by simp,by omega,by simp;omega,x.2⟩
   clear d0 d1;go_wp2;generalize wr.alloc (.cells #[.int .i64 f,.int .i64 z] 3)=W2 at*;generalize wr.heap.size=h2 at*;go_loopg [85] 2 (λgk iv wr=>∃(j:Nat)(u:List Int),j<=2/\gk=2 - j/\iv= .int .i64 j/\bu wr B g n r u/\W2.grownBy wr (some g)/\u=Ad a e f z t j);exact⟨0,t,by omega,rfl,rfl,gD.out,jO _ _,rfl⟩;clear dI Av lX c0 c1;obtain⟨j,u,av,rfl,rfl,F,R,hE⟩:=hrel;have P:=ah F;have X:=ah R;have V:=ah hE;clear hE;by_cases S:j<2
   .have G:=HD.out j S;rw[<-rD R N.out.1 N.out.2.1]at G;have ab:CL f z j<n:=Qe al hz j;have E:=ah<|agn a e f z t j S;generalize CL f z j=b at*;have d:=F.cell b ab;have aa:=F.frozen b;generalize u.getD b 0=cc at d;clear F R;go_wp2;rw[mz (show((j:Int)<2)by omega)];go_loopg [20] (n - (b+1)) (λgk iv wi=>∃m:Nat,b+1+m<=n/\gk=n - (b+1+m)/\iv= .int .i64 ((b+1+m:Nat):Int)/\bu wi B g n r (bM u b e (1+m))/\W2.grownBy wi (some g)/\rM (a.drop<|b+1)=m+rM (a.drop<|b+1+m));exact⟨0,by omega,rfl,by simp,P.out.set b e,X.out.trans<|P.out.grown b e,by simp⟩;obtain⟨m,hm,rfl,rfl,K,O,hN⟩:=hrel;have M:=ah K;have U:=ah O;have Z:=ah hN;clear P X d aa G;by_cases o:b+1+m<n
    .have L:=bL.out (b+1+m) (by rw[Gx.out];exact o);rw[<-rD O N.out.2.2.1 N.out.2.2.2]at L;have y:=Wa (l:=a) (m:=b+1+m) (by rw[Gx.out];exact o);have dK:=K.cell (b+1+m) o;have jV:=K.frozen<|b+1+m;generalize(bM u b e (1+m)).getD (b+1+m) 0=cq at dK;generalize a.getD (b+1+m) 0=oc at L y;have JA:=ah y;clear K O hN y;obtain⟨p,s⟩:=ac<|b+1+m;have v:=ah s;rw[<-s]at L dK jV o ⊢;clear s;by_cases Q:oc=8
     .subst Q;go_wp2;go_roundg (n - (b+1+(m+1)));case measure=>have:=v.out;omega
      case rel=>
       refine⟨m+1,by have:=v.out;omega,rfl,by have:=v.out;simp;omega,?_,U.out.trans<|M.out.grown p e,?_⟩
       .have x:=M.out.set p e;rw[v.out,show b+1+m=b+(1+m)by omega]at x;rw[v.out,show b+1+m=b+(1+m)by omega,show 1+(m+1)=(1+m)+1 by omega];exact x
       .have x:=JA.out;simp only[zP]at x;rw[Z.out,x,show b+1+(m+1)=b+1+m+1 by omega];omega
     .have q8:=ae Q;have W:Hid (bM u b e (1+m)=Ad a e f z t (j+1)):=by
       show _=_;rw[E.out,<-V.out,o8,Z.out,JA.out,ai Q,p9]
      clear Q;go_wp2;go_roundg (2 - (j+1));exact⟨j+1,_,by omega,rfl,by simp,W.out▸M.out,U.out,rfl⟩;omega
    .have W:Hid (bM u b e (1+m)=Ad a e f z t (j+1)):=by
      show _=_;rw[E.out,<-V.out,o8,Z.out,V8<|by rw[Gx.out];exact o,p9]
     clear K O hN;obtain⟨p,s⟩:=ac<|b+1+m;rw[<-s]at o ⊢;have sV:p=n:=(by omega);clear s;subst sV;go_wp2;go_roundg (2 - (j+1));exact⟨j+1,_,by omega,rfl,by simp,W.out▸M.out,U.out,rfl⟩;omega
   .obtain rfl:j=2:=(by omega);clear F R;go_wp2;go_end0;refine⟨rfl,?_,Y.out.trans X.out⟩;rw[HV.out];exact V.out▸P.out
def eH {w:World}{B:Nat}{e:TypeId}{z n:Nat}{v:Value}{d:List Value}(h:w.ownsRow B e z v n d):∃a b,v= .slice a n b:=by
 rcases h.2 with⟨rfl,rfl⟩|⟨g,b,c,rfl,_⟩
 .exact⟨none,0,rfl⟩
 .exact⟨_,b,rfl⟩
def gI {w:World}{B:Nat}{e:TypeId}{z n:Nat}{v:Value}{j:List Value}(h:w.ownsRow B e z v n j)(k:0<n):∃g a,v= .slice (some ⟨g,0,none⟩) n a/\n<=a/\g<w.heap.size/\B<=g:=by
 rcases h.2 with⟨rfl,rfl⟩|⟨g,a,d,rfl,f,c,i,_⟩
 .omega
 .refine⟨g,a,rfl,i,?_,f⟩;rcases cP g w.heap.size with b|b
  .exact b
  .rw[tD b]at c;cases c
def cJ {w:World}{k:Nat}{o:Obj}(h:w.heap[k]? =some o):k<w.heap.size:=by
 rcases cP k w.heap.size with a|a
 .exact a
 .rw[tD a]at h;cases h
def eI {w c:World}{B:Nat}{e:TypeId}{z n:Nat}{v:Value}{d:List Value}{r:Option Nat}(h:w.ownsRow B e z v n d)(f:w.grownBy c r)(a:v.ownBlock=none∨v.ownBlock≠r):c.ownsRow B e z v n d:=
 nB h λk o g b=>by
  rw[f.block k (cJ b) ?_]
  .exact b
  .rw[g]at a;rcases a with a|a
   .cases a
   .exact a
def fu {w b:World}{B:Nat}{e:TypeId}{z n:Nat}{v:Value}{c:List Value}(h:w.ownsRow B e z v n c)(d:Below w.heap.size w b):b.ownsRow B e z v n c:=
 nB h λk o _ a=>by rw[d.block k<|cJ a];exact a
def lQ {w:World}{B j:Nat}{e f:TypeId}{z t n r:Nat}{v i:Value}{s b:List Value}(h:w.ownsRow B e z v n s)(o:w.ownsRow j f t i r b)(p:e≠f):v.ownBlock=none∨v.ownBlock≠i.ownBlock:=by
 rcases h.2 with⟨rfl,_⟩|⟨g,k,l,rfl,_,q,_⟩
 .exact .inl rfl
 .rcases o.2 with⟨rfl,_⟩|⟨u,c,d,rfl,_,a,_⟩
  .exact .inr (by simp[Value.ownBlock])
  .refine .inr ?_;simp only[Value.ownBlock];intro m;obtain rfl:=aJ m;rw[q]at a;simp at a;exact p a.2
def P7 {w:World}{B:Nat}{e:TypeId}{z n g a:Nat}{f:List Value}(h:w.ownsRow B e z (.slice (some ⟨g,0,none⟩) n a) n f)(k:Nat)(r:k<=n):w.ownsRow B e z (.slice (some ⟨g,0,none⟩) k a) k (f.take<|k*z):=by
 obtain⟨t,j⟩:=h;have c:k*z<=n*z:=aij z r;refine⟨by rw[r9];omega,?_⟩;rcases j with⟨h,_⟩|⟨s,d,b,i,l,m,u,o,p,q⟩
 .cases h
 .cases i;refine .inr ⟨g,a,b,rfl,l,m,by omega,o,p,?_⟩;rw[<-q,List.take_take,jN c]
def vC {w:World}{B:Nat}{e:TypeId}{z n:Nat}{v:Value}{b:List Value}(h:w.ownsRow B e z v n b):∀k,v.ownBlock=some k->B<=k:=λk a=>(h.lt k a).1
def nl(l:List Nat):List Int:=l.map Int.ofNat
def gW(l:List Nat):(nl l).length=l.length:=by simp[nl]
def oh(l:List Nat)(k:Nat)(h:k<l.length):(nl l).getD k 0=(l.getD k 0:Nat):=by simp[nl,aO,aM h]
def nZ(l:List Int):(iv l).length=l.length:=by simp[iv]
def jk {w:World}{B g n a:Nat}{e:TypeId}{l:List Int}(h:w.ownsRow B e 1 (.slice (some ⟨g,0,none⟩) n a) n<|iv l)(k:Nat)(b:k<l.length):w.cell? ⟨g,k,none⟩=some (.int .i64<|l.getD k 0):=by
 rw[di h k<|by have:=h.1;rw[nZ]at this;omega];simp[iv,aO,aM b]
def FT(l:List Int)(a:Int):iv l++[.int .i64 a]=iv (l++[a]):=by simp[iv]
def PO(l:List Nat)(a:Nat):nl l++[(a:Int)]=nl (l++[a]):=by simp[nl]
def Vz(l:List Nat)(k:Nat):(iv<|nl l).take (k*1)=iv (nl<|l.take k):=by simp[iv,nl,ZP]
def agY {P:Program}(w:World){l:Array Oper}{rest:List Oper}{o:Oper}{a:Act}{Q:Exit->Act->World->Prop}(B:o.guard=none)(s x:Operand)(t:TypeId)
  (M:o.op= .call {callee:= .builtin .append,args:=#[s,x],argTypes:=#[t,t]})
  (b:Nat) (e:TypeId) (i:TypeInfo) (z:Value) (bytes:Nat) (O:P.underlying t=some (.slice e)) (L:P.info? e=some i) (R:i.zero=some z)
  (d:i.size=2) (A:i.bytes=bytes) (E:z.cells.size=2) (S:bytes<=64)
  (v:Value) (n:Nat) (F:List Value) (N:a.eval s=v) (g:w.ownsRow b e 2 v n F)
  (q r:Value) (H:TypeId) (k:Nat) (hx:a.eval x= .slice (some ⟨k,0,none⟩) 1 1) (C:k=w.heap.size) (I:q.oneCell'=true) (J:r.oneCell'=true) (T:n<=1000000) (y:b<=w.heap.size)
  (h:∀p m,m.ownsRow b e 2 p (n+1) (F++[q,r])->w.grownBy m v.ownBlock->wpList P l Q rest (a.put o.dst p) m):wpList P l Q (o::rest) a (w.alloc (.cells #[q,r] H)):=by
 subst C;refine Jb _ B s x t M b e i z 2 bytes O L R d A E (by decide) v n F N (g.alloc _) ⟨w.heap.size,0,none⟩ 1 1 [q,r] hx rfl ?_ ?_ ?_ ?_ ?_ ?_
 .intro j u c
  match j,c with
  |0,c=>simp at c;subst c;simp[Addr.add]
  |1,c=>simp at c;subst c;simp[Addr.add]
 .intro u G;simp at G;rcases G with rfl|rfl
  .exact I
  .exact J
 .unfold maxLen;omega
 .have:(n+1)*bytes<=1000001*64:=zl (by omega) S;omega
 .simp;omega
 .intro p m K f _;refine h p m K ⟨f.os,f.tape,f.output,?_,λk C D=> ?_⟩
  .have:=f.size;simp at this;omega
  .rw[f.block k (by simp;omega) D];exact dw w _ k C
def fU(l:List<|Nat×Nat):List Value:=l.flatMap λp=>[.int .i64 (p.1:Nat),.int .i64 (p.2:Nat)]
def aeW(l:List<|Nat×Nat):(fU l).length=l.length*2:=by
 induction l with
 |nil=>rfl
 |cons a r ih=>simp only[fU,xP,bH]at ih ⊢;rw[ih];simp;omega
def aeX(l:List<|Nat×Nat)(p:Nat×Nat):fU l++[.int .i64 (p.1:Nat),.int .i64 (p.2:Nat)]=fU (l++[p]):=by simp[fU]
structure rq(w0 w:World)(B:Nat)(sv ov:Value)(x:List Nat×List (Nat×Nat)):Prop where
 below:Below B w0 w
 st:w.ownsRow B 3 1 sv x.1.length<|iv<|nl x.1
 out:w.ownsRow B 194 2 ov x.2.length<|fU x.2
 base:B<=w.heap.size
def rq.call {e w d:World}{B:Nat}{c b:Value}{x:List Nat×List (Nat×Nat)}(h:rq e w B c b x)(a:Below w.heap.size w d):rq e d B c b x:=
 ⟨h.below.trans<|a.mono h.base,fu h.st a,fu h.out a,bP h.base a.size⟩
def rq.start(w:World):rq w w w.heap.size (.slice none 0 0) (.slice none 0 0) ([],[]):=
 ⟨aA _ _,⟨rfl,.inl ⟨rfl,rfl⟩⟩,⟨rfl,.inl ⟨rfl,rfl⟩⟩,au _⟩
def rq.push {g w c:World}{B:Nat}{f e a:Value}{x:List Nat×List (Nat×Nat)}{i:Nat}(h:rq g w B f e x)(d:c.ownsRow B 3 1 a (x.1.length+1)<|iv (nl x.1)++[.int .i64 (i:Nat)])(b:w.grownBy c f.ownBlock):rq g c B a e (x.1++[i],x.2):=
 ⟨h.below.grown b h.base<|vC h.st,by rw[FT,PO]at d;simpa using d,eI h.out b<|lQ h.out h.st<|by decide,bP h.base b.size⟩
def rq.pair {k w c:World}{B g a:Nat}{j d:Value}{x:List Nat×List (Nat×Nat)}{i m:Nat}(h:rq k w B (.slice (some ⟨g,0,none⟩) x.1.length a) j x)(n:m<x.1.length)
  (f:c.ownsRow B 194 2 d (x.2.length+1)<|fU x.2++[.int .i64 (x.1.getD m 0:Nat),.int .i64 (i:Nat)]) (b:w.grownBy c j.ownBlock):rq k c B (.slice (some ⟨g,0,none⟩) m a) d (x.1.take m,x.2++[(x.1.getD m 0,i)]):=by
 have l:=eI h.st b (lQ h.st h.out<|by decide);have e:=P7 l m (by omega);rw[Vz]at e;refine⟨h.below.grown b h.base<|vC h.out,by simpa [jN<|gF n]using e,?_,bP h.base b.size⟩;rw[aeX x.2 (x.1.getD m 0,i)]at f;simpa using f
def Gc(a:List Int)(b:List Bool)(i:Nat)(x:List (List Nat)×List Nat):List (List Nat)×List Nat:=
 if b.getD i false=false then x
 else if x.2≠[]/\a.getD (x.2.headD 0) 0≠a.getD i 0 then(x.1++[x.2],[i])else(x.1,x.2++[i])
def vG(x:List (List Nat)×List Nat):List (List Nat):=if x.2=[]then x.1 else x.1++[x.2]
def yE(b:List Int)(a:List Bool):Nat->Nat->List (List Nat)×List Nat->List (List Nat)
 |0,_,x=>vG x
 |n+1,i,x=>yE b a n (i+1)<|Gc b a i x
def cZ(a:List Int)(b:List Bool):List (List Nat):=yE a b a.length 0 ([],[])
def uq(a:List<|List Nat)(m:Nat):Nat->Option Nat
 |0=>none
 |k+1=>if(a.getD k []).headD 0=m then some k else uq a m k
def ig(b:List Int)(c:List<|List Nat)(a:Nat):Option Nat:=if aU (b.getD a 0)=true then uq c (mt b a) c.length else none
def cE(b:List Int)(a:List<|List Nat):Nat->List Nat->List Nat
 |0,at'=>at'
 |f+1,at'=>match ig b a (at'.getLastD 0)with
  |none=>at'
  |some k=>cE b a f<|at'++a.getD k []
structure Sq where
 at':List Nat
 level:Int
 aq:Int
 ay:Int
def kz(c:List Int)(b:List Bool)(a:Int):Nat->Int
 |0=>a
 |k+1=>if b.getD k false=true then c.getD k 0 else kz c b a k
def mj(d:List Int)(c:List Bool)(a:Int)(b:Nat):Nat->Int
 |0=>a
 |m+1=>if c.getD (b - (m+1)) false=true then d.getD (b - (m+1)) 0 else mj d c a b m
def qh(c e:List Int)(d:List Bool)(b:Int)(a:Nat):Int:=if aU (c.getD a 0)=true/\mt c a=c.length then b else mj e d b c.length (c.length - (a+1))
def sK(e c:List Int)(d:List Bool)(b:Int)(a:List Nat):Sq:=
 ⟨a,c.getD (a.headD 0) 0,i6 (c.getD (a.headD 0) 0)<|kz c d b<|a.headD 0,i6 (c.getD (a.headD 0) 0)<|qh e c d b<|a.getLastD 0⟩
def ia(a:List Int)(r:List Nat):Bool:= !(a.getD (r.headD 0) 0==21&&decide (0<=opener a (r.headD 0)))
def ij(b d:List Int)(c:List Bool)(a:Int):List Sq:=
 ((cZ d c).filter (ia b)).map λr=>sK b d c a<|cE b (cZ d c) b.length r
def bB(l:List Int)(a:List Nat):List Int:=a.map λp=>l.getD p 0
def kA(l:List aV):Int:=((l.filter (·.i)).length:Int)
def ajP:kA []=0:=rfl
def Hj(l:List aV)(e:aV):kA (l++[e])=kA l+(if e.i=true then 1 else 0):=by
 unfold kA;rw[rW,bH,rX,GM];cases e.i<;>simp
def Ob(l:List aV):0<=kA l:=by unfold kA;omega
def afj(a:List aV)(e:aV)(b:e.i=true):∀(r:List aV),(∀y∈r,y.i=false)->iz (a++e::r.reverse)=a
 |[],_=>by simpa using Qa a e b
 |y::r,h=>by
  have:a++e::(y::r).reverse=(a++e::r.reverse)++[y]:=by simp
  rw[this,Qb _ _ (h y<|by simp)];exact afj a e b r λz c=>h z<|by simp[c]
def apa(a:List aV)(e:aV)(b:e.i=true)(s:List aV)(h:∀y∈s,y.i=false):iz (a++e::s)=a:=by
 have:=afj a e b s.reverse (by simpa using h);simpa using this
def afk(a:List aV):∀(r:List aV),0<kA r.reverse->∃s,iz (a++r.reverse)=a++s/\kA s=kA r.reverse - 1
 |[],h=>by simp[kA]at h
 |y::r,h=>by
  rw[List.reverse_cons]at h ⊢;rw[<-dO];cases hy:y.i with
  |true=>
   refine⟨r.reverse,Qa _ _ hy,?_⟩;rw[Hj,hy,aj rfl];omega
  |false=>
   rw[Hj,hy,ai<|by decide]at h;obtain⟨s,b,c⟩:=afk a r (by omega);refine⟨s,by rw[Qb _ _ hy];exact b,?_⟩;rw[Hj,hy,ai<|by decide];omega
def ao9(a s:List aV)(h:0<kA s):∃b,iz (a++s)=a++b/\kA b=kA s - 1:=by
 have:=afk a s.reverse (by simpa using h);simpa using this
inductive lZ (base:List aV) (nu:Int) (n:Int) (x:XS):Prop
 |over (h1:x.st=base) (h2:x.aK=nu+n) (h3:0<=nu)
 |val (e:aV) (s:List aV) (h1:x.st=base++e::s) (h2:e.i=true) (h3:x.aK+kA s+1=n) (h4:0<=x.aK)
def agw(a:List aV)(e:aV):aS (a++[e])=e:=by simp[aS]
def lZ.aiP {x:XS}(c:Int)(a:0<=x.aK):lZ x.st x.aK 1 (jr x c):=by
 unfold jr;simp only;split
 .rename_i b;unfold kf at b;simp at b;exact .val ⟨_, -1,true⟩ [] (by simp;rfl) rfl (by simp only;rw[ajP];omega) a
 .exact .over rfl rfl a
def lZ.begin {a:List aV}{i n:Int}{x:XS}(h:lZ a i n x)(k:1<=n)(j:Int):lZ a i (n+1) (jr x j):=by
 unfold jr;simp only;split
 .rename_i g;unfold kf at g;simp at g;cases h with
  |over b c d=>omega
  |val e s b c d f=>
   refine .val e (s++[⟨_, -1,true⟩]) (by simp only;rw[b];simp;rfl) c ?_ f;rw[Hj];simp only[zP];omega
 .cases h with
  |over b c d=>exact .over b (by simp only;omega) d
  |val e s b c d f=>exact .val e s b c (by simp only;omega)<|by simp only;omega
def lZ.Tu {a:List aV}{j n:Int}{x:XS}(h:lZ a j n x)(k:1<=n)(c:Int):lZ a j n (jF x c):=by
 unfold jF;simp only;generalize(if c=15 then(0:Int)else if c=16 then 1 else -1)=o;generalize gz (aS x.st).l _=m;split
 .rename_i i;unfold kf at i;simp at i;cases h with
  |over b d f=>omega
  |val e s b d f g=>
   refine .val e (s++[⟨_,_,false⟩]) (by simp only;rw[b];simp;exact⟨rfl,rfl⟩) d (by simp only;rw[Hj];simp;omega) g
 .split
  .cases h with
   |over b d f=>exact .over b d f
   |val e s b d f g=>exact .val e s b d f g
  .exact h
def lZ.pop {a:List aV}{k n:Int}{x:XS}(h:lZ a k n x)(m:1<=n):lZ a k n (ko x):=by
 unfold ko;split
 .exact h
 .rename_i o;cases h with
  |over b c f=>omega
  |val e s b c f g=>
   split
   .exact .val e s b c f g
   .split
    .rename_i l;obtain⟨d,_⟩:=l;rcases zi s with rfl|⟨i,y,rfl⟩
     .rw[b,agw]at d;rw[c]at d;cases d
     .have j:x.st=(a++e::i)++[y]:=(by rw[b];simp);rw[j,agw]at d;refine .val e i (by simp only;rw[j,GL]) c ?_ g;have:=Hj i y;rw[d,ai<|by decide]at this;simp only[Ch]at f;simp only;omega
    .exact .val e s b c f g
def lZ.end {a:List aV}{g n m:Int}{x:XS}(h:lZ a g n x)(q:2<=n)(j:dU m x):lZ a g (n - 1) (jd x):=by
 unfold jd;split
 .cases h with
  |over b c d=>exact .over b (by simp only;omega) d
  |val e s b c d f=>exact .val e s b c (by simp only;omega)<|by simp only;omega
 .rename_i u;cases h with
  |over b c d=>omega
  |val e s b c d f=>
   have t:x.valid=kA x.st:=j.cnt;have p:kA x.st=kA a+1+kA s:=by
    unfold kA;rw[b,rW,bH,rX,aj c,eJ];omega
   have o:=Ob a;have r:=Ob s;rw[ai<|by omega];obtain⟨k,i,l⟩:=ao9 (a++[e]) s (by omega);refine .val e k ?_ c (by simp only;omega) f;simp only;rw[b,show a++e::s=(a++[e])++s by simp,i];simp
def lZ.out {a:List aV}{j m:Int}{x:XS}(h:lZ a j 1 x)(f:dU m x):(jd x).st=a:=by
 unfold jd;cases h with
 |over b c d=>rw[aj<|by omega];exact b
 |val e s b c d k=>
  have o:=Ob s;have l:=Ob a;have p:x.valid=kA x.st:=f.cnt;have n:kA x.st=kA a+1+kA s:=by
   unfold kA;rw[b,rW,bH,rX,aj c,eJ];omega
  rw[ai<|by omega,ai<|by omega];simp only;rw[b];refine apa a e c s ?_;intro y g;cases hi:y.i with
  |false=>rfl
  |true=>
   exfalso;have:y∈s.filter (·.i):=tQ.2 ⟨g,hi⟩;have:=List.length_pos_of_mem this;unfold kA at d;omega
def O3 {c:Int}(h:aU c=true):c=18∨c=19∨c=20:=by unfold aU at h;simp at h;omega
def ag9(b:List Int)(i:Nat)(x:XS)(c:Int)(h:aU c=true):∃a,fA b i x c=jr x a:=by
 unfold fA;rcases O3 h with rfl|rfl|rfl
 .exact⟨0,by simp⟩
 .exact⟨1,by simp⟩
 .exact⟨_,by simp;rfl⟩
def lZ.step {b:List Int}{a:Int}(p:0<=a/\a<=125){d:List aV}{j n:Int}{k:Nat}(h:lZ d j n<|eP b a k)(g:1<=n)(m:b.getD k 0=21->2<=n):
  lZ d j (if b.getD k 0=21 then n - 1 else if aU (b.getD k 0)=true then n+1 else n) (eP b a<|k+1):=by
 have i:=yT b a p k;rw[eP];generalize eP b a k=x at*;generalize b.getD k 0=c at*;by_cases e:c=21
 .subst e;rw[aj rfl,dZ,aj rfl];have:=h.end (m rfl) i;unfold fA;simpa using this
 .rw[ai e,dZ,ai e];by_cases f:aU c=true
  .rw[aj f];obtain⟨l,o⟩:=ag9 b k x c f;rw[o];exact h.begin g l
  .rw[ai f];unfold fA;split
   .exact h.Tu g c
   .rw[ai (by rintro rfl;exact f rfl),ai (by rintro rfl;exact f rfl),ai<|by rintro rfl;exact f rfl];split
    .exact h.pop g
    .exact h
def Vm {c:List Int}{a:Int}(i:0<=a/\a<=125){e:List aV}{o:Int}:∀(f k:Nat)(n:Int)(d:Nat),c.length<=k+f->1<=n->lZ e o n (eP c a k)->cV (c.drop k) n=some d->(jd<|eP c a<|k+d).st=e/\c.getD (k+d) 0=21
 |0,k,n,d,hf,_,_,hm=>by rw[kr<|by omega]at hm;cases hm
 |f+1,k,n,d,hf,hn,h,hm=>by
  rcases cP k c.length with j|j
  .rw[drop_at j,cV]at hm;by_cases b:c.getD k 0=21
   .rw[aj b]at hm;by_cases l:n - 1=0
    .rw[aj l]at hm;obtain rfl:=aJ hm;obtain rfl:n=1:=(by omega);exact⟨h.out<|yT c a i k,b⟩
    .rw[ai l]at hm;cases hr:cV (c.drop<|k+1) (n - 1)with
     |none=>rw[hr]at hm;cases hm
     |some g=>
      rw[hr]at hm;obtain rfl:=aJ hm;have:=h.step i hn (λ_=>by omega);rw[aj b]at this;have:=Vm i f (k+1) (n - 1) g (by omega) (by omega) this hr;rw[show k+(g+1)=k+1+g by omega];exact this
   .rw[ai b]at hm;cases hr:cV (c.drop<|k+1) (if aU (c.getD k 0)=true then n+1 else n)with
    |none=>rw[hr]at hm;cases hm
    |some g=>
     rw[hr]at hm;obtain rfl:=aJ hm;have:=h.step i hn (λm=>absurd m b);rw[ai b]at this;have:=Vm i f (k+1) _ g (by omega) (by split<;>omega) this hr;rw[show k+(g+1)=k+1+g by omega];exact this
  .rw[kr j]at hm;cases hm
def anL {b:List Int}{a:Int}(k:0<=a/\a<=125){i:Nat}(m:i<b.length)(g:aU (b.getD i 0)=true)(j:mt b i<b.length):iq b a (mt b i)=iq b a i/\b.getD (mt b i) 0=21:=by
 have f:¬b.getD i 0=21:=by intro e;rw[e]at g;cases g
 obtain⟨l,n⟩:=ag9 b i (eP b a i) (b.getD i 0) g;have c:lZ (eP b a i).st (eP b a i).aK 1 (eP b a<|i+1):=by
  rw[eP,dZ,ai f,n];exact lZ.aiP l (yT b a k i).aK.1
 unfold mt at j ⊢;cases hd:cV (b.drop i) 0 with
 |none=>rw[hd]at j;simp at j
 |some d=>
  simp only;rw[drop_at m,cV,ai f,aj g]at hd;cases hr:cV (b.drop<|i+1) (0+1)with
  |none=>rw[hr]at hd;cases hd
  |some h=>
   rw[hr]at hd;obtain rfl:=aJ hd;have:=Vm k b.length (i+1) 1 h (by omega) (Nw _) c hr;rw[show i+(h+1)=i+1+h by omega];refine⟨?_,this.2⟩;unfold iq;rw[this.2,dZ,aj rfl,this.1,dZ,ai f]
def PL(a:List Int)(i:Nat)(x:List Int×List Nat):List Int×List Nat:=
 if aU (a.getD i 0)=true then(x.1.set i (-1),x.2++[i])
 else if a.getD i 0=21 then(match x.2.getLast? with
  |some k=>(((x.1.set i (-1)).set k (i:Int)).set i (k:Int),x.2.dropLast)
  |none=>(x.1.set i (-1),x.2))
 else(x.1.set i (-1),x.2)
def sX(a:List Int):Nat->List Int×List Nat
 |0=>(List.replicate a.length 0,[])
 |i+1=>PL a i<|sX a i
def ny(a:List Int):List Int:=(sX a a.length).1
structure qY(cs:List Int)(i:Nat)(x:List Int×List Nat):Prop where
 le:i<=cs.length
 len:x.1.length=cs.length
 opn:∀(d k:Nat),x.2[d]? =some k->l7 cs k i ((x.2.length:Int) - d)/\aU (cs.getD k 0)=true/\k<i/\x.1.getD k 0= -1
 D9:∀k,k<i->aU (cs.getD k 0)=true->k∈x.2∨(mt cs k<i/\x.1.getD k 0=mt cs k)
 En:∀k,k<i->cs.getD k 0=21->(x.1.getD k 0= -1/\∀j,j<k->aU (cs.getD j 0)=true->mt cs j≠k)∨∃j,j<k/\aU (cs.getD j 0)=true/\mt cs j=k/\x.1.getD k 0=j
 zV:∀k,k<i->aU (cs.getD k 0)=false->cs.getD k 0≠21->x.1.getD k 0= -1
 ur:x.2.Nodup
def qY.start(a:List Int):qY a 0 (List.replicate a.length 0,[]):=
 ⟨mQ _,by simp,λd k h=>by simp at h,λk h=>by omega,λk h=>by omega,λk h=>by omega,by simp⟩
def zC {l:List Int}{k:Nat}(h:k<l.length)(v:Int):(l.set k v).getD k 0=v:=by
 rw[aO,ZL h];rfl
def getD_set_ne {l:List Int}{k j:Nat}(h:k≠j)(v:Int):(l.set k v).getD j 0=l.getD j 0:=by
 rw[aO,ahY h,aO]
def qY.plain {l:List Int}{i:Nat}{x:List Int×List Nat}(h:qY l i x)(o:i<l.length)(q:aU (l.getD i 0)=false)(r:l.getD i 0≠21):qY l (i+1) (x.1.set i (-1),x.2):=by
 refine⟨o,by simp[h.len],?_,?_,?_,?_,h.ur⟩
 .intro d k m;obtain⟨a,b,c,e⟩:=h.opn d k m;refine⟨?_,b,by omega,by simp only;rw[getD_set_ne<|by omega];exact e⟩;have:=a.plain o r;rw[q]at this;simpa using this
 .intro k m g;rcases cP k i with f|f
  .rcases h.D9 k f g with p|⟨p,n⟩
   .exact .inl p
   .exact .inr ⟨by omega,by simp only;rw[getD_set_ne<|by omega];exact n⟩
  .obtain rfl:k=i:=(by omega);rw[q]at g;cases g
 .intro k m j;rcases cP k i with f|f
  .simp only;rw[getD_set_ne<|by omega];exact h.En k f j
  .obtain rfl:k=i:=(by omega);exact absurd j r
 .intro k m g j;simp only;rcases cP k i with f|f
  .rw[getD_set_ne<|by omega];exact h.zV k f g j
  .obtain rfl:k=i:=(by omega);rw[zC<|by rw[h.len];exact o]
def qY.push {m:List Int}{i:Nat}{x:List Int×List Nat}(h:qY m i x)(q:i<m.length)(n:aU (m.getD i 0)=true):qY m (i+1) (x.1.set i (-1),x.2++[i]):=by
 have s:m.getD i 0≠21:=by intro e;rw[e]at n;cases n
 refine⟨q,by simp[h.len],?_,?_,?_,?_,?_⟩
 .intro d k j;simp only at j;rcases cP d x.2.length with p|p
  .rw[tP p]at j;obtain⟨a,b,c,e⟩:=h.opn d k j;refine⟨?_,b,by omega,by simp only;rw[getD_set_ne<|by omega];exact e⟩;have:=a.plain q s;rw[aj n]at this;simp only[bH,eJ,jZ];rw[show(((x.2.length+(0+1):Nat):Int) - d)=((x.2.length:Int) - d)+1 by omega];exact this
  .rw[rY p]at j;have t:d - x.2.length=0:=by
    rcases GU (d - x.2.length)with o|o
    .exact o
    .rw[rZ<|by simp;omega]at j;cases j
   rw[t]at j;obtain rfl:i=k:=(by simpa using j);refine⟨?_,n,by omega,by simp only;rw[zC<|by rw[h.len];exact q]⟩;have:=(l7.start m i<|by omega).plain q s;rw[aj n]at this;simp only[bH,eJ,jZ];rw[show(((x.2.length+(0+1):Nat):Int) - d)=0+1 by omega];exact this
 .intro k j g;rcases cP k i with f|f
  .rcases h.D9 k f g with o|⟨o,r⟩
   .exact .inl (by simp[o])
   .exact .inr ⟨by omega,by simp only;rw[getD_set_ne<|by omega];exact r⟩
  .obtain rfl:k=i:=(by omega);exact .inl<|by simp
 .intro k j l;rcases cP k i with f|f
  .simp only;rw[getD_set_ne<|by omega];exact h.En k f l
  .obtain rfl:k=i:=(by omega);exact absurd l s
 .intro k j g l;simp only;rcases cP k i with f|f
  .rw[getD_set_ne<|by omega];exact h.zV k f g l
  .obtain rfl:k=i:=(by omega);rw[n]at g;cases g
 .simp only;rw[GR];refine⟨h.ur,by simp,?_⟩;intro a v b u;simp at u;subst u;obtain⟨d,p⟩:=ZK v;have:=(h.opn d a p).2.2.1;omega
def qY.none {g:List Int}{i:Nat}{x:List Int×List Nat}(h:qY g i x)(o:i<g.length)(n:g.getD i 0=21)(hx:x.2=[]):qY g (i+1) (x.1.set i (-1),x.2):=by
 refine⟨o,by simp[h.len],?_,?_,?_,?_,h.ur⟩
 .intro d k f;rw[hx]at f;simp at f
 .intro k f b;rcases cP k i with a|a
  .rcases h.D9 k a b with e|⟨e,l⟩
   .exact .inl e
   .exact .inr ⟨by omega,by simp only;rw[getD_set_ne<|by omega];exact l⟩
  .obtain rfl:k=i:=(by omega);rw[n]at b;cases b
 .intro k f c;rcases cP k i with a|a
  .simp only;rw[getD_set_ne<|by omega];exact h.En k a c
  .obtain rfl:k=i:=(by omega);refine .inl ⟨by simp only;rw[zC<|by rw[h.len];exact o],λj p m=> ?_⟩;rcases h.D9 j p m with e|⟨e,_⟩
   .rw[hx]at e;cases e
   .omega
 .intro k f b c;simp only;rcases cP k i with a|a
  .rw[getD_set_ne<|by omega];exact h.zV k a b c
  .obtain rfl:k=i:=(by omega);exact absurd n c
def qY.apf {r:List Int}{i o:Nat}{x:List Int×List Nat}{q:List Nat}(h:qY r i x)(z:i<r.length)(t:r.getD i 0=21)(hx:x.2=q++[o]):qY r (i+1) (((x.1.set i (-1)).set o (i:Int)).set i (o:Int),q):=by
 have s:=h.len;have J:x.2[q.length]? =some o:=by rw[hx];simp
 obtain⟨a,b,c,e⟩:=h.opn _ _ J;have C:mt r o=i:=a.hit z t (by rw[hx];simp;omega);have u:=h.ur;rw[hx,GR]at u;have B:o ∉ q:=λI=>u.2.2 o I o (by simp) rfl
 have m:∀k,k<i->k≠o->(((x.1.set i (-1)).set o (i:Int)).set i (o:Int)).getD k 0=x.1.getD k 0:=by
  intro k p g;rw[getD_set_ne<|by omega,getD_set_ne<|by omega,getD_set_ne<|by omega]
 have w:(((x.1.set i (-1)).set o (i:Int)).set i (o:Int)).getD o 0=i:=by
  rw[getD_set_ne<|by omega,zC<|by simp;omega]
 have v:(((x.1.set i (-1)).set o (i:Int)).set i (o:Int)).getD i 0=o:=by
  rw[zC<|by simp;omega]
 refine⟨z,by simp[s],?_,?_,?_,?_,u.1⟩
 .intro d k p;simp only at p;have H:d<q.length:=(r7.1 p).1;have f:x.2[d]? =some k:=by rw[hx,tP H];exact p
  obtain⟨D,E,F,G⟩:=h.opn d k f;have A:k∈q:=NK p;refine⟨?_,E,by omega,?_⟩
  .have:=D.En z t (by rw[hx];simp;omega);simp only;rw[show((q.length:Int) - d)=((x.2.length:Int) - d) - 1 by rw[hx];simp;omega];exact this
  .simp only;rw[m k F<|by rintro rfl;exact B A];exact G
 .intro k p j;rcases cP k i with f|f
  .by_cases g:k=o
   .subst g;exact .inr ⟨by omega,by simp only;rw[w,C]⟩
   .rcases h.D9 k f j with n|⟨n,y⟩
    .rw[hx]at n;refine .inl ?_;simp at n;rcases n with n|n
     .exact n
     .exact absurd n g
    .exact .inr ⟨by omega,by simp only;rw[m k f g];exact y⟩
  .obtain rfl:k=i:=(by omega);rw[t]at j;cases j
 .intro k p l;rcases cP k i with f|f
  .have g:k≠o:=(by rintro rfl;rw[l]at b;cases b);simp only;rw[m k f g];exact h.En k f l
  .obtain rfl:k=i:=(by omega);exact .inr ⟨o,c,b,C,by simp only;rw[v]⟩
 .intro k p j l;rcases cP k i with f|f
  .have g:k≠o:=(by rintro rfl;rw[j]at b;cases b);simp only;rw[m k f g];exact h.zV k f j l
  .obtain rfl:k=i:=(by omega);exact absurd t l
def Mo(a:List Int):∀i,i<=a.length->qY a i (sX a i)
 |0,_=>qY.start a
 |i+1,hi=>by
  have h:=Mo a i (by omega);rw[sX,PL];by_cases c:aU (a.getD i 0)=true
  .rw[aj c];exact h.push (by omega) c
  .rw[ai c];by_cases b:a.getD i 0=21
   .rw[aj b];rcases zi (sX a i).2 with hx|⟨d,o,hx⟩
    .have:=h.none (by omega) b hx;rw[hx]at this ⊢;exact this
    .rw[Ch]at hx;have:=h.apf (by omega) b hx;rw[hx];simpa using this
   .rw[ai b];exact h.plain (by omega) (by simpa using c) b
def aei(a:List Int):(ny a).length=a.length:=(Mo a _ (au _)).len
def VT {b:List Int}{k:Nat}(l:k<b.length)(j:aU (b.getD k 0)=true):(ny b).getD k 0=if mt b k<b.length then(mt b k:Int)else -1:=by
 have h:=Mo b _ (au _);rcases h.D9 k l j with c|⟨f,g⟩
 .obtain⟨d,i⟩:=ZK c;obtain⟨a,_,_,e⟩:=h.opn d k i;rw[ai<|by rw[a.stop<|by omega];omega];exact e
 .rw[aj f];exact g
def WM(a:List Int)(i:Nat):∀n,n<=i->(0<=zT a i n↔∃j,i - n<=j/\j<i/\aU (a.getD j 0)=true/\mt a j=i)
 |0,_=>by
  rw[zT];constructor
  .intro h;omega
  .rintro⟨j,c,b,_⟩;omega
 |n+1,hn=>by
  rw[zT];have ih:=WM a i n (by omega);by_cases h:aU (a.getD (i - (n+1)) 0)=true/\mt a (i - (n+1))=i
  .rw[aj h];constructor
   .intro _;exact⟨i - (n+1),au _,by omega,h.1,h.2⟩
   .intro _;omega
  .rw[ai h,ih];constructor
   .rintro⟨j,c,b⟩;exact⟨j,by omega,b⟩
   .rintro⟨j,c,b,e,f⟩;rcases Nat.eq_or_lt_of_le c with d|d
    .subst d;exact absurd ⟨e,f⟩ h
    .exact⟨j,by omega,b,e,f⟩
def WZ(a:List Int)(i:Nat):0<=opener a i↔∃j,j<i/\aU (a.getD j 0)=true/\mt a j=i:=by
 unfold opener;rw[WM a i i<|au _];constructor
 .rintro⟨j,_,h⟩;exact⟨j,h⟩
 .rintro⟨j,h⟩;exact⟨j,by omega,h⟩
def anB {d:List Int}{k:Nat}(m:k<d.length)(n:d.getD k 0=21):((ny d).getD k 0≠ -1↔0<=opener d k):=by
 rw[WZ];have h:=Mo d _ (au _);rcases h.En k m n with⟨e,f⟩|⟨j,e,f,i,l⟩
 .constructor
  .intro g;exact absurd e g
  .rintro⟨j,a,b,c⟩;exact absurd c<|f j a b
 .constructor
  .intro _;exact⟨j,e,f,i⟩
  .intro _ g;have:(ny d).getD k 0=j:=l;omega
def qF(a:List Int)(b:Nat):Nat->Nat->Int
 |0,_=>0
 |f+1,i=>if i<b then(if a.getD i 0=0 then 0 else if a.getD i 0=1∨a.getD i 0=2 then 1 else if aU (a.getD i 0)=true then qF a b f (mt a i+1)else qF a b f (i+1))else 0
def WA(a:List Int):∀f i,qF a a.length f i=kC a f i
 |0,i=>rfl
 |f+1,i=>by rw[qF,kC,WA a f,WA a f]
def PM:∀(l:List Int)(n a:Int)(d:Nat),1<=n->1<=a->cV l (n+a)=some d->∃b,b<d/\cV l n=some b
 |[],n,a,d,_,_,h=>by cases h
 |c::r,n,a,d,hn,ha,h=>by
  rw[cV]at h;rw[cV];by_cases i:c=21
  .rw[aj i]at h ⊢;rw[ai<|by omega]at h;cases hr:cV r (n+a - 1)with
   |none=>rw[hr]at h;cases h
   |some d1=>
    rw[hr]at h;obtain rfl:=aJ h;by_cases f:n - 1=0
    .rw[aj f];exact⟨0,by simp,rfl⟩
    .rw[ai f];obtain⟨b,g,e⟩:=PM r (n - 1) a d1 (by omega) ha (by rw[show n - 1+a=n+a - 1 by omega];exact hr);rw[e];exact⟨b+1,by simp;omega,rfl⟩
  .rw[ai i]at h ⊢;cases hi:aU c with
   |true=>
    rw[hi,aj rfl]at h;rw[aj rfl];cases hr:cV r (n+a+1)with
    |none=>rw[hr]at h;cases h
    |some d1=>
     rw[hr]at h;obtain rfl:=aJ h;obtain⟨b,g,e⟩:=PM r (n+1) a d1 (by omega) ha (by rw[show n+1+a=n+a+1 by omega];exact hr);rw[e];exact⟨b+1,by simp;omega,rfl⟩
   |false=>
    rw[hi,ai<|by decide]at h;rw[ai<|by decide];cases hr:cV r (n+a)with
    |none=>rw[hr]at h;cases h
    |some d1=>
     rw[hr]at h;obtain rfl:=aJ h;obtain⟨b,g,e⟩:=PM r n a d1 hn ha hr;rw[e];exact⟨b+1,by simp;omega,rfl⟩
def VW:∀(l:List Int)(n:Int)(d q:Nat),cV l n=some d->d<q->cV (l.take q) n=some d
 |[],n,d,q,h,_=>by cases h
 |c::r,n,d,0,_,hq=>by omega
 |c::r,n,d,q+1,h,hq=>by
  rw[Sz];rw[cV]at h ⊢;by_cases b:c=21
  .rw[aj b]at h ⊢;by_cases a:n - 1=0
   .rw[aj a]at h ⊢;exact h
   .rw[ai a]at h ⊢;cases hr:cV r (n - 1)with
    |none=>rw[hr]at h;cases h
    |some d1=>
     rw[hr]at h;obtain rfl:=aJ h;rw[VW r (n - 1) d1 q hr (by simp at hq;omega)];rfl
  .rw[ai b]at h ⊢;cases hr:cV r (if aU c=true then n+1 else n)with
   |none=>rw[hr]at h;cases h
   |some d1=>
    rw[hr]at h;obtain rfl:=aJ h;rw[VW r _ d1 q hr (by simp at hq;omega)];rfl
def mI {b:List Int}{i m:Nat}(q:i<b.length)(f:aU (b.getD i 0)=true)(c:cV (b.drop i) 0=some (m - i))(l:i<m):∀j,i+1+j<=m->∃n:Int,1<=n/\cV (b.drop<|i+1+j) n=some (m - (i+1+j))
 |0,h=>by
  have k:¬b.getD i 0=21:=by intro e;rw[e]at f;cases f
  rw[drop_at q,cV,ai k,aj f]at c;cases hr:cV (b.drop<|i+1) (0+1)with
  |none=>rw[hr]at c;cases c
  |some d=>
   rw[hr]at c;have:=aJ c;simp at this;refine⟨0+1,by omega,?_⟩;rw[show i+1+0=i+1 by omega,hr];congr 1;omega
 |j+1,h=>by
  obtain⟨n,s,a⟩:=mI q f c l j (by omega);have r:i+1+j<b.length:=by
   rcases cP (i+1+j) b.length with g|g
   .exact g
   .rw[kr g]at a;cases a
  rw[drop_at r,cV]at a;by_cases p:b.getD (i+1+j) 0=21
  .rw[aj p]at a;by_cases o:n - 1=0
   .rw[aj o]at a;have:=aJ a;omega
   .rw[ai o]at a;cases hr:cV (b.drop<|i+1+j+1) (n - 1)with
    |none=>rw[hr]at a;cases a
    |some d=>
     rw[hr]at a;have:=aJ a;simp at this;refine⟨n - 1,by omega,?_⟩;rw[show i+1+(j+1)=i+1+j+1 by omega,hr];congr 1;omega
  .rw[ai p]at a;cases hr:cV (b.drop<|i+1+j+1) (if aU (b.getD (i+1+j) 0)=true then n+1 else n)with
   |none=>rw[hr]at a;cases a
   |some d=>
    rw[hr]at a;have:=aJ a;simp at this;refine⟨if aU (b.getD (i+1+j) 0)=true then n+1 else n,?_,?_⟩
    .split<;>omega
    .rw[show i+1+(j+1)=i+1+j+1 by omega,hr];congr 1;omega
def aeq {a:List Int}{i k:Nat}(r:i<a.length)(m:aU (a.getD i 0)=true)(l:mt a i<a.length)(t:i<k)(u:k<mt a i)(g:aU (a.getD k 0)=true):∃d,cV (a.drop k) 0=some d/\k+d<mt a i:=by
 have j:i<mt a i:=by omega
 have h:cV (a.drop i) 0=some (mt a i - i):=by
  unfold mt at l ⊢;cases h:cV (a.drop i) 0 with
  |none=>rw[h]at l;simp at l
  |some d=>simp
 obtain⟨n,s,b⟩:=mI r m h j (k - (i+1)) (by omega);rw[show i+1+(k - (i+1))=k by omega]at b;have f:k<a.length:=by omega
 have c:¬a.getD k 0=21:=by intro e;rw[e]at g;cases g
 rw[drop_at f,cV,ai c,aj g]at b;rw[drop_at f,cV,ai c,aj g];cases hr:cV (a.drop<|k+1) (n+1)with
 |none=>rw[hr]at b;cases b
 |some d1=>
  rw[hr]at b;have p:=aJ b;simp at p;obtain⟨o,v,q⟩:=PM (a.drop<|k+1) 1 n d1 (by omega) s (by rw[show 1+n=n+1 by omega];exact hr);refine⟨o+1,by rw[show(0:Int)+1=1 by omega,q];rfl,by omega⟩
def anM {a:List Int}{i k:Nat}(o:i<a.length)(h:aU (a.getD i 0)=true)(m:i<k)(n:k<mt a i)(p:aU (a.getD k 0)=true):mt ((a.take<|mt a i).drop (i+1)) (k - (i+1))+(i+1)=mt a k:=by
 have q:=um a i (by omega);have b:((a.take<|mt a i).drop (i+1)).drop (k - (i+1))=(a.drop k).take (mt a i - k):=by
  rw[Si,show i+1+(k - (i+1))=k by omega,List.drop_take]
 rcases cP (mt a i) a.length with g|g
 .obtain⟨d,c,r⟩:=aeq o h g m n p;have j:mt a k=k+d:=by unfold mt;rw[c]
  have l:mt ((a.take<|mt a i).drop (i+1)) (k - (i+1))=k - (i+1)+d:=by
   have f:=VW _ _ _ (mt a i - k) c (by omega);rw[<-b]at f;generalize(a.take<|mt a i).drop (i+1)=u at*;unfold mt;rw[f]
  rw[j,l];omega
 .have e:mt a i=a.length:=by omega
  have s:a.take (mt a i)=a:=by rw[e];exact NQ
  rw[s]at b ⊢;unfold mt;rw[Si,show i+1+(k - (i+1))=k by omega];cases c:cV (a.drop k) 0 with
  |none=>simp;omega
  |some d=>simp;omega
def WB {a:List Int}{i:Nat}(g:i<a.length)(e:aU (a.getD i 0)=true):∀f q,qF a (mt a i) f (i+1+q)=kC ((a.take<|mt a i).drop (i+1)) f q
 |0,q=>rfl
 |f+1,q=>by
  have j:=um a i (by omega);have c:((a.take<|mt a i).drop (i+1)).length=mt a i - (i+1):=by rw[NG,r9];omega
  rw[qF,kC,c];by_cases d:i+1+q<mt a i
  .rw[aj d,aj (show q<mt a i - (i+1)by omega)];have h:((a.take<|mt a i).drop (i+1)).getD q 0=a.getD (i+1+q) 0:=by
    rw[aO,zj,NC,aj d,aO]
   rw[h];by_cases b:aU (a.getD (i+1+q) 0)=true
   .have:=anM g e (show i<i+1+q by omega) d b;rw[show i+1+q - (i+1)=q by omega]at this;rw[aj b,aj b,<-this,show mt ((a.take<|mt a i).drop (i+1)) q+(i+1)+1=i+1+(mt ((a.take<|mt a i).drop (i+1)) q+1)by omega,WB g e f]
   .rw[ai b,ai b,show i+1+q+1=i+1+(q+1)by omega,WB g e f]
  .rw[ai d,ai (show¬q<mt a i - (i+1)by omega)]
def ala {a:List Int}{i:Nat}(d:i<a.length)(c:aU (a.getD i 0)=true)(f:Nat)(g:mt a i - (i+1)<=f):qF a (mt a i) f (i+1)=sL a i:=by
 have:=WB d c f 0;rw[show i+1+0=i+1 by omega]at this;rw[this];unfold sL found;have e:=um a i (by omega);have b:((a.take<|mt a i).drop (i+1)).length=mt a i - (i+1):=by rw[NG,r9];omega
 exact TN _ _ _ _ (by omega) (by omega)
