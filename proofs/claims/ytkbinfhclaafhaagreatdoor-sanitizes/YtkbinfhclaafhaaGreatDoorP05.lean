import Derived.Test.YtkbinfhclaafhaaGreatDoorP04
namespace Go.Proofs.YtkbinfhclaafhaaGreatDoor
open Go.RowKit
open Go.Proofs.Tryz
set_option maxRecDepth 100000
set_option maxHeartbeats 32000000
set_option linter.all false
def asj(t:List Int)(K:Int)(vo:Value)(B g n z:Nat)(w:World)(hr:bu w B g n z t)(hn:n<=100000)(ao:0<n):
  Calls prog 124 #[.slice (some ⟨g,0,none⟩) n z,vo,.int .i64 K] w λe w'=>e= .returned (.tuple #[])/\bu w' B g n z (uD K t)/\w.grownBy w' (some g):=by
 have HR:=ah hr;have HL:=ah hr.len;clear hr;go_enter func124,ntmps124;go_wp2;go_loopg [7] n (λgk i wr=>∃(k:Nat)(s:Option Int)(u:List Int),k<=n/\gk=n - k/\i= .int .i64 k/\bu wr B g n z u/\w.grownBy wr (some g)/\aZ (f1 K) (g1 K) none t k s u/\jo u k s);exact⟨0,none,t,by omega,rfl,rfl,HR.out,jO _ _,aZ.start _ _ _ _,jo.start _⟩;obtain⟨k,s,u,hk,rfl,rfl,A,J,D,X⟩:=hrel;have x:=ah A;have C:=ah J;by_cases E:k<n
 .have l:k<t.length:=by rw[HL.out];exact E
  have L:k<u.length:=by rw[A.len];exact E
  have y:=A.cell k E;rw[D.at k<|au _]at y;have ad:=A.frozen k;obtain⟨c,hx⟩:=ac<|t.getD k 0;rw[<-hx]at y;by_cases h8:c=8
  .subst h8;have key:∀v:Int,v=f1 K s 8 (t.drop<|k+1)->Hid (aZ (f1 K) (g1 K) none t (k+1) (some v) (u.set k v)/\jo (u.set k v) (k+1) (some v)):=λv hv=>
    ⟨D.step l v (some v) (by rw[<-hx];exact hv)<|by rw[<-hx,g1,<-hv],jo.set v L⟩
   cases k with
   |zero=>
    obtain rfl:s=none:=(by rcases X with⟨_,h⟩|⟨h,_⟩;exact h;omega);have f:=key K rfl;clear key A J D X hx l L;go_wp2;go_roundg (n - 1);exact⟨1,_,_,by omega,rfl,rfl,x.out.set 0 _,C.out.trans<|x.out.grown 0 _,f.out.1,f.out.2⟩;omega
   |succ j=>
    obtain⟨p,hp⟩:=ac<|u.getD j 0;obtain rfl:s=some p:=(by rcases X with⟨h,_⟩|⟨_,h⟩;omega;rw[h,lJ,hp]);have Lb:=A.cell j (by omega);rw[<-hp]at Lb;have vh:∀a b:Int,bu ((wr.setCell ⟨g,j+1,none⟩ (.int .i64 a)).setCell ⟨g,j+1,none⟩ (.int .i64 b)) B g n z (u.set (j+1) b)/\w.grownBy ((wr.setCell ⟨g,j+1,none⟩ (.int .i64 a)).setCell ⟨g,j+1,none⟩ (.int .i64 b)) (some g):=λa b=>by
     have T:=(A.set (j+1) a).set (j+1) b;rw[Sw]at T;exact⟨T,(J.trans<|A.grown (j+1) a).trans ((A.set (j+1) a).grown (j+1) b)⟩
    have B6:=ah vh;have Np:Hid (∀a b c:Int,bu (((wr.setCell ⟨g,j+1,none⟩ (.int .i64 a)).setCell ⟨g,j+1,none⟩ (.int .i64 b)).setCell ⟨g,j+1,none⟩ (.int .i64 c)) B g n z (u.set (j+1) c)/\w.grownBy (((wr.setCell ⟨g,j+1,none⟩ (.int .i64 a)).setCell ⟨g,j+1,none⟩ (.int .i64 b)).setCell ⟨g,j+1,none⟩ (.int .i64 c)) (some g)):=λa b c=>by
     have T:=(vh a b).1.set (j+1) c;rw[Sw]at T;exact⟨T,(vh a b).2.trans ((vh a b).1.grown (j+1) c)⟩
    have HK:=ah key;clear key vh A J D X hx l L hp;cases bJ:aU p
    .by_cases Y:p=21
     .have f:=HK.out 12 (by simp[f1,Y]);have CT:=an Y;have yY:=ah bJ;clear Y bJ;go_wp2_with fail;refine(CK p _).mono ?_;rintro e _ ⟨rfl,rfl⟩;rw[yY.out];go_wp2;go_roundg (n - (j+1+1));exact⟨j+1+1,_,_,by omega,rfl,by simp,(Np.out _ _ _).1,(Np.out _ _ _).2,f.out.1,f.out.2⟩;omega
     .have f:=HK.out p (by simp[f1,Y,bJ]);have CT:=ae Y;have yY:=ah bJ;clear Y bJ;go_wp2_with fail;refine(CK p _).mono ?_;rintro e _ ⟨rfl,rfl⟩;rw[yY.out];go_wp2;go_roundg (n - (j+1+1));exact⟨j+1+1,_,_,by omega,rfl,by simp,(B6.out _ _).1,(B6.out _ _).2,f.out.1,f.out.2⟩;omega
    .have f:=HK.out 12 (by simp[f1,bJ]);have yY:=ah bJ;clear bJ;go_wp2_with fail;refine(CK p _).mono ?_;rintro e _ ⟨rfl,rfl⟩;rw[yY.out];go_wp2;go_roundg (n - (j+1+1));exact⟨j+1+1,_,_,by omega,rfl,by simp,(Np.out _ _ _).1,(Np.out _ _ _).2,f.out.1,f.out.2⟩;omega
  .have q8:=ae h8;have h1:=D.stay l (some c) (by rw[<-hx,OE h8]) (by rw[<-hx,g1,OE h8]);have T:jo u (k+1) (some c):=(by rw[hx,<-D.at k (au _)];exact jo.stay);have bF:=ah h1;have bW:=ah T;clear h1 T A J D X hx l L h8;go_wp2;go_roundg (n - (k+1));exact⟨k+1,_,_,by omega,rfl,by simp,x.out,C.out,bF.out,bW.out⟩;omega
 .have I:Hid (u=pass (f1 K) (g1 K) none t):=D.stop (by rw[HL.out];exact E);clear A J D X;go_wp2_with fail;refine(afx (pass (f1 K) (g1 K) none t) K 2 6 B g n z wr (I.out▸x.out) hn).mono ?_;rintro e w2 ⟨rfl,A5,nW⟩;have BN:=ah A5;have ab:=ah<|C.out.trans nW;have Jt:=ah A5.len;clear A5 nW x C I;generalize af:lO 2 6 K (pass (f1 K) (g1 K) none t)=tb at BN Jt;have aI:=ah af;clear af;go_wp2;go_loopg [9] n (λgk i wr=>∃(k:Nat)(u:List Int),k<=n/\gk=n - k/\i= .int .i64 k/\bu wr B g n z u/\w.grownBy wr (some g)/\aZ f3 g3 () tb k () u);exact⟨0,tb,by omega,rfl,rfl,BN.out,ab.out,aZ.start _ _ _ _⟩;clear BN ab;obtain⟨k,u,hk,rfl,rfl,A,J,D⟩:=hrel;have x:=ah A;have C:=ah J;by_cases E:k<n
  .have l:k<tb.length:=(by rw[Jt.out];exact E);have y:=A.cell k E;rw[D.at k<|au _]at y;have ad:=A.frozen k;obtain⟨c,hx⟩:=ac<|tb.getD k 0;rw[<-hx]at y;by_cases T:c=2
   .subst T;have f:Hid (aZ f3 g3 () tb (k+1) ()<|u.set k 1):=D.step l 1 () (by rw[<-hx];rfl) rfl;clear A J D hx l;go_wp2;go_roundg (n - (k+1));exact⟨k+1,_,by omega,rfl,by simp,x.out.set k _,C.out.trans<|x.out.grown k _,f.out⟩;omega
   .have q2:=ae T;have f:Hid (aZ f3 g3 () tb (k+1) () u):=D.stay l () (by rw[<-hx,DT T]) rfl;clear A J D hx l T;go_wp2;go_roundg (n - (k+1));exact⟨k+1,_,by omega,rfl,by simp,x.out,C.out,f.out⟩;omega
  .have I:Hid (u=pass f3 g3 () tb):=D.stop (by rw[Jt.out];exact E);have qM:Hid (bu wr B g n z<|pass f3 g3 () tb):=I.out▸A;have EM:=ah qM.out.len;clear A J D x I;generalize ag:pass f3 g3 () tb=tc at qM EM;have aG:=ah ag;clear ag;go_wp2;go_loopg [10] (n - 1) (λgk i wr=>∃(k:Nat)(s:Int)(u:List Int),1<=k/\k<=n/\gk=n - k/\i= .int .i64 k/\bu wr B g n z u/\w.grownBy wr (some g)/\aZ f4 g4 none tc k (some s) u/\s=u.getD (k - 1) 0);exact⟨1,_,tc,by omega,by omega,by omega,rfl,qM.out,C.out,Uk<|by rw[EM.out];exact ao,rfl⟩;clear qM C;obtain⟨k,a,u,ar,hk,rfl,rfl,A,J,D,X⟩:=hrel;have x:=ah A;have C:=ah J;by_cases E:k+1<n
   .obtain⟨j,rfl⟩:∃j,k=j+1:=⟨k - 1,by omega⟩
    have l:j+1<tc.length:=(by rw[EM.out];omega);have L:j+1<u.length:=(by rw[A.len];omega);have y:=A.cell (j+1) (by omega);rw[D.at (j+1)<|au _]at y;have Lb:=A.cell (j+1+1) (by omega);rw[D.at (j+1+1)<|by omega]at Lb;have al:=A.cell j (by omega);rw[lJ]at X;rw[<-X]at al;have ad:=A.frozen<|j+1;obtain⟨c,hx⟩:=ac<|tc.getD (j+1) 0;obtain⟨d,hd⟩:=ac<|tc.getD (j+1+1) 0;rw[<-hx]at y;rw[<-hd]at Lb;have P:f4 (some a) c (tc.drop<|j+1+1)=if a=d/\((c=4/\a=3)∨(c=7/\(a=3∨a=6)))then a else c:=by
     rw[drop_at (show j+1+1<tc.length by rw[EM.out];omega),<-hd];exact TA
    have hit:(a=d/\((c=4/\a=3)∨(c=7/\(a=3∨a=6))))->Hid (aZ f4 g4 none tc (j+1+1) (some a) (u.set (j+1) a)/\a=(u.set (j+1) a).getD (j+1+1 - 1) 0):=λh=>
     ⟨D.step l a (some a) (by rw[<-hx,P,aj h])<|by rw[<-hx,g4,P,aj h],by rw[lJ,D.prev l a]⟩
    have Q:¬(a=d/\((c=4/\a=3)∨(c=7/\(a=3∨a=6))))->Hid (aZ f4 g4 none tc (j+1+1) (some c) u/\c=u.getD (j+1+1 - 1) 0):=λh=>
     ⟨D.stay l (some c) (by rw[<-hx,P,ai h])<|by rw[<-hx,g4,P,ai h],by rw[lJ,D.at (j+1)<|au _,hx]⟩
    clear A J D X hx hd P l L;by_cases yD:a=d
    .have qd:(a==d)=true:=(by simpa using yD);by_cases CU:c=4
     .have q4:=an CU;have q7:(c==7)=false:=(by simp;omega);by_cases F:a=3
      .have q3:=an F;have f:=hit<|⟨yD,.inl ⟨CU,F⟩⟩;clear hit Q yD CU F;go_wp2;go_roundg (n - (j+1+1));exact⟨j+1+1,_,_,by omega,by omega,rfl,by simp,x.out.set (j+1) _,C.out.trans<|x.out.grown (j+1) _,f.out.1,f.out.2⟩;omega
      .have q3:=ae F;have f:=Q (by omega);clear hit Q yD CU F;go_wp2;go_roundg (n - (j+1+1));exact⟨j+1+1,_,_,by omega,by omega,rfl,by simp,x.out,C.out,f.out.1,f.out.2⟩;omega
     .have q4:=ae CU;by_cases Eo:c=7
      .have q7:=an Eo;by_cases F:a=3
       .have q3:=an F;have f:=hit<|⟨yD,.inr ⟨Eo,.inl F⟩⟩;clear hit Q yD CU Eo F;go_wp2;go_roundg (n - (j+1+1));exact⟨j+1+1,_,_,by omega,by omega,rfl,by simp,x.out.set (j+1) _,C.out.trans<|x.out.grown (j+1) _,f.out.1,f.out.2⟩;omega
       .have q3:=ae F;by_cases MH:a=6
        .have q6:=an MH;have f:=hit<|⟨yD,.inr ⟨Eo,.inr MH⟩⟩;clear hit Q yD CU Eo F MH;go_wp2;go_roundg (n - (j+1+1));exact⟨j+1+1,_,_,by omega,by omega,rfl,by simp,x.out.set (j+1) _,C.out.trans<|x.out.grown (j+1) _,f.out.1,f.out.2⟩;omega
        .have q6:=ae MH;have f:=Q (by omega);clear hit Q yD CU Eo F MH;go_wp2;go_roundg (n - (j+1+1));exact⟨j+1+1,_,_,by omega,by omega,rfl,by simp,x.out,C.out,f.out.1,f.out.2⟩;omega
      .have q7:=ae Eo;have f:=Q (by omega);clear hit Q yD CU Eo;go_wp2;go_roundg (n - (j+1+1));exact⟨j+1+1,_,_,by omega,by omega,rfl,by simp,x.out,C.out,f.out.1,f.out.2⟩;omega
    .have qd:(a==d)=false:=(by simpa using yD);have f:=Q (by omega);clear hit Q yD;go_wp2;go_roundg (n - (j+1+1));exact⟨j+1+1,_,_,by omega,by omega,rfl,by simp,x.out,C.out,f.out.1,f.out.2⟩;omega
   .have I:Hid (u=pass f4 g4 none tc):=Ul D (by rw[EM.out];exact E);have pq:Hid (bu wr B g n z<|pass f4 g4 none tc):=I.out▸A;have yZ:=ah pq.out.len;clear A J D x I X;generalize ak:pass f4 g4 none tc=Z at pq yZ;have cT:=ah ak;clear ak;go_wp2;go_loopg [12] n (λgk i wr=>∃(k:Nat)(s:Option Int)(u:List Int),k<=n/\gk=n - k/\i= .int .i64 k/\bu wr B g n z u/\w.grownBy wr (some g)/\aZ f5 g5 none Z k s u/\jo u k s);exact⟨0,none,Z,by omega,rfl,rfl,pq.out,C.out,aZ.start _ _ _ _,jo.start _⟩;clear pq C;obtain⟨k,s,u,hk,rfl,rfl,A,J,D,X⟩:=hrel;have x:=ah A;have C:=ah J;have HN:=ah D;have HA:=ah X;clear A J D X;by_cases E:k<n
    .go_wp2;go_loopg [13] (n - k) (λgk jv wj=>∃j:Nat,k<=j/\j<=n/\gk=n - j/\jv= .int .i64 j/\wj=wr/\∀q,k<=q->q<j->Z.getD q 0=5);exact⟨k,by omega,by omega,rfl,rfl,rfl,λq h1 T=>by omega⟩;obtain⟨j,am,ap,rfl,rfl,hw,o⟩:=hrel;subst hw;by_cases ve:j<n
     .have Cy:=x.out.cell j ve;rw[HN.out.at j am]at Cy;obtain⟨c,hx⟩:=ac<|Z.getD j 0;rw[<-hx]at Cy;by_cases U:c=5
      .have q5:=an U;have kN:Hid (∀q,k<=q->q<j+1->Z.getD q 0=5):=by
        intro q h1 T;rcases cP q j with h|h
        .exact o q h1 h
        .rw[show q=j by omega,<-hx,U]
       clear o hx U;go_wp2;go_roundg (n - (j+1));exact⟨j+1,by omega,by omega,rfl,by simp,rfl,kN.out⟩;omega
      .have q5:=ae U;by_cases uU:k<j
       .have O:j<=Z.length:=(by rw[yZ.out];omega);have I:Hid (pK (Z.drop j)=(c==3)):=(by rw[hx];exact CI (by rw[yZ.out];exact ve)<|by rw[<-hx];exact U);clear hx U;rcases HA.out with⟨aa,N⟩|⟨aa,N⟩
        .subst aa;obtain rfl:s=none:=N;by_cases V:c=3
         .have qc:=an V;have f:Hid _:=MK HN.out o O uU (.inr<|by rw[I.out,V];rfl);clear o O;go_wp2;go_loopg [14] (j - 0) (λgk qv wq=>∃m:Nat,0+m<=j/\gk=j - 0 - m/\qv= .int .i64 ((0+m:Nat):Int)/\bu wq B g n z (qj u 0 m)/\w.grownBy wq (some g));exact⟨0,by omega,rfl,rfl,x.out,C.out⟩;obtain⟨m,hm,rfl,rfl,G,S⟩:=hrel;have R:=ah G;have gK:=ah S;by_cases lN:0+m<j
          .have jV:=G.frozen (0+m);have dK:=G.cell (0+m) (by omega);generalize(qj u 0 m).getD (0+m) 0=cq at dK;clear G S;obtain⟨q,W⟩:=ac (0+m);have M:=ah W;rw[<-W]at jV dK lN ⊢;clear W;go_wp2;go_roundg (j - 0 - (m+1));case measure=>have:=M.out;omega
           case rel=>
            refine⟨m+1,by have:=M.out;omega,rfl,by have:=M.out;simp;omega,?_,?_⟩
            .rw[M.out];exact R.out.set (0+m) 3
            .exact gK.out.trans (R.out.grown q 3)
          .obtain rfl:j=m:=(by omega);clear G S;have H:0+j=j:=(by omega);rw[H];clear H;go_wp2;go_roundg (n - j);exact⟨j,_,_,by omega,rfl,by simp,R.out,gK.out,f.out.1,f.out.2⟩;omega
         .have qc:=ae V;have f:Hid _:=ML HN.out o O uU (by simp) (by rw[I.out];exact qc);clear o O;go_wp2;go_roundg (n - j);exact⟨j,_,_,by omega,rfl,by simp,x.out,C.out,f.out.1,f.out.2⟩;omega
        .obtain⟨r,rfl⟩:∃r,k=r+1:=⟨k - 1,by omega⟩
         obtain⟨p,hp⟩:=ac<|u.getD r 0;have kj:=x.out.cell r (by omega);rw[<-hp]at kj;obtain rfl:s=some p:=(by rw[N,lJ,hp]);clear hp N;by_cases CE:p=3
         .have qp:=an CE;have f:Hid _:=MK HN.out o O uU (.inl<|by rw[CE]);clear o O;go_wp2;go_loopg [14] (j - (r+1)) (λgk qv wq=>∃m:Nat,(r+1)+m<=j/\gk=j - (r+1) - m/\qv= .int .i64 (((r+1)+m:Nat):Int)/\bu wq B g n z (qj u (r+1) m)/\w.grownBy wq (some g));exact⟨0,by omega,rfl,rfl,x.out,C.out⟩;obtain⟨m,hm,rfl,rfl,G,S⟩:=hrel;have R:=ah G;have gK:=ah S;by_cases lN:(r+1)+m<j
          .have jV:=G.frozen<|(r+1)+m;have dK:=G.cell ((r+1)+m) (by omega);generalize(qj u (r+1) m).getD ((r+1)+m) 0=cq at dK;clear G S;obtain⟨q,W⟩:=ac<|(r+1)+m;have M:=ah W;rw[<-W]at jV dK lN ⊢;clear W;go_wp2;go_roundg (j - (r+1) - (m+1));case measure=>have:=M.out;omega
           case rel=>
            refine⟨m+1,by have:=M.out;omega,rfl,by have:=M.out;simp;omega,?_,?_⟩
            .rw[M.out];exact R.out.set ((r+1)+m) 3
            .exact gK.out.trans (R.out.grown q 3)
          .obtain rfl:m=j - (r+1):=(by omega);clear G S;have H:(r+1)+(j - (r+1))=j:=(by omega);rw[H];clear H;go_wp2;go_roundg (n - j);exact⟨j,_,_,by omega,rfl,by simp,R.out,gK.out,f.out.1,f.out.2⟩;omega
         .have qp:=ae CE;by_cases V:c=3
          .have qc:=an V;have f:Hid _:=MK HN.out o O uU (.inr<|by rw[I.out,V];rfl);clear o O;go_wp2;go_loopg [14] (j - (r+1)) (λgk qv wq=>∃m:Nat,(r+1)+m<=j/\gk=j - (r+1) - m/\qv= .int .i64 (((r+1)+m:Nat):Int)/\bu wq B g n z (qj u (r+1) m)/\w.grownBy wq (some g));exact⟨0,by omega,rfl,rfl,x.out,C.out⟩;obtain⟨m,hm,rfl,rfl,G,S⟩:=hrel;have R:=ah G;have gK:=ah S;by_cases lN:(r+1)+m<j
           .have jV:=G.frozen<|(r+1)+m;have dK:=G.cell ((r+1)+m) (by omega);generalize(qj u (r+1) m).getD ((r+1)+m) 0=cq at dK;clear G S;obtain⟨q,W⟩:=ac<|(r+1)+m;have M:=ah W;rw[<-W]at jV dK lN ⊢;clear W;go_wp2;go_roundg (j - (r+1) - (m+1));case measure=>have:=M.out;omega
            case rel=>
             refine⟨m+1,by have:=M.out;omega,rfl,by have:=M.out;simp;omega,?_,?_⟩
             .rw[M.out];exact R.out.set ((r+1)+m) 3
             .exact gK.out.trans (R.out.grown q 3)
           .obtain rfl:m=j - (r+1):=(by omega);clear G S;have H:(r+1)+(j - (r+1))=j:=(by omega);rw[H];clear H;go_wp2;go_roundg (n - j);exact⟨j,_,_,by omega,rfl,by simp,R.out,gK.out,f.out.1,f.out.2⟩;omega
          .have qc:=ae V;have f:Hid _:=ML HN.out o O uU (by simpa using CE) (by rw[I.out];exact qc);clear o O;go_wp2;go_roundg (n - j);exact⟨j,_,_,by omega,rfl,by simp,x.out,C.out,f.out.1,f.out.2⟩;omega
       .obtain rfl:j=k:=(by omega);have f:Hid (aZ f5 g5 none Z (j+1) (some c) u/\jo u (j+1) (some c)):=(by rw[hx];exact WU HN.out (by rw[yZ.out];exact ve)<|by rw[<-hx];exact U);clear hx U o;go_wp2;go_roundg (n - (j+1));exact⟨j+1,_,_,by omega,rfl,by simp,x.out,C.out,f.out.1,f.out.2⟩;omega
     .have O:j<=Z.length:=(by rw[yZ.out];omega);have uU:k<j:=(by omega);have I:Hid (pK (Z.drop j)=false):=Dc (by rw[yZ.out];exact ve);rcases HA.out with⟨aa,N⟩|⟨aa,N⟩
      .subst aa;obtain rfl:s=none:=N;have f:Hid _:=ML HN.out o O uU (by simp)<|I.out;clear o O;go_wp2;go_roundg (n - j);exact⟨j,_,_,by omega,rfl,by simp,x.out,C.out,f.out.1,f.out.2⟩;omega
      .obtain⟨r,rfl⟩:∃r,k=r+1:=⟨k - 1,by omega⟩
       obtain⟨p,hp⟩:=ac<|u.getD r 0;have kj:=x.out.cell r (by omega);rw[<-hp]at kj;obtain rfl:s=some p:=(by rw[N,lJ,hp]);clear hp N;by_cases CE:p=3
       .have qp:=an CE;have f:Hid _:=MK HN.out o O uU (.inl<|by rw[CE]);clear o O;go_wp2;go_loopg [14] (j - (r+1)) (λgk qv wq=>∃m:Nat,(r+1)+m<=j/\gk=j - (r+1) - m/\qv= .int .i64 (((r+1)+m:Nat):Int)/\bu wq B g n z (qj u (r+1) m)/\w.grownBy wq (some g));exact⟨0,by omega,rfl,rfl,x.out,C.out⟩;obtain⟨m,hm,rfl,rfl,G,S⟩:=hrel;have R:=ah G;have gK:=ah S;by_cases lN:(r+1)+m<j
        .have jV:=G.frozen<|(r+1)+m;have dK:=G.cell ((r+1)+m) (by omega);generalize(qj u (r+1) m).getD ((r+1)+m) 0=cq at dK;clear G S;obtain⟨q,W⟩:=ac<|(r+1)+m;have M:=ah W;rw[<-W]at jV dK lN ⊢;clear W;go_wp2;go_roundg (j - (r+1) - (m+1));case measure=>have:=M.out;omega
         case rel=>
          refine⟨m+1,by have:=M.out;omega,rfl,by have:=M.out;simp;omega,?_,?_⟩
          .rw[M.out];exact R.out.set ((r+1)+m) 3
          .exact gK.out.trans (R.out.grown q 3)
        .obtain rfl:m=j - (r+1):=(by omega);clear G S;have H:(r+1)+(j - (r+1))=j:=(by omega);rw[H];clear H;go_wp2;go_roundg (n - j);exact⟨j,_,_,by omega,rfl,by simp,R.out,gK.out,f.out.1,f.out.2⟩;omega
       .have qp:=ae CE;have f:Hid _:=ML HN.out o O uU (by simpa using CE)<|I.out;clear o O;go_wp2;go_roundg (n - j);exact⟨j,_,_,by omega,rfl,by simp,x.out,C.out,f.out.1,f.out.2⟩;omega
    .have I:Hid (u=pass f5 g5 none Z):=HN.out.stop (by rw[yZ.out];exact E);have Nf:Hid (bu wr B g n z<|pass f5 g5 none Z):=I.out▸x.out;have Gw:=ah Nf.out.len;clear HN x I HA;generalize bO:pass f5 g5 none Z=te at Nf Gw;have bG:=ah bO;clear bO;go_wp2;go_loopg [15] n (λgk i wr=>∃(k:Nat)(u:List Int),k<=n/\gk=n - k/\i= .int .i64 k/\bu wr B g n z u/\w.grownBy wr (some g)/\aZ f6 g3 () te k () u);exact⟨0,te,by omega,rfl,rfl,Nf.out,C.out,aZ.start _ _ _ _⟩;clear Nf C;obtain⟨k,u,hk,rfl,rfl,A,J,D⟩:=hrel;have x:=ah A;have C:=ah J;by_cases E:k<n
     .have l:k<te.length:=(by rw[Gw.out];exact E);have y:=A.cell k E;rw[D.at k<|au _]at y;have ad:=A.frozen k;obtain⟨c,hx⟩:=ac<|te.getD k 0;rw[<-hx]at y;have hit:(c=4∨c=5∨c=7)->Hid (aZ f6 g3 () te (k+1) ()<|u.set k 12):=λh=>D.step l 12 () (by rw[<-hx,akR h]) rfl
      have Q:¬(c=4∨c=5∨c=7)->Hid (aZ f6 g3 () te (k+1) () u):=λh=>D.stay l () (by rw[<-hx,DX h]) rfl
      clear A J D hx l;by_cases h4:c=4
      .have f:=hit (.inl h4);have q4:=an h4;clear hit Q h4;go_wp2;go_roundg (n - (k+1));exact⟨k+1,_,by omega,rfl,by simp,x.out.set k _,C.out.trans<|x.out.grown k _,f.out⟩;omega
      have q4:=ae h4;by_cases U:c=5
      .have f:=hit (.inr (.inl U));have q5:=an U;clear hit Q h4 U;go_wp2;go_roundg (n - (k+1));exact⟨k+1,_,by omega,rfl,by simp,x.out.set k _,C.out.trans<|x.out.grown k _,f.out⟩;omega
      have q5:=ae U;by_cases h7:c=7
      .have f:=hit (.inr (.inr h7));have q7:=an h7;clear hit Q h4 U h7;go_wp2;go_roundg (n - (k+1));exact⟨k+1,_,by omega,rfl,by simp,x.out.set k _,C.out.trans<|x.out.grown k _,f.out⟩;omega
      have q7:=ae h7;have f:=Q (by omega);clear hit Q h4 U h7;go_wp2;go_roundg (n - (k+1));exact⟨k+1,_,by omega,rfl,by simp,x.out,C.out,f.out⟩;omega
     .have I:Hid (u=pass f6 g3 () te):=D.stop (by rw[Gw.out];exact E);have HW:Hid (uD K t=lO 0 0 K (pass f6 g3 () te)):=(by show uD K t=_;unfold uD;rw[aI.out,aG.out,cT.out,bG.out]);clear A J D;go_wp2_with fail;refine(afx (pass f6 g3 () te) K 0 0 B g n z wr (I.out▸x.out) hn).mono ?_;rintro e w2 ⟨rfl,A5,nW⟩;have BN:=ah A5;have ab:=ah<|C.out.trans nW;clear A5 nW x C I;go_wp2;go_end0;exact⟨rfl,HW.out▸BN.out,ab.out⟩
def Ag {P:Program}(w:World){l:Array Oper}{rest:List Oper}{o:Oper}{a:Act}{Q:Exit->Act->World->Prop}(A:o.guard=none)(s x:Operand)(t:TypeId)
  (L:o.op= .call {callee:= .builtin .append,args:=#[s,x],argTypes:=#[t,t]})
  (b:Nat) (e:TypeId) (i:TypeInfo) (z:Value) (bytes:Nat) (N:P.underlying t=some (.slice e)) (K:P.info? e=some i) (O:i.zero=some z)
  (c:i.size=1) (r:i.bytes=bytes) (D:z.cells.size=1) (R:bytes<=64)
  (v:Value) (n:Nat) (E:List Value) (M:a.eval s=v) (g:w.ownsRow b e 1 v n E)
  (y:Value) (G:TypeId) (k:Nat) (hx:a.eval x= .slice (some ⟨k,0,none⟩) 1 1) (B:k=w.heap.size) (H:y.oneCell'=true) (S:n<=1000000) (q:b<=w.heap.size)
  (h:∀d m,m.ownsRow b e 1 d (n+1) (E++[y])->w.grownBy m v.ownBlock->(d.ownBlock=v.ownBlock∨d.ownBlock=some (w.heap.size+1))->wpList P l Q rest (a.put o.dst d) m):wpList P l Q (o::rest) a (w.alloc (.cells #[y] G)):=by
 subst B;refine iM _ A s x t L b e i z 1 bytes N K O c r D (by decide) v n E M (g.alloc _) ⟨w.heap.size,0,none⟩ 1 1 [y] hx rfl ?_ ?_ ?_ ?_ ?_ ?_
 .intro j u p
  match j,p with
  |0,p=>simp at p;subst p;simp[Addr.add]
 .intro u F;simp at F;subst F;exact H
 .unfold maxLen;omega
 .have:(n+1)*bytes<=1000001*64:=zl (by omega) R;omega
 .simp;omega
 .intro d m I f _ J;refine h d m I ⟨f.os,f.tape,f.output,?_,λk B C=> ?_⟩<|by simpa using J
  .have:=f.size;simp at this;omega
  .rw[f.block k (by simp;omega) C];exact dw w _ k B
def TU {w a:World}{r:Option Nat}(h:Below w.heap.size w a):w.grownBy a r:=⟨h.os,h.tape,h.output,h.size,λk b _=>h.block k b⟩
def Cn {w:World}{r:Option Nat}:w.grownBy w.drew r:=⟨rfl,rfl,rfl,au _,λ_ _ _=>rfl⟩
def pV(a b:Option Nat):Prop:=∀k,a=some k->b=some k->False
def pV.symm {a b:Option Nat}(h:pV a b):pV b a:=λk c d=>h k d c
def pV.ne {a b:Option Nat}(h:pV a b):a=none∨a≠b:=by
 cases a with
 |none=>exact .inl rfl
 |some k=>exact .inr λe=>h k rfl e.symm
def uu {w:World}{B:Nat}{e:TypeId}{z n:Nat}{v:Value}{b:List Value}(h:w.ownsRow B e z v n b):∀k,v.ownBlock=some k->k<w.heap.size:=λk a=>(h.lt k a).2
def pV.push {w:World}{a c b:Option Nat}(h:pV a b)(d:c=a∨c=some (w.heap.size+1))(g:∀k,b=some k->k<w.heap.size):pV c b:=by
 intro k e f;rcases d with rfl|d
 .exact h k e f
 .rw[d]at e;have:=aJ e;have:=g k f;omega
structure nS(w0 w:World)(B:Nat)(tv ov rv:Value)(t o r:List Int):Prop where
 below:Below B w0 w
 base:B<=w.heap.size
 ht:w.ownsRow B 3 1 tv t.length<|iv t
 ho:w.ownsRow B 3 1 ov o.length<|iv o
 hr:w.ownsRow B 3 1 rv r.length<|iv r
 to':pV tv.ownBlock ov.ownBlock
 tr:pV tv.ownBlock rv.ownBlock
 or':pV ov.ownBlock rv.ownBlock
def nS.start(a w:World)(B:Nat)(c:Below B a w)(b:B<=w.heap.size):nS a w B (.slice none 0 0) (.slice none 0 0) (.slice none 0 0) [] [] []:=
 ⟨c,b,⟨rfl,.inl ⟨rfl,rfl⟩⟩,⟨rfl,.inl ⟨rfl,rfl⟩⟩,⟨rfl,.inl ⟨rfl,rfl⟩⟩,λk h=>(by cases h),λk h=>(by cases h),λk h=>(by cases h)⟩
def nS.WK {k w e:World}{B:Nat}{d i j c:Value}{t o r:List Int}{a:Int}(h:nS k w B d i j t o r)(f:e.ownsRow B 3 1 c (t.length+1)<|iv t++[.int .i64 a])(b:w.grownBy e d.ownBlock)(g:c.ownBlock=d.ownBlock∨c.ownBlock=some (w.heap.size+1)):nS k e B c i j (t++[a]) o r:=
 ⟨h.below.grown b h.base<|vC h.ht,bP h.base b.size,by rw[FT]at f;simpa using f,eI h.ho b h.to'.symm.ne,eI h.hr b h.tr.symm.ne,h.to'.push g<|uu h.ho,h.tr.push g<|uu h.hr,h.or'⟩
def nS.apm {k w e:World}{B:Nat}{j d i c:Value}{t o r:List Int}{a:Int}(h:nS k w B j d i t o r)(f:e.ownsRow B 3 1 c (o.length+1)<|iv o++[.int .i64 a])(b:w.grownBy e d.ownBlock)(g:c.ownBlock=d.ownBlock∨c.ownBlock=some (w.heap.size+1)):nS k e B j c i t (o++[a]) r:=
 ⟨h.below.grown b h.base<|vC h.ho,bP h.base b.size,eI h.ht b h.to'.ne,by rw[FT]at f;simpa using f,eI h.hr b h.or'.symm.ne,(h.to'.symm.push g<|uu h.ht).symm,h.tr,h.or'.push g<|uu h.hr⟩
def nS.MG {k w e:World}{B:Nat}{j i d c:Value}{t o r:List Int}{a:Int}(h:nS k w B j i d t o r)(f:e.ownsRow B 3 1 c (r.length+1)<|iv r++[.int .i64 a])(b:w.grownBy e d.ownBlock)(g:c.ownBlock=d.ownBlock∨c.ownBlock=some (w.heap.size+1)):nS k e B j i c t o (r++[a]):=
 ⟨h.below.grown b h.base<|vC h.hr,bP h.base b.size,eI h.ht b h.tr.ne,eI h.ho b h.or'.ne,by rw[FT]at f;simpa using f,h.to',(h.tr.symm.push g<|uu h.ht).symm,(h.or'.symm.push g<|uu h.ho).symm⟩
def Tryz.Vq:(prog.info? 31).map (λi=>(i.zero,i.size,i.bytes))=some (some (.slice none 0 0),1,24):=by kernel_rfl
structure uP(w0 w:World)(B:Nat)(ov rv:Value)(vs:List Value)(x:List (List Nat)×List Nat):Prop where
 below:Below B w0 w
 base:B<=w.heap.size
 out:w.ownsRow B 31 1 ov x.1.length vs
 cur:w.ownsRow B 3 1 rv x.2.length<|iv<|nl x.2
 old:∀i,i<x.1.length->w.ownsRow B 3 1 (vs.getD i .nilFunc) (x.1.getD i []).length (iv<|nl<|x.1.getD i [])
 G6:∀i,i<x.1.length->pV (vs.getD i .nilFunc).ownBlock rv.ownBlock
def uP.start(w:World):uP w w w.heap.size (.slice none 0 0) (.slice none 0 0) [] ([],[]):=
 ⟨aA _ _,au _,⟨rfl,.inl ⟨rfl,rfl⟩⟩,⟨rfl,.inl ⟨rfl,rfl⟩⟩,λi h=>by simp at h,λi h=>by simp at h⟩
def uP.len {d w:World}{B:Nat}{b c:Value}{a:List Value}{x:List (List Nat)×List Nat}(h:uP d w B b c a x):a.length=x.1.length:=by have:=h.out.1;omega
def uP.grow {k w e:World}{B:Nat}{g d b:Value}{j:List Value}{x:List (List Nat)×List Nat}{p:Nat}(h:uP k w B g d j x)(f:e.ownsRow B 3 1 b (x.2.length+1)<|iv (nl x.2)++[.int .i64 (p:Nat)])(c:w.grownBy e d.ownBlock)(l:b.ownBlock=d.ownBlock∨b.ownBlock=some (w.heap.size+1)):uP k e B g b j (x.1,x.2++[p]):=
 ⟨h.below.grown c h.base<|vC h.cur,bP h.base c.size,eI h.out c<|lQ h.out h.cur<|by decide,by rw[FT,PO]at f;simpa using f,
  λi a=>eI (h.old i a) c (h.G6 i a).ne,λi a=>((h.G6 i a).symm.push l (uu<|h.old i a)).symm⟩
def uP.shift {l w f:World}{B:Nat}{j g d:Value}{e:List Value}{x:List (List Nat)×List Nat}(h:uP l w B j d e x)(m:f.ownsRow B 31 1 g (x.1.length+1)<|e++[d])(b:w.grownBy f j.ownBlock):uP l f B g (.slice none 0 0) (e++[d]) (x.1++[x.2],[]):=by
 have p:=h.len;refine⟨h.below.grown b h.base<|vC h.out,bP h.base b.size,by simpa using m,⟨rfl,.inl ⟨rfl,rfl⟩⟩,?_,λi _ k _ o=>by cases o⟩;intro i n;simp only[bH,eJ,jZ]at n;rcases cP i x.1.length with a|a
 .simp only[aO];rw[tP<|by omega,tP a];have:=eI (h.old i a) b (lQ (h.old i a) h.out<|by decide);simpa [aO]using this
 .have c:i=x.1.length:=by omega
  subst c;simp only[aO];rw[rY<|by omega,rY<|by omega,p,oK];have:=eI h.cur b (lQ h.cur h.out<|by decide);simpa using this
def aqf {b:List Int}{a:List Bool}{n k:Nat}{x:List (List Nat)×List Nat}(c:k<n):yE b a (n - k) k x=yE b a (n - (k+1)) (k+1) (Gc b a k x):=by
 rw[show n - k=(n - (k+1))+1 by omega,yE]
def xV {w:World}{r:Option Nat}{n:Nat}:w.grownBy (w.drewN n) r:=⟨rfl,rfl,rfl,au _,λ_ _ _=>rfl⟩
def Aj(w:World)(b a:Nat)(l:List Bool):Prop:=∀i,i<l.length->w.cell? ⟨b,a+i,none⟩=some (.bool<|l.getD i false)
def Aj.stay {w d:World}{B b a:Nat}{l:List Bool}(h:Aj w b a l)(e:Below B w d)(c:b<B):Aj d b a l:=λi f=>by rw[e.cell (p:=⟨b,a+i,none⟩) c];exact h i f
def afV(m:List Int)(j:List Bool)(n X ol cl W U cf:Nat)(w:World)(C:m.length=n)(hf:j.length=n)(hn:n<=100000)(Bc:bI w X ol m)(S:Aj w W U j)(T:X<w.heap.size)(uX:W<w.heap.size):
  Calls prog 121 #[.slice (some ⟨X,ol,none⟩) n cl,.slice (some ⟨W,U,none⟩) n cf] w λev w'=>∃(v:Value)(y:List Value),ev= .returned v/\Below w.heap.size w w'/\w'.ownsRow w.heap.size 31 1 v (cZ m j).length y/\∀i,i<(cZ m j).length->w'.ownsRow w.heap.size 3 1 (y.getD i .nilFunc) ((cZ m j).getD i []).length (iv<|nl<|(cZ m j).getD i []):=by
 obtain⟨iI,fP,fQ,fR,fS⟩:=gu Tryz.rL;obtain⟨iS,Lj,Ma,Mb,Mc⟩:=gu Tryz.Vq;obtain⟨R,hR⟩:=ac<|cZ m j;rw[<-hR];have HR:Hid (R=yE m j (n - 0) 0 ([],[])):=by rw[hR,cZ,C];rfl
 have Dh:=ah Bc;have BM:=ah S;have K:Hid (m.length=n/\j.length=n/\X<w.heap.size/\W<w.heap.size):=⟨C,hf,T,uX⟩
 clear hR C hf Bc S T uX;go_enter func121,ntmps121;go_wp2;go_loopg [5,6,7] n (λgh ov rv gw wr=>∃(k:Nat)(y:List Value)(x:List (List Nat)×List Nat),k<=n/\gh=n - k/\gw= .int .i64 k/\uP w wr w.heap.size ov rv y x/\AG m j k x/\R=yE m j (n - k) k x);exact⟨0,[],([],[]),by omega,rfl,rfl,uP.start w,AG.start _ _,HR.out⟩;clear HR;obtain⟨k,y,x,hk,rfl,rfl,f,d,G⟩:=hrel;obtain⟨oa,oc,rfl⟩:=eH f.out;obtain⟨ra,Y,rfl⟩:=eH f.cur;have A:=ah f;have z:=ah d.step;have H:Hid (k<n->R=yE m j (n - (k+1)) (k+1) (Gc m j k x)):=λh=>by rw[G];exact aqf h
 by_cases J:k<n
 .have P:=BM.out.stay f.below K.out.2.2.2 k (by rw[K.out.2.1];exact J);have Q:=Dh.out.stay f.below K.out.2.2.1 k (by rw[K.out.1];exact J);have t:=ah<|H.out J;have aa:x.1.flatten.length+x.2.length<=k:=by
   have:=congrArg List.length d.flat;rw[bH]at this;have h2:=Ay (lq j)<|List.range k;rw[NH]at h2;omega
  have ak:x.1.length<=k:=by
   have h3:∀l:List<|List Nat,(∀r∈l,r≠[])->l.length<=l.flatten.length:=by
    intro l
    induction l with
    |nil=>intro _;simp
    |cons a l ih=>
     intro C;have:=ih (λr hr=>C r<|by simp[hr]);have:=jK.2 (C a<|by simp);simp only[eJ,Ax,bH];omega
   have:=h3 x.1 d.ne;omega
  have ao:x.2.length<=k:=by omega
  have V:x.2≠[]->x.2.headD 0<k:=by
   intro b;have hm:x.2.headD 0∈x.1.flatten++x.2:=jL.2 (.inr (by cases hx:x.2 with|nil=>exact absurd hx b|cons a l=>simp));rw[d.flat]at hm;exact J4.1 (tQ.1 hm).1
  clear aa;have c:Gc m j k x=if j.getD k false=false then x else if x.2≠[]/\m.getD (x.2.headD 0) 0≠m.getD k 0 then(x.1++[x.2],[k])else(x.1,x.2++[k]):=rfl
  cases hb:j.getD k false
  .rw[hb]at P;rw[hb,aj rfl]at c;rw[c]at t z;clear hb c f d G H V Q;go_wp2;go_roundg (n - (k+1));exact⟨k+1,y,x,by omega,rfl,by simp,A.out,z.out,t.out⟩;omega
  .rw[hb]at P;rw[hb,ai<|by decide]at c;clear hb;by_cases b:x.2=[]
   .rw[ai λh=>h.1 b]at c;rw[c]at t z;have q:x.2.length=0:=(by rw[b];rfl);have e:=f.cur;have p:=f.base;rw[q]at e ⊢;clear c d G H V Q f;have xN:=A;rw[q]at xN;clear q A;go_wp2;go_quiet(fail);go_wp2_with(at_builtin;refine Ag _ rfl _ _ 31 rfl w.heap.size 3 iI (.int .i64 0) 8 underlying31 fP fQ fR fS rfl (by decide) _ _ _ rfl e _ _ _ rfl rfl rfl (by omega) p ?_);intro v' w5 o u E;have F:=(xV (w:=wr) (r:=(Value.slice ra 0 Y).ownBlock)).trans u;have B:Hid (uP w w5 w.heap.size _ v' y (x.1,x.2++[k])):=xN.out.grow (by rw[b];exact o) F E;clear o u E e F;go_wp2;go_roundg (n - (k+1));exact⟨k+1,y,_,by omega,rfl,by simp,B.out,z.out,t.out⟩;omega
   .have D:0<x.2.length:=jK.2 b;obtain⟨g,ad,hv,al,uY,_⟩:=gI f.cur D;obtain⟨af,ag⟩:ra=some ⟨g,0,none⟩/\Y=ad:=(by simpa using hv);clear hv;subst af;subst ag;have O:=jk f.cur 0 (by rw[gW];exact D);rw[oh _ _ D]at O;have UG:x.2.getD 0 0=x.2.headD 0:=(by cases x.2<;>rfl);rw[UG]at O;have am:=V b;have Uu:=Dh.out.stay f.below K.out.2.2.1 (x.2.headD 0) (by rw[K.out.1];omega);generalize x.2.headD 0=p0 at*;generalize m.getD p0 0=l0 at*;generalize m.getD k 0=l1 at*;have an:p0<n:=(by omega);have ae:((0:Int)<(x.2.length:Int)):=(by omega);have e:=f.cur;have L:=f.out;have p:=f.base;by_cases s:l0=l1
    .rw[ai λh=>h.2 s]at c;rw[c]at t z;have ab:(l0 !=l1)=false:=(by simpa using s);clear c d G H V f UG s L;go_wp2;go_quiet(fail);go_wp2_with(at_builtin;refine Ag _ rfl _ _ 31 rfl w.heap.size 3 iI (.int .i64 0) 8 underlying31 fP fQ fR fS rfl (by decide) _ _ _ rfl e _ _ _ rfl rfl rfl (by omega) p ?_);intro v' w5 o u E;have F:=(xV (w:=wr) (r:=(Value.slice (some ⟨g,0,none⟩) x.2.length Y).ownBlock)).trans u;have B:=ah<|A.out.grow o F E;clear o u E e F;go_wp2;go_roundg (n - (k+1));exact⟨k+1,y,_,by omega,rfl,by simp,B.out,z.out,t.out⟩;omega
    .rw[aj ⟨b,s⟩]at c;rw[c]at t z;have ab:(l0 !=l1)=true:=(by simpa using s);clear c d G H V f UG s e;go_wp2;go_quiet(fail);go_wp2_with(at_builtin;refine Ag _ rfl _ _ 127 rfl w.heap.size 31 iS (.slice none 0 0) 24 underlying127 Lj Ma Mb Mc rfl (by decide) _ _ _ rfl L _ _ _ rfl rfl rfl (by omega) p ?_);intro v' w5 o u E;obtain⟨Ef,Bn,rfl⟩:=eH o;have F:=(xV (w:=wr) (r:=(Value.slice oa x.1.length oc).ownBlock)).trans u;have Z:=A.out.shift o F;have B:=ah Z;have M:=Z.cur;have Fz:=Z.base;clear o u E L F Z;go_wp2_with(at_builtin;refine Ag _ rfl _ _ 31 rfl w.heap.size 3 iI (.int .i64 0) 8 underlying31 fP fQ fR fS rfl (by decide) _ _ _ rfl M _ _ _ rfl rfl rfl (by simp) Fz ?_);intro v6 w6 nk iL LW;have qQ:=ah<|B.out.grow nk iL LW;clear nk iL LW M;go_wp2;go_roundg (n - (k+1));exact⟨k+1,_,_,by omega,rfl,by simp,qQ.out,z.out,t.out⟩;omega
 .have I:k=n:=by omega
  have t:Hid (R=vG x):=by
   show _=_;rw[G,I,oK];rfl
  by_cases b:x.2=[]
  .have N:Hid (R=x.1):=by
    show _=_;rw[t.out,vG,aj b]
   have q:x.2.length=0:=(by rw[b];rfl);rw[q];clear f d G H z q t I;go_wp2;refine cI (v:= .slice oa x.1.length oc) (by simp[results,results121,go_sem]) rfl ⟨_,y,rfl,A.out.below,?_,?_⟩
   .rw[N.out];exact A.out.out
   .rw[N.out];exact A.out.old
  .have D:0<x.2.length:=jK.2 b;have ae:((0:Int)<(x.2.length:Int)):=(by omega);have N:Hid (R=x.1++[x.2]):=by
    show _=_;rw[t.out,vG,ai b]
   have ak:x.1.length<=100000:=by
    have:=congrArg List.length d.flat;rw[bH]at this;have h2:=Ay (lq j)<|List.range k;rw[NH]at h2;have h3:∀l:List<|List Nat,(∀r∈l,r≠[])->l.length<=l.flatten.length:=by
     intro l
     induction l with
     |nil=>intro _;simp
     |cons a l ih=>
      intro C;have:=ih (λr hr=>C r<|by simp[hr]);have:=jK.2 (C a<|by simp);simp only[eJ,Ax,bH];omega
    have:=h3 x.1 d.ne;omega
   have L:=f.out;have p:=f.base;clear f d G H z t I;go_wp2_with(at_builtin;refine Ag _ rfl _ _ 127 rfl w.heap.size 31 iS (.slice none 0 0) 24 underlying127 Lj Ma Mb Mc rfl (by decide) _ _ _ rfl L _ _ _ rfl rfl rfl (by omega) p ?_);intro v' w5 o u E;obtain⟨Ef,Bn,rfl⟩:=eH o;have B:=ah<|A.out.shift o u;clear o u E L;go_wp2;refine cI (v:= .slice Ef (x.1.length+1) Bn) (by simp[results,results121,go_sem]) rfl ⟨_,y++[.slice ra x.2.length Y],rfl,B.out.below,?_,?_⟩
   .rw[N.out];exact B.out.out
   .rw[N.out];exact B.out.old
def anI {a:List Int}{i:Nat}(e:mt a i<a.length)(_hi:i<=a.length):a.getD (mt a i) 0=21:=by
 have key:∀(l:List Int)(n:Int)(d:Nat),cV l n=some d->l.getD d 0=21:=by
  intro l
  induction l with
  |nil=>intro n d h;cases h
  |cons c r ih=>
   intro n d h;rw[cV]at h;by_cases b:c=21
   .rw[aj b]at h;by_cases f:n - 1=0
    .rw[aj f]at h;obtain rfl:=aJ h;simpa using b
    .rw[ai f]at h;cases hr:cV r (n - 1)with
     |none=>rw[hr]at h;cases h
     |some g=>rw[hr]at h;obtain rfl:=aJ h;simpa using ih _ _ hr
   .rw[ai b]at h;cases hr:cV r (if aU c=true then n+1 else n)with
    |none=>rw[hr]at h;cases h
    |some g=>rw[hr]at h;obtain rfl:=aJ h;simpa using ih _ _ hr
 unfold mt at e ⊢;cases hd:cV (a.drop i) 0 with
 |none=>rw[hd]at e;simp at e
 |some d=>
  have:=key _ _ _ hd;simp only;rw[aO,zj]at this;rw[aO];exact this
def aep {a:List Int}{k:Nat}(h:k<a.length)(b:aU (a.getD k 0)=true):k<mt a k:=by
 have i:=l7.start a k (by omega);have g:a.getD k 0≠21:=by intro e;rw[e,Me]at b;cases b
 have f:=i.plain h g;have:mt a k=a.length∨∃d,cV (a.drop<|k+1) (if aU (a.getD k 0)=true then(0:Int)+1 else 0)=some d/\mt a k=k+(d+(k+1 - k)):=by
  unfold mt;rw[f.2.2];cases hm:cV (a.drop<|k+1) (if aU (a.getD k 0)=true then(0:Int)+1 else 0)with
  |none=>exact .inl rfl
  |some d=>exact .inr ⟨d,rfl,rfl⟩
 rcases this with c|⟨d,_,c⟩<;>omega
def anJ {c:List Int}{i j:Nat}(h:i<c.length)(k:j<c.length)(f:aU (c.getD i 0)=true)(e:aU (c.getD j 0)=true)(g:mt c i=mt c j)(m:mt c i<c.length):i=j:=by
 have key:∀i j,i<c.length->j<c.length->aU (c.getD i 0)=true->aU (c.getD j 0)=true->mt c i=mt c j->mt c i<c.length->¬i<j:=by
  intro i j h k f e g m l;obtain⟨d,o,n⟩:=aeq h f m l (by rw[g];exact aep k e) e;have:mt c j=j+d:=by unfold mt;rw[o]
  omega
 have a:=key i j h k f e g m;have b:=key j i k h e f g.symm (by omega);omega
def FX {a:List (List Nat)}{m:Nat}:∀n k,uq a m n=some k->k<n/\(a.getD k []).headD 0=m
 |0,k,h=>by cases h
 |n+1,k,h=>by
  rw[uq]at h;split at h
  .rename_i b;obtain rfl:=aJ h;exact⟨ZW _,b⟩
  .have:=FX n k h;exact⟨by omega,this.2⟩
def aex {b:List (List Nat)}{m:Nat}:∀n,uq b m n=none->∀k,k<n->(b.getD k []).headD 0≠m
 |0,_,k,hk=>by omega
 |n+1,h,k,hk=>by
  rw[uq]at h;split at h
  .cases h
  .rename_i c;rcases cP k n with a|a
   .exact aex n h k a
   .obtain rfl:k=n:=(by omega);exact c
structure l9(n:Nat)(rs:List<|List Nat):Prop where
 ne:∀r∈rs,r≠[]
 lt:∀r∈rs,∀p∈r,p<n
 ur:rs.flatten.Nodup
def nx(b:List Int)(a:List<|List Nat)(i:Nat):Option Nat:=if i<a.length then ig b a ((a.getD i []).getLastD 0)else none
def dG {a:Type}{l:List a}{i:Nat}{d:a}(h:i<l.length):l.getD i d∈l:=by
 rw[aO,aM h];exact pF h
def zQ {r:List Nat}(h:r≠[]):r.getLastD 0∈r:=by
 rw[r8,GP h];exact ah0 h
def head_mem {r:List Nat}(h:r≠[]):r.headD 0∈r:=by
 cases r with
 |nil=>exact absurd rfl h
 |cons a l=>simp
def OI:∀{a:List (List Nat)},a.flatten.Nodup->∀{i j p:Nat},p∈a.getD i []->p∈a.getD j []->i=j
 |[],_,i,j,p,h,_=>by simp at h
 |r::a,hn,i,j,p,hi,hj=>by
  rw[Ax,GR]at hn;have c:∀k,p∈a.getD k []->p∈a.flatten:=by
   intro k b;rcases cP k a.length with h|h
   .exact Su.2 ⟨_,dG h,b⟩
   .rw[aO,rZ h]at b;cases b
  cases i with
  |zero=>
   cases j with
   |zero=>rfl
   |succ j=>exact absurd rfl (hn.2.2 p (by simpa using hi) p<|c j<|by simpa using hj)
  |succ i=>
   cases j with
   |zero=>exact absurd rfl (hn.2.2 p (by simpa using hj) p<|c i<|by simpa using hi)
   |succ j=>rw[OI hn.2.1 (i:=i) (j:=j) (p:=p) (by simpa using hi)<|by simpa using hj]
def Mv {b:List Int}{a:List (List Nat)}(h:l9 b.length a){i k:Nat}(c:nx b a i=some k):
  i<a.length/\k<a.length/\aU (b.getD ((a.getD i []).getLastD 0) 0)=true/\(a.getD k []).headD 0=mt b ((a.getD i []).getLastD 0)/\(a.getD i []).getLastD 0<b.length/\mt b ((a.getD i []).getLastD 0)<b.length:=by
 unfold nx at c;split at c
 .rename_i e;unfold ig at c;split at c
  .rename_i l;obtain⟨f,d⟩:=FX _ _ c;have g:a.getD i []∈a:=dG e;have j:a.getD k []∈a:=dG f;refine⟨e,f,l,d,h.lt _ g _ (zQ<|h.ne _ g),?_⟩;rw[<-d];exact h.lt _ j _ (head_mem<|h.ne _ j)
  .cases c
 .cases c
def an8 {b:List Int}{a:List (List Nat)}(h:l9 b.length a):∀i j k,nx b a i=some k->nx b a j=some k->i=j:=by
 intro i j k r s;obtain⟨e,_,f,g,l,m⟩:=Mv h r;obtain⟨n,_,o,p,q,u⟩:=Mv h s;have:(a.getD i []).getLastD 0=(a.getD j []).getLastD 0:=anJ l q f o (by rw[<-g,<-p]) m;have t:=zQ<|h.ne _ (dG (d:=[]) e);have c:=zQ<|h.ne _ (dG (d:=[]) n);rw[<-this]at c;exact OI h.ur t c
def an7 {a:List Int}{b:List (List Nat)}(h:l9 a.length b){s:Nat}(d:ia a (b.getD s [])=true):∀i,nx a b i≠some s:=by
 intro i l;obtain⟨m,n,f,j,g,k⟩:=Mv h l;have c:=anI k<|gF g;have e:0<=opener a (mt a<|(b.getD i []).getLastD 0):=(WZ a _).2 ⟨_,aep g f,f,rfl⟩;unfold ia at d;rw[j,c,mz e]at d;cases d
def N9 {e:List Int}{b:List (List Nat)}(h:l9 e.length b):∀f (a:List Nat) i,i<b.length->cE e b f (a++b.getD i [])=a++(ou (nx e b) f i).flatMap (b.getD · [])
 |0,a,i,hi=>by simp[cE,ou]
 |f+1,a,i,hi=>by
  have g:=h.ne _ (dG (d:=[]) hi);have c:(a++b.getD i []).getLastD 0=(b.getD i []).getLastD 0:=by
   rw[r8,NF,GP g,r8,GP g];rfl
  rw[cE,ou,c];have j:nx e b i=ig e b ((b.getD i []).getLastD 0):=by rw[nx,aj hi]
  rw[<-j];cases hk:nx e b i with
  |none=>simp
  |some k=>
   simp only;rw[N9 h f (a++b.getD i []) k (Mv h hk).2.1];simp
def ER {f:List (List Nat)}(h:f.flatten.Nodup):∀(l:List Nat),l.Nodup->(l.flatMap (f.getD · [])).Nodup
 |[],_=>by simp
 |i::l,hl=>by
  rw[Dr]at hl;rw[xP,GR];refine⟨?_,ER h l hl.2,?_⟩
  .rcases cP i f.length with e|e
   .exact h.sublist (ZT<|dG e)
   .rw[aO,rZ e];simp
  .intro a g b d c;subst c;obtain⟨j,k,d⟩:=GQ.1 d;have:=OI h g d;subst this;exact hl.1 k
def Kj(b:List Int)(a:List<|List Nat):List Nat:=(List.range a.length).filter λi=>ia b<|a.getD i []
def Ee(b:List Int):∀a:List<|List Nat,a.filter (ia b)=(Kj b a).map (a.getD · [])
 |[]=>rfl
 |r::a=>by
  have ih:=Ee b a;unfold Kj at ih ⊢;rw[eJ,aib,rX,rX];have e:(List.map Nat.succ<|List.range a.length).filter (λi=>ia b<|(r::a).getD i [])=((List.range a.length).filter λi=>ia b<|a.getD i []).map Nat.succ:=by
   rw[List.filter_map];rfl
  rw[e,ih];cases hb:ia b r<;>simp[hb,Function.comp_def]
def af1 {c:List Int}{b:List (List Nat)}(h:l9 c.length b)(f:Nat):((b.filter<|ia c).flatMap (cE c b f)).Nodup:=by
 have g:∀s∈Kj c b,s<b.length/\ia c (b.getD s [])=true:=by
  intro s d;unfold Kj at d;rw[tQ,J4]at d;exact d
 have e:(b.filter<|ia c).flatMap (cE c b f)=((Kj c b).flatMap (ou (nx c b) f)).flatMap (b.getD · []):=by
  rw[Ee,List.flatMap_map,List.flatMap_assoc];have:∀l:List Nat,(∀s∈l,s<b.length)->l.flatMap (λa=>cE c b f<|b.getD a [])=l.flatMap λx=>(ou (nx c b) f x).flatMap (b.getD · []):=by
   intro l
   induction l with
   |nil=>intro _;rfl
   |cons a l ih=>
    intro i;rw[xP,xP,ih λs d=>i s<|by simp[d]];have:=N9 h f [] a (i a<|by simp);simp only[si]at this;rw[this]
  exact this _ λs d=>(g s d).1
 rw[e];refine ER h.ur _ (YW (an8 h) f _ ?_ λs d=>an7 h (g s d).2);exact ZG _ ah5
def Yr {b e:List Int}{c:List (List Nat)}(h:l9 b.length c)(g:∀r∈c,∀p∈r,e.getD p 0=e.getD (r.headD 0) 0)(j:∀i,i<b.length->aU (b.getD i 0)=true->mt b i<b.length->e.getD (mt b i) 0=e.getD i 0):
  ∀f i,i<c.length->∀p∈(ou (nx b c) f i).flatMap (c.getD · []),e.getD p 0=e.getD ((c.getD i []).headD 0) 0
 |0,i,hi,p,a=>by simp[ou]at a;exact g _ (dG hi) p (by simpa [aO]using a)
 |f+1,i,hi,p,a=>by
  rw[ou]at a;cases hk:nx b c i with
  |none=>rw[hk]at a;simp at a;exact g _ (dG hi) p (by simpa [aO]using a)
  |some k=>
   rw[hk]at a;simp only[xP]at a;rcases jL.1 a with a|a
   .exact g _ (dG hi) p a
   .obtain⟨s,l,m,n,o,q⟩:=Mv h hk;rw[Yr h g j f k l p a,n,j _ o m q];exact g _ (dG hi) _ (zQ<|h.ne _ (dG (d:=[]) hi))
def ajw {b e:List Int}{c:List (List Nat)}(h:l9 b.length c)(w:∀r∈c,∀p∈r,e.getD p 0=e.getD (r.headD 0) 0)(x:∀i,i<b.length->aU (b.getD i 0)=true->mt b i<b.length->e.getD (mt b i) 0=e.getD i 0){f:Nat}{r:List Nat}(u:r∈c):∀p∈cE b c f r,p<b.length/\e.getD p 0=e.getD ((cE b c f r).headD 0) 0:=by
 obtain⟨i,o,v⟩:=ZM u;have n:c.getD i []=r:=by rw[aO,aM o,<-v];rfl
 have g:=N9 h f [] i o;simp only[si]at g;rw[n]at g;have d:(cE b c f r).headD 0=r.headD 0:=by
  rw[g];have:∃t,ou (nx b c) f i=i::t:=by
   cases f with
   |zero=>exact⟨[],rfl⟩
   |succ f=>rw[ou];cases nx b c i with
    |none=>exact⟨[],rfl⟩
    |some k=>exact⟨_,rfl⟩
  obtain⟨t,y⟩:=this;rw[y,xP,n];cases hr':r with
  |nil=>exact absurd hr'<|h.ne r u
  |cons a l=>rfl
 intro p s;rw[d,g]at*;refine⟨?_,?_⟩
 .obtain⟨j,_,q⟩:=GQ.1 s;rcases cP j c.length with m|m
  .exact h.lt _ (dG m) p q
  .rw[aO,rZ m]at q;cases q
 .rw[Yr h w x f i o p s,n]
