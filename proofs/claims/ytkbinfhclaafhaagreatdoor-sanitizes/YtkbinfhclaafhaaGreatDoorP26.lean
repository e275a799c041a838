import Derived.Test.YtkbinfhclaafhaaGreatDoorP25
import Derived.Test.YtkbinfhclaafhaaGreatDoorShelfQ
namespace Go.Proofs.YtkbinfhclaafhaaGreatDoor
open Go.RowKit
open Go.Proofs.Tryz
set_option maxRecDepth 100000
set_option maxHeartbeats 32000000
set_option linter.all false
def iV(a:List PR):List Int->Nat->List Int->Int->Bool
 |[],_,st,_=>st.isEmpty
 |r::rs,p,st,now=>
  if pI p a 0≠now/\st≠[]then false
  else if cls r<13 then iV a rs (p+wd r) st (pI p a 0)
  else match a[(pI p a 0).toNat]? with
   |none=>false
   |some x=>
    if x.kind=0∨p<x.body∨x.end_<=p then false
    else if cls r<17 then iV a rs (p+wd r) (st++[17]) (pI p a 0)
    else if 17<cls r/\cls r<21 then iV a rs (p+wd r) (st++[21]) (pI p a 0)
    else if st.getLast? =some (cls r)then iV a rs (p+wd r) st.dropLast (pI p a 0)else false
def qx(a:List PR)(r:Int)(d:List Int)(p:Nat)(b:List Int)(c:Int)(k:Nat)(x:PR)(e:pI p a 0=(k:Int))(hx:a[k]? =some x):
  iV a (r::d) p b c=if(k:Int)≠c/\b≠[]then false
  else if cls r<13 then iV a d (p+wd r) b (k:Int)
  else if x.kind=0∨p<x.body∨x.end_<=p then false
    else if cls r<17 then iV a d (p+wd r) (b++[17]) (k:Int)
    else if 17<cls r/\cls r<21 then iV a d (p+wd r) (b++[21]) (k:Int)
    else if b.getLast? =some (cls r)then iV a d (p+wd r) b.dropLast (k:Int)else false:=by
 rw[iV,e];simp only[Cg,hx]
def WD:∀(a:List Int)(q i:Nat),i<a.length->(dA q a).getD (i+1) 0=(dA q a).getD i 0+wd (a.getD i 0)
 |[],_,_,h=>by simp at h
 |r::a,q,0,_=>by cases a<;>simp[dA]
 |r::a,q,i+1,h=>by
  have:=WD a (q+wd r) i (by simpa using h);simpa [dA]using this
def Bo {w:World}{B:Nat}{e:TypeId}{z n:Nat}{v:Value}{a:List Value}(h:w.ownsRow B e z v n a)(k:Nat):(w.drewN k).ownsRow B e z v n a:=h
def ajE(j:List Int)(A:List PR)(v1 P:Value)(w:World)(hn:j.length<=1000)(al:A.length<=600)(S:jB w v1 j)(am:qL w P A)
  (Ld:∀i,i<j.length->∃k x,pI ((dA 0 j).getD i 0) A 0=((k:Nat):Int)/\A[k]? =some x):
  Calls prog 132 #[v1,P] w λe w'=>e= .returned (.bool<|iV A j 0 [] (-1))/\Below w.heap.size w w':=by
 obtain⟨iI,fP,fQ,fR,fS⟩:=gu Tryz.FR;have oJ:=WG j v1 w hn S;have RR:=ah S;have ar:=ah am;have ap:=ah Ld;obtain⟨x1,c1,rfl,E⟩:=S.form;have lY:=ah E;obtain⟨x2,c2,rfl,F⟩:=am;have iO:=ah F;obtain⟨n,hN⟩:=ac j.length;have HN:=ah hN;rw[<-hN]at hn oJ lY ⊢;obtain⟨m2,T6⟩:=ac A.length;have BP:=ah T6;rw[<-T6]at al iO ⊢;obtain⟨R,hR⟩:=ac<|iV A j 0 [] (-1);have HR:=ah hR.symm;rw[<-hR];clear Ld E F hN T6 hR S;go_enter func132,ntmps132;go_wp2_with fail;refine oJ.mono ?_;clear oJ;rintro ev q ⟨va,rfl,dx,X⟩;obtain⟨ga,ca,rfl,aK,_,aE⟩:=nC dx (by omega);have HA:=ah dx;have C:=ah X;have l:=X.size;clear dx X;go_wp2;go_loopg [6,7,8,9,10,11] n (λgk sv Mu gw _ _ _ W=>∃(i:Nat)(B:List Int)(J:Int),i<=n/\gk=n - i/\gw= .int .i64 i/\Mu= .int .i64 J/\B.length<=i/\iV A (j.drop i) ((dA 0 j).getD i 0) B J=R/\W.ownsRow q.heap.size 3 1 sv B.length (B.map<|Value.int .i64)/\Below q.heap.size q W);exact⟨0,[], -1,by omega,rfl,rfl,rfl,by simp,by rw[<-HR.out];cases j<;>rfl,gQ _ _ _ _,aA _ _⟩
 rename World=>wa
 obtain⟨i,B,J,hi,rfl,rfl,rfl,I,d,t,V⟩:=hrel;obtain⟨sa,sc,rfl⟩:=iA t;by_cases aB:i<n
 .have H:i<j.length:=by rw[<-HN.out];exact aB
  obtain⟨b,aQ,rfl,hD⟩:=lY.out (by omega);have jw:Below w.heap.size w wa:=C.out.trans<|V.mono l;have ae:=(hD.below jw) i H;have af:j.drop i=j.getD i 0::j.drop (i+1):=by rw[kO H];congr 1;rw[aO,aM H];rfl
  obtain⟨k,x,hk,hx⟩:=ap.out i H;have O:=ah<|WD j 0 i H;rw[af,qx A _ _ _ _ _ k x hk hx]at d;have ak:k<m2:=by rw[BP.out];exact(r7.1 hx).1
  obtain⟨g2,rfl,aJ,KO⟩:=iO.out (by omega);have aa:(nv<|dA 0 j)[i]? =some (.int .i64 ((dA 0 j).getD i 0:Nat)):=by
   have aN:=WC 0 j;rw[nv,jq,aM<|by omega,GX,aO,aM<|by omega];rfl
  have pg:Hid (∀W,Calls prog 69 #[.int .i64<|j.getD i 0] W λe w'=>e= .returned (.int .i64<|cls<|j.getD i 0)/\Below W.heap.size W w'):=λW=>Oa _ W
  have BV:Hid (∀W,Below w.heap.size w W->Calls prog 194 #[.slice (some ⟨g2,0,none⟩) m2 c2,.int .i64 ((dA 0 j).getD i 0:Nat)] W λe w'=>e= .returned (.int .i64 (k:Nat))/\w'=W):=λW hW=>by
   have:=SX A (.slice (some ⟨g2,0,none⟩) m2 c2) ((dA 0 j).getD i 0) W (by rw[<-BP.out];exact al) (by rw[BP.out];exact ar.out.below hW);rw[hk]at this;exact this
  have aq:=ah KO;have av:=ah hx;obtain⟨p,hp⟩:=ac<|(dA 0 j).getD i 0;rw[<-hp]at d aa BV O;obtain⟨r,hr⟩:=ac<|j.getD i 0;rw[<-hr]at d ae pg O;obtain⟨c,ad⟩:=ac<|cls r;rw[<-ad]at d pg;have xK:=ah aa;have oF:=ah V;have ab:=V.size;have az:(i:Int)<(n:Int):=by omega
  have aF:i<n+1:=by omega
  have Ie:(i:Int)<(n:Int)+1:=by omega
  have Y8:=ah t;clear af hk hx aa hp hr ad hD KO H V jw t;go_wp2_with fail;refine(pg.out _).mono ?_;rintro ev wr ⟨rfl,Y⟩;have o:=ah<|oF.out.trans<|Y.mono ab;have a:=iZ Y8.out Y;have D:=o.out.size;have aL:wr.cell? ⟨ga,i,none⟩=some (.int .i64 (p:Nat)):=by rw[di (iZ HA.out o.out) i<|by omega];exact xK.out
  have jw:Below w.heap.size w wr:=C.out.trans<|o.out.mono l;obtain⟨d0,d1,d2,d3,d4,d5⟩:=(aq.out.below jw) k (by rw[<-BP.out];exact ak);have ag:A[k]'(by rw[<-BP.out];exact ak)=x:=(r7.1 av.out).2;rw[ag]at d0 d1 d2 d3 d4 d5;obtain⟨xl,xk,xf,xt,xb,xe⟩:=x;simp only at d0 d1 d2 d3 d4 d5 d;have kL:=ah jw;clear Y jw ag Y8 oF ab ae;go_wp2_with fail;refine(BV.out _ kL.out).mono ?_;rintro ev wx ⟨rfl,an⟩;have kF:=an.symm;subst kF;clear an;by_cases K:(k:Int)=J
  .rw[ai λh=>h.1 K]at d;subst K;by_cases K7:c<13
   .rw[aj K7]at d;have G:Hid (iV A (j.drop<|i+1) ((dA 0 j).getD (i+1) 0) B (k:Int)=R):=(by show _=_;rw[O.out];exact d);have HO:=ah a;clear d a;go_wp2;go_roundg (n - (i+1));exact⟨i+1,B,(k:Int),by omega,rfl,by go_num,rfl,by first|omega|simp,G.out,HO.out,o.out⟩;omega
   .rw[ai K7]at d;by_cases z:xk=0
    .rw[aj (.inl z)]at d;subst z;subst d;go_wp2_with fail;go_quiet(fail);go_wp2;go_ret;exact⟨rfl,C.out.trans<|(gH o.out _).mono l⟩
    .have ao:((xk:Int)==0)=false:=(by simpa using z);by_cases E:p<xb
     .rw[aj (.inr (.inl E))]at d;have Vd:(p:Int)<(xb:Int):=(by omega);subst d;go_wp2_with fail;go_quiet(fail);go_wp2;go_ret;exact⟨rfl,C.out.trans<|(gH o.out _).mono l⟩
     .have Vd:¬(p:Int)<(xb:Int):=(by omega);by_cases F:xe<=p
      .rw[aj (.inr (.inr F))]at d;have Ve:(p:Int) ≥ (xe:Int):=(by omega);subst d;go_wp2_with fail;go_quiet(fail);go_wp2;go_ret;exact⟨rfl,C.out.trans<|(gH o.out _).mono l⟩
      .have Ve:¬(p:Int) ≥ (xe:Int):=(by omega);rw[ai λh=>by rcases h with h|h|h;exact z h;exact E h;exact F h]at d;by_cases K8:c<17
       .rw[aj K8]at d;have G:Hid (iV A (j.drop<|i+1) ((dA 0 j).getD (i+1) 0) (B++[17]) (k:Int)=R):=(by show _=_;rw[O.out];exact d);clear d;go_wp2_with fail;go_quiet(fail);go_wp2_with(at_builtin;refine qK _ rfl _ _ 31 rfl q.heap.size 3 iI (.int .i64 0) 8 underlying31 fP fQ fR fS rfl (by decide) _ _ _ rfl (Bo a _) _ _ rfl rfl (by omega) (by simpa using D) ?_);intro P M g s;have T:Hid (Below q.heap.size q M):=(gH o.out _).grown s (by simpa using D) (λy hy=>(a.lt y hy).1);have U:Hid (M.ownsRow q.heap.size 3 1 P (B.length+1)<|(B++[(17:Int)]).map (Value.int .i64)):=by
         show World.ownsRow _ _ _ _ _ _ _;rw[fB];exact g
        clear a g s;go_wp2;go_roundg (n - (i+1));exact⟨i+1,B++[17],(k:Int),by omega,rfl,by go_num,rfl,by simp<;>omega,G.out,by simpa using U.out,T.out⟩;omega
       .rw[ai K8]at d;by_cases N:17<c
        .by_cases La:c<21
         .rw[aj ⟨N,La⟩]at d;have K9:c>17:=N;have G:Hid (iV A (j.drop<|i+1) ((dA 0 j).getD (i+1) 0) (B++[21]) (k:Int)=R):=(by show _=_;rw[O.out];exact d);clear d;go_wp2_with fail;go_quiet(fail);go_wp2_with(at_builtin;refine qK _ rfl _ _ 31 rfl q.heap.size 3 iI (.int .i64 0) 8 underlying31 fP fQ fR fS rfl (by decide) _ _ _ rfl (Bo a _) _ _ rfl rfl (by omega) (by simpa using D) ?_);intro P M g s;have T:Hid (Below q.heap.size q M):=(gH o.out _).grown s (by simpa using D) (λy hy=>(a.lt y hy).1);have U:Hid (M.ownsRow q.heap.size 3 1 P (B.length+1)<|(B++[(21:Int)]).map (Value.int .i64)):=by
           show World.ownsRow _ _ _ _ _ _ _;rw[fB];exact g
          clear a g s;go_wp2;go_roundg (n - (i+1));exact⟨i+1,B++[21],(k:Int),by omega,rfl,by go_num,rfl,by simp<;>omega,G.out,by simpa using U.out,T.out⟩;omega
         .rw[ai λh=>La h.2]at d;have K9:c>17:=N;rcases zi B with rfl|⟨f,u,rfl⟩
          .rw[ai<|by simp]at d;simp only[jZ];subst d;go_wp2_with fail;go_quiet(fail);go_wp2;go_ret;exact⟨rfl,C.out.trans<|(gH o.out _).mono l⟩
          .rw[Ch]at*;have v:(f++[u]).length=f.length+1:=(by simp);rw[v]at a I ⊢;obtain⟨sg,sd,qB,U9,aC,Pv⟩:=nC a (by omega);simp only[pJ,oC]at qB;obtain⟨rfl,rfl⟩:=qB;have Uw:wr.cell? ⟨sg,f.length,none⟩=some (.int .i64 u):=(by rw[di a f.length<|by omega];simp);have LC:wr.ownsRow q.heap.size 3 1 (.slice (some ⟨sg,0,none⟩) f.length sc) f.length (f.map<|Value.int .i64):=gP (last:=[.int .i64 u]) (by simp) (by rw[fB]at a;exact a);have Rm:=ah LC;clear LC a;obtain⟨m,L⟩:=ac f.length;have HM:=ah L;rw[<-L]at Uw I U9 ⊢;have Rn:Hid (wr.ownsRow q.heap.size 3 1 (.slice (some ⟨sg,0,none⟩) m sc) m<|f.map<|Value.int .i64):=(by show World.ownsRow _ _ _ _ _ _ _;rw[L];exact Rm.out);have aw:¬sc=0:=(by omega);by_cases Q:u=c
           .subst Q;rw[aj<|by simp]at d;have G:Hid (iV A (j.drop<|i+1) ((dA 0 j).getD (i+1) 0) f (k:Int)=R):=(by show _=_;rw[O.out,<-d];simp);clear d L;go_wp2_with fail;go_quiet(fail);go_wp2;go_roundg (n - (i+1));exact⟨i+1,f,(k:Int),by omega,rfl,by go_num,rfl,by rw[<-HM.out];omega,G.out,by rw[<-HM.out];exact Bo Rn.out _,gH o.out _⟩;omega
           .rw[ai<|by simpa using Q]at d;have ax:(u==c)=false:=(by simpa using Q);have ay:(u !=c)=true:=(by simpa using Q);subst d;clear L;go_wp2_with fail;go_quiet(fail);go_wp2;go_ret;exact⟨rfl,C.out.trans<|(gH o.out _).mono l⟩
        .rw[ai λh=>N h.1]at d;have K9:¬c>17:=N;rcases zi B with rfl|⟨f,u,rfl⟩
         .rw[ai<|by simp]at d;simp only[jZ];subst d;go_wp2_with fail;go_quiet(fail);go_wp2;go_ret;exact⟨rfl,C.out.trans<|(gH o.out _).mono l⟩
         .rw[Ch]at*;have v:(f++[u]).length=f.length+1:=(by simp);rw[v]at a I ⊢;obtain⟨sg,sd,qB,U9,aC,Pv⟩:=nC a (by omega);simp only[pJ,oC]at qB;obtain⟨rfl,rfl⟩:=qB;have Uw:wr.cell? ⟨sg,f.length,none⟩=some (.int .i64 u):=(by rw[di a f.length<|by omega];simp);have LC:wr.ownsRow q.heap.size 3 1 (.slice (some ⟨sg,0,none⟩) f.length sc) f.length (f.map<|Value.int .i64):=gP (last:=[.int .i64 u]) (by simp) (by rw[fB]at a;exact a);have Rm:=ah LC;clear LC a;obtain⟨m,L⟩:=ac f.length;have HM:=ah L;rw[<-L]at Uw I U9 ⊢;have Rn:Hid (wr.ownsRow q.heap.size 3 1 (.slice (some ⟨sg,0,none⟩) m sc) m<|f.map<|Value.int .i64):=(by show World.ownsRow _ _ _ _ _ _ _;rw[L];exact Rm.out);have aw:¬sc=0:=(by omega);by_cases Q:u=c
          .subst Q;rw[aj<|by simp]at d;have G:Hid (iV A (j.drop<|i+1) ((dA 0 j).getD (i+1) 0) f (k:Int)=R):=(by show _=_;rw[O.out,<-d];simp);clear d L;go_wp2_with fail;go_quiet(fail);go_wp2;go_roundg (n - (i+1));exact⟨i+1,f,(k:Int),by omega,rfl,by go_num,rfl,by rw[<-HM.out];omega,G.out,by rw[<-HM.out];exact Bo Rn.out _,gH o.out _⟩;omega
          .rw[ai<|by simpa using Q]at d;have ax:(u==c)=false:=(by simpa using Q);have ay:(u !=c)=true:=(by simpa using Q);subst d;clear L;go_wp2_with fail;go_quiet(fail);go_wp2;go_ret;exact⟨rfl,C.out.trans<|(gH o.out _).mono l⟩
  .have aG:((k:Int)==J)=false:=(by simpa using K);have aH:((k:Int) !=J)=true:=(by simpa using K);rcases zi B with rfl|⟨f,u,rfl⟩
   .rw[ai λh=>h.2 rfl]at d;simp only[jZ,Dq]at a I ⊢;by_cases K7:c<13
    .rw[aj K7]at d;have G:Hid (iV A (j.drop<|i+1) ((dA 0 j).getD (i+1) 0) [] (k:Int)=R):=(by show _=_;rw[O.out];exact d);have HO:=ah a;clear d a;go_wp2;go_roundg (n - (i+1));exact⟨i+1,[],(k:Int),by omega,rfl,by go_num,rfl,by first|omega|simp,G.out,HO.out,o.out⟩;omega
    .rw[ai K7]at d;by_cases z:xk=0
     .rw[aj (.inl z)]at d;subst z;subst d;go_wp2_with fail;go_quiet(fail);go_wp2;go_ret;exact⟨rfl,C.out.trans<|(gH o.out _).mono l⟩
     .have ao:((xk:Int)==0)=false:=(by simpa using z);by_cases E:p<xb
      .rw[aj (.inr (.inl E))]at d;have Vd:(p:Int)<(xb:Int):=(by omega);subst d;go_wp2_with fail;go_quiet(fail);go_wp2;go_ret;exact⟨rfl,C.out.trans<|(gH o.out _).mono l⟩
      .have Vd:¬(p:Int)<(xb:Int):=(by omega);by_cases F:xe<=p
       .rw[aj (.inr (.inr F))]at d;have Ve:(p:Int) ≥ (xe:Int):=(by omega);subst d;go_wp2_with fail;go_quiet(fail);go_wp2;go_ret;exact⟨rfl,C.out.trans<|(gH o.out _).mono l⟩
       .have Ve:¬(p:Int) ≥ (xe:Int):=(by omega);rw[ai λh=>by rcases h with h|h|h;exact z h;exact E h;exact F h]at d;by_cases K8:c<17
        .rw[aj K8]at d;have G:Hid (iV A (j.drop<|i+1) ((dA 0 j).getD (i+1) 0) (([]:List Int)++[17]) (k:Int)=R):=(by show _=_;rw[O.out];exact d);clear d;go_wp2_with fail;go_quiet(fail);go_wp2_with(at_builtin;refine qK _ rfl _ _ 31 rfl q.heap.size 3 iI (.int .i64 0) 8 underlying31 fP fQ fR fS rfl (by decide) _ _ _ rfl (Bo a _) _ _ rfl rfl (by omega) (by simpa using D) ?_);intro P M g s;have T:Hid (Below q.heap.size q M):=(gH o.out _).grown s (by simpa using D) (λy hy=>(a.lt y hy).1);have U:Hid (M.ownsRow q.heap.size 3 1 P (0+1)<|(([]:List Int)++[(17:Int)]).map (Value.int .i64)):=by
          show World.ownsRow _ _ _ _ _ _ _;rw[fB];exact g
         clear a g s;go_wp2;go_roundg (n - (i+1));exact⟨i+1,([]:List Int)++[17],(k:Int),by omega,rfl,by go_num,rfl,by simp<;>omega,G.out,by simpa using U.out,T.out⟩;omega
        .rw[ai K8]at d;by_cases N:17<c
         .by_cases La:c<21
          .rw[aj ⟨N,La⟩]at d;have K9:c>17:=N;have G:Hid (iV A (j.drop<|i+1) ((dA 0 j).getD (i+1) 0) (([]:List Int)++[21]) (k:Int)=R):=(by show _=_;rw[O.out];exact d);clear d;go_wp2_with fail;go_quiet(fail);go_wp2_with(at_builtin;refine qK _ rfl _ _ 31 rfl q.heap.size 3 iI (.int .i64 0) 8 underlying31 fP fQ fR fS rfl (by decide) _ _ _ rfl (Bo a _) _ _ rfl rfl (by omega) (by simpa using D) ?_);intro P M g s;have T:Hid (Below q.heap.size q M):=(gH o.out _).grown s (by simpa using D) (λy hy=>(a.lt y hy).1);have U:Hid (M.ownsRow q.heap.size 3 1 P (0+1)<|(([]:List Int)++[(21:Int)]).map (Value.int .i64)):=by
            show World.ownsRow _ _ _ _ _ _ _;rw[fB];exact g
           clear a g s;go_wp2;go_roundg (n - (i+1));exact⟨i+1,([]:List Int)++[21],(k:Int),by omega,rfl,by go_num,rfl,by simp<;>omega,G.out,by simpa using U.out,T.out⟩;omega
          .rw[ai λh=>La h.2]at d;have K9:c>17:=N;rw[ai<|by simp]at d;subst d;go_wp2_with fail;go_quiet(fail);go_wp2;go_ret;exact⟨rfl,C.out.trans<|(gH o.out _).mono l⟩
         .rw[ai λh=>N h.1]at d;have K9:¬c>17:=N;rw[ai<|by simp]at d;subst d;go_wp2_with fail;go_quiet(fail);go_wp2;go_ret;exact⟨rfl,C.out.trans<|(gH o.out _).mono l⟩
   .rw[aj ⟨K,by simp⟩]at d;have v:(List.concat f u).length=f.length+1:=(by simp);rw[v];subst d;have aP:((f.length:Int)+1>0):=(by omega);clear a v I;go_wp2;go_ret;exact⟨rfl,C.out.trans<|o.out.mono l⟩
 .obtain rfl:i=n:=by omega
  have az:¬(i:Int)<(i:Int):=by omega
  rw[rV<|by rw[HN.out];exact au _,iV]at d;have o:=ah V;rcases zi B with rfl|⟨f,u,rfl⟩
  .have Z:true=R:=d;subst Z;simp only[jZ];clear V t;go_wp2;go_ret;exact⟨rfl,C.out.trans<|o.out.mono l⟩
  .have Z:false=R:=(by rw[<-d];simp);subst Z;have v:(List.concat f u).length=f.length+1:=(by simp);rw[v];have h0:(((f.length:Nat):Int)+1==0)=false:=(by simp;omega);clear V t d v;go_wp2;go_ret;exact⟨by first|rfl|simp;omega,C.out.trans<|o.out.mono l⟩
def ak7(a:List Int)(v:Value)(w:World)(i:a.length<=1000000)(j:jB w v a):Calls prog 70 #[v] w λe f=>e= .returned (.int .i64<|found a)/\f=w:=by
 rcases j with⟨rfl,rfl⟩|⟨b,d,c,rfl,g⟩
 .exact(E1 w).mono λe f ⟨h,k⟩=>⟨by rw[h];rfl,k⟩
 .exact TP a b d c a.length w rfl i g
def Eu(a:List Int)(b:List PR):Bool:=(found (a.map cls)==0)&&CR a b&&iV b a 0 [] (-1)
def aqn(a:List Int)(b:List PR)(m o:Value)(w:World)(C:a.length<=1000)(r:b.length<=600)(c:jB w m a)(l:qL w o b)
  (H:∀i,i<a.length->∃k x,pI ((dA 0 a).getD i 0) b 0=((k:Nat):Int)/\b[k]? =some x):
  Calls prog 78 #[m,o] w λe n=>e= .returned (.bool<|Eu a b)/\Below w.heap.size w n:=by
 have G:=ajB a m w C c;have L:Hid (∀W,Below w.heap.size w W->Calls prog 131 #[m,o] W λe n=>e= .returned (.bool<|CR a b)/\Below W.heap.size W n):=λW q=>aov a b m o W C r (c.below q)<|l.below q
 have K:Hid (∀W,Below w.heap.size w W->Calls prog 132 #[m,o] W λe n=>e= .returned (.bool<|iV b a 0 [] (-1))/\Below W.heap.size W n):=λW q=>ajE a b m o W C r (c.below q) (l.below q) H
 have t:Hid (∀W v,jB W v (a.map cls)->Calls prog 70 #[v] W λe n=>e= .returned (.int .i64<|found<|a.map cls)/\n=W):=λW v h=>ak7 _ v W (by simp;omega) h
 have M:Hid (Eu a b=((found (a.map cls)==0)&&CR a b&&iV b a 0 [] (-1))):=rfl;generalize Eu a b=R at*;generalize CR a b=A at*;generalize iV b a 0 [] (-1)=B at*;generalize found (a.map cls)=F at*;clear c l H;go_enter func78,ntmps78;go_wp2_with fail;refine G.mono ?_;clear G;rintro y S ⟨V,rfl,d,f⟩;have N:=ah<|jB.Mx d;have I:=ah f;have D:=f.size;clear d f;go_wp2_with fail;refine(L.out _ I.out).mono ?_;rintro y T ⟨rfl,g⟩;have u:=ah<|I.out.trans<|g.mono D;have O:=ah<|N.out.below g;have E:=u.out.size;clear g;go_wp2_with fail;refine(K.out _ u.out).mono ?_;rintro y U ⟨rfl,j⟩;have J:=ah<|u.out.trans<|j.mono E;have Q:=ah<|O.out.below j;clear j;go_wp2_with fail;refine(t.out _ _ Q.out).mono ?_;rintro y X ⟨rfl,s⟩;have P:=s.symm;subst P;clear s;have p:=M.out;by_cases hF:F=0
 .subst hF;cases A<;>cases B<;>(simp at p;subst p;go_wp2;go_ret;exact⟨rfl,J.out⟩)
 .have z:=ae hF;rw[z]at p;simp at p;subst p;go_wp2;go_ret;exact⟨rfl,J.out⟩
def kI(s:ByteArray):List Bool:=(List.range (aR s 0 0).length).map λi=>Eu ((dY<|aR s 0 0).getD i [])<|gA s i
def SU:∀{l:List ByteArray}{i:Nat},sH l i=none->∀x∈l,∃a,eZ x=some a
 |[],_,_,x,hx=>by cases hx
 |y::ys,i,h,x,hx=>by
  rw[sH]at h;cases hr:eZ y with
  |none=>rw[hr]at h;cases h
  |some l=>
   rw[hr]at h;rcases fW.1 hx with rfl|hx
   .exact⟨l,hr⟩
   .exact SU h x hx
def aeg:∀{l:List (List Int)}{i:Nat},qD l i=none->∀x∈l,x.length<=300
 |[],_,_,x,hx=>by cases hx
 |y::ys,i,h,x,hx=>by
  rw[qD]at h;by_cases a:300<y.length
  .rw[aj a]at h;cases h
  .rw[ai a]at h;rcases fW.1 hx with rfl|hx
   .omega
   .exact aeg h x hx
def look_ok {s:ByteArray}(h:(gy s).1=0):s.size<=600/\gy s=(0,0,0)/\∀i,i<(aR s 0 0).length->eZ ((aR s 0 0).getD i ⟨#[]⟩)=some ((dY<|aR s 0 0).getD i [])/\((dY<|aR s 0 0).getD i []).length<=300:=by
 have b:¬600<s.size:=by
  intro b;unfold gy at h;rw[aj b]at h;cases h
 unfold gy at h ⊢;rw[ai b]at h ⊢;cases hb:sH (aR s 0 0) 0 with
 |some x=>rw[hb]at h;cases h
 |none=>
  rw[hb]at h;simp only at h ⊢;cases hl:qD (dY<|aR s 0 0) 0 with
  |some x=>rw[hl]at h;cases h
  |none=>
   refine⟨by omega,rfl,λi d=> ?_⟩;have g:(dY<|aR s 0 0).length=(aR s 0 0).length:=(by simp[dY]);have e:(aR s 0 0).getD i ⟨#[]⟩=(aR s 0 0)[i]:=(by rw[aO,aM d];rfl);have c:(dY<|aR s 0 0).getD i []=(dY<|aR s 0 0)[i]'(by omega):=(by rw[aO,aM<|by omega];rfl);obtain⟨j,a⟩:=SU hb _ (pF d);have f:(dY<|aR s 0 0)[i]'(by omega)=j:=(by simp[dY,a]);refine⟨by rw[e,c,f,a],?_⟩;rw[c];exact aeg hl _ (pF _)
def apj {s:ByteArray}(h:(gy s).1=0)(i:Nat)(a:i<(aR s 0 0).length):∀j,j<((dY<|aR s 0 0).getD i []).length->∃k x,pI ((dA 0<|(dY<|aR s 0 0).getD i []).getD j 0) (gA s i) 0=((k:Nat):Int)/\(gA s i)[k]? =some x:=by
 obtain⟨g,_,e⟩:=look_ok h;obtain⟨f,_⟩:=e i a;intro j d;obtain⟨k,x,b,c,_,_⟩:=nN (afm s g i a) (mQ _)<|WN (uw f) j d;exact⟨k,x,by rw[b];simp,c⟩
def Qc(s:ByteArray)(i:Nat):(gA s i).length<=600:=bP (Wj _ _)<|MF s
def rz(l:List Bool):List Value:=l.map λb=> .bool b
def TH {W:World}{b:Nat}{T:TypeId}{a c d:Value}(h:W.heap[b]? =some (.cells #[a,c,d] T (0,0)))(x y z:Value):(((W.setCell ⟨b,0,none⟩ x).setCell ⟨b,1,none⟩ y).setCell ⟨b,2,none⟩ z).heap[b]? =some (.cells #[x,y,z] T (0,0)):=by
 have e:=Lf W b 0 _ T x h;have f:=Lf _ b 1 _ T y e;have g:=Lf _ b 2 _ T z f;rw[g];rfl
def ak2 {W:World}{b:Nat}{T:TypeId}{d e f:Value}(h:W.heap[b]? =some (.cells #[d,e,f] T (0,0)))(x y z:Value)(o:Obj):
  ((((W.setCell ⟨b,0,none⟩ x).setCell ⟨b,1,none⟩ y).setCell ⟨b,2,none⟩ z).alloc o).drew.cell? ⟨b,0,none⟩=some x/\((((W.setCell ⟨b,0,none⟩ x).setCell ⟨b,1,none⟩ y).setCell ⟨b,2,none⟩ z).alloc o).drew.cell? ⟨b,1,none⟩=some y/\((((W.setCell ⟨b,0,none⟩ x).setCell ⟨b,1,none⟩ y).setCell ⟨b,2,none⟩ z).alloc o).drew.cell? ⟨b,2,none⟩=some z:=by
 have c:=TH h x y z;have a:((((W.setCell ⟨b,0,none⟩ x).setCell ⟨b,1,none⟩ y).setCell ⟨b,2,none⟩ z).alloc o).drew.heap[b]? =some (.cells #[x,y,z] T (0,0)):=(dw _ _ _ (bS c)).trans c;exact⟨cell_of a 0,cell_of a 1,cell_of a 2⟩
def eX(r:Int):Bool:=cls r==1||cls r==2||cls r==6||decide (cls r ≥ 13)||r==8206
def Vt(r:Int)(w:World)(d:Sp w):Calls prog 170 #[.int .i32 r] w λe f=>e= .returned (.bool<|eX r)/\Below w.heap.size w f:=by
 have i:Hid (∀W,Below w.heap.size w W->Calls prog 172 #[.int .i32 r] W λe f=>e= .returned (.bool<|decide (cls r ≥ 13))/\Below W.heap.size W f):=λW l=>by
  have h:=Vv r W<|d.below l;rw[show jJ (cls r)=decide (cls r ≥ 13)by unfold jJ;rw[mz (Hh r).2,Bool.and_true]]at h;exact h
 have g:=ah<|d.cls r;clear d;unfold eX;generalize cls r=c at*;cases h1:c==1<;>cases h2:c==2<;>cases h3:c==6<;>cases h5:r==8206
 all_goals
  go_enter func170,ntmps170;go_wp2_with fail;refine mM g.out ?_;rintro k m ⟨rfl,a⟩;have b:=ah a;clear a;go_wp2_with fail
  first
  |refine mM (i.out _ b.out) ?_
   rintro k n ⟨rfl,a⟩;have j:=ah<|b.out.trans<|a.mono b.out.size;clear a;go_wp2;go_ret;exact⟨gY<|by simp,j.out⟩
  |go_ret
   exact⟨gY<|by simp,b.out⟩
def alq(r:Int)(w:World):Calls prog 134 #[.int .i64 r] w λe f=>e= .returned (.bool<|eX r)/\Below w.heap.size w f:=by
 have d:Hid _:=Oa r w;unfold eX;generalize cls r=c at*;cases h1:c==1<;>cases h2:c==2<;>cases h3:c==6<;>cases h4:decide (c ≥ 13)<;>cases h5:r==8206
 all_goals
  go_enter func134,ntmps134;go_wp2_with fail;refine mM d.out ?_;rintro g h ⟨rfl,a⟩;have b:=ah a;clear a;go_wp2;go_ret;exact⟨gY<|by simp,b.out⟩
def DF(d:ByteArray)(k:Nat):ByteArray:=d.extract k<|k+1
def iK(d:ByteArray)(r:Nat):ByteArray:=DF d (r / 16 / 16 / 16%16)++(DF d (r / 16 / 16%16)++(DF d (r / 16%16)++(DF d (r%16)++⟨#[]⟩)))
def BL(r:Nat)(d:ByteArray)(v:r<1000000)(u:d.size=16)(w:World):Calls prog 137 #[.int .i64 r,.string d] w λe n=>e= .returned (.string<|iK d r)/\n=w:=by
 obtain⟨q,f⟩:=ac<|iK d r;rw[<-f];have m:=ah f;clear f;go_enter func137,ntmps137;go_wp2;refine fV 5 ?_;rw[bN];go_wp2;obtain⟨a,g⟩:∃x:Nat,x=r / 16:=⟨_,rfl⟩
 rw[show(r:Int) / 16=(a:Int)by omega,bN];have j:=ah g;have p:a<1000000:=by omega
 clear g;go_wp2;obtain⟨b,h⟩:∃x:Nat,x=a / 16:=⟨_,rfl⟩
 rw[show(a:Int) / 16=(b:Int)by omega,bN];have k:=ah h;have s:b<1000000:=by omega
 clear h;go_wp2;obtain⟨c,i⟩:∃x:Nat,x=b / 16:=⟨_,rfl⟩
 rw[show(b:Int) / 16=(c:Int)by omega,bN];have l:=ah i;have t:c<1000000:=by omega
 clear i;go_wp2;generalize(c:Int) / 16=o at*;rw[bN];go_wp2;go_ret;exact⟨by rw[m.out,iK,<-j.out,<-k.out,<-l.out];rfl,rfl⟩
def oN(s:ByteArray)(t p:Nat):Bool:=
 if p<t then if bt s p=92 then if p+1=t then true else oN s t (p+2)else oN s t (p+1)else false
termination_by t - p
def akI(s:ByteArray)(f t:Nat)(l:f<=t)(u:t<=s.size)(r:s.size<=100000)(w:World):Calls prog 136 #[.string s,.int .i64 f,.int .i64 t] w λe n=>e= .returned (.bool<|oN s t f)/\n=w:=by
 obtain⟨q,a⟩:=ac<|oN s t f;rw[<-a];have d:=ah a;clear a;go_enter func136,ntmps136;go_wp2;go_loopg [7] (t - f) (λgk iv wr=>∃p:Nat,p<=t/\gk=t - p/\iv= .int .i64 p/\q=oN s t p/\wr=w);exact⟨f,l,rfl,rfl,d.out,rfl⟩;obtain⟨p,o,rfl,rfl,a,m⟩:=hrel;subst m;clear d;rw[oN]at a;by_cases g:p<t
 .have h:(p:Int)<(t:Int):=by omega
  have i:p<s.size:=by omega
  rw[aj g,oM i]at a;obtain⟨c,k⟩:∃c,s[p]'i=c:=⟨_,rfl⟩
  rw[k]at a;cases KM:((c.toNat:Int)==92)
  .rw[ai<|by simpa using KM]at a;have d:=ah a;clear a;go_wp2;go_roundg (t - (p+1));exact⟨p+1,by omega,rfl,by go_num,d.out,rfl⟩;omega
  .rw[aj<|by simpa using KM]at a;cases ht':((p:Int)+1==t)
   .have b:¬p+1=t:=λe=>by rw[<-e]at ht';simp at ht'
    rw[ai b]at a;have d:=ah a;have j:=ah b;clear a b;go_wp2;go_roundg (t - (p+2));exact⟨p+2,by have:=j.out;omega,rfl,by go_num,d.out,rfl⟩;have:=j.out;omega
   .have b:p+1=t:=by
     have:(p:Int)+1=t:=(by simpa using ht');omega
    rw[aj b]at a;clear b;go_wp2;go_ret;exact⟨gY a.symm,rfl⟩
 .have h:¬(p:Int)<(t:Int):=by omega
  rw[ai g]at a;go_wp2;go_ret;exact⟨rfl,rfl⟩
def aiG(s:ByteArray)(U:List Int)(w:World)(aL aT aC:Addr)(hs:s.size<=600)(hr:eZ s=some U)(hE:Env w aL aT aC):
  Calls prog 229 #[.string s] w λe w'=>e= .returned (.bool<|sI U [])/\Below w.heap.size w w':=by
 have pg:Hid (∀(r:Int)(W:World),Below w.heap.size w W->Calls prog 66 #[.int .i32 r] W λe w'=>e= .returned (.int .i64<|cls r)/\Below W.heap.size W w'):=λr W hW=>sA (hE.below hW) r
 have ze:=ah<|uw hr;obtain⟨R,Z⟩:=ac<|sI U [];rw[<-Z];have HR:=ah Z.symm;clear hE hr Z;go_enter func229,ntmps229;go_wp2;have D8:(w.alloc (.cells #[.slice none 0 0] 296)).heap.size=w.heap.size+1:=by simp
 go_loopg [5,6,7,8] s.size (λgk _ _ _ _ W=>∃(p:Nat)(A:List Int)(g:List Nat)(v:Value),p<=s.size/\gk=s.size - p/\RA s p A/\sI A g=R/\g.length<=p/\W.heap[w.heap.size+1]? =some (.stringIter s p)/\jC W w.heap.size w.heap.size v g/\Below w.heap.size w W);case atStart=>
  refine⟨0,U,[],.slice none 0 0,by omega,rfl,ze.out,HR.out,by simp,?_,⟨?_,gQ _ _ _ _,au _⟩,((aA _ _).alloc (au _) _).alloc (by simp) _⟩
  .have:=GZ (w.alloc (.cells #[.slice none 0 0] 296)) s 0;rw[D8]at this;exact this
  .exact(dw _ _ _ (by simp)).trans (World.alloc_heap_new _ _)
 case round=>
  obtain⟨p,Es,g,v,hp,rfl,Q,b,ab,hit,K,L⟩:=hrel;have af:=L.size;by_cases z:p<s.size
  .cases Es with
   |nil=>exact absurd Q<|by show¬p=s.size;omega
   |cons r0 A=>
    obtain⟨_,hz,CF,rK⟩:=Q;have V:=ah rK;have y:p+aW s p<=s.size:=I6 s p z hz;have ag:0<aW s p:=(by omega);have hw:=I5 s p hz;have E:∀F,(Instr.next (.pointer<|some ⟨w.heap.size+1,0,none⟩) true F).run prog wr= .ok (.tuple #[.bool true,.int .i64 p,.int .i32<|iD s p]) (wr.iterAt (w.heap.size+1) s<|p+aW s p):=λF=>by
     rw[Sd wr (w.heap.size+1) s p F hit z,hw];rfl
    have I:=ah hit;have X:=ah K;have P:=ah L;rw[CF]at b;clear rK hz hw hit K L CF;generalize aW s p=n at*;generalize iD s p=r at*;obtain⟨wi,i⟩:=ac<|wr.iterAt (w.heap.size+1) s<|p+n;have mN:Hid (wi.heap[w.heap.size+1]? =some (.stringIter s<|p+n)):=(by show _=_;rw[i];exact Sc wr _ s p _ I.out);have Y:Hid (Below w.heap.size w wi):=(by show Below _ _ _;rw[i];exact Sb P.out (by omega) _ _);have bF:Hid (jC wi w.heap.size w.heap.size v g):=X.out.keep λk o ho S=>by
     rw[i,GJ]
     .exact ho
     .rintro rfl;rcases S with S|S
      .omega
      .exact Bp X.out.row I.out S
    rw[<-i]at E;clear i;have xG:=ah<|pg.out r wi Y.out;rw[sI]at b;generalize cls r=c at*;go_wp2_with fail;refine xG.out.mono ?_;rintro m B ⟨rfl,u⟩;have T:=ah<|bq u mN.out;have f:=ah<|bF.out.below u;have G:=ah<|Y.out.trans<|u.mono Y.out.size;clear E u xG;go_wp2_with fail;refine(Ff c B).mono ?_;rintro m N ⟨rfl,a⟩;have j:=a.symm;subst j;clear a;cases hem:mD c
    .rw[hem,ai<|by simp]at b;go_wp2_with fail;refine(nY c B).mono ?_;rintro m N ⟨rfl,a⟩;have j:=a.symm;subst j;clear a;cases bJ:aU c
     .rw[bJ,ai<|by simp]at b;go_wp2_with fail;refine(agK c B).mono ?_;rintro m N ⟨rfl,a⟩;have j:=a.symm;subst j;clear a;cases htu:jJ c
      .rw[htu,ai<|by simp]at b;have C:=ah b;clear b;go_wp2;go_roundg (s.size - (p+n));exact⟨p+n,A,g,v,y,rfl,V.out,C.out,by omega,T.out,f.out,G.out⟩;omega
      .rw[htu,aj rfl]at b;rcases zi g with rfl|⟨l,x,rfl⟩
       .have h:false=R:=b;subst h;go_wp2_with fail;refine(ao6 B w.heap.size w.heap.size v f.out).mono ?_;rintro m N ⟨rfl,a⟩;have j:=a.symm;subst j;clear a;go_wp2;go_ret;exact⟨rfl,G.out⟩
       .rw[Ch]at*;simp only[NF,ahZ,Option.some_or,GL]at b;have aa:(l++[x]).length=l.length+1:=(by simp);rw[aa]at ab;by_cases J:(x:Int)=c
        .rw[aj J]at b;have C:=ah b;clear b;subst J;go_wp2_with fail;refine(afh B w.heap.size w.heap.size v l x f.out<|by omega).mono ?_;rintro m w4 ⟨rfl,H,t,d⟩;have O:=ah t;have M:=ah<|d.iter f.out T.out;have D:=ah<|d.below f.out G.out;clear t d;go_wp2;go_roundg (s.size - (p+n));exact⟨p+n,A,l,H,y,rfl,V.out,C.out,by omega,M.out,O.out,D.out⟩;omega
        .rw[ai J]at b;have ad:((x:Int)==c)=false:=(by simpa using J);have ae:((x:Int) !=c)=true:=(by simpa using J);subst b;go_wp2_with fail;refine(afh B w.heap.size w.heap.size v l x f.out<|by omega).mono ?_;rintro m w4 ⟨rfl,H,t,d⟩;have D:=ah<|d.below f.out G.out;clear t d;go_wp2;go_ret;exact⟨rfl,D.out⟩
     .rw[bJ,aj rfl]at b;have C:=ah b;clear b;go_wp2_with fail;refine(afn B w.heap.size w.heap.size v g 21 f.out<|by omega).mono ?_;rintro m w4 ⟨rfl,H,t,d⟩;have O:=ah t;have M:=ah<|d.iter f.out T.out;have D:=ah<|d.below f.out G.out;clear t d;go_wp2;go_roundg (s.size - (p+n));exact⟨p+n,A,g++[21],H,y,rfl,V.out,C.out,by simp;omega,M.out,O.out,D.out⟩;omega
    .rw[hem,aj rfl]at b;have C:=ah b;clear b;go_wp2_with fail;refine(afn B w.heap.size w.heap.size v g 17 f.out<|by omega).mono ?_;rintro m w4 ⟨rfl,H,t,d⟩;have O:=ah t;have M:=ah<|d.iter f.out T.out;have D:=ah<|d.below f.out G.out;clear t d;go_wp2;go_roundg (s.size - (p+n));exact⟨p+n,A,g++[17],H,y,rfl,V.out,C.out,by simp;omega,M.out,O.out,D.out⟩;omega
  .have E:∀F,(Instr.next (.pointer<|some ⟨w.heap.size+1,0,none⟩) true F).run prog wr= .ok (.tuple #[.bool false]) wr:=λF=>GK wr (w.heap.size+1) s p F hit z
   cases Es with
   |cons r0 A=>exact absurd Q.1 z
   |nil=>
    rw[sI]at b;have X:=ah K;have P:=ah L;have cN:=ah<|ani wr w.heap.size w.heap.size v g K;clear Q hit K L;cases g with
    |nil=>
     have h:true=R:=b;subst h;go_wp2_with fail;refine cN.out.mono ?_;rintro m N ⟨rfl,a⟩;have j:=a.symm;subst j;clear a;go_wp2;go_ret;exact⟨rfl,P.out⟩
    |cons x xs=>
     have h:false=R:=b;subst h;have h0:(((x::xs).length:Int)==0)=false:=(by simp;omega);go_wp2_with fail;refine cN.out.mono ?_;rintro m N ⟨rfl,a⟩;have j:=a.symm;subst j;clear a;generalize(x::xs).length=q at*;go_wp2;go_ret;exact⟨by first|rfl|simp[h0],P.out⟩
def Ae(a:List Int):Bool:=a.any λr=>jJ<|cls r
def Lx(s:ByteArray):∀(f q:Nat)(a:List Int),RA s q a->s.size<=q+f->decide (0<=Lib.idxFuncFrom (λx=>jJ<|cls (x:Int)) true s f q)=Ae a
 |0,q,a,h,hf=>by
  cases a with
  |nil=>rfl
  |cons r a=>have:=h.1;omega
 |f+1,q,a,h,hf=>by
  cases a with
  |nil=>
   have k:q=s.size:=h;rw[Lib.idxFuncFrom_end _ _ _ _ _ (by omega)];rfl
  |cons r a=>
   obtain⟨d,e,g,i⟩:=h;have j:=I5 s q e;rw[Lib.idxFuncFrom,aj d];have c:r=((Utf8.decode s q).1:Int):=g;by_cases b:jJ (cls ((Utf8.decode s q).1:Int))=true
   .rw[aj b];unfold Ae;rw[Nz,c,b];simp
   .rw[ai b,j,Lx s f (q+aW s q) a i<|by omega];unfold Ae;rw[Nz,c];simp[b]
def arX(w:World)(aL b a:Addr)(c:Env w aL b a):PredGrows prog 172 #[] (λx=>jJ<|cls (x:Int)) w:=λW x _ d=>by
 simpa using amX (x:Int) W aL b a<|c.below d
def aky:∀args w,(callFunc 172 args).run prog w= .ok (.enter 172 args) w:=jE func172 (by kernel_rfl)<|by kernel_rfl
def ajR(t:ByteArray)(a:List Int)(w:World)(aL c b:Addr)(d:Env w aL c b)(f:eZ t=some a):
  Calls prog 228 #[.string t,.func (.func 172) #[] #[]] w λe g=>e= .returned (.bool<|Ae a)/\Below w.heap.size w g:=by
 have h:=Any.strings_ContainsFunc_grows Tryz.laysCF 172 #[] aky (λx=>jJ<|cls (x:Int)) t w<|arX w aL c b d;have e:decide (0<=Lib.idxFunc (λx=>jJ<|cls (x:Int)) true t)=Ae a:=Lx t t.size 0 a (uw f) (by omega);rw[e]at h;exact h
structure zo(line:ByteArray)(x:PR):Prop where
 ft:x.from_<=x.dH
 tl:x.dH<=line.size
 rs:∃rs,eZ (line.extract x.from_ x.dH)=some rs
 be:x.kind≠0->x.body<=x.end_/\x.end_<=line.size/\∃rs,eZ (line.extract x.body x.end_)=some rs
def qi(a:ByteArray)(x:PR):Bool:=if x.kind=0 then !Ae ((eZ<|a.extract x.from_ x.dH).getD [])else sI ((eZ<|a.extract x.body x.end_).getD []) []
def tj(x:PR):Value:= .agg #[.int .i64 x.kind,.int .i64 x.from_,.int .i64 x.dH,.int .i64 x.body,.int .i64 x.end_]
def amA(a:ByteArray)(x:PR)(w:World)(aL s p:Addr)(J:a.size<=600)(l:Env w aL s p)(hx:zo a x):
  Calls prog 186 #[.string a,tj x] w λe i=>e= .returned (.bool<|qi a x)/\Below w.heap.size w i:=by
 obtain⟨K,z,y,n,m,j⟩:=x;obtain⟨B,F,⟨v,c⟩,k⟩:=hx;simp only at B F c k;unfold tj qi;simp only;have f:Hid (Below w.heap.size w<|w.alloc (.cells #[.int .i64 z,.int .i64 y,.int .i64 n,.int .i64 m,.int .i64 j] 75)):=(aA _ _).alloc (au _) _;by_cases g:z=0
 .subst g;rw[aj rfl,c];simp only[tW];have o:Hid (∀W,Below w.heap.size w W->Calls prog 228 #[.string<|a.extract y n,.func (.func 172) #[] #[]] W λe i=>e= .returned (.bool<|Ae v)/\Below W.heap.size W i):=λW t=>ajR _ v W aL s p (l.below t) c
  generalize Ae v=q at*;have C:(y:Int)<=(n:Int):=by omega
  have D:(n:Int)<=(a.size:Int):=by omega
  clear c k l;go_enter func186,ntmps186;go_wp2_with fail;refine(o.out _ f.out).mono ?_;rintro A G ⟨rfl,b⟩;have r:=ah<|f.out.trans<|b.mono f.out.size;clear b;go_wp2;go_ret;exact⟨by cases q<;>rfl,r.out⟩
 .obtain⟨H,I,⟨u,d⟩⟩:=k g;rw[ai g,d];simp only[tW];have h:(a.extract m j).size<=600:=by simp;omega
  have o:Hid (∀W,Below w.heap.size w W->Calls prog 229 #[.string<|a.extract m j] W λe i=>e= .returned (.bool<|sI u [])/\Below W.heap.size W i):=λW t=>aiG _ u W aL s p h d (l.below t)
  generalize sI u []=q at*;have E:((z:Int)==0)=false:=by simpa using g
  have C:(m:Int)<=(j:Int):=by omega
  have D:(j:Int)<=(a.size:Int):=by omega
  clear c k l d h g;go_enter func186,ntmps186;go_wp2_with fail;refine(o.out _ f.out).mono ?_;rintro A G ⟨rfl,b⟩;have r:=ah<|f.out.trans<|b.mono f.out.size;clear b;go_wp2;go_ret;exact⟨rfl,r.out⟩
def He {w:World}{b j:Nat}{v:Value}(h:w.cell? ⟨b,j,none⟩=some v):b<w.heap.size:=by
 unfold World.cell? at h;split at h
 .rename_i a;exact bS a
 .cases h
def AA(w:World)(v:Value)(l:List PR):Prop:=∃x c,v= .slice x l.length c/\(0<l.length->∃g,x=some ⟨g,0,none⟩/\l.length<=c/\Kg w g l)
def AA.below {w a:World}{v:Value}{l:List PR}(h:AA w v l)(d:Below w.heap.size w a):AA a v l:=by
 obtain⟨x,c,rfl,h⟩:=h;exact⟨x,c,rfl,λb=>let⟨g,h1,h2,h3⟩:=h b;⟨g,h1,h2,h3.below d⟩⟩
def aoQ {w:World}{B:Nat}{e:TypeId}{v:Value}{l:List PR}(h:w.ownsRow B e 5 v l.length<|rN l):AA w v l:=by
 obtain⟨x,c,rfl⟩:=iA h;refine⟨x,c,rfl,λb=> ?_⟩;obtain⟨g,d,a,f,_⟩:=nC h b;simp only[pJ,oC]at a;obtain⟨rfl,rfl⟩:=a;exact⟨g,rfl,f,aoO h rfl⟩
def amz(a:ByteArray)(l:List PR)(v:Value)(w:World)(aL D B:Addr)(X:a.size<=600)(V:l.length<=600)(E:Env w aL D B)(Y:AA w v l)(hx:∀x∈l,zo a x):
  Calls prog 110 #[.string a,v] w λe k=>e= .returned (.bool<|l.all<|qi a)/\Below w.heap.size w k:=by
 obtain⟨x,c,rfl,m⟩:=Y;obtain⟨n,z⟩:=ac l.length;have A:=ah z;rw[<-z]at V m ⊢;have P:=ah m;have M:Hid (∀y∈l,∀W,Below w.heap.size w W->Calls prog 186 #[.string a,tj y] W λe k=>e= .returned (.bool<|qi a y)/\Below W.heap.size W k):=λy Z W S=>amA a y W aL D B X (E.below S)<|hx y Z
 obtain⟨R,r⟩:=ac<|l.all<|qi a;rw[<-r];have O:=ah r.symm;clear z m E hx r;go_enter func110,ntmps110;go_wp2;go_loopg [6,9] n (λgk _ Q W=>∃(i:Nat),i<=n/\gk=n - i/\Q= .int .i64 i/\(l.drop i).all (qi a)=R/\Below w.heap.size w W);exact⟨0,by omega,rfl,rfl,O.out,aA _ _⟩
 rename World=>wa
 obtain⟨i,hi,rfl,rfl,h,f⟩:=hrel;have oF:=ah f;have s:=f.size;by_cases u:i<n
 .have b:i<l.length:=by rw[<-A.out];exact u
  obtain⟨g,rfl,T,F⟩:=P.out (by omega);obtain⟨G,p1,p2,p3,p4⟩:=(F.below f) i b;have p:Hid (∀W,Below w.heap.size w W->Calls prog 186 #[.string a,tj<|l[i]'b] W λe k=>e= .returned (.bool<|qi a<|l[i]'b)/\Below W.heap.size W k):=M.out _ (pF b);rw[kO b,List.all_cons]at h;have U:=He G;generalize l[i]'b=y at*;obtain⟨yl,K,J,L,H,I⟩:=y;unfold tj at p;simp only at G p1 p2 p3 p4 p;have o:Hid (Below w.heap.size w<|wa.alloc (.cells #[.int .i64 K,.int .i64 J,.int .i64 L,.int .i64 H,.int .i64 I] 75)):=f.alloc s _;have t:(i:Int)<(n:Int):=by omega
  generalize qi a ⟨yl,K,J,L,H,I⟩=q at*;clear F b f;go_wp2_with fail;refine(p.out _ o.out).mono ?_;rintro ev w1 ⟨rfl,j⟩;have C:=ah<|Yg o.out<|j.mono<|Yf o.out;clear j;cases q
  .have d:false=R:=(by simpa using h);subst d;go_wp2;go_ret;exact⟨rfl,C.out⟩
  .have d:(l.drop<|i+1).all (qi a)=R:=(by simpa using h);have N:=ah d;clear h d;go_wp2;go_roundg (n - (i+1));exact⟨i+1,by omega,rfl,by go_num,N.out,C.out⟩;omega
 .obtain rfl:i=n:=by omega
  have t:¬(i:Int)<(i:Int):=by omega
  rw[rV<|by rw[A.out];exact au _]at h;have d:true=R:=h;subst d;clear f;go_wp2;go_ret;exact⟨rfl,oF.out⟩
def Asc(s:ByteArray)(q:Nat):Prop:=q=0∨bt s q<128∨(0<q/\bt s (q - 1)<128)
def apr(s:ByteArray)(i:Nat):(qR s i).2=false->bt s (qR s i).1=10:=by
 fun_induction qR s i with
 |case1 i a b=>intro h;simp at h
 |case2 i a b d ih=>exact ih
 |case3 i a b d ih=>exact ih
 |case4 i a=>
  intro _;by_cases c:i<s.size
  .exact ahm λh=>a ⟨c,h⟩
  .exact AR c
def ans(s:ByteArray)(i:Nat):bt s (bZ s i)=10:=by
 fun_induction bZ s i with
 |case1 i a ih=>exact ih
 |case2 i a=>
  by_cases b:i<s.size
  .exact ahm λh=>a ⟨b,h⟩
  .exact AR b
def aiL(s:ByteArray)(i:Nat):((bR s i).2=true->bt s (bR s i).1=42/\bt s ((bR s i).1+1)=47)/\((bR s i).2=false->bt s (bR s i).1=10):=by
 fun_induction bR s i with
 |case1 i a b=>exact⟨λ_=>b,λh=>by simp at h⟩
 |case2 i a b ih=>exact ih
 |case3 i a=>exact⟨λh=>by simp at h,λ_=>AR a⟩
structure WF(s:ByteArray)(t:Tk):Prop where
 aF:Asc s t.F
 aT:Asc s t.T
 aB:Asc s t.B
 aE:Asc s t.E
 fb:t.F<=t.B
 be:t.B<=t.E
 et:t.E<=t.T
 lb:∀q,t.F<=q->q<t.B->bt s q<128
 le:∀q,t.E<=q->q<t.T->bt s q<128
def asv(s:ByteArray)(p:Nat)(h:(dg s p).k≠0):WF s (dg s p):=by
 unfold dg at h ⊢;by_cases g:bt s p=34
 .rw[aj g];have n:=Mi s<|p+1;have j:bt s (p+1 - 1)<128:=by rw[lJ,g];decide
  have e:Asc s (qR s<|p+1).1:=by
   cases a:(qR s<|p+1).2 with
   |true=>right;left;rw[(Qg a).2];decide
   |false=>right;left;rw[apr s _ a];decide
  refine⟨.inr (.inl<|by simp only;rw[g];decide),?_,.inr (.inr ⟨by simp only;omega,j⟩),e,by simp only;omega,by simp only;omega,by simp only;omega,λq c b=> ?_,λq c b=> ?_⟩
  .unfold qT;cases a:(qR s<|p+1).2 with
   |true=>
    right;right;refine⟨by simp only[zP];omega,?_⟩;show bt s ((qR s<|p+1).1+1 - 1)<128;rw[lJ,(Qg a).2];decide
   |false=>simpa using e
  .simp only at c b;obtain rfl:q=p:=(by omega);rw[g];decide
  .simp only at c b;unfold qT at b;cases a:(qR s<|p+1).2 with
   |true=>
    rw[a]at b;simp only[zP]at b;obtain rfl:q=(qR s<|p+1).1:=(by omega);rw[(Qg a).2];decide
   |false=>rw[a]at b;simp at b;omega
 .rw[ai g]at h ⊢;by_cases c:bt s p=47/\bt s (p+1)=47
  .rw[aj c];have b:bZ s p=bZ s (p+1):=Ml (by rw[c.1];decide);have o:bZ s (p+1)=bZ s (p+2):=Ml (by rw[c.2];decide);have r:=FV s<|p+2;have e:Asc s (bZ s p):= .inr (.inl<|by rw[ans];decide);refine⟨.inr (.inl<|by simp only;rw[c.1];decide),e,.inr (.inr ⟨by simp only;omega,?_⟩),e,by simp only;omega,by simp only;omega,by simp only;omega,λq f d=> ?_,λq f d=>by simp only at f d;omega⟩
   .show bt s (p+1)<128;rw[c.2];decide
   .simp only at f d;by_cases a:q=p
    .rw[a,c.1];decide
    .rw[show q=p+1 by omega,c.2];decide
  .rw[ai c]at h ⊢;by_cases b:bt s p=47/\bt s (p+1)=42
   .rw[aj b];have n:=PE s<|p+2;obtain⟨i,l⟩:=aiL s<|p+2;have e:Asc s (bR s<|p+2).1:=by
     cases a:(bR s<|p+2).2 with
     |true=>right;left;rw[(i a).1];decide
     |false=>right;left;rw[l a];decide
    refine⟨.inr (.inl<|by simp only;rw[b.1];decide),?_,.inr (.inr ⟨by simp only;omega,?_⟩),e,by simp only;omega,by simp only;omega,by simp only;omega,λq f d=> ?_,λq f d=> ?_⟩
    .unfold bT;cases a:(bR s<|p+2).2 with
     |true=>
      right;right;refine⟨by simp only[zP];omega,?_⟩;show bt s ((bR s<|p+2).1+1)<128;rw[(i a).2];decide
     |false=>simpa using e
    .show bt s (p+1)<128;rw[b.2];decide
    .simp only at f d;by_cases a:q=p
     .rw[a,b.1];decide
     .rw[show q=p+1 by omega,b.2];decide
    .simp only at f d;unfold bT at d;cases a:(bR s<|p+2).2 with
     |true=>
      rw[a]at d;simp only[zP]at d;by_cases m:q=(bR s<|p+2).1
      .rw[m,(i a).1];decide
      .rw[show q=(bR s<|p+2).1+1 by omega,(i a).2];decide
     |false=>rw[a]at d;simp at d;omega
   .rw[ai b]at h;exact absurd rfl h
def TW(s:ByteArray):Bool->List Tk->Prop
 |_,[]=>True
 |a,t::ts=>(t.k=0->(a=true->Asc s t.F)/\Asc s t.T)/\(t.k≠0->WF s t)/\TW s true ts
def TW.up {s:ByteArray}{a:List Tk}(h:TW s false a)(d:∀u b,a=u::b->u.k=0->Asc s u.F):TW s true a:=by
 cases a with
 |nil=>trivial
 |cons u b=>exact⟨λc=>⟨λ_=>d u b rfl c,(h.1 c).2⟩,h.2.1,h.2.2⟩
def agL(s:ByteArray)(p:Nat)(_hp:p<=s.size):TW s false (dD s p):=by
 by_cases b:p<s.size
 .have n:=BF s p;have l:=X5 b;have ih:=agL s (dg s p).T l;have g:=λu f e=>MX s (dg s p).T u f e
  rw[dD,aj b];by_cases i:(dg s p).k=0
  .have m:=X4 s p i;rw[m]at ih g ⊢;simp only at ih g ⊢;unfold kB;rw[aj rfl];cases hts:dD s (p+1)with
   |nil=>
    have j:¬p+1<s.size:=by
     intro h;have a:dD s (p+1)=kB (dg s<|p+1) (dD s (dg s<|p+1).T):=(by rw[dD,aj h]);rw[hts]at a;unfold kB at a;split at a
     .split at a
      .split at a<;>cases a
      .cases a
     .cases a
    exact⟨λ_=>⟨(λh=>by cases h),.inr (.inl<|by simp only;rw[AR j];decide)⟩,λh=>absurd rfl h,trivial⟩
   |cons u f=>
    rw[hts]at ih;simp only;by_cases c:u.k=0
    .rw[aj c];exact⟨λ_=>⟨(λh=>by cases h),(ih.1 c).2⟩,λh=>absurd rfl h,ih.2.2⟩
    .rw[ai c];have hF:=(g u f hts).1;refine⟨λ_=>⟨(λh=>by cases h),?_⟩,λh=>absurd rfl h,λh=>absurd h c,ih.2.1,ih.2.2⟩;have:=(ih.2.1 c).aF;rw[hF]at this;exact this
  .unfold kB;rw[ai i];have d:=asv s p i;refine⟨λh=>absurd h i,λ_=>d,ih.up λu f e c=> ?_⟩;rw[(g u f e).1];exact d.aT
 .rw[I7 b];trivial
termination_by s.size - p
decreasing_by have:=BF s p;omega
def arY(s:ByteArray):TW s true (dD s 0):=(agL s 0<|by omega).up λu a e _=> .inl (MX s 0 u a e).1
