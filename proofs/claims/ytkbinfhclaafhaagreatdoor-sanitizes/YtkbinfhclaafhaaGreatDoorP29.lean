import Derived.Test.YtkbinfhclaafhaaGreatDoorP28
import Derived.Great.Frames
namespace Go.Proofs.YtkbinfhclaafhaaGreatDoor
open Go.RowKit
open Go.Proofs.Tryz
set_option maxRecDepth 100000
set_option maxHeartbeats 32000000
set_option linter.all false
def pU(b:Nat)(e:Ed):Ed:=⟨e.a+b,e.c,e.n⟩
def js(b:Nat->Bool)(a:Nat->ByteArray)(c:Nat->Nat):List PR->List Ed->List Ed×Int×Int
 |[],l=>(l, -1, -1)
 |x::xs,l=>if b x.line=true then js b a c xs l
  else if mW (a x.line) x≠ -1 then([],x.line,mW (a x.line) x)
  else js b a c xs (l++(kH (a x.line) x).map (pU<|c x.line))
def xW(c:Nat->Bool)(a:Nat->ByteArray)(d:Nat->Nat)(b:List PR):Nat->Nat->List Ed->List Ed×Int×Int
 |0,_,l=>(l, -1, -1)
 |n+1,i,l=>if c i=true then xW c a d b n (i+1) l
  else if 0<=(eY (a i) (b.filter λx=>x.line==i) []).2 then([],i,(eY (a i) (b.filter λx=>x.line==i) []).2)
  else xW c a d b n (i+1) (l++(eY (a i) (b.filter λx=>x.line==i) []).1.map (pU<|d i))
def KR(s:ByteArray):∀(P:List PR)(l a:List Ed),((eY s P l).2=(eY s P a).2)/\((eY s P a).2= -1->∃M,(eY s P l).1=l++M/\(eY s P a).1=a++M)
 |[],l,a=>⟨rfl,λ_=>⟨[],by simp[eY]⟩⟩
 |x::P,l,a=>by
  rw[eY,eY];by_cases b:mW s x= -1
  .rw[ai λh=>h b,ai λh=>h b];obtain⟨c,d⟩:=KR s P (l++kH s x)<|a++kH s x;refine⟨c,λh=> ?_⟩;obtain⟨M,e,f⟩:=d h;exact⟨kH s x++M,by rw[e,dO],by rw[f,dO]⟩
  .rw[aj b,aj b];exact⟨rfl,λh=>absurd h b⟩
def Lp(s:ByteArray):∀(P:List PR)(l:List Ed),(eY s P l).2= -1∨0<=(eY s P l).2
 |[],_=> .inl rfl
 |y::P,l=>by
  rw[eY];split
  .rename_i a;exact .inr<|TG _ _ a
  .exact Lp s P _
def Fy(b:Nat->Bool)(a:Nat->ByteArray)(d:Nat->Nat)(i:Nat)(Rs:List PR):∀(P:List PR)(l:List Ed),(∀x∈P,x.line=i)->
  js b a d (P++Rs) l=if b i=true then js b a d Rs l else if 0<=(eY (a i) P []).2 then([],i,(eY (a i) P []).2)else js b a d Rs (l++(eY (a i) P []).1.map (pU<|d i))
 |[],l,_=>by simp[eY]
 |x::P,l,h=>by
  have hx:=h x (by simp);have g:=λy j=>h y<|xQ _ j
  have ih:=λl=>Fy b a d i Rs P l g
  rw[uL,js,hx];cases hs:b i
  .simp only[hs,M5,↓reduceIte]at ih ⊢;rw[eY];by_cases e:mW (a i) x= -1
   .have f:¬mW (a i) x≠ -1:=λh=>h e
    rw[ai f,ai f,ih,si];obtain⟨k,m⟩:=KR (a i) P (kH (a i) x) [];rw[k];by_cases c:0<=(eY (a i) P []).2
    .rw[aj c,aj c]
    .obtain⟨M,n,o⟩:=m<|(Lp (a i) P []).resolve_right c;rw[ai c,ai c,n,o,si,fB,dO]
   .rw[aj e,aj e,aj<|TG _ _ e]
  .simp only[hs,↓reduceIte]at ih ⊢;exact ih l
def agb:∀(b:List PR)(i:Nat),(∀x∈b,i<=x.line)->b.Pairwise (λx y=>x.line<=y.line)->∃P Rs,b=P++Rs/\(∀x∈P,x.line=i)/\(∀x∈Rs,i+1<=x.line)/\b.filter (λx=>x.line==i)=P
 |[],_,_,_=>⟨[],[],rfl,by simp,by simp,rfl⟩
 |x::b,i,h,hp=>by
  obtain⟨d,f⟩:=Ds.1 hp;have hx:=h x (by simp);by_cases c:x.line=i
  .obtain⟨P,Rs,e,g,j,k⟩:=agb b i (λy a=>h y<|by simp[a]) f;refine⟨x::P,Rs,by rw[e];rfl,?_,j,?_⟩
   .intro y a;rcases fW.1 a with rfl|a
    .exact c
    .exact g y a
   .rw[rX,aj<|by simpa using c,k]
  .refine⟨[],x::b,rfl,by simp,?_,?_⟩
   .intro y a;rcases fW.1 a with rfl|a
    .omega
    .have:=d y a;omega
   .rw[Sj];intro y a;rcases fW.1 a with rfl|a
    .simpa using c
    .have:=d y a;simp;omega
def FH(c:Nat->Bool)(b:Nat->ByteArray)(d:Nat->Nat)(f:List PR):∀(n i:Nat)(a:List PR)(l:List Ed),(∀j,i<=j->f.filter (λx=>x.line==j)=a.filter (λx=>x.line==j))->(∀x∈a,i<=x.line/\x.line<i+n)->
  a.Pairwise (λx y=>x.line<=y.line)->xW c b d f n i l=js c b d a l
 |0,i,a,l,_,hq,_=>by
  cases a with
  |nil=>rfl
  |cons x o=>have:=hq x (by simp);omega
 |n+1,i,a,l,hf,hq,ho=>by
  obtain⟨P,Rs,e,g,h,k⟩:=agb a i (λx hx=>(hq x hx).1) ho;have ih:=λl=>FH c b d f n (i+1) Rs l (λj m=>by
   rw[hf j<|by omega,e,rW,Sj.2 λx hx=>by have:=g x hx;simp;omega,si]) (λx hx=>⟨h x hx,by have:=(hq x<|by rw[e];simp[hx]).2;omega⟩) (by rw[e]at ho;exact(ah6.1 ho).2.1)
  rw[xW,hf i<|au _,k,ih,ih,e,Fy c b d i Rs P l g]
def Pg {L:List Nat}:∀{l:List PR}{a p:Nat},jn L a p l->l.Pairwise (λx y=>x.line<=y.line)/\∀x∈l,x.line<L.length
 |[],_,_,_=>⟨List.Pairwise.nil,by simp⟩
 |x::xs,a,p,h=>by
  obtain⟨g,d,i,j,k,m,c⟩:=h;obtain⟨e,f⟩:=Pg c;refine⟨Ds.2 ⟨λy b=>VD c y b,e⟩,?_⟩;intro y b;rcases fW.1 b with rfl|b
  .exact d
  .exact f y b
def arF(s:ByteArray)(h:s.size<=600)(b:Nat->Bool)(a:Nat->ByteArray)(c:Nat->Nat):xW b a c (fD s) (aR s 0 0).length 0 []=js b a c (fD s) []:=by
 have f:jn (lu s 0 0) 0 0 (fD s):=by
  unfold fD;rw[aj h];have:=Pp s;rw[<-P9]at this;exact this
 have g:(aR s 0 0).map (·.size)=lu s 0 0:=JK (by omega) (by omega);obtain⟨d,e⟩:=Pg f;refine FH b a c _ _ 0 _ [] (λ_ _=>rfl) (λx hx=>⟨mQ _,?_⟩) d;have:=e x hx;rw[<-g,ja]at this;omega
def ajI:∀r:Fin 128,cls (r.val:Int)<13:=by decide+kernel
def ajJ {r:Int}(a:0<=r)(h:r<128):cls r<13:=by
 obtain⟨n,rfl⟩:∃n:Nat,r=(n:Int):=⟨r.toNat,by omega⟩
 exact ajI ⟨n,by omega⟩
def mo(y:PR):List Int->Nat->List Int->Option (List Int)
 |[],_,st=>some st
 |r::rs,p,st=>
  if cls r<13 then mo y rs (p+wd r) st
  else if y.kind=0∨p<y.body∨y.end_<=p then none
  else if cls r<17 then mo y rs (p+wd r) (st++[17])
  else if 17<cls r/\cls r<21 then mo y rs (p+wd r) (st++[21])
  else if st.getLast? =some (cls r)then mo y rs (p+wd r) st.dropLast else none
def Wk:Option (List Int)->Bool
 |some []=>true
 |_=>false
def rF {x:ByteArray}{i:List PR}{k:Nat}{y:PR}(v:i[k]? =some y):∀(f:List Int)(a b:Nat)(j d:List Int)(c:Int),RX x a b f->(∀q,a<=q->q<b->pI q i 0=(k:Int))->(d=[]∨c=(k:Int))->
  iV i (f++j) a d c=match mo y f a d with
   |none=>false
   |some e=>iV i j b e (if f=[]then c else(k:Int))
 |[],a,b,j,d,c,h,_,_=>by
  have:a=b:=h;subst this;simp[mo]
 |r::f,a,b,j,d,c,h,hp,g=>by
  obtain⟨w,z,A,u⟩:=h;have B:=CY u;have C:=CZ w z A;have t:=hp a (au _) (by omega);have s:¬((k:Int)≠c/\d≠[]):=by
   rintro⟨u1,u2⟩;rcases g with g|g
   .exact u2 g
   .exact u1 g.symm
  rw[uL,qx i r _ a d c k y t v,ai s,mo];have ih:=λe=>rF v f (a+aW x a) b j e (k:Int) u (λq E D=>hp q (by omega) D) (.inr rfl)
  rw[<-C]at ih;simp only[ite_self]at ih;by_cases l:cls r<13
  .rw[aj l,aj l,ih];simp
  .rw[ai l,ai l];by_cases m:y.kind=0∨a<y.body∨y.end_<=a
   .rw[aj m,aj m]
   .rw[ai m,ai m];by_cases n:cls r<17
    .rw[aj n,aj n,ih];simp
    .rw[ai n,ai n];by_cases o:17<cls r/\cls r<21
     .rw[aj o,aj o,ih];simp
     .rw[ai o,ai o];by_cases p:d.getLast? =some (cls r)
      .rw[aj p,aj p,ih];simp
      .rw[ai p,ai p]
def Tg {x:ByteArray}(y:PR):∀(d:List Int)(a b:Nat)(e f:List Int),RX x a b d->mo y (d++e) a f=match mo y d a f with
   |none=>none
   |some c=>mo y e b c
 |[],a,b,e,f,h=>by
  have:a=b:=h;subst this;rfl
 |r::d,a,b,e,f,h=>by
  obtain⟨m,n,o,p⟩:=h;have q:=CZ m n o;have ih:=λc=>Tg y d (a+aW x a) b e c p
  rw[<-q]at ih;rw[uL,mo,mo];by_cases g:cls r<13
  .rw[aj g,aj g,ih]
  .rw[ai g,ai g];by_cases i:y.kind=0∨a<y.body∨y.end_<=a
   .rw[aj i,aj i]
   .rw[ai i,ai i];by_cases j:cls r<17
    .rw[aj j,aj j,ih]
    .rw[ai j,ai j];by_cases k:17<cls r/\cls r<21
     .rw[aj k,aj k,ih]
     .rw[ai k,ai k];by_cases l:f.getLast? =some (cls r)
      .rw[aj l,aj l,ih]
      .rw[ai l,ai l]
def Th(y:PR):∀(b:List Int)(a:Nat)(c:List Int),(∀r∈b,cls r<13)->mo y b a c=some c
 |[],_,_,_=>rfl
 |r::b,a,c,h=>by rw[mo,aj<|h r NJ];exact Th y b _ c (λz d=>h z<|xQ _ d)
def qE(y:PR)(e:y.kind=0):∀(b:List Int)(a:Nat)(c:List Int),mo y b a c=if Ae b=true then none else some c
 |[],_,_=>rfl
 |r::b,a,c=>by
  have f:=Hh r;rw[mo];unfold Ae;rw[Nz];by_cases d:cls r<13
  .rw[aj d,qE y e b];have:jJ (cls r)=false:=(by unfold jJ;rw[rB<|by omega];rfl);rw[this];rfl
  .rw[ai d,aj (.inl e)];have:jJ (cls r)=true:=(by unfold jJ;rw[mz<|by omega,mz<|by omega];rfl);rw[this];rfl
def qy {x:ByteArray}(y:PR)(p:y.kind≠0):∀(f:List Int)(a b:Nat)(c:List Nat),RX x a b f->y.body<=a->b<=y.end_->Wk (mo y f a<|c.map λ(n:Nat)=>(n:Int))=sI f c
 |[],a,b,c,_,_,_=>by
  rw[mo,sI];cases c with
  |nil=>rfl
  |cons s B=>rfl
 |r::f,a,b,c,h,hb,he=>by
  obtain⟨q,t,v,o⟩:=h;have z:=CY o;have A:=CZ q t v;have w:=Hh r;have ih:=λg=>qy y p f (a+aW x a) b g o (by omega) he
  rw[<-A]at ih;rw[mo,sI];by_cases k:cls r<13
  .have d:mD (cls r)=false:=(by unfold mD;simp;omega);have e:aU (cls r)=false:=(by unfold aU;simp;omega);have j:jJ (cls r)=false:=(by unfold jJ;rw[rB<|by omega];rfl);rw[aj k,d,e,j,ih];simp
  .rw[ai k,ai λh=>by rcases h with h|h|h;exact p h;omega;omega];by_cases l:cls r<17
   .have d:mD (cls r)=true:=(by unfold mD;simp;omega);rw[aj l,aj d,<-ih,fB];rfl
   .have d:¬mD (cls r)=true:=(by unfold mD;simp;omega);rw[ai l,ai d];by_cases m:17<cls r/\cls r<21
    .have e:aU (cls r)=true:=(by unfold aU;simp;omega);rw[aj m,aj e,<-ih,fB];rfl
    .have e:¬aU (cls r)=true:=(by unfold aU;simp;omega);have j:jJ (cls r)=true:=(by unfold jJ;rw[mz<|by omega,mz<|by omega];rfl);rw[ai m,ai e,aj j];rcases zi c with rfl|⟨g,u,rfl⟩
     .rfl
     .rw[Ch,fB];simp only[mP,Dq,NF,ahZ,Option.some_or,GL,Cj];by_cases i:(u:Int)=cls r
      .rw[aj i,aj i,ih]
      .rw[ai i,ai i];rfl
def Xb {x:ByteArray}:∀(d:List Int)(a b:Nat),RX x a b d->(∀q,a<=q->q<b->bt x q<128)->∀r∈d,cls r<13
 |[],_,_,_,_,r,c=>by cases c
 |r0::d,a,b,h,hl,r,c=>by
  obtain⟨g,k,l,i⟩:=h;have n:=CY i;rcases fW.1 c with rfl|c
  .have m:=hl a (au _) (by omega);have e:bt x a=((x.get! a).toNat:Int):=(by unfold bt;rw[aj g]);rw[e]at m;rcases Ex x a g k with⟨_,f,j⟩|⟨_,_,f,_⟩|⟨_,_,f,_⟩|⟨_,_,f,_⟩
   .rw[l,j];exact ajJ (by omega)<|by omega
   .omega
   .omega
   .omega
  .exact Xb d _ b i (λq p o=>hl q (by omega) o) r c
def Xc {x:ByteArray}{q:Nat}(s:q<=x.size)(i:Asc x q):∀(a:List Int)(p b:Nat),RX x p b a->p<=q->q<=b->∃c d,a=c++d/\RX x p q c/\RX x q b d
 |a,p,b,h,hp,U6=>by
  by_cases o:p=q
  .subst o;exact⟨[],a,rfl,rfl,h⟩
  .cases a with
   |nil=>have:p=b:=h;omega
   |cons r a=>
    obtain⟨f,g,m,n⟩:=h;by_cases e:q<p+aW x p
    .exact absurd i (mg f g (by omega) e)
    .obtain⟨c,d,j,k,l⟩:=Xc s i a (p+aW x p) b n (by omega) U6;exact⟨r::c,d,by rw[j];rfl,⟨f,g,m,k⟩,l⟩
def aoU {x:ByteArray}{y:PR}{b:List Int}(hx:PX x y)(h:RX x y.from_ y.dH b):Wk (mo y b y.from_ [])=qi x y:=by
 unfold qi;by_cases a:y.kind=0
 .rw[aj a,IX hx.tl h,qE y a];simp only[tW];cases Ae b<;>rfl
 .rw[ai a];obtain⟨k,l,m,n,o,p,q⟩:=hx.bd a;have v:=hx.tl;obtain⟨d,j,r,g,s⟩:=Xc (by omega:y.body<=x.size) n b y.from_ y.dH h k (by omega);obtain⟨e,f,t,c,u⟩:=Xc (by omega:y.end_<=x.size) o j y.body y.dH s l m;rw[IX (by omega) c];simp only[tW];rw[r,Tg y d _ y.body j [] g,Th y d _ [] (Xb d _ _ g p)];simp only;rw[t,Tg y e _ y.end_ f [] c];have i:=qy (x:=x) y a e y.body y.end_ [] c (au _)<|au _;rw[Dq]at i;rw[<-i];cases mo y e y.body []with
  |none=>rfl
  |some w=>
   simp only;rw[Th y f _ w (Xb f _ _ u q)]
def sx {x:ByteArray}{d:List PR}:∀(f:List PR)(a k:Nat)(e:List Int)(b:Int),zz a x.size f->RA x a e->(∀y∈f,PX x y)->(∀q,a<=q->pI q d 0=pI q f k)->(∀j,f[j]? =d[k+j]?)->iV d e a [] b=f.all (qi x)
 |[],a,k,e,b,hc,hr,_,_,_=>by
  have F:a=x.size:=hc;cases e with
  |nil=>rfl
  |cons r e=>have:=hr.1;omega
 |y::ys,a,k,e,b,hc,hr,hx,hp,hj=>by
  obtain⟨w,N,C⟩:=hc;have t:=hx y NJ;obtain⟨v,g,D,i,E⟩:=Bt t.tl t.aT e a hr (by omega);have I:d[k]? =some y:=by have:=hj 0;simpa using this.symm
  have n:∀q,a<=q->q<y.dH->pI q d 0=(k:Int):=λq B K=>by rw[hp q B,pI,aj ⟨by omega,K⟩]
  have p:v≠[]:=by
   rintro rfl;have:a=y.dH:=i;omega
  have c:∀q,y.dH<=q->pI q d 0=pI q ys (k+1):=λq B=>by rw[hp q<|by omega,pI,ai λh=>by omega]
  have o:∀j,ys[j]? =d[k+1+j]? :=λj=>by have:=hj<|j+1;rw[show k+1+j=k+(j+1)by omega,<-this];simp
  have ih:=sx ys y.dH (k+1) g (k:Int) C E (λz J=>hx z<|xQ _ J) c o;have A:=aoU t (by rw[w];exact i);rw[w]at A;rw[D,rF I v a y.dH g [] b i n (.inl rfl),List.all_cons,<-A,ai p];cases hq:mo y v a []with
  |none=>rfl
  |some L=>
   cases L with
   |nil=>simp only;rw[ih];rfl
   |cons u M=>
    simp only;have G:Wk (some (u::M))=false:=rfl;rw[G,M4];cases g with
    |nil=>rfl
    |cons r g=>
     rw[iV,aj];refine⟨?_,by simp⟩;rw[c y.dH<|au _];intro H;have:∀(l:List PR)(m q:Nat),k<m->pI q l m≠(k:Int):=by
      intro l
      induction l with
      |nil=>intro m q _ h;rw[pI]at h;omega
      |cons z P s=>
       intro m q O h;rw[pI]at h;split at h
       .omega
       .exact s (m+1) q (by omega) h
     exact this ys (k+1) y.dH (by omega) H
def ajF {x:ByteArray}{a:List PR}{b:List Int}(c:zz 0 x.size a)(d:RA x 0 b)(hx:∀y∈a,PX x y):iV a b 0 [] (-1)=a.all (qi x):=
 sx a 0 0 b (-1) c d hx (λ_ _=>rfl) (λj=>by rw[fZ])
def aqo {x:ByteArray}{a:List PR}{b:List Int}(c:zz 0 x.size a)(d:RA x 0 b)(hx:∀y∈a,PX x y):MM x b a=Eu b a:=by
 unfold MM Eu;rw[aor c d hx,ajF c d hx]
def WJ {s:ByteArray}(g:s.size<=600)(i:Nat):∀y∈gA s i,PX ((aR s 0 0).getD i ⟨#[]⟩) y:=by
 intro y c;unfold gA iy at c;obtain⟨a,d⟩:=tQ.1 c;have e:y.line=i:=by simpa using d
 rw[MD s g]at a;obtain⟨x,b,f⟩:=Wy s y a;rw[e]at b;rw[aO,b];exact f
def Mm {s:ByteArray}(b:s.size<=600)(i:Nat)(a:i<(aR s 0 0).length):((aR s 0 0).getD i ⟨#[]⟩).size<=600:=by
 have e:(aR s 0 0).getD i ⟨#[]⟩=(aR s 0 0)[i]:=by rw[aO,aM a];rfl
 rw[e];have:=VO s 0 0 _ (pF a);omega
def amT(s:ByteArray)(h:(gy s).1=0)(i:Nat)(a:i<(aR s 0 0).length)(v:Value)(w:World)(aL g f:Addr)(n:Env w aL g f)(m:Br w)(p:AA w v<|gA s i):
  Calls prog 64 #[.string<|(aR s 0 0).getD i ⟨#[]⟩,v] w λe r=>e= .returned (.bool<|(kI s).getD i false)/\Below w.heap.size w r:=by
 obtain⟨d,_,o⟩:=look_ok h;obtain⟨k,c⟩:=o i a;have j:=afm s d i a;have hx:=WJ d i;have b:=uw k;have l:=amS _ _ (gA s i) v w aL g f (Mm d i a) k c (Qc s i) n m p (λy q=>afg b<|hx y q) (an5 j b hx);rw[aqo j b hx]at l;have e:(kI s).getD i false=Eu ((dY<|aR s 0 0).getD i []) (gA s i):=by
  unfold kI;rw[aO,jq,J2 a];rfl
 rw[e];exact l
def nJ:List ByteArray->Nat->List Nat
 |[],_=>[]
 |l::ls,p=>p::nJ ls (p+l.size+1)
def agj:∀(a:List ByteArray)(p:Nat),(nJ a p).length=a.length
 |[],_=>rfl
 |l::a,p=>by simp[nJ,agj a]
def yB(l:List Nat):List Value:=l.map λk=> .int .i64 (k:Nat)
def gJ(a:List ByteArray):Nat:=(a.map λl=>l.size+1).sum
def arc(a:List ByteArray):∀(k p:Nat)(b:k<a.length),nJ (a.drop k) p=p::nJ (a.drop<|k+1) (p+(a[k]'b).size+1):=λk p b=>by
 rw[kO b,nJ]
def arj(a:List ByteArray)(k:Nat)(b:k<a.length):gJ (a.drop k)=(a[k]'b).size+1+gJ (a.drop<|k+1):=by
 rw[kO b];unfold gJ;rw[mP,NP]
def anu(a:List ByteArray)(g n:Nat)(w:World)(z:n=a.length)(Q:n<=1000000)(f:gJ a<=1000000000)(r:w.heap[g]? =some (.cells (iX a).toArray 9 (0,0))):
  Calls prog 101 #[.slice (some ⟨g,0,none⟩) n n] w λe A=>∃q,e= .returned (.slice (some ⟨q,0,none⟩) n n)/\aY A w.heap.size 3 q n (yB<|nJ a 0)/\Below w.heap.size w A:=by
 have t:=run_make_row' (P:=prog) 31 3 (.int .i64 0) 8 underlying31 Tryz.rL rfl .i64 .i64 n (by omega) (by omega);have C:=ah r;have J:=bS r;have x:=ah z;have G:=ah f;clear r z f;go_enter func101,ntmps101;go_wp2;have E:Hid (aY (w.alloc (.cells (madeCells #[.int .i64 0] n) 3)) w.heap.size 3 w.heap.size n<|List.replicate n (.int .i64 0)):=aY.made (au _) (by omega);have B:Hid (Below w.heap.size w<|w.alloc (.cells (madeCells #[.int .i64 0] n) 3)):=(aA _ _).alloc (au _) _;generalize w.alloc (.cells (madeCells #[.int .i64 0] n) 3)=M at*;clear t;go_loopg [4,5,6,12] n (λgk L _ _ iv W=>∃(k p:Nat)(c:List Value),k<=n/\gk=n - k/\iv= .int .i64 k/\L= .int .i64 p/\p+gJ (a.drop k)<=1000000000/\aY W w.heap.size 3 w.heap.size n c/\c.take k++yB (nJ (a.drop k) p)=yB (nJ a 0)/\Below w.heap.size w W);exact⟨0,0,_,by omega,rfl,rfl,rfl,by simpa using G.out,E.out,by simp,B.out⟩;obtain⟨k,p,c,O,rfl,rfl,rfl,u,d,h,i⟩:=hrel;by_cases j:k<n
 .have b:k<a.length:=by rw[<-x.out];exact j
  have s:(k:Int)<(n:Int):=by omega
  rw[arc a k p b]at h;rw[arj a k b]at u;have N:wr.cell? ⟨g,k,none⟩=some (.string<|a[k]'b):=by
   rw[az (bq i C.out) k,lI,iX,jq,aM b];rfl
  have v:c.length=n:=by have:=d.1;simpa using this
  have I:=d.frozen k;have H:wr.cell? ⟨w.heap.size,k,none⟩=some (c[k]'(by omega)):=by rw[d.cell k j,aM<|by omega]
  have o:Hid (aY (wr.setCell ⟨w.heap.size,k,none⟩ (.int .i64 p)) w.heap.size 3 w.heap.size n<|c.set k (.int .i64 p)):=d.set k _;have m:Hid (Below w.heap.size w<|wr.setCell ⟨w.heap.size,k,none⟩ (.int .i64 p)):=i.setCell (p:=⟨w.heap.size,k,none⟩) (au _) _;have D:Hid ((c.set k (.int .i64 p)).take (k+1)++yB (nJ (a.drop<|k+1)<|p+(a[k]'b).size+1)=yB (nJ a 0)):=by
   show _=_;rw[<-h,pG<|by rw[ZN];omega,List.getElem_set_self,List.take_set_of_le<|au _];simp[yB]
  have F:Hid (p+(a[k]'b).size+1+gJ (a.drop<|k+1)<=1000000000):=by show _<=_;omega
  have K:p+(a[k]'b).size+1<=1000000000:=by omega
  generalize c[k]'(by omega)=y at*;generalize a[k]'b=l at*;clear h d i u;go_wp2;go_roundg (n - (k+1));exact⟨k+1,p+l.size+1,_,by omega,rfl,by go_num,by go_num,F.out,o.out,D.out,m.out⟩;omega
 .obtain rfl:k=n:=by omega
  have s:¬(k:Int)<(k:Int):=by omega
  rw[rV<|by rw[<-x.out];exact au _]at h;have v:c.length=k:=by have:=d.1;simpa using this
  have o:Hid (aY wr w.heap.size 3 w.heap.size k<|yB<|nJ a 0):=by
   show aY _ _ _ _ _ _;rw[<-h,nJ,ku<|by omega];simpa [yB]using d
  have m:=ah i;clear h d i u;go_wp2;go_ret;exact⟨_,rfl,o.out,m.out⟩
def EB(e:Ed):Prop:=0<=e.a/\e.a<=1000000/\e.n.size<=12
def BO(d:ByteArray)(r:Nat):(iK d r).size<=4:=by
 have h:∀k,(DF d k).size<=1:=λk=>by unfold DF;rw[Ak];omega
 unfold iK;simp only[C8];have a:=h<|r / 16 / 16 / 16%16;have b:=h<|r / 16 / 16%16;have c:=h<|r / 16%16;have e:=h<|r%16;have f:(⟨#[]⟩:ByteArray).size=0:=rfl;omega
def S3(i:Int->Bool)(g:Nat->ByteArray)(h:∀r,(g r).size<=12):∀(f:List Int)(p:Nat),∀e∈jD i g f p,0<=e.a/\e.a<=p+4*f.length/\e.n.size<=12
 |[],_,e,d=>by cases d
 |r::f,p,e,d=>by
  have j:wd r<=4:=by unfold wd;(repeat' split)<;>omega
  have ih:=S3 i g h f (p+wd r) e;rw[jD]at d;simp only[eJ];split at d
  .rcases fW.1 d with rfl|d
   .exact⟨GI _,by simp;omega,h _⟩
   .obtain⟨a,b,c⟩:=ih d;exact⟨a,by push_cast at*;omega,c⟩
  .obtain⟨a,b,c⟩:=ih d;exact⟨a,by push_cast at*;omega,c⟩
def akF(r:Nat):(zA r).size<=12:=by
 unfold zA;rw[C8];have:=BO oZ r;have h:(⟨#[92,117]⟩:ByteArray).size=2:=rfl;omega
def anR(r:Nat):(uo r).size<=12:=by
 unfold uo;rw[C8,C8];have:=BO tC r;have h:(⟨#[60,85,43]⟩:ByteArray).size=3:=rfl;have a:(⟨#[62]⟩:ByteArray).size=1:=rfl;omega
def apO(s:ByteArray)(f t:Nat)(c:s.size<=600):(vF s f t).length<=600:=by
 unfold vF;cases h:eZ (s.extract f t)with
 |none=>simp
 |some d=>
  have a:=MI<|uw h;have b:(s.extract f t).size<=s.size:=by rw[Ak];omega
  simp only[tW];omega
def Wv {s:ByteArray}(k:s.size<=600){x:PR}(hx:zo s x):(kH s x).length<=602/\∀e∈kH s x,0<=e.a/\e.a<=3000/\e.n.size<=12:=by
 have l:=apO s x.body x.end_ k;have d:=λh=>(hx.be h).1
 have f:=λh=>(hx.be h).2.1
 unfold kH;split
 .rename_i j;have g:=d (by omega);have i:=f (by omega);refine⟨by have:=N2 eX zA (vF s x.body x.end_) x.body;omega,λe h=> ?_⟩;obtain⟨a,b,c⟩:=S3 eX zA akF _ _ e h;exact⟨a,by omega,c⟩
 .split
  .rename_i j;have g:=d (by omega);have i:=f (by omega);refine⟨by have:=N2 qJ uo (vF s x.body x.end_) x.body;simp;omega,λe h=> ?_⟩;simp only[jL,qX]at h;rcases h with(rfl|h)|rfl
   .exact⟨GI _,by simp;omega,show 3<=12 by omega⟩
   .obtain⟨a,b,c⟩:=S3 qJ uo anR _ _ e h;exact⟨a,by omega,c⟩
   .exact⟨GI _,by simp;omega,show 3<=12 by omega⟩
  .exact⟨by simp,by simp⟩
def Ou(b:Nat->Bool)(a:Nat->ByteArray)(c:Nat->Nat)(q:List PR):∀(p:List PR)(l:List Ed),js b a c (p++q) l=if(js b a c p l).2.2= -1 then js b a c q (js b a c p l).1 else js b a c p l
 |[],l=>by simp[js]
 |x::p,l=>by
  rw[uL,js,js];split
  .exact Ou b a c q p l
  .split
   .simp only
   .exact Ou b a c q p _
def Tp(f:Nat->Bool)(a:Nat->ByteArray)(b:Nat->Nat)(B:Ed->Prop):∀(p:List PR)(l:List Ed),(∀e∈l,B e)->(∀x∈p,(kH (a x.line) x).length<=602/\∀e∈kH (a x.line) x,B<|pU (b x.line) e)->(js f a b p l).1.length<=l.length+602*p.length/\∀e∈(js f a b p l).1,B e
 |[],l,h,_=>⟨by simp[js],h⟩
 |x::p,l,h,hp=>by
  obtain⟨m,k⟩:=hp x (by simp);have d:=λy g=>hp y<|xQ _ g
  rw[js,eJ];split
  .obtain⟨j,i⟩:=Tp f a b B p l h d;exact⟨by omega,i⟩
  .split
   .exact⟨by simp,by simp⟩
   .obtain⟨j,i⟩:=Tp f a b B p (l++(kH (a x.line) x).map (pU<|b x.line)) (λe c=>by
     rcases jL.1 c with c|c
     .exact h e c
     .obtain⟨y,g,rfl⟩:=jM.1 c;exact k y g) d
    refine⟨?_,i⟩;rw[bH,ja]at j;omega
def agi:∀(a:List ByteArray)(p:Nat),∀k∈nJ a p,k<=p+gJ a
 |[],_,k,h=>by cases h
 |l::a,p,k,h=>by
  have e:gJ (l::a)=l.size+1+gJ a:=by unfold gJ;rw[mP,NP]
  rcases fW.1 h with rfl|h
  .omega
  .have:=agi a _ k h;omega
def agq:∀(a:List ByteArray)(m:Nat),(∀l∈a,l.size<=m)->gJ a<=a.length*(m+1)
 |[],_,_=>by simp[gJ]
 |l::a,m,h=>by
  have e:gJ (l::a)=l.size+1+gJ a:=by unfold gJ;rw[mP,NP]
  have:=agq a m (λx hx=>h x<|xQ _ hx);have:=h l (by simp);rw[e,eJ,Nat.succ_mul];omega
def aqD(s:ByteArray)(k T B E c a b p:Nat):∀y∈lT s k T B E c a b p,y.kind=k:=by
 have f:∀c a b p,∀y∈ey c k a b p B E,y.kind=k:=λc a b p y d=>by
  unfold ey at d;split at d
  .simp at d;rw[d]
  .cases d
 fun_induction lT s k T B E c a b p with
 |case1 c a b p e g ih=>exact λy d=>(jL.1 d).elim (f _ _ _ _ y) (ih y)
 |case2 c a b p e g ih=>exact ih
 |case3 c a b p e=>exact f _ _ _ _
def arJ(s:ByteArray)(p:Nat):∀t∈dD s p,t.k<=2:=by
 fun_induction dD s p with
 |case1 p h ih=>
  have b:(dg s p).k<=2:=by unfold dg;(repeat' split)<;>simp
  unfold kB;split
  .split
   .rename_i u c e;rw[e]at ih;split<;>intro t a<;>simp only[fW]at a ih
    .rcases a with rfl|a
     .simp
     .exact ih t (.inr a)
    .rcases a with rfl|a
     .exact b
     .exact ih t a
   .intro t a;simp at a;rw[a];exact b
  .intro t a;rcases fW.1 a with rfl|a
   .exact b
   .exact ih t a
 |case2 p h=>simp
def Fi(s:ByteArray):∀(b:List Tk)(d c:Nat),(∀t∈b,t.k<=2)->∀y∈fK s b d c,y.kind<=2
 |[],_,_,_,y,a=>by cases a
 |t::b,d,c,h,y,a=>by
  rw[fK]at a;rcases jL.1 a with a|a
  .rw[aqD _ _ _ _ _ _ _ _ _ y a];exact h t<|by simp
  .exact Fi s b _ _ (λu e=>h u<|xQ _ e) y a
def aoV {s:ByteArray}(a:s.size<=600){x:PR}(hx:x∈fD s):x.kind<=2:=by
 rw[MD s a]at hx;exact Fi s _ 0 0 (arJ s 0) x hx
def K2(s:ByteArray)(B:Ed->Prop):∀(p:List PR)(l:List Ed),(∀e∈l,B e)->(∀x∈p,(kH s x).length<=602/\∀e∈kH s x,B e)->(eY s p l).1.length<=l.length+602*p.length/\∀e∈(eY s p l).1,B e
 |[],l,h,_=>⟨by simp[eY],h⟩
 |x::p,l,h,hp=>by
  obtain⟨g,f⟩:=hp x (by simp);rw[eY,eJ];split
  .exact⟨by simp,by simp⟩
  .obtain⟨c,d⟩:=K2 s B p (l++kH s x) (λe a=>(jL.1 a).elim (h e) (f e)) (λy b=>hp y<|xQ _ b);refine⟨?_,d⟩;rw[bH]at c;omega
def nH(s:ByteArray)(i:Nat):Bool:=(kI s).getD i false
def eN(s:ByteArray)(i:Nat):ByteArray:=(aR s 0 0).getD i ⟨#[]⟩
def nI(s:ByteArray)(i:Nat):Nat:=(nJ (aR s 0 0) 0).getD i 0
def eV(s:ByteArray):List Ed×Int×Int:=js (nH s) (eN s) (nI s) (fD s) []
def Xt {s:ByteArray}(c:s.size<=600):gJ (aR s 0 0)<=400000:=by
 have d:=agq (aR s 0 0) 600 (λl b=>by
  obtain⟨i,a,rfl⟩:=ZM b;have:=Mm c i a;rwa [aO,aM a]at this)
 have e:=ID s 0 0 (by omega);have:(aR s 0 0).length*(600+1)<=601*601:=zl (by omega)<|au _;omega
def agh {s:ByteArray}(a:s.size<=600)(i:Nat):nI s i<=400000:=by
 unfold nI;rw[aO];cases h:(nJ (aR s 0 0) 0)[i]? with
 |none=>simp
 |some k=>
  have:=agi _ _ k (NK h);have:=Xt a;simp only[tW];omega
def Ww {s:ByteArray}(d:(gy s).1=0){x:PR}(hx:x∈fD s):x.line<(aR s 0 0).length/\PX (eN s x.line) x/\zo (eN s x.line) x/\(eN s x.line).size<=600:=by
 obtain⟨b,_,f⟩:=look_ok d;have a:x.line<(aR s 0 0).length:=by
  rw[MD s b]at hx;obtain⟨y,e,_⟩:=Wy s x hx;exact(r7.1 e).1
 have c:=WJ b x.line x (by unfold gA iy;exact tQ.2 ⟨hx,by simp⟩);exact⟨a,c,afg (uw (f _ a).1) c,Mm b _ a⟩
def FA {s:ByteArray}(c:(gy s).1=0){p:List PR}(d:p<+:fD s):(js (nH s) (eN s) (nI s) p []).1.length<=602*600/\∀e∈(js (nH s) (eN s) (nI s) p []).1,EB e:=by
 have i:=(look_ok c).1;obtain⟨a,b⟩:=Tp (nH s) (eN s) (nI s) EB p [] (by simp) (λx hx=>by
  obtain⟨_,_,f,g⟩:=Ww c<|d.subset hx;obtain⟨j,k⟩:=Wv g f;refine⟨j,λe h=> ?_⟩;obtain⟨o,q,l⟩:=k e h;have:=agh i x.line;exact⟨by show 0<=e.a+_;omega,by show e.a+_<=_;omega,l⟩)
 have m:=d.length_le;have n:=MF s;refine⟨?_,b⟩;simp only[jZ]at a;omega
def agr:∀(l:List Ed),(∀e∈l,EB e)->jA l<=12*l.length
 |[],_=>by simp[jA]
 |e::l,h=>by
  have a:=agr l (λx hx=>h x<|xQ _ hx);have b:=(h e<|by simp).2.2;have:jA (e::l)=e.n.size+jA l:=by simp[jA]
  rw[this,eJ];omega
def Tq(s:ByteArray)(c:(gy s).1=0):(eV s).1.length<=1000000/\s.size+jA (eV s).1<=140737488355328/\∀e∈(eV s).1,e.a<=9223372036854775807:=by
 obtain⟨a,b⟩:=FA c<|ZR _;have g:=(look_ok c).1;have f:=agr _ b;unfold eV;exact⟨by omega,by omega,λe d=>by have:=(b e d).2.1;omega⟩
def AV {A B:World}{k:Nat}(h:A.heap[k]? =B.heap[k]?)(i:Nat):A.cell? ⟨k,i,none⟩=B.cell? ⟨k,i,none⟩:=by
 unfold World.cell?;simp only[h]
section
attribute [local go_sem] Oper.semAt_some
def aiv {F:Fence}{n:Nat}{P:Program}{g:Region.Mode}{c:Array Oper}{Q:Exit->Act->World->Prop}(Inv:Array Bool->Act->World->Prop)
  (e:∀L a w,Inv L a w->Region.ready g c L=[]->Q .normal a w)
  (f:∀L a w i,Inv L a w->i∈Region.ready g c L->wpOpIn F n P c Q i (Inv<|L.setIfInBounds i true) a w):
  ∀(b:Nat)(L:Array Bool)(a:Act)(w:World),L.toList.count false<=b->Inv L a w->wpAnyIn F n P g c Q b L a w:=by
 have key:∀(L:Array Bool)(j:Nat),j∈Region.ready g c L->∃h:j<L.size,L[j]=false:=λL j l=>by
  have d:=(mem_ready.1 l).1;by_cases h:j<L.size
  .exact⟨h,by simpa [Array.getD,h]using d⟩
  .simp[Array.getD,h]at d
 intro b
 induction b with
 |zero=>
  intro L a w s h;have o:Region.ready g c L=[]:=List.eq_nil_iff_forall_not_mem.2 λj l=>by
   obtain⟨d,k⟩:=key L j l;have:0<L.toList.count false:=ahU.2 (by rw[<-k];exact ahg d);omega
  exact⟨o,e L a w h o⟩
 |succ b ih=>
  intro L a w s h;refine⟨e L a w h,λi m=>wpOpIn_mono (λp t r=>ih _ p t ?_ r)<|f L a w i h m⟩;obtain⟨d,k⟩:=key L i m;have:0<L.toList.count false:=ahU.2 (by rw[<-k];exact ahg d);rw[Array.toList_setIfInBounds,List.count_set<|by simpa using d];have q:(L.toList[i]'(by simpa using d)==false)=true:=by simp[k]
  rw[aj q,ai<|by decide];omega
def BB {F:Fence}{n l:Nat}{P:Program}{b:Array Oper}{Q:Exit->Act->World->Prop}{K:Act->World->Prop}{a:Act}{w g:World}{i:Nat}{v:Value}(hF:F.round=some l)(o:Oper)(m:b[i]? =some o)(k:o.guard=none)(j:∀c,o.op≠.defer c)(d:o.about P w a.eval=none)
  (p:(execOp a.eval o).run P w= .ok (.value v) g) (h:K (a.put o.dst v) g):wpOpIn F n P b Q i K a w:=by
 unfold wpOpIn;rw[m];have q:Region.wanted o (yielded b a.tmps)=true:=by simp[Region.wanted,k]
 simp only[q,zP];refine⟨(λf e=>by rw[d]at e;cases e),?_⟩;rw[hF,Dt l _ _ j,p];exact h
def step_skip {F:Fence}{n l:Nat}{P:Program}{b:Array Oper}{Q:Exit->Act->World->Prop}{K:Act->World->Prop}{a:Act}{w g:World}{i:Nat}(hF:F.round=some l)(o:Oper)(m:b[i]? =some o)(k:o.guard=none)(j:∀c,o.op≠.defer c)(d:o.about P w a.eval=none)
  (p:(execOp a.eval o).run P w= .ok .skip g) (h:K (a.put o.dst undef) g):wpOpIn F n P b Q i K a w:=by
 unfold wpOpIn;rw[m];have q:Region.wanted o (yielded b a.tmps)=true:=by simp[Region.wanted,k]
 simp only[q,zP];refine⟨(λf e=>by rw[d]at e;cases e),?_⟩;rw[hF,Dt l _ _ j,p];exact h
section
variable(ρ:Operand->Value)(w:World)(bx rb pb n i:Nat)(d:Option Tmp)
def ahc(b:w.cell? ⟨bx,0,none⟩=some (.slice (some ⟨rb,0,none⟩) n n))(a:ρ (.tmp 6)= .pointer (some ⟨bx,0,none⟩)):
  (execOp ρ {dst:=d,op:=Op.load 103<|Operand.tmp 6,type:=103,pos:= "guard.go:66",after:=#[],guard:=none}).run prog w= .ok (.value (.slice (some ⟨rb,0,none⟩) n n)) w:=by
 go_simp
def ahd(a:ρ (.tmp 7)= .int .i64 i):
  (execOp ρ {dst:=d,op:=Op.move<|Operand.tmp 7,type:=3,pos:= "guard.go:66",after:=#[],guard:=none}).run prog w= .ok (.value (.int .i64 i)) w:=by
 go_simp
def ahb(j k:Nat)(a:Array Edge)(f:ρ (.tmp j)= .slice (some ⟨rb,0,none⟩) n n)(g:ρ (.tmp k)= .int .i64 i)(e:i<n):
  (execOp ρ {dst:=d,op:=Op.indexAddr 103 (Operand.tmp j)<|Operand.tmp k,type:=0,pos:= "guard.go:66",after:=a,guard:=none}).run prog w= .ok (.value (.pointer<|some ⟨rb,i,none⟩)) w:=by
 have b:(0:Int)<=(i:Int):=by omega
 have c:(i:Int)<(n:Int):=by omega
 go_simp
def asF(a:Value)(b:Array Edge)(e:ρ (.tmp 30)= .pointer (some ⟨rb,i,none⟩))(c:w.cell? ⟨rb,i,none⟩=some a):
  (execOp ρ {dst:=d,op:=Op.load 71<|Operand.tmp 30,type:=71,pos:= "guard.go:66",after:=b,guard:=none}).run prog w= .ok (.value a) w:=by
 go_simp
def asE(a b c e f:Value)(l:ρ (.tmp 8)= .pointer (some ⟨pb,0,none⟩))(g:w.cell? ⟨pb,0,none⟩=some a)(h:w.cell? ⟨pb,1,none⟩=some b)(i:w.cell? ⟨pb,2,none⟩=some c)(j:w.cell? ⟨pb,3,none⟩=some e)(k:w.cell? ⟨pb,4,none⟩=some f):
  (execOp ρ {dst:=d,op:=Op.load 75<|Operand.tmp 8,type:=75,pos:= "guard.go:66",after:=#[],guard:=none}).run prog w= .ok (.value (.agg #[a,b,c,e,f])) w:=by
 go_simp
def asD(a b c e f:Int)(g:Array Edge)(h:ρ (.tmp 32)= .agg #[.int .i64 a,.int .i64 b,.int .i64 c,.int .i64 e,.int .i64 f]):
  (execOp ρ {dst:=d,op:=Op.buildSlice 71 1 #[(0,Operand.tmp 32)],type:=71,pos:= "guard.go:66",after:=g,guard:=none}).run prog w= .ok (.value (.slice (some ⟨w.heap.size,0,none⟩) 1 1)) (w.alloc (.cells #[.int .i64 a,.int .i64 b,.int .i64 c,.int .i64 e,.int .i64 f] 75)):=by
 go_simp
def asG(d:Value)(q:Option Addr)(m c:Nat)(a:Array Edge)(b:ρ (.tmp 35)= .pointer (some ⟨rb,i,none⟩))(g:ρ (.tmp 34)= .slice q m c)(e:w.cell? ⟨rb,i,none⟩=some d)(f:w.frozen? ⟨rb,i,none⟩=false):
  (execOp ρ {dst:=none,op:=Op.store 71 (Operand.tmp 35)<|Operand.tmp 34,type:=0,pos:= "guard.go:66",after:=a,guard:=none}).run prog w= .ok .skip (w.setCell ⟨rb,i,none⟩ (.slice q m c)):=by
 go_simp
def asC(W:World)(b k:Nat)(h:Value)(p a:List Value)(q:Array Edge)(g:Nat)(hx:ρ (.tmp 31)=h)(y:ρ (.tmp 33)= .slice (some ⟨g,0,none⟩) 1 1)(f:W.ownsRow b 75 5 h k p)(B:a.length=5)(c:∀j u,a[j]? =some u->W.cell? ((⟨g,0,none⟩:Addr).add j)=some u)(r:∀u∈a,u.oneCell'=true)(A:k<=1000000)(w:b<=W.heap.size):
  ∃e i,(execOp ρ {dst:=d,op:=Op.call {callee:=Callee.builtin Builtin.append,args:=#[Operand.tmp 31,Operand.tmp 33],argTypes:=#[71,71]},type:=71,pos:= "guard.go:66",after:=q,guard:=none}).run prog W= .ok (.value e) i/\i.ownsRow b 75 5 e (k+1) (p++a)/\W.grownBy i h.ownBlock/\(e.ownBlock=h.ownBlock∨e.ownBlock=some W.heap.size):=by
 obtain⟨z,l,m,n,o⟩:=gu Tryz.amG;obtain⟨e,i,x,s,t,_,v⟩:=gT (P:=prog) W b 71 71 75 z _ 5 40 underlying71 l m n o rfl (by decide) h k p f ⟨g,0,none⟩ 1 1 a (by omega) c r (by unfold maxLen;omega) (by omega) w;refine⟨e,i,?_,s,t,v⟩;unfold execOp;simp only[resolve,invoke,builtin,GY,Z0,SD,ZQ,mP,Dq,hx,y,x]
end
def V9(c a n i:Nat)(d b:Value):Nat->Value
 |0=> .slice (some ⟨a,0,none⟩) n n
 |1=> .int .i64 i
 |2=> .slice (some ⟨a,0,none⟩) n n
 |3=> .int .i64 i
 |4=> .pointer (some ⟨a,i,none⟩)
 |5=>d
 |6=>b
 |7=> .slice (some ⟨c,0,none⟩) 1 1
 |_=> .pointer (some ⟨a,i,none⟩)
structure Gl(W:World)(base k:Nat)(rv:Value)(xs:List Value)(x:PR)(w8:World)(v:Value):Prop where
 own:w8.ownsRow base 75 5 v (k+1)<|xs++tq x
 gr:(W.alloc (.cells (tq x).toArray 75)).grownBy w8 rv.ownBlock
 blk:v.ownBlock=rv.ownBlock∨v.ownBlock=some (W.heap.size+1)
structure I9(W:World)(bx rb pb n i base k:Nat)(rv:Value)(xs:List Value)(x:PR)(L:Array Bool)(a:Act)(w:World):Prop where
 lz:L.size=11
 tz:36<=a.tmps.size
 e6:a.eval (.tmp 6)= .pointer (some ⟨bx,0,none⟩)
 e7:a.eval (.tmp 7)= .int .i64 i
 e8:a.eval (.tmp 8)= .pointer (some ⟨pb,0,none⟩)
 vs:∀j,j<10->j≠8->L.getD j false=true->a.eval (.tmp (26+j))=V9 W.heap.size rb n i rv (tj x) j
 w0:L.getD 7 false=false->w=W
 w7:L.getD 7 false=true->L.getD 8 false=false->w=W.alloc (.cells (tq x).toArray 75)
 w8:L.getD 8 false=true->L.getD 10 false=false->Gl W base k rv xs x w (a.eval (.tmp 34))
 Gk:L.getD 10 false=true->∃w8 v,Gl W base k rv xs x w8 v/\w=w8.setCell ⟨rb,i,none⟩ v
 CP:L.getD 8 false=true->L.getD 7 false=true
 CN:L.getD 10 false=true->L.getD 8 false=true
 oA:L.getD 10 false=true->∀m,m<10->L.getD m false=true
 CO:L.getD 7 false=true->L.getD 6 false=true
def iJ {L:Array Bool}{i j:Nat}(h:i≠j):(L.setIfInBounds i true).getD j false=L.getD j false:=by
 simp only[Yc];rw[BG h]
def Dp {L:Array Bool}{i j:Nat}(h:L.getD j false=true):(L.setIfInBounds i true).getD j false=true:=by
 by_cases e:i=j
 .subst e;have:i<L.size:=by
   by_cases q:i<L.size
   .exact q
   .simp[Array.getD,q]at h
  simp[Array.getD,this]
 .rw[iJ e];exact h
def JY {L:Array Bool}{i:Nat}(h:i<L.size):(L.setIfInBounds i true).getD i false=true:=by
 simp[Array.getD,h]
section
variable{W:World}{bx rb pb n i base k:Nat}{rv:Value}{xs:List Value}{x:PR}{L:Array Bool}{a:Act}{w:World}
def I9.vs'(h:I9 W bx rb pb n i base k rv xs x L a w){j:Nat}{v:Value}(g:j<10)(f:j≠8->v=V9 W.heap.size rb n i rv (tj x) j):∀m,m<10->m≠8->(L.setIfInBounds j true).getD m false=true->(a.put (some (26+j)) v).eval (.tmp (26+m))=V9 W.heap.size rb n i rv (tj x) m:=by
 intro m d b c;by_cases e:j=m
 .subst e;rw[Act.eval_put_same _ _ _ (by have:=h.tz;omega)];exact f b
 .rw[iJ e]at c;rw[Act.eval_put_ne _ _ _ _ (by omega)];exact h.vs m d b c
def Qd(a:Act)(d:Option Tmp)(v:Value):(a.put d v).tmps.size=a.tmps.size:=by
 cases d<;>simp[Act.put]
def I9.put(h:I9 W bx rb pb n i base k rv xs x L a w){j:Nat}(d:j<10)(c:j≠8)(b:j≠7):I9 W bx rb pb n i base k rv xs x (L.setIfInBounds j true) (a.put (some (26+j))<|V9 W.heap.size rb n i rv (tj x) j) w where
 lz:=by simp[h.lz]
 tz:=by rw[Qd];exact h.tz
 e6:=by rw[Act.eval_put_ne _ _ _ _ (by omega)];exact h.e6
 e7:=by rw[Act.eval_put_ne _ _ _ _ (by omega)];exact h.e7
 e8:=by rw[Act.eval_put_ne _ _ _ _ (by omega)];exact h.e8
 vs:=h.vs' d λ_=>rfl
 w0:=by rw[iJ b];exact h.w0
 w7:=by rw[iJ b,iJ c];exact h.w7
 w8:=by rw[iJ c,iJ<|by omega,Act.eval_put_ne _ _ _ _ (by omega)];exact h.w8
 Gk:=by rw[iJ<|by omega];exact h.Gk
 CP:=by rw[iJ b,iJ c];exact h.CP
 CN:=by rw[iJ<|by omega,iJ c];exact h.CN
 oA:=by rw[iJ<|by omega];exact λe m f=>Dp<|h.oA e m f
 CO:=by rw[iJ b];exact λe=>Dp<|h.CO e
def I9.apo(h:I9 W bx rb pb n i base k rv xs x L a W)(b:L.getD 7 false=false)(d:L.getD 6 false=true):I9 W bx rb pb n i base k rv xs x (L.setIfInBounds 7 true) (a.put (some 33) (.slice (some ⟨W.heap.size,0,none⟩) 1 1)) (W.alloc (.cells (tq x).toArray 75)) where
 lz:=by simp[h.lz]
 tz:=by rw[Qd];exact h.tz
 e6:=by rw[Act.eval_put_ne _ _ _ _ (by omega)];exact h.e6
 e7:=by rw[Act.eval_put_ne _ _ _ _ (by omega)];exact h.e7
 e8:=by rw[Act.eval_put_ne _ _ _ _ (by omega)];exact h.e8
 vs:=h.vs' (j:=7) (by omega) λ_=>rfl
 w0:=by rw[JY<|by rw[h.lz];omega];intro h;cases h
 w7:=λ_ _=>rfl
 w8:=by
  rw[iJ<|by omega];intro f;rw[h.CP f]at b;cases b
 Gk:=by
  rw[iJ<|by omega];intro c;rw[h.CP<|h.CN c]at b;cases b
 CP:=λ_=>JY<|by rw[h.lz];omega
 CN:=by rw[iJ<|by omega,iJ<|by omega];exact h.CN
 oA:=by rw[iJ<|by omega];exact λe m g=>Dp<|h.oA e m g
 CO:=λ_=>Dp d
theorem I9.apq(h:I9 W bx rb pb n i base k rv xs x L a w)(hL:L.getD 8 false=false)(h7:L.getD 7 false=true){w8:World}{v:Value}(hA:Gl W base k rv xs x w8 v):I9 W bx rb pb n i base k rv xs x (L.setIfInBounds 8 true) (a.put (some 34) v) w8 where
 lz:=by simp[h.lz]
 tz:=by rw[Qd];exact h.tz
 e6:=by rw[Act.eval_put_ne _ _ _ _ (by omega)];exact h.e6
 e7:=by rw[Act.eval_put_ne _ _ _ _ (by omega)];exact h.e7
 e8:=by rw[Act.eval_put_ne _ _ _ _ (by omega)];exact h.e8
 vs:=h.vs' (j:=8) (by omega) (fun e=>absurd rfl e)
 w0:=by rw[iJ (by omega),h7];intro h;cases h
 w7:=by rw[JY (by rw[h.lz];omega)];intro _ h;cases h
 w8:=by
  intro _ _;rw[Act.eval_put_same _ _ _ (by have:=h.tz;omega)];exact hA
 Gk:=by
  rw[iJ (by omega)];intro h10;rw[h.CN h10]at hL;cases hL
 CP:=fun _=>by rw[iJ (by omega)];exact h7
 CN:=fun _=>JY (by rw[h.lz];omega)
 oA:=by rw[iJ (by omega)];exact fun e m hm=>Dp (h.oA e m hm)
 CO:=by rw[iJ (by omega)];exact fun e=>Dp (h.CO e)
def I9.apn(h:I9 W bx rb pb n i base k rv xs x L a w)(c:L.getD 7 false=true)(b:L.getD 8 false=true)(f:L.getD 10 false=false)(d:∀m,m<10->L.getD m false=true):I9 W bx rb pb n i base k rv xs x (L.setIfInBounds 10 true) (a.put none undef) (w.setCell ⟨rb,i,none⟩<|a.eval (.tmp 34)) where
 lz:=by simp[h.lz]
 tz:=by rw[Qd];exact h.tz
 e6:=h.e6
 e7:=h.e7
 e8:=h.e8
 vs:=λj g b=>by rw[iJ<|by omega];exact h.vs j g b
 w0:=by rw[iJ<|by omega,c];intro h;cases h
 w7:=by rw[iJ<|by omega,iJ<|by omega,b];intro _ h;cases h
 w8:=by rw[JY<|by rw[h.lz];omega];intro _ h;cases h
 Gk:=λ_=>⟨w,_,h.w8 b f,rfl⟩
 CP:=by rw[iJ<|by omega,iJ<|by omega];exact h.CP
 CN:=λ_=>by rw[iJ<|by omega];exact b
 oA:=λ_ m l=>Dp<|d m l
 CO:=by rw[iJ<|by omega];exact λe=>Dp<|h.CO e
end
end
section
attribute [local go_sem] Oper.semAt_some
def AY(n:Nat):Code->Option Code
 | .region id ops d=>if id=n then some (.region id ops d)else none
 |.seq a b=>match AY n a with
  |some c=>some c
  |none=>AY n b
 | .block _ c=>AY n c
 | .scope c=>AY n c
 | .loop c=>AY n c
 |.cond _ a b=>match AY n a with
  |some c=>some c
  |none=>AY n b
 |.rangeFunc _ _ a b=>match AY n a with
  |some c=>some c
  |none=>AY n b
 |_=>none
noncomputable def aqm:Code:=((Tryz.f39.body.bind<|AY 9).getD .skip)
def aql(l:Nat)(W:World)(u q P n i g k:Nat)(rows:Array Value)(y:Value)(K:List Value)(x:PR)(a:Act)(Q:Exit->Act->World->Prop)
  (uf:W.heap[u]? =some (.cells #[.slice (some ⟨q,0,none⟩) n n] 103 (0,0)))
  (Y:W.heap[q]? =some (.cells rows 71 (0,0))) (hi:i<n) (iW:rows[i]? =some y)
  (X:W.heap[P]? =some (.cells (tq x).toArray 75 (0,0)))
  (C:W.ownsRow g 75 5 y k K) (hk:k<=1000000) (T:g<=W.heap.size)
  (ht:36<=a.tmps.size) (e6:a.eval (.tmp 6)= .pointer (some ⟨u,0,none⟩)) (e7:a.eval (.tmp 7)= .int .i64 i) (e8:a.eval (.tmp 8)= .pointer (some ⟨P,0,none⟩))
  (hQ:∀a' w8 v,Gl W.drew g k y K x w8 v->Q .normal a' (w8.setCell ⟨q,i,none⟩ v)):
  aqm.wpIn (Fence.wide.inRound l) 0 prog Q a W:=by
 conv=>arg 4;whnf
 refine wpIn_region_any (by kernel_rfl) ?_;change wpAnyIn _ _ _ _ _ _ _ _ _ (World.drew _);have F:W.drew.heap[u]? =some (.cells #[.slice (some ⟨q,0,none⟩) n n] 103 (0,0)):=uf;have E:W.drew.heap[q]? =some (.cells rows 71 (0,0)):=Y;have R:W.drew.heap[P]? =some (.cells (tq x).toArray 75 (0,0)):=X;have z:W.drew.ownsRow g 75 5 y k K:=C;have ad:g<=W.drew.heap.size:=T;clear uf Y X C T;generalize W.drew=D at*;have nb:∀j,y.ownBlock=some j->j≠u/\j≠q:=λj U=>by
  obtain⟨_,c,M⟩:=pQ z U;exact⟨(λe=>by subst e;rw[F]at M;cases M),λe=>by subst e;rw[E]at M;cases M⟩
 have kp:∀w8 v,Gl D g k y K x w8 v->w8.heap[u]? =some (.cells #[.slice (some ⟨q,0,none⟩) n n] 103 (0,0))/\w8.heap[q]? =some (.cells rows 71 (0,0)):=λw8 v N=>
  ⟨(N.gr.block u (by have:=bS F;simp;omega) λe=>(nb _ e.symm).1 rfl).trans ((dw D _ u (bS F)).trans F),
   (N.gr.block q (by have:=bS E;simp;omega) λe=>(nb _ e.symm).2 rfl).trans ((dw D _ q (bS E)).trans E)⟩
 have rd:∀L a w,I9 D u q P n i g k y K x L a w->L.getD 10 false=false->w.cell? ⟨u,0,none⟩=some (.slice (some ⟨q,0,none⟩) n n)/\w.cell? ⟨q,i,none⟩=some y/\w.frozen? ⟨q,i,none⟩=false:=by
  intro L a w h ab;have H:∀w:World,w.heap[u]? =some (.cells #[.slice (some ⟨q,0,none⟩) n n] 103 (0,0))->w.heap[q]? =some (.cells rows 71 (0,0))->w.cell? ⟨u,0,none⟩=some (.slice (some ⟨q,0,none⟩) n n)/\w.cell? ⟨q,i,none⟩=some y/\w.frozen? ⟨q,i,none⟩=false:=λw M h2=>⟨az M 0,(az h2 i).trans iW,cB h2 i⟩
  by_cases h7:L.getD 7 false=true
  .by_cases h8:L.getD 8 false=true
   .obtain⟨q1,q2⟩:=kp _ _ (h.w8 h8 ab);exact H w q1 q2
   .rw[h.w7 h7<|by simpa using h8];exact H _ ((dw D _ u (bS F)).trans F) ((dw D _ q (bS E)).trans E)
  .rw[h.w0<|by simpa using h7];exact H _ F E
 refine aiv (I9 D u q P n i g k y K x) ?_ ?_ _ _ _ _ (by simp) ?_
 .intro L a w h hr;have A:∀j o,(_:Array Oper)[j]? =some o->(∀e∈o.after,Region.binds .any e=true->L.getD e.on false=true)->j<11->L.getD j false=true:=λj o f b U=>by
   by_cases s:L.getD j false=true
   .exact s
   .exfalso;have:j∈Region.ready _ _ L:=mem_ready.2 ⟨by
     have hz:=h.lz;simp only[Yc]at s ⊢;rw[M0<|by omega]at s ⊢;simpa using s,o,f,b⟩
    rw[hr]at this;cases this
  have g0:=A 0 _ rfl (by simp) (by omega);have g1:=A 1 _ rfl (by simp) (by omega);have g2:=A 2 _ rfl (by simp) (by omega);have g3:=A 3 _ rfl (by simp) (by omega);have g4:=A 4 _ rfl (by intro e p _;simp at p;(repeat' (rcases p with rfl|p));all_goals(first|assumption|(subst p;assumption))) (by omega);have g5:=A 5 _ rfl (by intro e p _;simp at p;(repeat' (rcases p with rfl|p));all_goals(first|assumption|(subst p;assumption))) (by omega);have g6:=A 6 _ rfl (by simp) (by omega);have g7:=A 7 _ rfl (by intro e p _;simp at p;(repeat' (rcases p with rfl|p));all_goals(first|assumption|(subst p;assumption))) (by omega);have g8:=A 8 _ rfl (by intro e p _;simp at p;(repeat' (rcases p with rfl|p));all_goals(first|assumption|(subst p;assumption))) (by omega);have g9:=A 9 _ rfl (by intro e p _;simp at p;(repeat' (rcases p with rfl|p));all_goals(first|assumption|(subst p;assumption))) (by omega);have aa:=A 10 _ rfl (by intro e p _;simp at p;(repeat' (rcases p with rfl|p));all_goals(first|assumption|(subst p;assumption))) (by omega);obtain⟨w8,v,N,rfl⟩:=h.Gk aa;exact hQ _ _ _ N
 .intro L a w j h U;obtain⟨t,o,f,b⟩:=mem_ready.1 U;have hz:=h.lz;have J:∀m,m<11->L.getD m true=false->L.getD m false=false:=λm V B=>by
   simp only[Yc]at B ⊢;rw[M0<|by omega]at B ⊢;simpa using B
  have hF:(Fence.wide.inRound l).round=some l:=rfl;have I:∀m,m<10->L.getD m false=false->L.getD 10 false=false:=λm V B=>by
   by_cases e:L.getD 10 false=true
   .rw[h.oA e m V]at B;cases B
   .simpa using e
  have ac:L.getD 6 false=false->L.getD 7 false=false:=λB=>by
   by_cases e:L.getD 7 false=true
   .rw[h.CO e]at B;cases B
   .simpa using e
  match j,t,f,b with
  |0,t,f,b=>
   have d:some _=some o:=f;obtain rfl:=aJ d;clear f d;obtain⟨Z,r2,r3⟩:=rd L a w h<|I 0 (by omega)<|J 0 (by omega) t;refine BB hF _ rfl rfl (by intro c r;cases r) rfl (ahc _ w u q n _ Z h.e6) ?_;exact h.put (j:=0) (by omega) (by omega)<|by omega
  |1,t,f,b=>
   have d:some _=some o:=f;obtain rfl:=aJ d;clear f d;refine BB hF _ rfl rfl (by intro c r;cases r) rfl (ahd _ w i _ h.e7) ?_;exact h.put (j:=1) (by omega) (by omega)<|by omega
  |2,t,f,b=>
   have d:some _=some o:=f;obtain rfl:=aJ d;clear f d;obtain⟨Z,r2,r3⟩:=rd L a w h<|I 2 (by omega)<|J 2 (by omega) t;refine BB hF _ rfl rfl (by intro c r;cases r) rfl (ahc _ w u q n _ Z h.e6) ?_;exact h.put (j:=2) (by omega) (by omega)<|by omega
  |3,t,f,b=>
   have d:some _=some o:=f;obtain rfl:=aJ d;clear f d;refine BB hF _ rfl rfl (by intro c r;cases r) rfl (ahd _ w i _ h.e7) ?_;exact h.put (j:=3) (by omega) (by omega)<|by omega
  |4,t,f,b=>
   have d:some _=some o:=f;obtain rfl:=aJ d;clear f d;have k2:=b ⟨2,.data⟩ (by simp) rfl;have k3:=b ⟨3,.data⟩ (by simp) rfl;refine BB hF _ rfl rfl (by intro c r;cases r) rfl (ahb _ w q n i _ 28 29 _ (h.vs 2 (by omega) (by omega) k2) (h.vs 3 (by omega) (by omega) k3) hi) ?_;exact h.put (j:=4) (by omega) (by omega)<|by omega
  |5,t,f,b=>
   have d:some _=some o:=f;obtain rfl:=aJ d;clear f d;have k4:=b ⟨4,.data⟩ (by simp) rfl;obtain⟨Z,r2,r3⟩:=rd L a w h<|I 5 (by omega)<|J 5 (by omega) t;refine BB hF _ rfl rfl (by intro c r;cases r) rfl (asF _ w q i _ y _ (h.vs 4 (by omega) (by omega) k4) r2) ?_;exact h.put (j:=5) (by omega) (by omega)<|by omega
  |6,t,f,b=>
   have d:some _=some o:=f;obtain rfl:=aJ d;clear f d;have e7:L.getD 7 false=false:=ac<|J 6 (by omega) t;have S:=h.w0 e7;subst S;refine BB hF _ rfl rfl (by intro c r;cases r) rfl (asE _ w P _ _ _ _ _ _ h.e8 (az R 0) (az R 1) (az R 2) (az R 3) (az R 4)) ?_;exact h.put (j:=6) (by omega) (by omega)<|by omega
  |7,t,f,b=>
   have d:some _=some o:=f;obtain rfl:=aJ d;clear f d;have k6:=b ⟨6,.data⟩ (by simp) rfl;have e7:=J 7 (by omega) t;have S:=h.w0 e7;subst S;refine BB hF _ rfl rfl (by intro c r;cases r) rfl (asD _ w _ _ _ _ _ _ _ (h.vs 6 (by omega) (by omega) k6)) ?_;exact h.apo e7 k6
  |8,t,f,b=>
   have d:some _=some o:=f;obtain rfl:=aJ d;clear f d;have k5:=b ⟨5,.data⟩ (by simp) rfl;have O:=b ⟨7,.data⟩ (by simp) rfl;have e8:=J 8 (by omega) t;have S:=h.w7 O e8;subst S;obtain⟨v',w',q1,q2,q3,q4⟩:=asC a.eval (some 34) (D.alloc (.cells (tq x).toArray 75)) g k y K (tq x) #[⟨5,.data⟩,⟨7,.data⟩] D.heap.size (h.vs 5 (by omega) (by omega) k5) (h.vs 7 (by omega) (by omega) O) (z.alloc _) rfl (aoX _ _ _ _ _ _ _) (by simp[tq,Value.oneCell']) hk (by simp;omega);refine BB hF _ rfl rfl (by intro c r;cases r) rfl q1 ?_;exact h.apq e8 O ⟨q2,q3,by simpa using q4⟩
  |9,t,f,b=>
   have d:some _=some o:=f;obtain rfl:=aJ d;clear f d;have k0:=b ⟨0,.data⟩ (by simp) rfl;have k1:=b ⟨1,.data⟩ (by simp) rfl;refine BB hF _ rfl rfl (by intro c r;cases r) rfl (ahb _ w q n i _ 26 27 _ (h.vs 0 (by omega) (by omega) k0) (h.vs 1 (by omega) (by omega) k1) hi) ?_;exact h.put (j:=9) (by omega) (by omega)<|by omega
  |10,t,f,b=>
   have d:some _=some o:=f;obtain rfl:=aJ d;clear f d;have k9:=b ⟨9,.data⟩ (by simp) rfl;have k8:=b ⟨8,.data⟩ (by simp) rfl;have O:=b ⟨7,.phase⟩ (by simp) rfl;have G:=J 10 (by omega) t;obtain⟨Z,r2,r3⟩:=rd L a w h G;have N:=h.w8 k8 G;obtain⟨ga,ca,ev⟩:=ownsRow_succ N.own;have hp:=h.apn O k8 G (λm V=>by
    match m,V with
    |0,_=>exact b ⟨0,.phase⟩ (by simp) rfl
    |1,_=>exact b ⟨1,.phase⟩ (by simp) rfl
    |2,_=>exact b ⟨2,.phase⟩ (by simp) rfl
    |3,_=>exact b ⟨3,.phase⟩ (by simp) rfl
    |4,_=>exact b ⟨4,.phase⟩ (by simp) rfl
    |5,_=>exact b ⟨5,.phase⟩ (by simp) rfl
    |6,_=>exact b ⟨6,.phase⟩ (by simp) rfl
    |7,_=>exact O
    |8,_=>exact k8
    |9,_=>exact k9
    |m+10,V=>omega)
   rw[ev]at hp;exact step_skip hF _ rfl rfl (by intro c r;cases r) rfl (asG _ w q i y _ _ _ _ (h.vs 9 (by omega) (by omega) k9) ev r2 r3) hp
  |j+11,t,f,b=>simp at f
 .exact
  {lz:=(by simp),tz:=ht,e6:=e6,e7:=e7,e8:=e8,
   vs:=λj U _ s=>(by exfalso;revert s;simp[Array.getD]),
   w0:=λ_=>rfl,
   w7:=λs=>(by exfalso;revert s;simp[Array.getD]),
   w8:=λs=>(by exfalso;revert s;simp[Array.getD]),
   Gk:=λs=>(by exfalso;revert s;simp[Array.getD]),
   CP:=λs=>(by exfalso;revert s;simp[Array.getD]),
   CN:=λs=>(by exfalso;revert s;simp[Array.getD]),
   oA:=λs=>(by exfalso;revert s;simp[Array.getD]),
   CO:=λs=>(by exfalso;revert s;simp[Array.getD])}
end
