import Derived.Test.YtkbinfhclaafhaaGreatDoorP19
namespace Go.Proofs.YtkbinfhclaafhaaGreatDoor
open Go.RowKit
open Go.Proofs.Tryz
set_option maxRecDepth 100000
set_option maxHeartbeats 32000000
set_option linter.all false
section
variable{α β:Type}
def eO:List Bool->List α->List α->List α
 |[],_,acc=>acc
 |_::_,[],acc=>acc
 |true::bs,x::xs,acc=>eO bs xs (x::acc)
 |false::bs,x::xs,acc=>acc++x::eO bs xs []
def XF:∀(c:List Bool)(b a:List α),c.length=b.length->(eO c b a).length=a.length+b.length
 |[],[],a,_=>rfl
 |[],_::_,_,h=>by simp at h
 |_::_,[],_,h=>by simp at h
 |true::c,x::b,a,h=>by
  rw[eO,XF c b _ (by simpa using h)];simp;omega
 |false::c,x::b,a,h=>by
  rw[eO,bH,eJ,XF c b _ (by simpa using h)];simp
def XH:∀(d:List Bool)(c b:List α),d.length=c.length->(eO d c b).Perm (b++c)
 |[],[],b,_=>by rw[eO,l5]
 |[],_::_,_,h=>by simp at h
 |_::_,[],_,h=>by simp at h
 |true::d,x::c,b,h=>by
  rw[eO];refine(XH d c _ (by simpa using h)).trans ?_;exact(ah9 (l₁:=b) (a:=x) (l₂:=c)).symm
 |false::d,x::c,b,h=>by
  rw[eO];exact(((XH d c []<|by simpa using h).cons x)).append_left b
def XG(f:α->β):∀(b:List Bool)(c a:List α),(eO b c a).map f=eO b (c.map f) (a.map f)
 |[],_,a=>rfl
 |_::_,[],a=>rfl
 |true::b,x::c,a=>by rw[eO,mP,eO,XG f b c];rfl
 |false::b,x::c,a=>by rw[eO,mP,eO,fB,mP,XG f b c];rfl
def Qt(c:List Bool)(d:List α):∀(b a:List α),eO (List.replicate b.length true++c) (b++d) a=eO c d (b.reverse++a)
 |[],a=>by simp
 |y::b,a=>by
  rw[eJ,GS,uL,uL,eO,Qt c d b];simp
def arW:∀(c:List Bool)(d a:List α),(c=[]/\d=[])∨(∃b,c=false::b)->eO c d a=a++eO c d []
 |_,_,a,.inl ⟨h1,h2⟩=>by subst h1;subst h2;simp[eO]
 |_,[],a,.inr ⟨b,h⟩=>by subst h;simp[eO]
 |_,x::d,a,.inr ⟨b,h⟩=>by subst h;simp[eO]
def XJ:∀(b:List Bool)(c a:List α),b.length=c.length->eO (List.replicate a.length true++b) (eO b c a) []=a.reverse++c
 |[],[],a,_=>by
  have:=Qt [] [] a [];simp only[l5]at this ⊢;rw[eO,this];simp[eO]
 |[],_::_,_,h=>by simp at h
 |_::_,[],_,h=>by simp at h
 |true::b,x::c,a,h=>by
  have ih:=XJ b c (x::a) (by simpa using h);rw[eO];rw[eJ,NN,dO]at ih;simpa using ih
 |false::b,x::c,a,h=>by
  have ih:=XJ b c [] (by simpa using h);rw[eO,Qt,eO];simp only[jZ,J8,si,aic]at ih;rw[ih];simp
def XI:∀(b a:List Bool)(k:Nat),b.length=a.length->(∀j:Nat,b[j]? =some true->a[j]? =some true)->eO b a (List.replicate k true)=List.replicate k true++a
 |[],[],k,_,_=>by simp[eO]
 |[],_::_,_,h,_=>by simp at h
 |_::_,[],_,h,_=>by simp at h
 |true::b,c::a,k,h,hs=>by
  have e:c=true:=by have:=hs 0 rfl;simpa using this
  subst e;rw[eO];have:=XI b a (k+1) (by simpa using h) (λj d=>hs (j+1) d);rw[GS]at this;rw[this,<-GS,NN];simp
 |false::b,c::a,k,h,hs=>by
  rw[eO];have:=XI b a 0 (by simpa using h) (λj d=>hs (j+1) d);simp only[J8,si]at this;rw[this]
def nT(d:List Bool)(a:List α)(i:Nat)(c:List α):Prop:=∃b,b.length=i/\c=b++a.drop i/\eO d a []=b++eO (d.drop i) (a.drop i) []
variable{bs:List Bool}{a cur:List α}{i j:Nat}
def nT.start(b:List Bool)(a:List α):nT b a 0 a:=⟨[],rfl,by simp,by simp⟩
def nT.stop(h:nT bs a i cur)(f:bs.length=a.length)(d:a.length<=i):cur=eO bs a []:=by
 obtain⟨e,_,b,c⟩:=h;rw[c,b,kr d,kr<|by omega];simp[eO]
def Oo {a:Type}{l:List a}{i:Nat}(h:i<l.length):∃x,l.drop i=x::l.drop (i+1)/\l[i]? =some x:=⟨l[i],kO h,aM h⟩
def nT.skip(h:nT bs a i cur)(o:bs.length=a.length)(n:i<a.length)(m:bs[i]? =some false):nT bs a (i+1) cur:=by
 obtain⟨c,g,j,k⟩:=h;obtain⟨x,d,_⟩:=Oo n;obtain⟨b,f,e⟩:=Oo (l:=bs) (i:=i) (by omega);rw[m]at e;obtain rfl:false=b:=aJ e;refine⟨c++[x],by simp[g],?_,?_⟩
 .rw[j,d];simp
 .rw[k,d,f,eO];simp
def Fs {a:List Bool}:∀(m i:Nat),i+m<=a.length->(∀q,i<=q->q<i+m->a[q]? =some true)->a.drop i=List.replicate m true++a.drop (i+m)
 |0,i,_,_=>by simp
 |m+1,i,h,hr=>by
  obtain⟨b,d,c⟩:=Oo (l:=a) (i:=i) (by omega);rw[hr i (au _)<|by omega]at c;obtain rfl:true=b:=aJ c;rw[d,Fs m (i+1) (by omega) λq e f=>hr q (by omega)<|by omega,show i+1+m=i+(m+1)by omega,GS];rfl
def mJ(l:List α)(i j:Nat):List α:=l.take i++((l.take j).drop i).reverse++l.drop j
def nT.turn(h:nT bs a i cur)(y:bs.length=a.length)(v:i<=j)(x:j<=a.length)(w:∀q,i<=q->q<j->bs[q]? =some true)(u:j<a.length->bs[j]? =some false):nT bs a j (mJ cur i j):=by
 obtain⟨e,d,g,t⟩:=h;have p:=Fs (j - i) i (by omega) (λq d g=>w q d<|by omega);rw[show i+(j - i)=j by omega]at p;have s:a.drop i=(a.drop i).take (j - i)++a.drop j:=by
  conv=>lhs;rw[<-Sy (j - i) (a.drop i)]
  rw[Si,show i+(j - i)=j by omega]
 have c:((a.drop i).take (j - i)).length=j - i:=by rw[r9,NG];omega
 refine⟨e++((a.drop i).take (j - i)).reverse,by rw[bH,Sr,c];omega,?_,?_⟩
 .have r:cur.take i=e:=by rw[g,<-d,List.take_left]
  have k:(cur.take j).drop i=(a.drop i).take (j - i):=by
   rw[g,List.drop_take,ahV<|by omega,<-d,ahW];simp
  have f:cur.drop j=a.drop j:=by
   rw[g,List.drop_append,Si,kr<|by omega,d,show i+(j - i)=j by omega];rfl
  unfold mJ;rw[r,k,f]
 .have o:=Qt (bs.drop j) (a.drop j) ((a.drop i).take (j - i)) [];rw[c,<-p,<-s,l5]at o;rw[t,o,arW]
  .rw[dO]
  .rcases cP j a.length with n|m
   .right;obtain⟨b,k,f⟩:=Oo (l:=bs) (i:=j) (by omega);rw[u n]at f;obtain rfl:false=b:=aJ f;exact⟨_,k⟩
   .exact .inl ⟨kr<|by omega,kr m⟩
def nT.length(h:nT bs a i cur)(e:i<=a.length):cur.length=a.length:=by
 obtain⟨c,d,b,_⟩:=h;rw[b,bH,NG];omega
def WQ(l:List α)(i j k:Nat)(c:i<=j)(d:j<=l.length):(mJ l i j)[k]? =if i<=k/\k<j then l[i+j - 1 - k]? else l[k]? :=by
 unfold mJ;have l1:(l.take i).length=i:=by rw[r9];omega
 have b:((l.take j).drop i).length=j - i:=by rw[NG,r9];omega
 rcases cP k i with h|h
 .rw[ai<|by omega,dO,tP<|by omega,ND h]
 .rcases cP k j with a|a
  .rw[aj ⟨h,a⟩,dO,rY<|by omega,l1,tP<|by rw[Sr];omega,List.getElem?_reverse<|by omega,b,zj,ND<|by omega];congr 1;omega
  .rw[ai<|by omega,rY<|by rw[bH,Sr];omega,bH,Sr,l1,b,zj];congr 1;omega
def WR(l:List α)(i j:Nat)(a:i<=j)(b:j<=l.length)(h:j<=i+1):mJ l i j=l:=by
 apply J0;intro k;rw[WQ l i j k a b];split
 .congr 1;omega
 .rfl
def C4(l:List α)(a b:Nat)(d:α):List α:=(l.set a<|l.getD b d).set b (l.getD a d)
def afy(l:List α)(i j:Nat)(d:α)(n:i+1<j)(o:j<=l.length):mJ (C4 l i (j - 1) d) (i+1) (j - 1)=mJ l i j:=by
 apply J0;intro k;have c:(C4 l i (j - 1) d).length=l.length:=by simp[C4]
 have g:∀q,(C4 l i (j - 1) d)[q]? =if q=j - 1 then l[i]? else if q=i then l[j - 1]? else l[q]? :=λq=>by
  unfold C4;rw[NB,NB,ZN];have h:l.getD i d=l[i]'(by omega):=by rw[aO,aM<|by omega];rfl
  have m:l.getD (j - 1) d=l[j - 1]'(by omega):=by rw[aO,aM<|by omega];rfl
  by_cases a:j - 1=q
  .rw[aj a,aj<|by omega,aj a.symm,h,aM<|by omega]
  .rw[ai a,ai (show¬q=j - 1 from λe=>a e.symm)];by_cases b:i=q
   .rw[aj b,aj<|by omega,aj b.symm,m,aM<|by omega]
   .rw[ai b,ai (show¬q=i from λe=>b e.symm)]
 rw[WQ _ _ _ _ (by omega) (by rw[c];omega),WQ _ _ _ _ (by omega) o];by_cases a:i+1<=k/\k<j - 1
 .rw[aj a,aj<|by omega,g,ai<|by omega,ai<|by omega];congr 1;omega
 .rw[ai a,g];by_cases b:k=j - 1
  .rw[aj b,aj<|by omega];congr 1;omega
  .rw[ai b];by_cases f:k=i
   .rw[aj f,aj<|by omega];congr 1;omega
   .rw[ai f,ai<|by omega]
end
def mask(v:Int)(a:List Int):List Bool:=a.map λl=>decide (v<=l)
def zS(v:Int)(a:List Int):(mask v a).length=a.length:=by simp[mask]
def FW(v:Int)(a:List Int)(j:Nat)(b:j<a.length):(mask v a)[j]? =some (decide (v<=a.getD j 0)):=by
 simp[mask,aO,aM b]
def fJ(b:List Int):Nat->Int->List Int->List Int
 |0,_,a=>a
 |n+1,v,a=>fJ b n (v - 1)<|eO (mask v b) a []
def Qu(b:List Int):∀(n:Nat)(v:Int)(a:List Int),fJ b (n+1) v a=eO (mask (v - n) b) (fJ b n v a) []
 |0,v,a=>by simp[fJ]
 |n+1,v,a=>by
  rw[fJ,Qu b n<|v - 1,fJ,show v - 1 - (n:Int)=v - ((n+1:Nat):Int)by omega]
def agI(b:List Int):∀(m n:Nat)(v:Int)(a:List Int),fJ b (m+n) v a=fJ b n (v - m) (fJ b m v a)
 |0,n,v,a=>by simp[fJ]
 |m+1,n,v,a=>by
  rw[show m+1+n=(m+n)+1 by omega,fJ,agI b m n<|v - 1,fJ,show v - 1 - (m:Int)=v - ((m+1:Nat):Int)by omega]
def I8(b:List Int):∀(n:Nat)(v:Int)(a:List Int),a.length=b.length->(fJ b n v a).length=b.length
 |0,_,_,h=>h
 |n+1,v,a,h=>by
  rw[fJ];exact I8 b n _ _ (by rw[XF _ _ _ (by rw[zS,h])];simpa using h)
def XL(b:List Int):∀(n:Nat)(v:Int)(a:List Int),a.length=b.length->(fJ b n v a).Perm a
 |0,_,_,_=>Sh _
 |n+1,v,a,h=>by
  rw[fJ];have c:=XH (mask v b) a [] (by rw[zS,h]);rw[si]at c;exact(XL b n _ _ (by rw[c.length_eq];exact h)).trans c
def XK(b:List Int):∀(m:Nat)(a:List Int),a.length=b.length->(∀l∈b,l%2=1->2*(m:Int)<l)->fJ b (2*m) (2*m) a=a
 |0,_,_,_=>rfl
 |m+1,a,h,hl=>by
  have e:mask (2*((m+1:Nat):Int) - 1) b=mask (2*((m+1:Nat):Int)) b:=by
   unfold mask;refine J3 λl c=> ?_
   have:=hl l c;simp only[decide_eq_decide];omega
  rw[show 2*(m+1)=(2*m+1)+1 by omega,fJ,fJ,e];have d:=XJ (mask (2*((m+1:Nat):Int)) b) a [] (by rw[zS,h]);simp only[jZ,J8,si,aic]at d;rw[d,show 2*((m+1:Nat):Int) - 1 - 1=2*(m:Int)by omega];exact XK b m a h λl c f=>by have:=hl l c f;omega
def dX(n:Nat):List Int:=(List.range n).map λ(i:Nat)=>(i:Int)
def zO(n:Nat):(dX n).length=n:=by simp[dX]
def kJ(a:List Int):Int:=a.foldl max 0
def TJ:∀(b:List Int)(x:Int),x<=b.foldl max x/\(∀l∈b,l<=b.foldl max x)/\(b.foldl max x=x∨b.foldl max x∈b)
 |[],x=>⟨Nw _,by simp,.inl rfl⟩
 |a::b,x=>by
  obtain⟨f,e,c⟩:=TJ b<|max x a;rw[qW];refine⟨by omega,λl d=> ?_,?_⟩
  .rcases fW.1 d with rfl|d
   .omega
   .exact e l d
  .rcases c with c|c
   .rcases Int.le_total x a with h|h
    .right;rw[c,Int.max_eq_right h];simp
    .left;rw[c,Int.max_eq_left h]
   .right;simp[c]
def oW(a:List Int):Int:=a.foldl (λx l=>if l%2=1 then min x l else x) 127
def TI:∀(c:List Int)(x:Int),c.foldl (λx l=>if l%2=1 then min x l else x) x<=x/\(∀l∈c,l%2=1->c.foldl (λx l=>if l%2=1 then min x l else x) x<=l)/\(c.foldl (λx l=>if l%2=1 then min x l else x) x=x∨(c.foldl (λx l=>if l%2=1 then min x l else x) x∈c/\(c.foldl (λx l=>if l%2=1 then min x l else x) x)%2=1))
 |[],x=>⟨Nw _,by simp,.inl rfl⟩
 |a::c,x=>by
  obtain⟨i,e,b⟩:=TI c (if a%2=1 then min x a else x);rw[qW];by_cases f:a%2=1
  .rw[aj f]at i e b ⊢;refine⟨by omega,λl d g=> ?_,?_⟩
   .rcases fW.1 d with rfl|d
    .omega
    .exact e l d g
   .rcases b with b|b
    .rcases Int.le_total x a with h|h
     .left;rw[b,Int.min_eq_left h]
     .right;rw[b,Int.min_eq_right h];exact⟨by simp,f⟩
    .right;exact⟨by simp[b.1],b.2⟩
  .rw[ai f]at i e b ⊢;refine⟨i,λl d g=> ?_,?_⟩
   .rcases fW.1 d with rfl|d
    .exact absurd g f
    .exact e l d g
   .rcases b with b|b
    .exact .inl b
    .right;exact⟨by simp[b.1],b.2⟩
def nA(a:List Int):List Int:=fJ a (kJ a).toNat (kJ a) (dX a.length)
def Mz(a:List Int):List Int:=fJ a (kJ a - oW a+1).toNat (kJ a) (dX a.length)
def aoq {a:List Int}(h:∀l∈a,0<=l/\l<=126):Mz a=nA a:=by
 unfold Mz nA;obtain⟨t1,t2,t3⟩:=TJ a 0;obtain⟨o,d,k⟩:=TI a 127;change 0<=kJ a at t1;change∀l∈a,l<=kJ a at t2;change kJ a=0∨kJ a∈a at t3;change oW a<=127 at o;change∀l∈a,l%2=1->oW a<=l at d;change oW a=127∨(oW a∈a/\oW a%2=1)at k;have j:kJ a<=126:=by
  rcases t3 with e|e
  .omega
  .exact(h _ e).2
 have f:kJ a%2=1->kJ a∈a:=λc=>by
  rcases t3 with e|e
  .omega
  .exact e
 generalize kJ a=T at*;have p:oW a%2=1/\0<=oW a:=by
  rcases k with e|e
  .omega
  .exact⟨e.2,(h _ e.1).1⟩
 generalize oW a=O at*;by_cases g:O<=T
 .obtain⟨m,i⟩:∃m:Nat,O=2*(m:Int)+1:=⟨(O / 2).toNat,by omega⟩
  have n:T.toNat=(T - O+1).toNat+2*m:=by omega
  rw[n,agI,show T - ((T - O+1).toNat:Int)=2*(m:Int)by omega];exact(XK a m _ (I8 _ _ _ _ (zO _)) (λl b c=>by have:=d l b c;omega)).symm
 .rw[show(T - O+1).toNat=0 by omega];have q:T%2=0:=by
   rcases Int.emod_two_eq T with e|e
   .exact e
   .exact absurd (d T (f e) e) g
  obtain⟨m,i⟩:∃m:Nat,T=2*(m:Int):=⟨(T / 2).toNat,by omega⟩
  rw[show T.toNat=2*m by omega,i];exact(XK a m _ (zO _) (λl b c=>by have:=d l b c;have:=t2 l b;omega)).symm
def G8(b a:List Int)(v:Int):List Bool:=a.map λp=>decide (v<=b.getD p.toNat 0)
def uN(b a:List Int)(v:Int):Prop:=∀u,u<=v->G8 b a u=mask u b
def uN.start(b:List Int)(v:Int):uN b (dX b.length) v:=λu _=>by
 unfold G8 dX mask;rw[NI];apply J0;intro k;rw[jq,jq];rcases cP k b.length with a|a
 .rw[J2 a,aM a];simp[aM a]
 .rw[rZ<|by simpa using a,rZ a];rfl
def uN.turn {b a:List Int}{v:Int}(h:uN b a v)(_hl:a.length=b.length):uN b (eO (mask v b) a []) v:=λu f=>by
 unfold G8;rw[XG];have e:=h u f;unfold G8 at e;rw[e];have:=XI (mask v b) (mask u b) 0 (by rw[zS,zS]) (λj c=>by
  have d:j<b.length:=by have:=(r7.1 c).1;rwa [zS]at this
  rw[FW _ _ _ d]at c ⊢;have:=aJ c;simp at this ⊢;omega)
 simpa using this
def uN.mono {b a:List Int}{v c:Int}(h:uN b a v)(e:c<=v):uN b a c:=λu d=>h u<|by omega
def uN.at {b a:List Int}{v:Int}(h:uN b a v)(f:a.length=b.length)(j:Nat)(d:j<b.length):decide (v<=b.getD (a.getD j 0).toNat 0)=decide (v<=b.getD j 0):=by
 have e:=h v<|Nw _;have c:(G8 b a v)[j]? =some (decide (v<=b.getD (a.getD j 0).toNat 0)):=by
  rw[G8,jq,aM<|by omega,aO (l:=a),aM<|by omega];rfl
 rw[e,FW _ _ _ d]at c;exact(aJ c).symm
def R6(k:Nat):dX (k+1)=dX k++[(k:Int)]:=by simp[dX,J7]
def agy(a:List Int)(k:Nat)(b:k<a.length):kJ (a.take<|k+1)=max (kJ<|a.take k) (a.getD k 0):=by
 unfold kJ;rw[uM,aM b,Ci,aO,aM b];rfl
def anz(a:List Int)(k:Nat)(b:k<a.length):oW (a.take<|k+1)=if a.getD k 0%2=1 then min (oW<|a.take k) (a.getD k 0)else oW (a.take k):=by
 unfold oW;rw[uM,aM b,Ci,aO,aM b];rfl
def Qr {lv:List Int}(h:∀l∈lv,l<=1000):0<=kJ lv/\kJ lv<=1000:=by
 obtain⟨t1,_,t3⟩:=TJ lv 0;refine⟨t1,?_⟩;rcases t3 with e|e
 .show lv.foldl max 0<=1000;omega
 .exact h _ e
def aeh {lv:List Int}(h:∀l∈lv,0<=l):0<=oW lv/\oW lv<=127:=by
 obtain⟨t1,_,t3⟩:=TI lv 127;refine⟨?_,t1⟩;rcases t3 with e|e
 .show 0<=lv.foldl _ 127;rw[e];decide
 .exact h _ e.1
def afb {a:List Int}{n:Nat}(h:a.Perm<|dX n)(j:Nat)(d:j<n):∃p:Nat,p<n/\a.getD j 0=(p:Int):=by
 have f:a.length=n:=by rw[h.length_eq,zO]
 have b:a.getD j 0∈dX n:=h.mem_iff.1 (dG<|by omega);unfold dX at b;obtain⟨p,c,e⟩:=jM.1 b;exact⟨p,J4.1 c,e.symm⟩
def nT.at {c:List Bool}{a b:List Int}{i:Nat}(h:nT c a i b)(q:Nat)(g:i<=q):b.getD q 0=a.getD q 0:=by
 obtain⟨f,d,e,_⟩:=h;rw[e,aO,rY<|by omega,d,zj,show i+(q - i)=q by omega,aO]
def agJ {lv:List Int}{T:Int}:∀(m:Nat),uN lv (fJ lv m T<|dX lv.length)<|T - m
 |0=>(uN.start lv T).mono (by omega)
 |m+1=>by
  rw[Qu];exact((agJ m).turn (I8 _ _ _ _ (zO _))).mono (by omega)
def bu.swap {w:World}{B g n c:Nat}{t:List Int}(h:bu w B g n c t)(a b:Nat):bu ((w.setCell ⟨g,a,none⟩ (.int .i64<|t.getD b 0)).setCell ⟨g,b,none⟩ (.int .i64<|t.getD a 0)) B g n c (C4 t a b 0):=(h.set a _).set b _
def apG(o:List Int)(b P ap n:Nat)(w:World)(hl:o.length=n)(hn:n<=1000)(hc:bI w b P o)(ae:∀l∈o,0<=l/\l<=1000):
  Calls prog 49 #[.slice (some ⟨b,P,none⟩) n ap] w λe w'=>∃v',e= .returned v'/\w'.ownsRow w.heap.size 3 1 v' n (iv<|nA o)/\Below w.heap.size w w':=by
 obtain⟨iI,fP,fQ,fR,fS⟩:=gu Tryz.rL;have HC:Hid (∀W,Below w.heap.size w W->bI W b P o):=λW r=>hc.below r
 have E:=ah hl;have HV:=ah ae;have X:=Qr (lv:=o) (λl h=>(ae l h).2);have Zx:Hid (kJ o=0∨0<n):=by
  by_cases h0:0<n
  .exact .inr h0
  .left;have:o=[]:=Sn.1 (by omega);rw[this];rfl
 obtain⟨T,hT⟩:=ac<|kJ o;have HT:=ah hT;rw[<-hT]at X Zx;obtain⟨R,hR⟩:=ac<|nA o;have HR:Hid (R=fJ o T.toNat T (dX n)):=by show R=_;rw[hR,nA,hT,<-hl]
 rw[<-hR];clear hc hl ae hT hR;go_enter func49,ntmps49;go_wp2;go_loopg [3,4,5] n (λgk av tv gw W=>∃(k:Nat)(t:Int),k<=n/\gk=n - k/\gw= .int .i64 k/\tv= .int .i64 t/\t=kJ (o.take k)/\W.ownsRow w.heap.size 3 1 av k (iv<|dX k)/\Below w.heap.size w W);exact⟨0,0,by omega,rfl,rfl,rfl,by simp[kJ],gQ _ _ _ _,aA _ _⟩;obtain⟨k,t,hk,rfl,rfl,rfl,ht,f,r⟩:=hrel;obtain⟨qa,qc,rfl⟩:=eH f;by_cases O:k<n
 .have N:k<o.length:=by rw[E.out];exact O
  have D:=HC.out wr r k N;have hs:=agy o k N;rw[<-ht]at hs;have Px:=HV.out _ (dG (d:=0) N);obtain⟨x,hx⟩:=ac<|o.getD k 0;rw[<-hx]at D hs Px;have HS:=ah hs;have u:=ah r;have aD:=Qr (lv:=o.take k) (λl h=>(HV.out l<|NM h).2);rw[<-ht]at aD;have af:=r.size;have az:(k:Int)<(n:Int):=by omega
  clear hs hx ht r N;go_wp2_with(at_builtin;refine qK _ rfl _ _ 31 rfl w.heap.size 3 iI (.int .i64 0) 8 underlying31 fP fQ fR fS rfl (by decide) _ _ _ rfl f _ _ rfl rfl (by omega) af ?_);intro v2 w2 I ag;have bw:Below w.heap.size w w2:=u.out.grown ag af (λy hy=>(f.lt y hy).1);have Lb:w2.cell? ⟨b,P+k,none⟩=some (.int .i64 x):=by
   have F:=HC.out wr u.out k (by rw[E.out];exact O);have S:=HC.out w2 bw k (by rw[E.out];exact O);rw[S,<-F];exact D
  have Y:=ah bw;have J:Hid (w2.ownsRow w.heap.size 3 1 v2 (k+1)<|iv<|dX<|k+1):=by
   show World.ownsRow _ _ _ _ _ _ _;rw[R6];have e:iv (dX k++[(k:Int)])=iv (dX k)++[.int .i64 (k:Int)]:=(by simp[iv]);rw[e];exact I
  clear f I ag bw D u;by_cases aM:t<x
  .have HM:Hid (x=kJ (o.take<|k+1)):=(by show x=_;rw[HS.out];omega);go_wp2;go_roundg (n - (k+1));exact⟨k+1,x,by omega,rfl,by go_num,rfl,HM.out,J.out,Y.out⟩;omega
  .have HM:Hid (t=kJ (o.take<|k+1)):=(by show t=_;rw[HS.out];omega);go_wp2;go_roundg (n - (k+1));exact⟨k+1,t,by omega,rfl,by go_num,rfl,HM.out,J.out,Y.out⟩;omega
 .obtain rfl:k=n:=by omega
  have az:¬(k:Int)<(k:Int):=by omega
  have aC:t=T:=by rw[ht,HT.out,ku<|by rw[E.out];exact au _]
  subst aC;have H:=ah f;have u:=ah r;clear f r ht HT;obtain⟨t0,t1⟩:=X;go_wp2;go_loopg [6] t.toNat (λgk vv W=>∃(m:Nat),m<=t.toNat/\gk=t.toNat - m/\vv= .int .i64 (t - m)/\W.ownsRow w.heap.size 3 1 (.slice qa k qc) k (iv<|fJ o m t<|dX k)/\Below w.heap.size w W);exact⟨0,by omega,rfl,by simp,H.out,u.out⟩;clear H u;obtain⟨m,hm,rfl,rfl,f,r⟩:=hrel;obtain⟨a,U⟩:=ac<|fJ o m t<|dX k;rw[<-U]at f;by_cases O:m<t.toNat
  .have ay:0<k:=by
    rcases Zx.out with h|h
    .omega
    .exact h
   obtain⟨g,ao,al,_,Li,ai⟩:=gI f ay;have FL:qa=some ⟨g,0,none⟩:=(show qa=some ⟨g,0,none⟩/\qc=ao by simpa using al).1;subst FL;have L:a.length=k:=(by rw[U];exact(I8 o m t _ (by rw[zO,E.out])).trans E.out);have Zf:Hid (a.Perm<|dX k):=(by show a.Perm _;rw[U];exact XL o m t _ (by rw[zO,E.out]));have Rb:Hid (uN o a<|t - m):=by
    have:=agJ (lv:=o) (T:=t) m;rw[E.out,<-U]at this;exact this
   have tJ:Hid (fJ o (m+1) t (dX k)=eO (mask (t - m) o) a []):=(by show _=_;rw[Qu,<-U]);have Ju:Hid ((mask (t - m) o).length=a.length/\a.length=k):=⟨by rw[zS,E.out,L],L⟩
   obtain⟨v,hv⟩:=ac<|t - (m:Int);have RU:=ah hv;have aO:0<v:=(by omega);have aP:v<=1000:=(by omega);rw[<-hv]at Rb tJ Ju ⊢;have H:=ah f;have u:=ah r;have ZC:=ah ai;obtain⟨K,Z⟩:=ac<|mask v o;have xE:Hid (∀j,j<k->K[j]? =some (decide (v<=o.getD (a.getD j 0).toNat 0))):=λj B=>by
    rw[Z,FW _ _ _ (by rw[E.out];exact B),Rb.out.at (by rw[L,E.out]) j<|by rw[E.out];exact B]
   rw[<-Z]at tJ Ju;clear f r U hv L Z al Li ai Rb;go_wp2;go_loopg [7] (k+1) (λgk gw W=>∃(i:Nat)(A:List Int),i<=k+1/\gk=k+1 - i/\gw= .int .i64 i/\bu W w.heap.size g k qc A/\Below w.heap.size w W/\nT K a (min i k) A);exact⟨0,a,by omega,rfl,rfl,H.out,u.out,by rw[Kf];exact nT.start K a⟩;clear H u;obtain⟨i,A,hi,rfl,rfl,C,r,Hy⟩:=hrel;by_cases aj:i<k
   .rw[jN<|by omega]at Hy;have ar:=C.len;have H:=ah C;have u:=ah r;have Ns:=ah Hy;have ak:(i:Int)<(k:Int):=(by omega);clear C r Hy;obtain⟨W1,aq⟩:=ac wr;subst aq;go_wp2;go_loopg [8] (k - i) (λgk jv W=>∃(j:Nat),i<=j/\j<=k/\gk=k - j/\jv= .int .i64 j/\W=W1/\∀q,i<=q->q<j->K[q]? =some true);exact⟨i,by omega,by omega,rfl,rfl,rfl,λq F S=>by omega⟩;obtain⟨j,ab,aw,rfl,rfl,hW,V⟩:=hrel;subst hW;have HA:=ah V;clear V;by_cases aa:j<k/\K[j]? =some true
    .obtain⟨B,K6⟩:=aa;have Q:=xE.out j B;obtain⟨p,hp,G⟩:=afb Zf.out j B;have Cy:wr.cell? ⟨g,j,none⟩=some (.int .i64 (p:Int)):=(by rw[H.out.cell j B,Ns.out.at j ab,G]);have Lq:=HC.out wr u.out p (by rw[E.out];exact hp);rw[G,Cg,K6]at Q;have aE:v<=o.getD p 0:=(by have:=aJ Q;simpa using this.symm);have Gq:Hid (∀q,i<=q->q<j+1->K[q]? =some true):=λq F S=>by
      by_cases e:q=j
      .rw[e];exact K6
      .exact HA.out q F (by omega)
     generalize o.getD p 0=y at*;have ad:(j:Int)<(k:Int):=(by omega);have aB:(p:Int)<(k:Int):=(by omega);clear Q K6 G;go_wp2;go_roundg (k - (j+1));exact⟨j+1,by omega,by omega,rfl,by go_num,rfl,Gq.out⟩;omega
    .have HE:Hid (j<k->K[j]? =some false):=λB=>by
      have Q:=xE.out j B;cases hd:decide (v<=o.getD (a.getD j 0).toNat 0)with
      |true=>rw[hd]at Q;exact absurd ⟨B,Q⟩ aa
      |false=>rw[hd]at Q;exact Q
     have ax:¬(j<k)∨∃p:Nat,j<k/\p<k/\wr.cell? ⟨g,j,none⟩=some (.int .i64 (p:Int))/\¬v<=o.getD p 0:=by
      by_cases B:j<k
      .right;obtain⟨p,hp,G⟩:=afb Zf.out j B;refine⟨p,B,hp,by rw[H.out.cell j B,Ns.out.at j ab,G],?_⟩;have F:=HE.out B;rw[xE.out j B,G,Cg]at F;simpa using aJ F
      .exact .inl B
     have Ao:Hid _:=u;clear aa;rcases ax with B|⟨p,B,hp,Cy,aE⟩
     all_goals
      first
      |have ad:¬(j:Int)<(k:Int):=by omega
      |have Lq:=HC.out wr u.out p (by rw[E.out];exact hp)
       generalize o.getD p 0=y at*;have ad:(j:Int)<(k:Int):=(by omega);have aB:(p:Int)<(k:Int):=by omega
      go_wp2;clear ad;go_loopg [9,10] (j - i) (λgk av bv W=>∃(s:Nat)(z:Int)(c:List Int),i+s+s<=j/\gk=j - i - s/\av= .int .i64 ((i+s:Nat):Int)/\bv= .int .i64 z/\z=(j:Int) - s - 1/\bu W w.heap.size g k qc c/\Below w.heap.size w W/\mJ c (i+s) (j - s)=mJ A i j);exact⟨0,(j:Int) - 1,A,by omega,by omega,rfl,rfl,by omega,H.out,u.out,rfl⟩;clear H u Ao;obtain⟨s,z,c,hs,rfl,rfl,rfl,hz,C,r,iW⟩:=hrel;have Ia:=C.len;by_cases Ls:i+s+1<j - s
      .obtain⟨y,rfl⟩:∃y:Nat,z=(y:Int):=⟨z.toNat,by omega⟩
       have hy:y=j - s - 1:=(by omega);obtain⟨x,hx⟩:=ac<|i+s;rw[<-hx]at iW ⊢;have FO:=afy c x (j - s) 0 (by omega) (by omega);rw[<-hy,iW]at FO;have aF:x<k:=(by omega);have am:y<k:=(by omega);have cx:=C.cell x aF;have cy:=C.cell y am;have fx:=C.frozen x;have aK:=(C.set x<|c.getD y 0).cell y am;have aL:=(C.set x<|c.getD y 0).frozen y;have J:=ah<|C.swap x y;have Y:Hid (Below w.heap.size w<|(wr.setCell ⟨g,x,none⟩ (.int .i64<|c.getD y 0)).setCell ⟨g,y,none⟩ (.int .i64<|c.getD x 0)):=(r.setCell (p:=⟨g,x,none⟩) ZC.out _).setCell (p:=⟨g,y,none⟩) ZC.out _;have RB:Hid (mJ (C4 c x y 0) (i+(s+1)) (j - (s+1))=mJ A i j):=by
        show _=_;rw[show i+(s+1)=x+1 by omega,show j - (s+1)=y by omega];exact FO
       have Dn:Hid (x=i+s/\y=j - s - 1/\i+s+1<j - s):=⟨hx,hy,Ls⟩
       have aQ:(x:Int)<(y:Int):=(by omega);have aG:(x:Int)<(k:Int):=(by omega);have aH:(y:Int)<(k:Int):=(by omega);have aS:(1:Int)<=(y:Int):=(by omega);clear C r iW FO hx hy hz hs Ls Ia;generalize c.getD x 0=ux at*;generalize c.getD y 0=uy at*;go_wp2;go_roundg (j - i - (s+1));exact⟨s+1,(y:Int) - 1,_,by have:=Dn.out;omega,rfl,by have:=Dn.out;rw[show i+(s+1)=x+1 by omega];go_num,rfl,by have:=Dn.out;omega,J.out,Y.out,RB.out⟩;have:=Dn.out;omega
      .have aR:¬((i+s:Nat):Int)<z:=(by omega);have M:c=mJ A i j:=(by rw[<-iW,WR c (i+s) (j - s) (by omega) (by omega)<|by omega]);have J:=ah C;have Y:=ah r;have xI:=ah Ju.out;by_cases aN:i<j
       .have RQ:Hid (nT K a (min (j+1) k) c):=by
         have F:=Ns.out.turn xI.out.1 ab (by rw[xI.out.2];exact aw) HA.out (λh=>HE.out<|by rw[<-xI.out.2];exact h);rw[<-M]at F;by_cases S:j<k
         .rw[jN<|by omega];exact F.skip xI.out.1 (by rw[xI.out.2];exact S)<|HE.out S
         .rw[GV<|by omega];have:j=k:=(by omega);rw[<-this];exact F
        have an:(i:Int)<(j:Int):=(by omega);clear C r iW M hz Ia;generalize((i+s:Nat):Int)=xs at*;go_wp2;go_roundg (k+1 - (j+1));exact⟨j+1,c,by omega,rfl,by go_num,J.out,Y.out,RQ.out⟩;omega
       .have O8:j=i:=(by omega);have RQ:Hid (nT K a (min (i+1) k) c):=by
         rw[jN<|by omega];have F:=Ns.out.skip xI.out.1 (by rw[xI.out.2];exact aj) (by rw[<-O8];exact HE.out<|by rw[O8];exact aj);have S:c=A:=(by rw[M,O8];exact WR A i i (au _) (by have:=ar;omega)<|by omega);rw[S];exact F
        have an:¬(i:Int)<(j:Int):=(by omega);clear C r iW M hz Ia O8;generalize((i+s:Nat):Int)=xs at*;go_wp2;go_roundg (k+1 - (i+1));exact⟨i+1,c,by omega,rfl,by go_num,J.out,Y.out,RQ.out⟩;omega
   .have ak:¬(i:Int)<(k:Int):=(by omega);rw[GV<|by omega]at Hy;have he:=Hy.stop Ju.out.1 (by rw[Ju.out.2];exact au _);have J:Hid (wr.ownsRow w.heap.size 3 1 (.slice (some ⟨g,0,none⟩) k qc) k<|iv<|fJ o (m+1) t<|dX k):=by
     show World.ownsRow _ _ _ _ _ _ _;rw[tJ.out,<-he];exact C
    have u:=ah r;clear C r Hy he;go_wp2;go_roundg (t.toNat - (m+1));exact⟨m+1,by omega,rfl,by rw[RU.out];go_num,J.out,u.out⟩;omega
  .obtain rfl:m=t.toNat:=(by omega);have hv:¬0<t - (t.toNat:Int):=(by omega);have H:Hid (wr.ownsRow w.heap.size 3 1 (.slice qa k qc) k<|iv R):=(by show World.ownsRow _ _ _ _ _ _ _;rw[HR.out,<-U];exact f);have u:=ah r;generalize t - (t.toNat:Int)=z at*;clear f r U;go_wp2;go_ret;exact⟨_,rfl,H.out,u.out⟩
def apJ(w:World)(B g n c u i j:Nat)(b:List Int)(k:i<=j)(m:j<=n)(Y:n<=1000)(h:bu w B g n c b):
  Calls prog 100 #[.slice (some ⟨g,i,none⟩) (j - i) u] w λe G=>e= .returned (.tuple #[])/\bu G B g n c (mJ b i j)/\w.grownBy G (some g):=by
 have A:=ah h;clear h;obtain⟨l,v⟩:=ac<|j - i;rw[<-v];have N:l<=1000:=by omega
 have H:Hid (l=j - i/\i<=j/\j<=n):=⟨v,k,m⟩
 clear v k m;go_enter func100,ntmps100;go_wp2;go_loopg [2,3] l (λgk L bv W=>∃(s:Nat)(z:Int)(a:List Int),s+s<=l/\gk=l - s/\L= .int .i64 ((s:Nat):Int)/\bv= .int .i64 z/\z=(l:Int) - s - 1/\bu W B g n c a/\w.grownBy W (some g)/\mJ a (i+s) (j - s)=mJ b i j);exact⟨0,(l:Int) - 1,b,by omega,by omega,rfl,rfl,by omega,A.out,jO _ _,rfl⟩;clear A;obtain⟨s,z,a,P,rfl,rfl,rfl,F,d,o,p⟩:=hrel;have C:=d.len;have E:=H.out;by_cases D:s+1<l - s
 .obtain⟨y,rfl⟩:∃y:Nat,z=(y:Int):=⟨z.toNat,by omega⟩
  have r:=afy a (i+s) (j - s) 0 (by omega) (by omega);rw[show j - s - 1=i+y by omega,p]at r;have T:=d.cell (i+s) (by omega);have U:=d.cell (i+y) (by omega);have V:=d.frozen<|i+s;have X:=d.frozen<|i+y;have O:i+s≠i+y:=by omega
  have M:Hid (bu ((wr.setCell ⟨g,i+s,none⟩ (.int .i64<|a.getD (i+y) 0)).setCell ⟨g,i+y,none⟩ (.int .i64<|a.getD (i+s) 0)) B g n c<|C4 a (i+s) (i+y) 0):=d.swap (i+s)<|i+y;have t:Hid (w.grownBy ((wr.setCell ⟨g,i+s,none⟩ (.int .i64<|a.getD (i+y) 0)).setCell ⟨g,i+y,none⟩ (.int .i64<|a.getD (i+s) 0))<|some g):=(o.trans<|d.grown (i+s) _).trans ((d.set (i+s) _).grown (i+y) _);have I:Hid (mJ (C4 a (i+s) (i+y) 0) (i+(s+1)) (j - (s+1))=mJ b i j):=by
   show _=_;rw[show i+(s+1)=i+s+1 by omega,show j - (s+1)=i+y by omega];exact r
  have q:Hid (y=l - s - 1/\s+1<l - s):=⟨by omega,D⟩
  have Q:(s:Int)<(y:Int):=by omega
  have J:(s:Int)<(l:Int):=by omega
  have K:(y:Int)<(l:Int):=by omega
  have S:(1:Int)<=(y:Int):=by omega
  clear d o p r F P D C E;generalize a.getD (i+s) 0=Z at*;generalize a.getD (i+y) 0=uy at*;go_wp2;go_region;all_goals
   go_wp2;go_roundg (l - (s+1));exact⟨s+1,(y:Int) - 1,_,by have:=q.out;omega,rfl,by go_num,rfl,by have:=q.out;omega,G0 M.out,t.out.trans Cn,I.out⟩;have:=q.out;omega
 .have R:¬((s:Nat):Int)<z:=by omega
  have f:a=mJ b i j:=by rw[<-p,WR a (i+s) (j - s) (by omega) (by omega)<|by omega]
  have x:Hid (bu wr B g n c (mJ b i j)/\w.grownBy wr (some g)):=by rw[<-f];exact⟨d,o⟩
  clear d o p f F C E;go_wp2;go_end0;exact⟨rfl,x.out.1,x.out.2⟩
structure OS(W w:World)(bx bo g n b off cap:Nat)(lv cur:List Int):Prop where
 row:bu W w.heap.size g n n cur
 Ko:W.heap[bx]? =some (.cells #[.slice (some ⟨b,off,none⟩) n cap] 31 (0,0))
 Kl:W.heap[bo]? =some (.cells #[.slice (some ⟨g,0,none⟩) n n] 31 (0,0))
 lv:bI W b off lv
 hb:Below w.heap.size w W
section
variable{W W' w:World}{bx bo g n b off cap:Nat}{lv cur cur':List Int}
def OS.cx(h:OS W w bx bo g n b off cap lv cur):W.cell? ⟨bx,0,none⟩=some (.slice (some ⟨b,off,none⟩) n cap):=az h.Ko 0
def OS.co(h:OS W w bx bo g n b off cap lv cur):W.cell? ⟨bo,0,none⟩=some (.slice (some ⟨g,0,none⟩) n n):=az h.Kl 0
def OS.below(h:OS W w bx bo g n b off cap lv cur)(a:Below W.heap.size W W'):OS W' w bx bo g n b off cap lv cur:=
 ⟨fu h.row a,bq a h.Ko,bq a h.Kl,h.lv.below a,h.hb.trans<|a.mono h.hb.size⟩
def OS.turn(h:OS W w bx bo g n b off cap lv cur)(i:bu W' w.heap.size g n n cur')(a:W.grownBy W'<|some g)(l:b<w.heap.size):OS W' w bx bo g n b off cap lv cur':=by
 obtain⟨k,d⟩:=Ba h.row;have c:=(h.row.lt g rfl).1;have f:Below w.heap.size w W':=h.hb.grown a h.hb.size (λy j=>by cases j;exact c);refine⟨i,(a.block bx (cJ h.Ko) ?_).trans h.Ko,(a.block bo (cJ h.Kl) ?_).trans h.Kl,h.lv.grown a<|by omega,f⟩
 .intro e;cases e;exact absurd (xS h.Ko d)<|by decide
 .intro e;cases e;exact absurd (xS h.Kl d)<|by decide
end
def aos(W w:World)(j m g n b f c k:Nat)(a d:List Int)(v:Int)(h:OS W w j m g n b f c a d)(s:a.length=n)(t:W.cell? ⟨k,0,none⟩=some (.int .i64 v))(i:Nat)(r:i<n):
  Calls prog 98 #[.int .i64 i,.pointer<|some ⟨j,0,none⟩,.pointer<|some ⟨k,0,none⟩] W λe l=>e= .returned (.bool<|decide (v<=a.getD i 0))/\Below W.heap.size W l:=by
 have q:=h.cx;have p:=h.lv i (by omega);have o:(i:Int)<(n:Int):=by omega
 clear h;generalize a.getD i 0=y at*;go_enter func98,ntmps98;go_wp2;go_region;all_goals
  go_wp2;go_ret;exact⟨rfl,(aA _ _).drew⟩
def aot(W w:World)(l k g n b f c:Nat)(o a:List Int)(h:OS W w l k g n b f c o a)(z:n<=1000)(A:b<w.heap.size)(i j:Nat)(x:i<j)(y:j<=n):
  Calls prog 99 #[.int .i64 i,.int .i64 j,.pointer<|some ⟨k,0,none⟩] W λe r=>e= .returned (.tuple #[])/\OS r w l k g n b f c o (mJ a i j)/\W.grownBy r (some g):=by
 have B:=h.co;have q:Hid (∀m,Calls prog 100 #[.slice (some ⟨g,i,none⟩) (j - i) m] W λe u=>e= .returned (.tuple #[])/\bu u w.heap.size g n n (mJ a i j)/\W.grownBy u (some g)):=λm=>apJ W w.heap.size g n n m i j a (by omega) y z h.row
 have v:=ah h;have D:(i:Int)<=(j:Int):=by omega
 have E:(j:Int)<=(n:Int):=by omega
 have F:(i:Int)<=(n:Int):=by omega
 have G:¬i=n:=by omega
 have H:¬n=i:=by omega
 clear h;go_enter func99,ntmps99;go_wp2_with fail;refine(q.out _).mono ?_;rintro C s ⟨rfl,t,d⟩;have p:Hid (OS s w l k g n b f c o (mJ a i j)/\W.grownBy s (some g)):=⟨v.out.turn t d A,d⟩
 clear t d q;go_wp2;go_end0;exact⟨rfl,p.out.1,p.out.2⟩
def OS.set {W w:World}{i f g n b e c:Nat}{j d:List Int}(h:OS W w i f g n b e c j d)(l:b<w.heap.size)(k:Nat)(a:Int):OS (W.setCell ⟨g,k,none⟩ (.int .i64 a)) w i f g n b e c j (d.set k a):=h.turn (h.row.set k a) (h.row.grown k a) l
def amv(n k:Nat)(a:k<n):(dX k++List.replicate (n - k) 0).set k (k:Int)=dX (k+1)++List.replicate (n - (k+1)) 0:=by
 rw[R6,xR _ _ (by rw[zO];exact au _),zO,oK,show n - k=(n - (k+1))+1 by omega,GS];simp
def JO(w:World)(i f g n b e d k:Nat)(j:List Int)(v:Int)(h:List Bool)(A:List Int)(a:Nat)(c:List Int)(W:World):Prop:=
 OS W w i f g n b e d j c/\W.heap[k]? =some (.cells #[.int .i64 v] 3 (0,0))/\nT h A (min a n) c
def aou(w:World)(s r g n b l d p:Nat)(o:List Int)(v:Int)(A:List Int)(H:n<=1000)(I:b<w.heap.size)(y:o.length=n)(z:A.length=n)(D:p≠g):
  Kh n 98 99 #[.pointer<|some ⟨s,0,none⟩,.pointer<|some ⟨p,0,none⟩] #[.pointer<|some ⟨r,0,none⟩] (JO w s r g n b l d p o v (mask v o) A) (λ_ i=>decide (v<=o.getD i 0)) where
 asks x a W i hJ _ hi:=by
  obtain⟨m,f,k⟩:=hJ;refine(aos W w s r g n b l d p o x v m y (az f 0) i hi).mono ?_;rintro e E ⟨rfl,u⟩;exact⟨rfl,m.below u,bq u f,k⟩
 skip x a W hJ ha u:=by
  obtain⟨m,f,k⟩:=hJ;rw[jN<|by omega]at k;refine⟨x,m,f,?_⟩;rw[jN<|by omega];exact k.skip (by rw[zS,y,z]) (by omega)<|by rw[FW _ _ _ (by omega),u]
 tell x a c W hJ hac hcn hall hend:=by
  obtain⟨m,f,k⟩:=hJ;rw[jN<|by omega]at k;refine(aot W w s r g n b l d o x m H I a c hac hcn).mono ?_;rintro e E ⟨rfl,B,C⟩;refine⟨rfl,_,B,(C.block p (cJ f) λe=>D<|aJ e).trans f,?_⟩;have t:=k.turn (j:=c) (by rw[zS,y,z]) (by omega) (by omega) (λq t F=>by rw[FW _ _ _ (by omega),hall q t F]) (λh=>by rw[FW _ _ _ (by omega),hend<|by omega]);by_cases G:c<n
  .rw[jN<|by omega];exact t.skip (by rw[zS,y,z]) (by omega)<|by rw[FW _ _ _ (by omega),hend G]
  .rw[GV<|by omega];have:c=n:=(by omega);rw[<-this];exact t
def aiK(a:List Int)(b i f n:Nat)(w:World)(hl:a.length=n)(hn:n<=1000)(jw:b<w.heap.size)(hc:bI w b i a)(N:∀l∈a,0<=l/\l<=126):
  Calls prog 59 #[.slice (some ⟨b,i,none⟩) n f] w λe F=>∃g,e= .returned (.slice (some ⟨g,0,none⟩) n n)/\aY F w.heap.size 3 g n (iv<|Mz a)/\Below w.heap.size w F:=by
 obtain⟨R,hR⟩:=ac<|Mz a;have za:=ah hR;rw[<-hR];clear hR;have ag:=run_make_row' (P:=prog) 31 3 (.int .i64 0) 8 underlying31 Tryz.rL rfl .i64 .i64 n (by omega) (by omega);have Ij:∀(fn:Fn)(first f:Array Value)(w:World),(Instr.makeFunc fn first f).run prog w= .ok (.func fn first f) w:=λ_ _ _ _=>rfl
 have H:Below w.heap.size w (((w.alloc (.cells #[.slice (some ⟨b,i,none⟩) n f] 31)).alloc (.cells (madeCells #[.int .i64 0] n) 3)).alloc (.cells #[.slice (some ⟨w.heap.size+1,0,none⟩) n n] 31)):=(((aA _ _).alloc (au _) _).alloc (by simp) _).alloc (by simp;omega) _;have Y2:Hid (OS (((w.alloc (.cells #[.slice (some ⟨b,i,none⟩) n f] 31)).alloc (.cells (madeCells #[.int .i64 0] n) 3)).alloc (.cells #[.slice (some ⟨w.heap.size+1,0,none⟩) n n] 31)) w w.heap.size (w.heap.size+1+1) (w.heap.size+1) n b i f a<|dX 0++List.replicate (n - 0) 0):=by
  have z1:(w.alloc (.cells #[.slice (some ⟨b,i,none⟩) n f] 31)).heap.size=w.heap.size+1:=by simp
  have z2:((w.alloc (.cells #[.slice (some ⟨b,i,none⟩) n f] 31)).alloc (.cells (madeCells #[.int .i64 0] n) 3)).heap.size=w.heap.size+1+1:=by simp
  refine⟨?_,?_,?_,hc.below H,H⟩
  .have:=aY.made (w:=w.alloc (.cells #[.slice (some ⟨b,i,none⟩) n f] 31)) (B:=w.heap.size) (n:=n) (e:=3) (z:= .int .i64 0) (by simp) (by omega);rw[z1]at this;have e:iv (dX 0++List.replicate (n - 0) 0)=List.replicate n (.int .i64 0):=(by simp[iv,dX]);show World.ownsRow _ _ _ _ _ _ _;rw[e];exact kT this _
  .refine bq ((aA _ _).alloc (au _) _) (bq ((aA _ _).alloc (au _) _) ?_);exact oD
  .rw[<-z2];exact oD
 have G:=ah hl;have K:=ah N;have qU:Hid (∀(l:Int)(W:World),0<=l->Calls prog 96 #[.int .i64 l] W λe F=>e= .returned (.int .i64<|l%2)/\F=W):=λl W h=>C2 l W h
 clear hl N H hc;obtain⟨u,uf⟩:=ac w.heap.size;obtain⟨g,hg⟩:=ac<|w.heap.size+1;obtain⟨t,Z⟩:=ac<|w.heap.size+1+1;go_enter func59,ntmps59;go_wp2;generalize ab:(((w.alloc (.cells #[.slice (some ⟨b,i,none⟩) n f] 31)).alloc (.cells (madeCells #[.int .i64 0] n) 3)).alloc (.cells #[.slice (some ⟨w.heap.size+1,0,none⟩) n n] 31))=W0 at*;have Av:Hid (OS W0 w u t g n b i f a<|dX 0++List.replicate (n - 0) 0):=by rw[uf,Z,hg];exact Y2.out
 rw[<-Z,<-hg,<-uf];have ao:Hid (w.heap.size<=g):=by show _<=_;omega
 clear ab Y2 uf hg Z ag;go_loopg [4,5,14] n (λgk Q ov gw W=>∃(k:Nat)(c j:Int),k<=n/\gk=n - k/\gw= .int .i64 k/\Q= .int .i64 c/\ov= .int .i64 j/\c=kJ (a.take k)/\j=oW (a.take k)/\OS W w u t g n b i f a (dX k++List.replicate (n - k) 0));exact⟨0,0,127,by omega,rfl,rfl,rfl,rfl,by simp[kJ],by simp[oW],Av.out⟩;clear Av;obtain⟨k,c,j,hk,rfl,rfl,rfl,rfl,p,r,o⟩:=hrel;by_cases C:k<n
 .have s:k<a.length:=by rw[G.out];exact C
  have cx:=o.cx;have co:=o.co;have cl:=o.lv k s;have cg:=o.row.cell k C;have fg:=o.row.frozen k;have U:=agy a k s;have V:=anz a k s;have Px:=K.out _ (dG (d:=0) s);rw[<-p]at U;rw[<-r]at V;have ad:=Qr (lv:=a.take k) (λl h=>by have:=(K.out l<|NM h).2;omega);have an:=aeh (lv:=a.take k) (λl h=>(K.out l<|NM h).1);rw[<-p]at ad;rw[<-r]at an;obtain⟨x,hx⟩:=ac<|a.getD k 0;rw[<-hx]at cl U V Px;have D:Hid (OS (wr.setCell ⟨g,k,none⟩ (.int .i64 (k:Int))) w u t g n b i f a<|dX (k+1)++List.replicate (n - (k+1)) 0):=by
   have:=o.set jw k (k:Int);rw[amv n k C]at this;exact this
  have HT:=ah U;have HW:=ah V;have ae:(k:Int)<(n:Int):=by omega
  obtain⟨x0,x1⟩:=Px;have RN:Hid (∀W,Calls prog 96 #[.int .i64 x] W λe F=>e= .returned (.int .i64<|x%2)/\F=W):=λW=>qU.out x W x0
  have h2:x%2=0∨x%2=1:=by omega
  have iO:=ah h2;obtain⟨aw,E⟩:=ac<|x%2;rw[<-E]at RN HW iO;generalize(dX k++List.replicate (n - k) 0).getD k 0=av at*;clear o U V hx p r s h2 E;have HM:=ah HT.out.symm;rcases iO.out with ak|O
  .have HN:Hid (j=oW (a.take<|k+1)):=(by show j=_;rw[HW.out,ai<|by omega]);subst ak;go_wp2_with fail;refine(RN.out _).mono ?_;rintro ev wx ⟨rfl,I⟩;have kF:=I.symm;subst kF;go_wp2;go_roundg (n - (k+1));exact⟨k+1,max c x,j,by omega,rfl,by go_num,rfl,rfl,HM.out,HN.out,D.out⟩;omega
  .have HN:Hid (min j x=oW (a.take<|k+1)):=(by show min j x=_;rw[HW.out,aj O]);subst O;go_wp2_with fail;refine(RN.out _).mono ?_;rintro ev wx ⟨rfl,I⟩;have kF:=I.symm;subst kF;go_wp2;go_roundg (n - (k+1));exact⟨k+1,max c x,min j x,by omega,rfl,by go_num,rfl,rfl,HM.out,HN.out,D.out⟩;omega
 .obtain rfl:k=n:=by omega
  have ae:¬(k:Int)<(k:Int):=by omega
  have e1:a.take k=a:=ku (by rw[G.out];exact au _);rw[e1]at p r;have al:=Qr (lv:=a) (λl h=>by have:=(K.out l h).2;omega);have af:=aeh (lv:=a) (λl h=>(K.out l h).1);rw[<-p]at al;rw[<-r]at af;have D:Hid (OS wr w u t g k b i f a<|fJ a 0 c<|dX k):=by
   have:=o;rw[oK,J8,l5]at this;exact this
  have HR:Hid (R=fJ a (c - j+1).toNat c (dX k)):=by show _=_;rw[za.out,Mz,p,r,G.out]
  clear o p r e1;obtain⟨MW,Vb⟩:=ac wr.heap.size;have X:Hid (OS (wr.alloc (.cells #[.int .i64 c] 3)) w u t g k b i f a (fJ a 0 c<|dX k)/\(wr.alloc (.cells #[.int .i64 c] 3)).heap[MW]? =some (.cells #[.int .i64<|c - (0:Nat)] 3 (0,0))/\MW≠g):=by
   refine⟨D.out.below<|(aA _ _).alloc (au _) _,by rw[Vb,show c - ((0:Nat):Int)=c by omega];exact oD,?_⟩;have:=(D.out.row.lt g rfl).2;omega
  go_wp2;generalize wr.alloc (.cells #[.int .i64 c] 3)=W1 at*;rw[<-Vb];clear Vb D;go_loopg [8] (c - j+1).toNat (λgk tv W=>∃(m J:Nat),m<=(c - j+1).toNat/\gk=(c - j+1).toNat - m/\tv= .pointer (some ⟨J,0,none⟩)/\OS W w u t g k b i f a (fJ a m c<|dX k)/\W.heap[J]? =some (.cells #[.int .i64<|c - m] 3 (0,0))/\J≠g);exact⟨0,MW,by omega,rfl,rfl,X.out.1,X.out.2.1,X.out.2.2⟩;clear X;obtain⟨m,J,hm,rfl,rfl,o,T,am⟩:=hrel;have ct:=az T 0;by_cases C:m<(c - j+1).toNat
  .have S:j<=c - (m:Int):=(by omega);have y:(fJ a m c<|dX k).length=k:=(I8 a m c _ (by rw[zO,G.out])).trans G.out;have QX:Hid (Calls prog 97 #[.int .i64 k,.func (.func 98) #[] #[.pointer<|some ⟨u,0,none⟩,.pointer<|some ⟨J,0,none⟩],.func (.func 99) #[] #[.pointer<|some ⟨t,0,none⟩]] wr λe F=>e= .returned (.tuple #[])/\∃q L,k<=q/\JO w u t g k b i f J a (c - m) (mask (c - m) a) (fJ a m c<|dX k) q L F):=
    Ot k _ _ _ _ _ _ hn (aou w u t g k b i f J a (c - m) _ hn jw G.out y am) (jE func98 (by kernel_rfl)<|by kernel_rfl) (jE func99 (by kernel_rfl)<|by kernel_rfl) _ wr ⟨o,T,by rw[Kf];exact nT.start _ _⟩
   have cx:=o.cx;have QH:Hid ((mask (c - m) a).length=(fJ a m c<|dX k).length/\(fJ a m c<|dX k).length=k):=⟨by rw[zS,G.out,y],y⟩
   have tJ:Hid (fJ a (m+1) c (dX k)=eO (mask (c - m) a) (fJ a m c<|dX k) []):=Qu _ _ _ _;generalize fJ a m c (dX k)=A at*;obtain⟨v,Q⟩:=ac<|c - (m:Int);have RU:=ah Q;have aq:0<=v:=(by omega);have ar:v<=1000:=(by omega);rw[<-Q]at ct S QX QH tJ;clear o T y Q;go_wp2_with fail;refine QX.out.mono ?_;rintro ev W2 ⟨rfl,q,L,hq,Y,qz,Ud⟩;rw[GV hq]at Ud;have M:=Ud.stop QH.out.1 (by rw[QH.out.2];exact au _);rw[M,<-tJ.out]at Y;have ap:=az qz 0;have D:=ah Y;have aa:Hid (g<W2.heap.size):=(Y.row.lt g rfl).2;clear QX Y qz Ud M cx ct hq;go_wp2;go_roundg ((c - j+1).toNat - (m+1));exact⟨m+1,W2.heap.size,by omega,rfl,rfl,D.out.below<|(aA _ _).alloc (au _) _,by rw[show c - ((m+1:Nat):Int)=v - 1 by have:=RU.out;omega];exact oD,by have:=aa.out;omega⟩;omega
  .have S:¬j<=c - (m:Int):=(by omega);obtain rfl:m=(c - j+1).toNat:=(by omega);have co:=o.co;have HF:Hid (aY wr w.heap.size 3 g k (iv R)/\Below w.heap.size w wr):=⟨by rw[HR.out];exact o.row,o.hb⟩
   clear o T;generalize c - (((c - j+1).toNat:Nat):Int)=v at*;generalize fJ a (c - j+1).toNat c (dX k)=A at*;go_wp2;go_ret;exact⟨g,rfl,HF.out.1,HF.out.2⟩
def tU(a:Int)(b:List aV):Prop:=∀e∈b,a<=e.l
def tU.app {a:Int}{c:List aV}{e:aV}(h:tU a c)(d:a<=e.l):tU a (c++[e]):=λy b=>by
 rcases jL.1 b with b|b
 .exact h y b
 .rw[qX.1 b];exact d
def tU.sub {a:Int}{c b:List aV}(h:tU a c)(f:∀e∈b,e∈c):tU a b:=λe d=>h e<|f e d
def tU.pre {a:Int}{x:XS}(h:tU a x.st)(c:Int):tU a (dZ x c).st:=by
 unfold dZ;split
 .unfold jd;split
  .exact h
  .split
   .exact h
   .exact h.sub (WH _)
 .exact h
def tU.post {a:Int}{x:XS}(h:tU a x.st)(f:x.st≠[])(k:List Int)(i:Nat)(c:Int):tU a (fA k i x c).st:=by
 have q:a<=(aS x.st).l:=h _ (Qq f);have g:∀b,a<=gz (aS x.st).l b:=λb=>by have:=V4 (aS x.st).l b;omega
 have d:∀b,tU a (jr x b).st:=λb=>by
  unfold jr;simp only;split
  .exact h.app (g _)
  .exact h
 unfold fA;split
 .unfold jF;simp only;generalize(if c=15 then(0:Int)else if c=16 then 1 else -1)=o at*;generalize p:gz (aS x.st).l _=n;have j:a<=n:=by rw[<-p];exact g _
  split
  .exact h.app j
  .split<;>exact h
 .split
  .exact d _
  .split
   .exact d _
   .split
    .exact d _
    .split
     .unfold ko;split
      .exact h
      .split
       .exact h
       .split
        .exact h.sub λe m=>ZI _ m
        .exact h
     .exact h
def ag1(b:List Int)(a:Int)(d:0<=a/\a<=125):∀i,tU a (eP b a i).st
 |0=>by intro e c;rw[eP]at c;rw[qX.1 c];exact Nw _
 |i+1=>by rw[eP];exact((ag1 b a d i).pre _).post ((yT b a d i).pre _).ne b i _
def aha(b:List Int)(a:Int)(c:0<=a/\a<=125)(i:Nat):a<=(iq b a i).l:=
 ((ag1 b a c i).pre _) _ (Qq ((yT b a c i).pre _).ne)
def Eh {P:Int->Prop}{b:Int}(g:P b):∀(d e:List Int)(a:Int),P a->(∀o∈e,P o)->∀x∈mV b a d e,P x
 |[],_,_,_,_,x,hx=>by cases hx
 |_::_,[],_,_,_,x,hx=>by cases hx
 |c::d,o::e,a,hv,ho,x,hx=>by
  have f:P (if pS c d=true then b else if bV c=false then a else o):=by
   split
   .exact g
   .split
    .exact hv
    .exact ho o (by simp)
  rw[mV]at hx;rcases fW.1 hx with rfl|hx
  .exact f
  .exact Eh g d e _ f (λy h=>ho y<|by simp[h]) x hx
def amw {c l:Int}(a:0<=l)(h:l<=125):l<=nX c l/\nX c l<=126:=by
 unfold nX;split
 .split
  .omega
  .split<;>omega
 .split<;>omega
def ann {cs:List Int}(e:∀c∈cs,0<=c/\c<=21)(m:List Int)(d:Int)(b:0<=gX cs d/\gX cs d<=125):∀x∈gV m cs d,gX cs d<=x/\x<=126:=by
 unfold gV;generalize gX cs d=a at*;refine Eh (P:=λx=>a<=x/\x<=126) (by omega) _ _ _ (by omega) ?_;refine Xj (P:=λx=>a<=x/\x<=126) _ _ (λx hx=> ?_) λo j=> ?_
 .obtain⟨s,k,hx⟩:=GQ.1 hx;obtain⟨_,_,_,_,f⟩:=Qk e b k;obtain⟨g,n,_⟩:=agD hx;obtain⟨h,p⟩:=f _ g;have q:(bh cs a).getD x.1 0=(iq cs a x.1).l:=by rw[bh,Ga _ _ _ _ h]
  have r:=QC cs a b x.1;have t:=aha cs a b x.1;have:=amw (c:=x.2.2) (l:=x.2.1) (by omega) (by omega);omega
 .obtain⟨i,_,rfl⟩:=jM.1 (show o∈(List.range cs.length).map λi=>(iq cs a i).l from j);have:=QC cs a b i;have:=aha cs a b i;omega
def Wn(a:List Int):(nA a).length=a.length:=I8 _ _ _ _ (zO _)
def aop(a:List Int):(nA a).Perm (dX a.length):=XL _ _ _ _ (zO _)
