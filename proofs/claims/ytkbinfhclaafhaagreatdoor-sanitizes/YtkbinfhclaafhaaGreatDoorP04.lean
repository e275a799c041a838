import Derived.Test.YtkbinfhclaafhaaGreatDoorP03
namespace Go.Proofs.YtkbinfhclaafhaaGreatDoor
open Go.RowKit
open Go.Proofs.Tryz
set_option maxRecDepth 100000
set_option maxHeartbeats 32000000
set_option linter.all false
def lq(a:List Bool)(p:Nat):Bool:=a.getD p false
structure AG(lv:List Int)(lf:List Bool)(i:Nat)(x:List (List Nat)×List Nat):Prop where
 flat:x.1.flatten++x.2=(List.range i).filter (lq lf)
 ne:∀r∈x.1,r≠[]
 lvl:∀r∈x.1,∀p∈r,lv.getD p 0=lv.getD (r.headD 0) 0
 cur:∀p∈x.2,lv.getD p 0=lv.getD (x.2.headD 0) 0
def AG.start(b:List Int)(a:List Bool):AG b a 0 ([],[]):=⟨rfl,by simp,by simp,by simp⟩
def AG.step {e:List Int}{f:List Bool}{i:Nat}{x:List (List Nat)×List Nat}(h:AG e f i x):AG e f (i+1) (Gc e f i x):=by
 obtain⟨j,k,m,n⟩:=h;unfold Gc;split
 .rename_i q;refine⟨?_,k,m,n⟩;rw[j,J7,rW,rX,GM,lq,q];simp
 .rename_i q;have d:lq f i=true:=by simpa [lq]using q
  split
  .rename_i o;refine⟨?_,?_,?_,by simp⟩
   .simp only[List.flatten_append,Ax,List.flatten_nil,l5];rw[j,J7,rW,rX,GM,d];rfl
   .intro r b;rcases jL.1 b with b|b
    .exact k r b
    .simp at b;subst b;exact o.1
   .intro r b;rcases jL.1 b with b|b
    .exact m r b
    .simp at b;subst b;exact n
  .rename_i o;refine⟨?_,k,m,?_⟩
   .simp only;rw[<-dO,j,J7,rW,rX,GM,d];rfl
   .simp only;by_cases hx:x.2=[]
    .rw[hx];simp
    .have s:(x.2++[i]).headD 0=x.2.headD 0:=by cases hx2:x.2 with
      |nil=>exact absurd hx2 hx
      |cons a l=>rfl
     rw[s];intro p c;rcases jL.1 c with c|c
     .exact n p c
     .simp at c;subst c;rcases Decidable.em (e.getD (x.2.headD 0) 0=e.getD p 0)with g|g
      .exact g.symm
      .exact absurd ⟨hx,g⟩ o
def afT {b:List Int}{a:List Bool}:∀n i x,AG b a i x->∃y,AG b a (i+n) y/\yE b a n i x=vG y
 |0,i,x,h=>⟨x,h,rfl⟩
 |n+1,i,x,h=>by
  obtain⟨y,c,d⟩:=afT n (i+1) _ h.step;exact⟨y,by rw[show i+(n+1)=i+1+n by omega];exact c,by rw[yE];exact d⟩
def zY(c:List Int)(d:List Bool):(cZ c d).flatten=(List.range c.length).filter (lq d)/\(∀r∈cZ c d,r≠[])/\∀r∈cZ c d,∀p∈r,c.getD p 0=c.getD (r.headD 0) 0:=by
 obtain⟨y,b,f⟩:=afT c.length 0 ([],[])<|AG.start c d;unfold cZ;rw[f];unfold vG;rw[fZ]at b;split
 .rename_i e;refine⟨?_,b.ne,b.lvl⟩;have:=b.flat;rw[e,l5]at this;exact this
 .rename_i e;refine⟨?_,?_,?_⟩
  .rw[<-b.flat];simp
  .intro r a;rcases jL.1 a with a|a
   .exact b.ne r a
   .simp at a;subst a;exact e
  .intro r a;rcases jL.1 a with a|a
   .exact b.lvl r a
   .simp at a;subst a;exact b.cur
def afU(b:List Int)(a:List Bool):(cZ b a).flatten.Nodup:=by
 rw[(zY b a).1];exact ZG _ ah5
def Qi {b:List Int}{a:List Bool}{r:List Nat}{p:Nat}(d:r∈cZ b a)(c:p∈r):p<b.length/\lq a p=true:=by
 have:p∈(cZ b a).flatten:=Su.2 ⟨r,d,c⟩;rw[(zY b a).1,tQ,J4]at this;exact this
def jx(nx:Nat->Option Nat):Nat->Nat->Option Nat
 |0,i=>some i
 |a+1,i=>(jx nx a i).bind nx
def ou(nx:Nat->Option Nat):Nat->Nat->List Nat
 |0,i=>[i]
 |f+1,i=>match nx i with
  |none=>[i]
  |some k=>i::ou nx f k
def O6(nx:Nat->Option Nat):∀a i k,nx i=some k->jx nx (a+1) i=jx nx a k
 |0,i,k,h=>by simp[jx,h]
 |a+1,i,k,h=>by rw[jx,O6 nx a i k h,jx]
def PV(nx:Nat->Option Nat):∀f i k,k∈ou nx f i->∃a,jx nx a i=some k
 |0,i,k,h=>by simp[ou]at h;exact⟨0,by simp[jx,h]⟩
 |f+1,i,k,h=>by
  rw[ou]at h;split at h
  .simp at h;exact⟨0,by simp[jx,h]⟩
  .rename_i q c;rcases fW.1 h with h|h
   .exact⟨0,by simp[jx,h]⟩
   .obtain⟨a,b⟩:=PV nx f q k h;exact⟨a+1,by rw[O6 nx a i q c];exact b⟩
section
variable{nx:Nat->Option Nat}(inj:∀i j k,nx i=some k->nx j=some k->i=j)
include inj
def PA:∀a b i j k,jx nx a i=some k->jx nx (a+b) j=some k->jx nx b j=some i
 |0,b,i,j,k,h1,h2=>by simp[jx]at h1;subst h1;rw[fZ]at h2;exact h2
 |a+1,b,i,j,k,h1,h2=>by
  rw[show a+1+b=(a+b)+1 by omega]at h2;rw[jx]at h1 h2;cases h3:jx nx a i with
  |none=>rw[h3]at h1;cases h1
  |some p=>
   cases h4:jx nx (a+b) j with
   |none=>rw[h4]at h2;cases h2
   |some q=>
    rw[h3]at h1;rw[h4]at h2;have:p=q:=inj p q k h1 h2;subst this;exact PA a b i j p h3 h4
omit inj in
def Vy {s:Nat}(a:∀i,nx i≠some s)(b j:Nat)(h:jx nx b j=some s):b=0/\j=s:=by
 cases b with
 |zero=>simp[jx]at h;exact⟨rfl,h⟩
 |succ b=>
  rw[jx]at h;cases h1:jx nx b j with
  |none=>rw[h1]at h;cases h
  |some q=>rw[h1]at h;exact absurd h<|a q
def aoo {s t k:Nat}(l:∀i,nx i≠some s)(m:∀i,nx i≠some t){f g:Nat}(e:k∈ou nx f s)(j:k∈ou nx g t):s=t:=by
 obtain⟨a,c⟩:=PV nx f s k e;obtain⟨b,d⟩:=PV nx g t k j;rcases Nat.le_total a b with h|h
 .have:=PA inj a (b - a) s t k c (by rw[show a+(b - a)=b by omega];exact d);exact(Vy l _ _ this).2.symm
 .have:=PA inj b (a - b) t s k d (by rw[show b+(a - b)=a by omega];exact c);exact(Vy m _ _ this).2
def YG {s:Nat}(d:∀i,nx i≠some s):∀f i c,jx nx c s=some i->(ou nx f i).Nodup
 |0,i,c,h=>by simp[ou]
 |f+1,i,c,h=>by
  rw[ou];split
  .simp
  .rename_i q b;rw[Dr];refine⟨?_,YG d f q (c+1)<|by rw[jx,h];exact b⟩;intro j;obtain⟨a,g⟩:=PV nx f q i j;have e:jx nx (c+(a+1)) s=some i:=by
    have:∀a i q,jx nx c s=some i->nx i=some q->jx nx (c+(a+1)) s=jx nx a q:=by
     intro a
     induction a with
     |zero=>intro i q h b;show(jx nx c s).bind nx=some q;rw[h];exact b
     |succ a ih=>intro i q h b;rw[show c+(a+1+1)=(c+(a+1))+1 by omega,jx,ih i q h b];rfl
    rw[this a i q h b];exact g
   have:=PA inj c (a+1) s s i h e;have:=(Vy d _ _ this).1;omega
def YW(f:Nat):∀(l:List Nat),l.Nodup->(∀s∈l,∀i,nx i≠some s)->(l.flatMap<|ou nx f).Nodup
 |[],_,_=>by simp
 |s::l,hn,hs=>by
  rw[xP,GR];refine⟨YG inj (hs s<|by simp) f s 0 rfl,YW f l (Dr.1 hn).2 (λt c=>hs t<|by simp[c]),?_⟩;intro a g b e d;subst d;obtain⟨t,c,e⟩:=GQ.1 e;have:=aoo inj (hs s<|by simp) (hs t<|by simp[c]) g e;subst this;exact(Dr.1 hn).1 c
end
def Tryz.amF:(prog.info? 194).map (λi=>(i.zero,i.size,i.bytes))=some (some (.agg #[.int .i64 0,.int .i64 0]),2,16):=by kernel_rfl
def ajg(r:Int):(dV r).1=0∨(dV r).1=1∨(dV r).1=2:=by
 unfold dV;split
 .exact .inr (.inl rfl)
 .split
  .exact .inr (.inr rfl)
  .split
   .exact .inr (.inr rfl)
   .split
    .exact .inr (.inr rfl)
    .split
     .exact .inr (.inr rfl)
     .exact .inl rfl
def Wt:∀(l:List<|Nat×Nat)(k:Nat),k<l.length->(fU l)[k*2]? =some (.int .i64 ((l.getD k (0,0)).1:Nat))/\(fU l)[k*2+1]? =some (.int .i64 ((l.getD k (0,0)).2:Nat))
 |[],k,h=>by simp at h
 |p::l,0,_=>by simp[fU]
 |p::l,k+1,h=>by
  have ih:=Wt l k (by simpa using h);have e:fU (p::l)=[.int .i64 (p.1:Nat),.int .i64 (p.2:Nat)]++fU l:=by simp[fU]
  rw[e,rY<|by simp;omega,rY<|by simp;omega];simp only[eJ,jZ,NA];rw[show(k+1)*2 - (0+1+1)=k*2 by omega,show(k+1)*2+1 - (0+1+1)=k*2+1 by omega];exact ih
def Wq {w:World}{B g a L:Nat}{l:List (Nat×Nat)}{e:TypeId}(h:w.ownsRow B e 2 (.slice (some ⟨g,0,none⟩) L a) L<|fU l)(k:Nat)(b:k<L):w.cell? ⟨g,k*2,none⟩=some (.int .i64 ((l.getD k (0,0)).1:Nat)):=by
 have c:l.length=L:=by have:=h.1;rw[aeW]at this;omega
 rw[di h (k*2)<|by omega];exact(Wt l k<|by omega).1
def Ws {w:World}{B g a L:Nat}{l:List (Nat×Nat)}{e:TypeId}(h:w.ownsRow B e 2 (.slice (some ⟨g,0,none⟩) L a) L<|fU l)(k:Nat)(b:k<L):w.cell? ⟨g,k*2+1,none⟩=some (.int .i64 ((l.getD k (0,0)).2:Nat)):=by
 have c:l.length=L:=by have:=h.1;rw[aeW]at this;omega
 rw[di h (k*2+1)<|by omega];exact(Wt l k<|by omega).2
def Wu:∀(l:List<|Nat×Nat)(k:Nat)(p:Nat×Nat),((fU l).set (k*2) (.int .i64 (p.1:Nat))).set (k*2+1) (.int .i64 (p.2:Nat))=fU (l.set k p)
 |[],k,p=>by simp[fU]
 |a::l,0,p=>by simp[fU]
 |a::l,k+1,p=>by
  have ih:=Wu l k p;have e:∀l:List<|Nat×Nat,fU (a::l)= .int .i64 (a.1:Nat):: .int .i64 (a.2:Nat)::fU l:=λl=>by simp[fU]
  rw[aid,e,e,<-ih,show(k+1)*2=k*2+1+1 by omega];simp only[aid]
def aoK {n w:World}{B g f L:Nat}{l:List (Nat×Nat)}(h:w.ownsRow B 194 2 (.slice (some ⟨g,0,none⟩) L f) L<|fU l)(v:Below B n w)(i:B<=g)(q a b c d:Nat)(o:Obj)(u:(a,b)=l.getD (q+1) (0,0))(m:(c,d)=l.getD q (0,0)):
  Below B n (((((w.setCell ⟨g,(q+1)*2,none⟩ (.int .i64 (c:Nat))).setCell ⟨g,(q+1)*2+1,none⟩ (.int .i64 (d:Nat))).setCell ⟨g,q*2,none⟩ (.int .i64 (a:Nat))).setCell ⟨g,q*2+1,none⟩ (.int .i64 (b:Nat))).alloc o)/\
  (((((w.setCell ⟨g,(q+1)*2,none⟩ (.int .i64 (c:Nat))).setCell ⟨g,(q+1)*2+1,none⟩ (.int .i64 (d:Nat))).setCell ⟨g,q*2,none⟩ (.int .i64 (a:Nat))).setCell ⟨g,q*2+1,none⟩ (.int .i64 (b:Nat))).alloc o).ownsRow B 194 2 (.slice (some ⟨g,0,none⟩) L f) L (fU<|swp l<|q+1):=by
 have r:=(Ck h ((q+1)*2) (.int .i64 (c:Nat))).1;have s:=(Ck r ((q+1)*2+1) (.int .i64 (d:Nat))).1;have t:=(Ck s (q*2) (.int .i64 (a:Nat))).1;have j:=(Ck t (q*2+1) (.int .i64 (b:Nat))).1;have e:swp l (q+1)=(l.set (q+1) (c,d)).set q (a,b):=by rw[u,m];rfl
 rw[Wu l (q+1) (c,d),Wu _ q (a,b),<-e]at j;have k:=(((v.setCell (p:=⟨g,(q+1)*2,none⟩) i (.int .i64 (c:Nat))).setCell (p:=⟨g,(q+1)*2+1,none⟩) i (.int .i64 (d:Nat))).setCell (p:=⟨g,q*2,none⟩) i (.int .i64 (a:Nat))).setCell (p:=⟨g,q*2+1,none⟩) i (.int .i64 (b:Nat));exact⟨k.alloc (gF<|Nat.lt_of_le_of_lt i (j.lt g rfl).2) o,j.alloc o⟩
def TQ {l:List Nat}{i:Nat}(h:i<l.length):l.getD i 0∈l:=by
 rw[aO,aM h];exact pF h
def MC {t a:List Int}{n k:Nat}{x y:List Nat×List (Nat×Nat)}(c:k<n)(b:o6 t a k x=some y):dL t a (n - k) k x=dL t a (n - (k+1)) (k+1) y:=by
 rw[show n - k=(n - (k+1))+1 by omega,dL,b]
def aoA {t a:List Int}{n k:Nat}{x:List Nat×List (Nat×Nat)}(c:k<n)(b:o6 t a k x=none):dL t a (n - k) k x=none:=by
 rw[show n - k=(n - (k+1))+1 by omega,dL,b]
def aoC {t b:List Int}{k:Nat}{x:List Nat×List (Nat×Nat)}{c a d:Int}(f:t.getD k 0=c)(e:dV (b.getD k 0)=(a,d)):o6 t b k x=if c=12 then(if a=1 then(if x.1.length=63 then none else some (x.1++[k],x.2))else if a=2 then(match mL b d x.1 x.1.length with
   |some m=>some (x.1.take m,x.2++[(x.1.getD m 0,k)])
   |none=>some x)else some x)else some x:=by unfold o6;rw[f,e];rfl
def aoJ(t d:List Int)(n gt ot ct gr ay cr:Nat)(w:World)(ht:t.length=n)(hr:d.length=n)(hn:n<=100000)(ax:bI w gt ot t)(CG:bI w gr ay d)(av:gt<w.heap.size)(ar:gr<w.heap.size):
  Calls prog 125 #[.slice (some ⟨gt,ot,none⟩) n ct,.slice (some ⟨gr,ay,none⟩) n cr] w λev w'=>∃(v:Value)(ps:List<|Nat×Nat),ev= .returned v/\lH t d ps/\ps.length<=n/\Below w.heap.size w w'/\w'.ownsRow w.heap.size 194 2 v ps.length (fU ps):=by
 obtain⟨iI,fP,fQ,fR,fS⟩:=gu Tryz.rL;obtain⟨iP,aK,L6,L8,L9⟩:=gu Tryz.amF;have aD:=ah ax;have Zn:=ah CG;have aA:=ah ht;have YO:=ah hr;have HB:Hid (gt<w.heap.size/\gr<w.heap.size):=⟨av,ar⟩
 obtain⟨P,hP⟩:=ac<|dL t d n 0 ([],[]);have HP:Hid (P=dL t d t.length 0 ([],[])):=by rw[ht];exact hP
 have JG:=ah hP;clear ax CG ht hr av ar hP;go_enter func125,ntmps125;go_wp2;go_loopg [5,6,7] n (λgk sv ov iv wr=>∃(k:Nat)(x:List Nat×List (Nat×Nat)),k<=n/\gk=n - k/\iv= .int .i64 k/\rq w wr w.heap.size sv ov x/\kR k x/\P=dL t d (n - k) k x);exact⟨0,([],[]),by omega,rfl,rfl,rq.start w,kR.start,JG.out⟩;clear JG;obtain⟨k,x,hk,rfl,rfl,hS,F,hF⟩:=hrel;obtain⟨sa,W,rfl⟩:=eH hS.st;obtain⟨G,H,rfl⟩:=eH hS.out;have Y:=ah hS;have Q:=ah F;have I:=ah hF;have aV:x.1.length<=63:=F.len;have aL:x.2.length<=k:=F.few;clear hS F hF;by_cases e:k<n
 .have ap:=Zn.out.stay Y.out.below HB.out.2 k (by rw[YO.out];exact e);generalize zJ:d.getD k 0=rk at ap;obtain⟨bk,s,Fx⟩:∃bk s,dV rk=(bk,s):=⟨_,_,rfl⟩
  have az:=ah Fx;have Yq:Hid (dV (d.getD k 0)=(bk,s)):=by rw[zJ];exact Fx
  have UL:=ajg rk;rw[Fx]at UL;simp only at UL;clear Fx zJ;go_wp2_with fail;refine(zF rk _).mono ?_;rintro ev w1 ⟨rfl,am⟩;rw[az.out];simp only;have E:=ah<|Y.out.call am;have aq:=aD.out.stay E.out.below HB.out.1 k (by rw[aA.out];exact e);clear am ap Y;generalize an:t.getD k 0=c at aq;have u:=aoC (x:=x) an Yq.out;clear an Yq;by_cases A:c=12
  .subst A;rw[aj rfl]at u;rcases UL with rfl|rfl|rfl
   .have h:Hid (P=dL t d (n - (k+1)) (k+1) x):=by
     show _=_;rw[I.out];exact MC e<|by rw[u];rfl
    clear u;go_wp2;go_roundg (n - (k+1));exact⟨k+1,x,by omega,rfl,by simp,E.out,Q.out.more,h.out⟩;omega
   .rw[aj rfl]at u;by_cases R:x.1.length=63
    .have h:Hid (P=none):=by
      show _=_;rw[I.out];exact aoA e<|by rw[u,aj R]
     have aM:((x.1.length:Int)==63)=true:=(by simp;omega);clear u;go_wp2;refine cI (v:= .slice none 0 0) (by simp[results,results125,go_sem]) rfl ⟨.slice none 0 0,[],rfl,?_,by simp,E.out.below,rfl,.inl ⟨rfl,rfl⟩⟩;unfold lH;rw[<-HP.out,h.out]
    .have h:Hid (P=dL t d (n - (k+1)) (k+1) (x.1++[k],x.2)):=by
      show _=_;rw[I.out];exact MC e<|by rw[u,ai R]
     have aM:((x.1.length:Int)==63)=false:=(by simp;omega);have bL:=ah<|Q.out.push R;clear u;have f:=E.out.st;have S:=E.out.base;go_wp2_with(at_builtin;refine qK _ rfl _ _ 31 rfl w.heap.size 3 iI (.int .i64 0) 8 underlying31 fP fQ fR fS rfl (by decide) _ _ _ rfl f _ _ rfl rfl (by omega) S ?_);intro v' X cK bU;have fH:=ah<|E.out.push cK bU;clear cK bU f;go_wp2;go_roundg (n - (k+1));exact⟨k+1,_,by omega,rfl,by simp,fH.out,bL.out,h.out⟩;omega
   .rw[ai<|by decide,aj rfl]at u;have ad:=ah u;clear u;go_wp2;go_loopg [5,6,10] x.1.length (λgk sv ov jv wj=>∃m:Nat,m<=x.1.length/\m=gk/\sv= .slice sa x.1.length W/\ov= .slice G x.2.length H/\jv= .int .i64 ((m:Int) - 1)/\rq w wj w.heap.size (.slice sa x.1.length W) (.slice G x.2.length H) x/\mL d s x.1 x.1.length=mL d s x.1 m);exact⟨x.1.length,au _,rfl,rfl,rfl,by simp,E.out,rfl⟩;clear E aq;obtain⟨m,hm,rfl,rfl,rfl,rfl,ag,hM⟩:=hrel;have JM:=ah ag;have HM:=ah hM;clear ag hM;cases m with
    |zero=>
     have h:Hid (P=dL t d (n - (k+1)) (k+1) x):=by
      show _=_;rw[I.out];refine MC e ?_;rw[ad.out,HM.out];rfl
     go_wp2;go_roundg (n - (k+1));exact⟨k+1,x,by omega,rfl,by simp,JM.out,Q.out.more,h.out⟩;omega
    |succ m=>
     obtain⟨g,O,hv,ao,uY,_⟩:=gI JM.out.st (by omega);obtain⟨U,V⟩:sa=some ⟨g,0,none⟩/\W=O:=(by simpa using hv);clear hv;subst U;subst V;have B:m<x.1.length:=(by omega);have T:=jk JM.out.st m (by rw[gW];exact B);rw[oh _ _ B]at T;have A8:x.1.getD m 0<k:=Q.out.st _ (TQ B);have EU:Hid (mL d s x.1 (m+1)=if(dV<|d.getD (x.1.getD m 0) 0).2=s then some m else mL d s x.1 m):=rfl;have aB:=ah<|Q.out.pop B;have BU:Hid (∀(X:World)(v':Value)(w2:World),rq w w2 w.heap.size (.slice (some ⟨g,0,none⟩) x.1.length W) (.slice G x.2.length H) x->X.ownsRow w.heap.size 194 2 v' (x.2.length+1) (fU x.2++[.int .i64 (x.1.getD m 0:Nat),.int .i64 (k:Nat)])->w2.grownBy X (Value.slice G x.2.length H).ownBlock->rq w X w.heap.size (.slice (some ⟨g,0,none⟩) m W) v' (x.1.take m,x.2++[(x.1.getD m 0,k)])):=λX v' w2 J h2 h3=>J.pair B h2 h3
     have aC:Hid (mL d s x.1 x.1.length=some m->P=dL t d (n - (k+1)) (k+1) (x.1.take m,x.2++[(x.1.getD m 0,k)])):=by
      intro hh;rw[I.out];refine MC e ?_;rw[ad.out,hh]
     generalize x.1.getD m 0=aa at*;have af:=Zn.out.stay JM.out.below HB.out.2 aa (by rw[YO.out];omega);generalize d.getD aa 0=ra at af EU;obtain⟨b2,o2,r⟩:∃b2 o2,dV ra=(b2,o2):=⟨_,_,rfl⟩
     rw[r]at EU;have aI:=ah r;clear r;rw[show((m+1:Nat):Int) - 1=(m:Int)by omega];have aR:aa<n:=(by omega);go_wp2_with fail;refine(zF ra _).mono ?_;rintro ev w2 ⟨rfl,r⟩;rw[aI.out];simp only;have Nq:=ah<|JM.out.call r;have aO:w2.cell? ⟨g,m,none⟩=some (.int .i64 (aa:Nat)):=(by rw[r.cell (p:=⟨g,m,none⟩) uY];exact T);clear r T af;by_cases Z:o2=s
     .have aN:(o2==s)=true:=(by simpa using Z);have h:Hid (P=dL t d (n - (k+1)) (k+1) (x.1.take m,x.2++[(aa,k)])):=aC.out (by rw[HM.out,EU.out,aj Z]);clear Z;have f:=Nq.out.out;have S:=Nq.out.base;go_wp2_with(at_builtin;refine agY _ rfl _ _ 190 rfl w.heap.size 194 iP (.agg #[.int .i64 0,.int .i64 0]) 16 underlying190 aK L6 L8 L9 rfl (by decide) _ _ _ rfl f _ _ _ _ rfl (by simp) rfl rfl (by omega) S ?_);intro v' X cK bU;have fH:=ah<|BU.out X v' w2 Nq.out cK bU;clear cK bU f;have aP:0<W:=(by omega);have aU:m<=W:=(by omega);go_wp2;go_roundg (n - (k+1));exact⟨k+1,_,by omega,rfl,by simp,fH.out,aB.out,h.out⟩;omega
     .have aN:(o2==s)=false:=(by simpa using Z);have h:Hid (mL d s x.1 x.1.length=mL d s x.1 m):=by
       show _=_;rw[HM.out,EU.out,ai Z]
      clear Z;go_wp2;go_roundg m;exact⟨m,by omega,rfl,rfl,rfl,by simp,Nq.out,h.out⟩;omega
  .rw[ai A]at u;have aW:=ae A;have aQ:(c !=12)=true:=(by simpa using A);have h:Hid (P=dL t d (n - (k+1)) (k+1) x):=by
    show _=_;rw[I.out];exact MC e u
   clear u A;go_wp2;go_roundg (n - (k+1));exact⟨k+1,x,by omega,rfl,by simp,E.out,Q.out.more,h.out⟩;omega
 .obtain rfl:k=n:=by omega
  have h:Hid (P=some x.2):=by
   show _=_;rw[I.out,oK];rfl
  clear e;have ab:Hid (∀l:List<|Nat×Nat,AH x.2 l x.2.length->l.length=x.2.length->lH t d l):=by
   intro l J h2;unfold lH;rw[<-HP.out,h.out];exact J.done<|by omega
  obtain⟨L,hL⟩:=ac x.2.length;have JW:Hid (wr.ownsRow w.heap.size 194 2 (.slice G L H) L<|fU x.2):=by rw[hL];exact Y.out.out
  have C:=ah Y.out.below;have Di:=ah hL.symm;have aH:L<=k:=by omega
  rw[<-hL]at ab ⊢;clear hL aL Y I Q;go_wp2;go_loopg [13] (L - 1) (λgk iv ws=>∃(i:Nat)(l:List<|Nat×Nat),1<=i/\(i<=L∨i=1)/\gk=L - i/\iv= .int .i64 i/\Below w.heap.size w ws/\ws.ownsRow w.heap.size 194 2 (.slice G L H) L (fU l)/\AH x.2 l i/\l.length=L);exact⟨1,x.2,by omega,.inr rfl,rfl,rfl,C.out,JW.out,⟨Sh _,λa b J h2=>by omega⟩,Di.out⟩;clear JW C;obtain⟨i,l,aS,aT,rfl,rfl,o,y,ak,K⟩:=hrel;have C:=ah o;have N:=ah y;have EW:=ah ak;have D:=ah K;clear o y ak K;by_cases e:i<L
  .go_wp2;go_loopg [14] i (λgk kv ws=>∃(p:Nat)(l:List<|Nat×Nat),p<=i/\p=gk/\kv= .int .i64 p/\Below w.heap.size w ws/\ws.ownsRow w.heap.size 194 2 (.slice G L H) L (fU l)/\Dw x.2 l i p/\l.length=L);exact⟨i,l,by omega,rfl,rfl,C.out,N.out,EW.out.sink,D.out⟩;clear C N EW D;obtain⟨p,z,hp,rfl,rfl,o,y,M,K⟩:=hrel;have C:=ah o;have N:=ah y;have Dl:=ah M;have D:=ah K;cases p with
   |zero=>
    have qU:Hid (AH x.2 z<|i+1):=M.done (.inl rfl);clear o y M K;go_wp2;go_region;go_wp2;go_roundg (L - (i+1));exact⟨i+1,z,by omega,.inl<|by omega,rfl,by simp,C.out.drew,N.out,qU.out,D.out⟩;omega
   |succ q=>
    obtain⟨g,O,hv,ao,uY,aJ⟩:=gI y (by omega);obtain⟨U,V⟩:G=some ⟨g,0,none⟩/\H=O:=(by simpa using hv);clear hv;subst U;subst V;obtain⟨⟨a0,a1⟩,hA⟩:∃a:Nat×Nat,a=z.getD (q+1) (0,0):=⟨_,rfl⟩
    obtain⟨⟨b0,b1⟩,KN⟩:∃a:Nat×Nat,a=z.getD q (0,0):=⟨_,rfl⟩
    have Kq:=Wq y (q+1) (by omega);have aE:=Ws y (q+1) (by omega);have aF:=Wq y q (by omega);have aG:=Ws y q (by omega);rw[<-hA]at Kq aE;rw[<-KN]at aF aG;have O9:key z (q+1)=a0:=(by unfold key;rw[<-hA]);have Pb:key z q=b0:=(by unfold key;rw[<-KN]);have fr:=λj=>Dx y j
    by_cases al:a0<b0
    .have RM:Hid (Dw x.2 (swp z<|q+1) i q):=M.swp (by omega) (by omega) (by rw[lJ,O9,Pb];exact al);have HA:Hid ((a0,a1)=z.getD (q+1) (0,0)/\(b0,b1)=z.getD q (0,0)):=⟨hA,KN⟩
     clear o y M K hA KN O9 Pb;go_wp2;go_region;go_wp2;go_roundg q;case measure=>omega
     case rel=>
      obtain⟨J,h2⟩:=HA.out;have aw:=aoK N.out C.out aJ q a0 a1 b0 b1 (.cells #[.int .i64 a0,.int .i64 a1] 194) J h2;exact⟨q,swp z<|q+1,by omega,rfl,by simp,aw.1.drew,aw.2,RM.out,by rw[aro];exact D.out⟩
    .have qU:Hid (AH x.2 z<|i+1):=M.done (.inr<|by rw[lJ,O9,Pb];exact al);clear o y M K hA KN O9 Pb;go_wp2;go_region;go_wp2;go_roundg (L - (i+1));exact⟨i+1,z,by omega,.inl<|by omega,rfl,by simp,C.out.drew,N.out,qU.out,D.out⟩;omega
  .have HV:Hid (AH x.2 l L):=⟨EW.out.1,λa b J h2=>EW.out.2 a b J<|by omega⟩
   go_wp2;refine cI (v:= .slice G L H) (by simp[results,results125,go_sem]) rfl ⟨_,l,rfl,ab.out l HV.out D.out,by rw[D.out];exact aH,C.out,?_⟩;rw[D.out];exact N.out
def anX(t:List Int)(l I e:Int)(B g n D:Nat)(w:World)(hr:bu w B g n D t)(hn:n<=100000):
  Calls prog 127 #[.slice (some ⟨g,0,none⟩) n D,.int .i64 l,.int .i64 I,.int .i64 e] w λQ w'=>Q= .returned (.tuple #[])/\bu w' B g n D (Eb l I e t)/\w.grownBy w' (some g):=by
 have HR:=ah hr;have W:=ah hr.len;clear hr;go_enter func127,ntmps127;go_wp2;go_loopg [9] n (λgk i wr=>∃(k:Nat)(s:Int)(u:List Int),k<=n/\gk=n - k/\i= .int .i64 k/\bu wr B g n D u/\w.grownBy wr (some g)/\aZ (fN I e) gN l t k s u/\Ah t u l k s);exact⟨0,l,t,by omega,rfl,rfl,HR.out,jO _ _,aZ.start _ _ _ _,.inl ⟨rfl,rfl⟩⟩;clear HR;obtain⟨k,s,u,hk,rfl,rfl,hI,hG,hN,hA⟩:=hrel;have O:=ah hI;have U:=ah hG;have P:=ah hN;have HA:=ah hA;clear hI hG hN hA;by_cases aa:k<n
 .go_wp2;go_loopg [10] (n - k) (λgk jv wj=>∃j:Nat,k<=j/\j<=n/\gk=n - j/\jv= .int .i64 j/\wj=wr/\∀q,k<=q->q<j->bD (t.getD q 0)<0);exact⟨k,by omega,by omega,rfl,rfl,rfl,λq C h2=>by omega⟩;obtain⟨j,ab,ad,rfl,rfl,hw,b⟩:=hrel;subst hw;by_cases ve:j<n
  .have Cy:=O.out.cell j ve;rw[P.out.at j ab]at Cy;obtain⟨c,hx⟩:=ac<|t.getD j 0;rw[<-hx]at Cy;obtain⟨V,G⟩:=ac<|bD c;have xM:=ah G;have JW:=ah hx;by_cases h5:V<0
   .have kN:Hid (∀q,k<=q->q<j+1->bD (t.getD q 0)<0):=by
     intro q C h2;rcases cP q j with h|h
     .exact b q C h
     .rw[show q=j by omega,<-hx,<-G];exact h5
    clear b hx G;go_wp2_with fail;refine(uA c _).mono ?_;rintro Q _ ⟨rfl,rfl⟩;rw[<-xM.out];go_wp2;go_roundg (n - (j+1));exact⟨j+1,by omega,by omega,rfl,by simp,rfl,kN.out⟩;omega
   .by_cases uU:k<j
    .have K:j<=t.length:=(by rw[W.out];omega);have R:Hid (sZ I (t.drop j)=V):=(by rw[G,hx];exact an9 (by rw[W.out];exact ve)<|by rw[<-hx,<-G];exact h5);have X:Hid (j<t.length->¬bD (t.getD j 0)<0):=(by intro _;rw[<-hx,<-G];exact h5);clear hx G;go_wp2_with fail;refine(uA c _).mono ?_;rintro Q _ ⟨rfl,rfl⟩;rw[<-xM.out];rcases HA.out with⟨T,J⟩|⟨T,J⟩|S
     .subst T;have Y:l=s:=J.symm;subst Y;by_cases f:l=V
      .have Z:(l==V)=true:=(by simpa using f);have A:Hid (aZ (fN I e) gN l t j l (bM u 0 l<|j - 0)/\Ah t (bM u 0 l<|j - 0) l j l):=by
        have C:=CX (d:=l) P.out b K (by rw[R.out,aj f]) (j - 0) (by omega);rw[show 0+(j - 0)=j by omega]at C;exact⟨C,.inr (.inr λh=>by have:=X.out h;omega)⟩
       clear b K f;go_wp2_with fail;refine(uA c _).mono ?_;rintro Q _ ⟨rfl,rfl⟩;rw[<-xM.out];go_wp2;go_loopg [14] (j - 0) (λgk N H=>∃m:Nat,0+m<=j/\gk=j - 0 - m/\N= .int .i64 ((0+m:Nat):Int)/\bu H B g n D (bM u 0 l m)/\w.grownBy H (some g));exact⟨0,by omega,rfl,rfl,O.out,U.out⟩;obtain⟨m,hm,rfl,rfl,o,y⟩:=hrel;have x:=ah o;have F:=ah y;by_cases M:0+m<j
       .have L:=o.frozen (0+m);have E:=o.cell (0+m) (by omega);generalize(bM u 0 l m).getD (0+m) 0=cq at E;clear o y;obtain⟨q,z⟩:=ac (0+m);have v:=ah z;rw[<-z]at L E M ⊢;clear z;go_wp2;go_roundg (j - 0 - (m+1));case measure=>have:=v.out;omega
        case rel=>
         refine⟨m+1,by have:=v.out;omega,rfl,by have:=v.out;simp;omega,?_,?_⟩
         .rw[v.out];exact x.out.set (0+m) l
         .exact F.out.trans (x.out.grown q l)
       .obtain rfl:j=m:=(by omega);clear o y;have r:0+j=j:=(by omega);rw[r];clear r;go_wp2;go_roundg (n - j);exact⟨j,_,_,by omega,rfl,by simp,x.out,F.out,A.out.1,A.out.2⟩;omega
      .have Z:(l==V)=false:=(by simpa using f);have A:Hid (aZ (fN I e) gN l t j l (bM u 0 e<|j - 0)/\Ah t (bM u 0 e<|j - 0) l j l):=by
        have C:=CX (d:=e) P.out b K (by rw[R.out,ai f]) (j - 0) (by omega);rw[show 0+(j - 0)=j by omega]at C;exact⟨C,.inr (.inr λh=>by have:=X.out h;omega)⟩
       clear b K f;go_wp2_with fail;refine(uA c _).mono ?_;rintro Q _ ⟨rfl,rfl⟩;rw[<-xM.out];go_wp2;go_loopg [14] (j - 0) (λgk N H=>∃m:Nat,0+m<=j/\gk=j - 0 - m/\N= .int .i64 ((0+m:Nat):Int)/\bu H B g n D (bM u 0 e m)/\w.grownBy H (some g));exact⟨0,by omega,rfl,rfl,O.out,U.out⟩;obtain⟨m,hm,rfl,rfl,o,y⟩:=hrel;have x:=ah o;have F:=ah y;by_cases M:0+m<j
       .have L:=o.frozen (0+m);have E:=o.cell (0+m) (by omega);generalize(bM u 0 e m).getD (0+m) 0=cq at E;clear o y;obtain⟨q,z⟩:=ac (0+m);have v:=ah z;rw[<-z]at L E M ⊢;clear z;go_wp2;go_roundg (j - 0 - (m+1));case measure=>have:=v.out;omega
        case rel=>
         refine⟨m+1,by have:=v.out;omega,rfl,by have:=v.out;simp;omega,?_,?_⟩
         .rw[v.out];exact x.out.set (0+m) e
         .exact F.out.trans (x.out.grown q e)
       .obtain rfl:j=m:=(by omega);clear o y;have r:0+j=j:=(by omega);rw[r];clear r;go_wp2;go_roundg (n - j);exact⟨j,_,_,by omega,rfl,by simp,x.out,F.out,A.out.1,A.out.2⟩;omega
     .obtain⟨a,rfl⟩:∃a,k=a+1:=⟨k - 1,by omega⟩
      obtain⟨p,hp⟩:=ac<|u.getD a 0;have kj:=O.out.cell a (by omega);rw[<-hp]at kj;have Y:s=bD p:=(by rw[J,lJ,hp]);have JJ:=ah Y;clear hp J Y;by_cases f:s=V
      .have Z:(s==V)=true:=(by simpa using f);have A:Hid (aZ (fN I e) gN l t j s (bM u (a+1) s<|j - (a+1))/\Ah t (bM u (a+1) s<|j - (a+1)) l j s):=by
        have C:=CX (d:=s) P.out b K (by rw[R.out,aj f]) (j - (a+1)) (by omega);rw[show(a+1)+(j - (a+1))=j by omega]at C;exact⟨C,.inr (.inr λh=>by have:=X.out h;omega)⟩
       clear b K f;go_wp2_with fail;refine(uA p _).mono ?_;rintro Q _ ⟨rfl,rfl⟩;rw[<-JJ.out];go_wp2_with fail;refine(uA c _).mono ?_;rintro Q _ ⟨rfl,rfl⟩;rw[<-xM.out];go_wp2;go_loopg [14] (j - (a+1)) (λgk N H=>∃m:Nat,(a+1)+m<=j/\gk=j - (a+1) - m/\N= .int .i64 (((a+1)+m:Nat):Int)/\bu H B g n D (bM u (a+1) s m)/\w.grownBy H (some g));exact⟨0,by omega,rfl,rfl,O.out,U.out⟩;obtain⟨m,hm,rfl,rfl,o,y⟩:=hrel;have x:=ah o;have F:=ah y;by_cases M:(a+1)+m<j
       .have L:=o.frozen<|(a+1)+m;have E:=o.cell ((a+1)+m) (by omega);generalize(bM u (a+1) s m).getD ((a+1)+m) 0=cq at E;clear o y;obtain⟨q,z⟩:=ac<|(a+1)+m;have v:=ah z;rw[<-z]at L E M ⊢;clear z;go_wp2;go_roundg (j - (a+1) - (m+1));case measure=>have:=v.out;omega
        case rel=>
         refine⟨m+1,by have:=v.out;omega,rfl,by have:=v.out;simp;omega,?_,?_⟩
         .rw[v.out];exact x.out.set ((a+1)+m) s
         .exact F.out.trans (x.out.grown q s)
       .obtain rfl:m=j - (a+1):=(by omega);clear o y;have r:(a+1)+(j - (a+1))=j:=(by omega);rw[r];clear r;go_wp2;go_roundg (n - j);exact⟨j,_,_,by omega,rfl,by simp,x.out,F.out,A.out.1,A.out.2⟩;omega
      .have Z:(s==V)=false:=(by simpa using f);have A:Hid (aZ (fN I e) gN l t j s (bM u (a+1) e<|j - (a+1))/\Ah t (bM u (a+1) e<|j - (a+1)) l j s):=by
        have C:=CX (d:=e) P.out b K (by rw[R.out,ai f]) (j - (a+1)) (by omega);rw[show(a+1)+(j - (a+1))=j by omega]at C;exact⟨C,.inr (.inr λh=>by have:=X.out h;omega)⟩
       clear b K f;go_wp2_with fail;refine(uA p _).mono ?_;rintro Q _ ⟨rfl,rfl⟩;rw[<-JJ.out];go_wp2_with fail;refine(uA c _).mono ?_;rintro Q _ ⟨rfl,rfl⟩;rw[<-xM.out];go_wp2;go_loopg [14] (j - (a+1)) (λgk N H=>∃m:Nat,(a+1)+m<=j/\gk=j - (a+1) - m/\N= .int .i64 (((a+1)+m:Nat):Int)/\bu H B g n D (bM u (a+1) e m)/\w.grownBy H (some g));exact⟨0,by omega,rfl,rfl,O.out,U.out⟩;obtain⟨m,hm,rfl,rfl,o,y⟩:=hrel;have x:=ah o;have F:=ah y;by_cases M:(a+1)+m<j
       .have L:=o.frozen<|(a+1)+m;have E:=o.cell ((a+1)+m) (by omega);generalize(bM u (a+1) e m).getD ((a+1)+m) 0=cq at E;clear o y;obtain⟨q,z⟩:=ac<|(a+1)+m;have v:=ah z;rw[<-z]at L E M ⊢;clear z;go_wp2;go_roundg (j - (a+1) - (m+1));case measure=>have:=v.out;omega
        case rel=>
         refine⟨m+1,by have:=v.out;omega,rfl,by have:=v.out;simp;omega,?_,?_⟩
         .rw[v.out];exact x.out.set ((a+1)+m) e
         .exact F.out.trans (x.out.grown q e)
       .obtain rfl:m=j - (a+1):=(by omega);clear o y;have r:(a+1)+(j - (a+1))=j:=(by omega);rw[r];clear r;go_wp2;go_roundg (n - j);exact⟨j,_,_,by omega,rfl,by simp,x.out,F.out,A.out.1,A.out.2⟩;omega
     .exact absurd (b k (au _) uU) (S<|by rw[W.out];exact aa)
    .obtain rfl:j=k:=(by omega);have A:Hid (aZ (fN I e) gN l t (j+1) V u/\Ah t u l (j+1) V):=by
      refine⟨?_,.inr (.inl ⟨by omega,?_⟩)⟩
      .rw[G,hx];exact apW P.out (by rw[W.out];exact ve)<|by rw[<-hx,<-G];exact h5
      .rw[lJ,P.out.at j<|au _,<-hx,G]
     clear hx G b;go_wp2_with fail;refine(uA c _).mono ?_;rintro Q _ ⟨rfl,rfl⟩;rw[<-xM.out];go_wp2;go_roundg (n - (j+1));exact⟨j+1,_,_,by omega,rfl,by simp,O.out,U.out,A.out.1,A.out.2⟩;omega
  .have K:j<=t.length:=(by rw[W.out];omega);have uU:k<j:=(by omega);have R:Hid (sZ I (t.drop j)=I):=aoa (by rw[W.out];exact ve);have X:Hid (j<t.length->¬bD (t.getD j 0)<0):=(by intro h;rw[W.out]at h;exact absurd h ve);rcases HA.out with⟨T,J⟩|⟨T,J⟩|S
   .subst T;have Y:l=s:=J.symm;subst Y;by_cases f:l=I
    .have Z:(l==I)=true:=(by simpa using f);have A:Hid (aZ (fN I e) gN l t j l (bM u 0 l<|j - 0)/\Ah t (bM u 0 l<|j - 0) l j l):=by
      have C:=CX (d:=l) P.out b K (by rw[R.out,aj f]) (j - 0) (by omega);rw[show 0+(j - 0)=j by omega]at C;exact⟨C,.inr (.inr λh=>by have:=X.out h;omega)⟩
     clear b K f;go_wp2;go_loopg [14] (j - 0) (λgk N H=>∃m:Nat,0+m<=j/\gk=j - 0 - m/\N= .int .i64 ((0+m:Nat):Int)/\bu H B g n D (bM u 0 l m)/\w.grownBy H (some g));exact⟨0,by omega,rfl,rfl,O.out,U.out⟩;obtain⟨m,hm,rfl,rfl,o,y⟩:=hrel;have x:=ah o;have F:=ah y;by_cases M:0+m<j
     .have L:=o.frozen (0+m);have E:=o.cell (0+m) (by omega);generalize(bM u 0 l m).getD (0+m) 0=cq at E;clear o y;obtain⟨q,z⟩:=ac (0+m);have v:=ah z;rw[<-z]at L E M ⊢;clear z;go_wp2;go_roundg (j - 0 - (m+1));case measure=>have:=v.out;omega
      case rel=>
       refine⟨m+1,by have:=v.out;omega,rfl,by have:=v.out;simp;omega,?_,?_⟩
       .rw[v.out];exact x.out.set (0+m) l
       .exact F.out.trans (x.out.grown q l)
     .obtain rfl:j=m:=(by omega);clear o y;have r:0+j=j:=(by omega);rw[r];clear r;go_wp2;go_roundg (n - j);exact⟨j,_,_,by omega,rfl,by simp,x.out,F.out,A.out.1,A.out.2⟩;omega
    .have Z:(l==I)=false:=(by simpa using f);have A:Hid (aZ (fN I e) gN l t j l (bM u 0 e<|j - 0)/\Ah t (bM u 0 e<|j - 0) l j l):=by
      have C:=CX (d:=e) P.out b K (by rw[R.out,ai f]) (j - 0) (by omega);rw[show 0+(j - 0)=j by omega]at C;exact⟨C,.inr (.inr λh=>by have:=X.out h;omega)⟩
     clear b K f;go_wp2;go_loopg [14] (j - 0) (λgk N H=>∃m:Nat,0+m<=j/\gk=j - 0 - m/\N= .int .i64 ((0+m:Nat):Int)/\bu H B g n D (bM u 0 e m)/\w.grownBy H (some g));exact⟨0,by omega,rfl,rfl,O.out,U.out⟩;obtain⟨m,hm,rfl,rfl,o,y⟩:=hrel;have x:=ah o;have F:=ah y;by_cases M:0+m<j
     .have L:=o.frozen (0+m);have E:=o.cell (0+m) (by omega);generalize(bM u 0 e m).getD (0+m) 0=cq at E;clear o y;obtain⟨q,z⟩:=ac (0+m);have v:=ah z;rw[<-z]at L E M ⊢;clear z;go_wp2;go_roundg (j - 0 - (m+1));case measure=>have:=v.out;omega
      case rel=>
       refine⟨m+1,by have:=v.out;omega,rfl,by have:=v.out;simp;omega,?_,?_⟩
       .rw[v.out];exact x.out.set (0+m) e
       .exact F.out.trans (x.out.grown q e)
     .obtain rfl:j=m:=(by omega);clear o y;have r:0+j=j:=(by omega);rw[r];clear r;go_wp2;go_roundg (n - j);exact⟨j,_,_,by omega,rfl,by simp,x.out,F.out,A.out.1,A.out.2⟩;omega
   .obtain⟨a,rfl⟩:∃a,k=a+1:=⟨k - 1,by omega⟩
    obtain⟨p,hp⟩:=ac<|u.getD a 0;have kj:=O.out.cell a (by omega);rw[<-hp]at kj;have Y:s=bD p:=(by rw[J,lJ,hp]);have JJ:=ah Y;clear hp J Y;by_cases f:s=I
    .have Z:(s==I)=true:=(by simpa using f);have A:Hid (aZ (fN I e) gN l t j s (bM u (a+1) s<|j - (a+1))/\Ah t (bM u (a+1) s<|j - (a+1)) l j s):=by
      have C:=CX (d:=s) P.out b K (by rw[R.out,aj f]) (j - (a+1)) (by omega);rw[show(a+1)+(j - (a+1))=j by omega]at C;exact⟨C,.inr (.inr λh=>by have:=X.out h;omega)⟩
     clear b K f;go_wp2_with fail;refine(uA p _).mono ?_;rintro Q _ ⟨rfl,rfl⟩;rw[<-JJ.out];go_wp2;go_loopg [14] (j - (a+1)) (λgk N H=>∃m:Nat,(a+1)+m<=j/\gk=j - (a+1) - m/\N= .int .i64 (((a+1)+m:Nat):Int)/\bu H B g n D (bM u (a+1) s m)/\w.grownBy H (some g));exact⟨0,by omega,rfl,rfl,O.out,U.out⟩;obtain⟨m,hm,rfl,rfl,o,y⟩:=hrel;have x:=ah o;have F:=ah y;by_cases M:(a+1)+m<j
     .have L:=o.frozen<|(a+1)+m;have E:=o.cell ((a+1)+m) (by omega);generalize(bM u (a+1) s m).getD ((a+1)+m) 0=cq at E;clear o y;obtain⟨q,z⟩:=ac<|(a+1)+m;have v:=ah z;rw[<-z]at L E M ⊢;clear z;go_wp2;go_roundg (j - (a+1) - (m+1));case measure=>have:=v.out;omega
      case rel=>
       refine⟨m+1,by have:=v.out;omega,rfl,by have:=v.out;simp;omega,?_,?_⟩
       .rw[v.out];exact x.out.set ((a+1)+m) s
       .exact F.out.trans (x.out.grown q s)
     .obtain rfl:m=j - (a+1):=(by omega);clear o y;have r:(a+1)+(j - (a+1))=j:=(by omega);rw[r];clear r;go_wp2;go_roundg (n - j);exact⟨j,_,_,by omega,rfl,by simp,x.out,F.out,A.out.1,A.out.2⟩;omega
    .have Z:(s==I)=false:=(by simpa using f);have A:Hid (aZ (fN I e) gN l t j s (bM u (a+1) e<|j - (a+1))/\Ah t (bM u (a+1) e<|j - (a+1)) l j s):=by
      have C:=CX (d:=e) P.out b K (by rw[R.out,ai f]) (j - (a+1)) (by omega);rw[show(a+1)+(j - (a+1))=j by omega]at C;exact⟨C,.inr (.inr λh=>by have:=X.out h;omega)⟩
     clear b K f;go_wp2_with fail;refine(uA p _).mono ?_;rintro Q _ ⟨rfl,rfl⟩;rw[<-JJ.out];go_wp2;go_loopg [14] (j - (a+1)) (λgk N H=>∃m:Nat,(a+1)+m<=j/\gk=j - (a+1) - m/\N= .int .i64 (((a+1)+m:Nat):Int)/\bu H B g n D (bM u (a+1) e m)/\w.grownBy H (some g));exact⟨0,by omega,rfl,rfl,O.out,U.out⟩;obtain⟨m,hm,rfl,rfl,o,y⟩:=hrel;have x:=ah o;have F:=ah y;by_cases M:(a+1)+m<j
     .have L:=o.frozen<|(a+1)+m;have E:=o.cell ((a+1)+m) (by omega);generalize(bM u (a+1) e m).getD ((a+1)+m) 0=cq at E;clear o y;obtain⟨q,z⟩:=ac<|(a+1)+m;have v:=ah z;rw[<-z]at L E M ⊢;clear z;go_wp2;go_roundg (j - (a+1) - (m+1));case measure=>have:=v.out;omega
      case rel=>
       refine⟨m+1,by have:=v.out;omega,rfl,by have:=v.out;simp;omega,?_,?_⟩
       .rw[v.out];exact x.out.set ((a+1)+m) e
       .exact F.out.trans (x.out.grown q e)
     .obtain rfl:m=j - (a+1):=(by omega);clear o y;have r:(a+1)+(j - (a+1))=j:=(by omega);rw[r];clear r;go_wp2;go_roundg (n - j);exact⟨j,_,_,by omega,rfl,by simp,x.out,F.out,A.out.1,A.out.2⟩;omega
   .exact absurd (b k (au _) uU) (S<|by rw[W.out];exact aa)
 .have R:Hid (u=Eb l I e t):=P.out.stop (by rw[W.out];exact aa);go_wp2;go_end0;exact⟨rfl,R.out▸O.out,U.out⟩
