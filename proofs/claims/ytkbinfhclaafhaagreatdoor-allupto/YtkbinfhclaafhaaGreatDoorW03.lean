import Derived.Test.YtkbinfhclaafhaaGreatDoorW02
import Derived.Deep.RegionLaw
namespace Go.Proofs.YtkbinfhclaafhaaGreatDoor
open Go.RowKit
open Go.Proofs.Tryz
set_option maxRecDepth 100000
set_option maxHeartbeats 32000000
set_option linter.all false
open Go.Value renaming int->Y,slice->R,bool->ce,tuple->de,agg->df
open Go.IntKind renaming i64->Z
open Option renaming none->U,some->V
open Go.Addr renaming mk->S
open Go.Obj renaming cells->bi
open Go.Ending renaming returned->bj
open Go renaming World->cw,Value->cJ,Calls->cP
open Go.RowKit renaming Below->cD,Hid->dd
open Bool renaming false->da,true->db
def Tryz.Xb:(prog.info? 31).map (λi=>(i.zero,i.size,i.bytes))=V (V<|R U 0 0,1,24):=by kernel_rfl
structure vR(w0 w:World)(B:Nat)(ov rv:Value)(vs:List Value)(x:List ba×ba):Prop where
 below:Below B w0 w
 base:B<=w.1.size
 out:w.ownsRow B 31 1 ov x.1.length vs
 cur:w.ownsRow B 3 1 rv x.2.length<|iv<|nl x.2
 old:∀i,i<x.1.length->w.ownsRow B 3 1 (vs.getD i .nilFunc) (x.1.getD i []).length (iv<|nl<|x.1.getD i [])
 I1:∀i,i<x.1.length->qP (vs.getD i .nilFunc).ownBlock rv.ownBlock
def vR.start(w:cw):vR w w w.1.size (R U 0 0) (R U 0 0) [] ([],[]):=
 ⟨aA _ _,au _,⟨rfl,.inl ⟨rfl,rfl⟩⟩,⟨rfl,.inl ⟨rfl,rfl⟩⟩,λi h=>by simp at h,λi h=>by simp at h⟩
def vR.len {d w:cw}{B:Nat}{b c:cJ}{a:List cJ}{x:List ba×ba}(h:vR d w B b c a x):a.length=x.1.length:=by have:=h.out.1;omega
def vR.grow {k w e:cw}{B:Nat}{g d b:cJ}{j:List cJ}{x:List ba×ba}{p:Nat}(h:vR k w B g d j x)(f:e.ownsRow B 3 1 b (x.2.length+1)<|iv (nl x.2)++[Y Z (p:Nat)])(c:w.grownBy e d.ownBlock)(l:b.ownBlock=d.ownBlock∨b.ownBlock=V (w.1.size+1)):vR k e B g b j (x.1,x.2++[p]):=
 ⟨h.below.grown c h.base<|wJ h.cur,bM h.base c.size,eW h.out c<|mP h.out h.cur<|by decide,by rw[G0,Rv]at f;simpa using f,
  λi a=>eW (h.old i a) c (h.I1 i a).ne,λi a=>((h.I1 i a).symm.push l (vE<|h.old i a)).symm⟩
def vR.shift {l w f:cw}{B:Nat}{j g d:cJ}{e:List cJ}{x:List ba×ba}(h:vR l w B j d e x)(m:f.ownsRow B 31 1 g (x.1.length+1)<|e++[d])(b:w.grownBy f j.ownBlock):vR l f B g (R U 0 0) (e++[d]) (x.1++[x.2],[]):=by
 have p:=h.len;refine⟨h.below.grown b h.base<|wJ h.out,bM h.base b.size,by simpa using m,⟨rfl,.inl ⟨rfl,rfl⟩⟩,?_,λi _ k _ o=>by cases o⟩;intro i n;simp only[bG,eU,kW]at n;rcases dc i x.1.length with a|a;simp only[aN];rw[uM<|by omega,uM a];have:=eW (h.old i a) b (mP (h.old i a) h.out<|by decide);simpa [aN]using this;have c:i=x.1.length:=by omega
 subst c;simp only[aN];rw[tH<|by omega,tH<|by omega,p,pT];have:=eW h.cur b (mP h.cur h.out<|by decide);simpa using this
def asa {b:aw}{a:List Bool}{n k:Nat}{x:List ba×ba}(c:k<n):zj b a (n - k) k x=zj b a (n - (k+1)) (k+1) (Hr b a k x):=by rw[show n - k=(n - (k+1))+1 by omega,zj]
def yN {w:cw}{r:Option Nat}{n:Nat}:w.grownBy (w.drewN n) r:=⟨rfl,rfl,rfl,au _,λ_ _ _=>rfl⟩
def AZ(w:cw)(b a:Nat)(l:List Bool):Prop:=∀i,i<l.length->w.cell? (S b (a+i) U)=V (ce<|l.getD i da)
def AZ.stay {w d:cw}{B b a:Nat}{l:List Bool}(h:AZ w b a l)(e:cD B w d)(c:b<B):AZ d b a l:=λi f=>by rw[e.cell (p:=(S b (a+i) U)) c];exact h i f
def ag8(m:aw)(j:List Bool)(n gl ol cl gf ad cf:Nat)(w:cw)(C:m.length=n)(hf:j.length=n)(hn:n<=100000)(BR:bJ w gl ol m)(X:AZ w gf ad j)(ab:gl<w.1.size)(vW:gf<w.1.size):cP prog 121 #[.slice (V<|S gl ol U) n cl,.slice (V<|S gf ad U) n cf] w λev w'=>∃(v:cJ)(y:List cJ),ev=bj v/\cD w.1.size w w'/\w'.ownsRow w.1.size 31 1 v (dB m j).length y/\∀i,i<(dB m j).length->w'.ownsRow w.1.size 3 1 (y.getD i .nilFunc) ((dB m j).getD i []).length (iv<|nl<|(dB m j).getD i []):=by
 obtain⟨iI,gZ,ia,ic,ig⟩:=fP Tryz.sQ;obtain⟨iS,MP,Ny,Nz,NA⟩:=fP Tryz.Xb;obtain⟨M,hR⟩:=ac<|dB m j;rw[<-hR];have HR:dd (M=zj m j (n - 0) 0 ([],[])):=by rw[hR,dB,C];rfl
 have DY:=ah BR;have CB:=ah X;have L:dd (m.length=n/\j.length=n/\gl<w.1.size/\gf<w.1.size):=⟨C,hf,ab,vW⟩
 clear hR C hf BR X ab vW;go_enter func121,ntmps121;go_wp2;go_loopg [5,6,7] n (λgh ov rv gD wr=>∃(k:Nat)(y:List cJ)(x:List ba×ba),k<=n/\gh=n - k/\gD=Y Z k/\vR w wr w.1.size ov rv y x/\Bq m j k x/\M=zj m j (n - k) k x);exact⟨0,[],([],[]),by omega,rfl,rfl,vR.start w,Bq.start _ _,HR⟩;clear HR;obtain⟨k,y,x,hk,rfl,rfl,f,d,G⟩:=hrel;obtain⟨oa,oc,rfl⟩:=eV f.out;obtain⟨ra,rc,rfl⟩:=eV f.cur;have A:=ah f;have z:=ah d.step;have H:dd (k<n->M=zj m j (n - (k+1)) (k+1) (Hr m j k x)):=λh=>by rw[G];exact asa h
 by_cases K:k<n
 .have T:=CB.out.stay f.below L.out.2.2.2 k (by rw[L.out.2.1];exact K);have W:=DY.out.stay f.below L.out.2.2.1 k (by rw[L.out.1];exact K);have t:=ah<|H K;have ae:x.1.flatten.length+x.2.length<=k:=by have:=congrArg List.length d.flat;rw[bG]at this;have h2:=Bk (l8 j)<|List.range k;rw[Pn]at h2;omega
  have an:x.1.length<=k:=by
   have h3:∀l:List ba,(∀r∈l,r≠[])->l.length<=l.flatten.length:=by
    intro l
    induction l with
    |nil=>intro _;simp
    |cons a l ih=>intro C;have:=ih (λr hr=>C r<|by simp[hr]);have:=kF.2 (C a<|by simp);simp only[eU,Bj,bG];omega
   have:=h3 x.1 d.ne;omega
  have ar:x.2.length<=k:=by omega
  have yX:x.2≠[]->x.2.headD 0<k:=by intro b;have hm:x.2.headD 0∈x.1.flatten++x.2:=ji.2 (.inr (by cases hx:x.2 with|nil=>exact absurd hx b|cons a l=>simp));rw[d.flat]at hm;exact IG.1 (uN.1 hm).1
  clear ae;have c:Hr m j k x=if j.getD k da=da then x else if x.2≠[]/\m.getD (x.2.headD 0) 0≠m.getD k 0 then(x.1++[x.2],[k])else(x.1,x.2++[k]):=rfl
  cases hb:j.getD k da
  .rw[hb]at T;rw[hb,aj rfl]at c;rw[c]at t z;clear hb c f d G H yX W;go_wp2;go_roundg (n - (k+1));exact⟨k+1,y,x,by omega,rfl,by simp,A,z,t⟩;omega
  rw[hb]at T;rw[hb,ai<|by decide]at c;clear hb;by_cases b:x.2=[]
  .rw[ai λh=>h.1 b]at c;rw[c]at t z;have q:x.2.length=0:=(by rw[b];rfl);have e:=f.cur;have p:=f.base;rw[q]at e ⊢;clear c d G H yX W f;have uJ:=A;rw[q]at uJ;clear q A;go_wp2;go_quiet(fail);go_wp2_with(at_builtin;refine AW _ rfl _ _ 31 rfl w.1.size 3 iI (Y Z 0) 8 underlying31 gZ ia ic ig rfl (by decide) _ _ _ rfl e _ _ _ rfl rfl rfl (by omega) p ?_);intro v' w5 o u E;have F:=(yN (w:=wr) (r:=(Value.slice ra 0 rc).ownBlock)).trans u;have B:dd (vR w w5 w.1.size _ v' y (x.1,x.2++[k])):=uJ.out.grow (by rw[b];exact o) F E;clear o u E e F;go_wp2;go_roundg (n - (k+1));exact⟨k+1,y,_,by omega,rfl,by simp,B,z,t⟩;omega
  have D:0<x.2.length:=kF.2 b;obtain⟨g,ag,hv,ao,vX,_⟩:=iq f.cur D;obtain⟨al,am⟩:ra=V (S g 0 U)/\rc=ag:=(by simpa using hv);clear hv;subst al;subst am;have Q:=jx f.cur 0 (by rw[iz];exact D);rw[pH _ _ D]at Q;have I:x.2.getD 0 0=x.2.headD 0:=(by cases x.2<;>rfl);rw[I]at Q;have aq:=yX b;have VX:=DY.out.stay f.below L.out.2.2.1 (x.2.headD 0) (by rw[L.out.1];omega);generalize x.2.headD 0=p0 at*;generalize m.getD p0 0=l0 at*;generalize m.getD k 0=l1 at*;have ap:p0<n:=(by omega);have ak:((0:Int)<(x.2.length:Int)):=(by omega);have e:=f.cur;have N:=f.out;have p:=f.base;by_cases s:l0=l1
  .rw[ai λh=>h.2 s]at c;rw[c]at t z;have af:(l0 !=l1)=da:=(by simpa using s);clear c d G H yX f I s N;go_wp2;go_quiet(fail);go_wp2_with(at_builtin;refine AW _ rfl _ _ 31 rfl w.1.size 3 iI (Y Z 0) 8 underlying31 gZ ia ic ig rfl (by decide) _ _ _ rfl e _ _ _ rfl rfl rfl (by omega) p ?_);intro v' w5 o u E;have F:=(yN (w:=wr) (r:=(Value.slice (V<|S g 0 U) x.2.length rc).ownBlock)).trans u;have B:=ah<|A.out.grow o F E;clear o u E e F;go_wp2;go_roundg (n - (k+1));exact⟨k+1,y,_,by omega,rfl,by simp,B,z,t⟩;omega
  rw[aj ⟨b,s⟩]at c;rw[c]at t z;have af:(l0 !=l1)=db:=(by simpa using s);clear c d G H yX f I s e;go_wp2;go_quiet(fail);go_wp2_with(at_builtin;refine AW _ rfl _ _ 127 rfl w.1.size 31 iS (R U 0 0) 24 underlying127 MP Ny Nz NA rfl (by decide) _ _ _ rfl N _ _ _ rfl rfl rfl (by omega) p ?_);intro v' w5 o u E;obtain⟨E9,Cb,rfl⟩:=eV o;have F:=(yN (w:=wr) (r:=(Value.slice oa x.1.length oc).ownBlock)).trans u;have tZ:=A.out.shift o F;have B:=ah tZ;have O:=tZ.cur;have GA:=tZ.base;clear o u E N F tZ;go_wp2_with(at_builtin;refine AW _ rfl _ _ 31 rfl w.1.size 3 iI (Y Z 0) 8 underlying31 gZ ia ic ig rfl (by decide) _ _ _ rfl O _ _ _ rfl rfl rfl (by simp) GA ?_);intro v6 w6 oh i7 Nj;have nO:=ah<|B.out.grow oh i7 Nj;clear oh i7 Nj O;go_wp2;go_roundg (n - (k+1));exact⟨k+1,_,_,by omega,rfl,by simp,nO,z,t⟩;omega
 have J:k=n:=by omega
 have t:dd (M=wM x):=by show _=_;rw[G,J,pT];rfl
 by_cases b:x.2=[]
 .have P:dd (M=x.1):=by show _=_;rw[t.out,wM,aj b]
  have q:x.2.length=0:=(by rw[b];rfl);rw[q];clear f d G H z q t J;go_wp2;refine bU (v:=R oa x.1.length oc) (by simp[results,results121,go_sem]) rfl ⟨_,y,rfl,A.out.below,?_,?_⟩;rw[P.out];exact A.out.out;rw[P.out];exact A.out.old
 have D:0<x.2.length:=kF.2 b;have ak:((0:Int)<(x.2.length:Int)):=(by omega);have P:dd (M=x.1++[x.2]):=by show _=_;rw[t.out,wM,ai b]
 have an:x.1.length<=100000:=by
  have:=congrArg List.length d.flat;rw[bG]at this;have h2:=Bk (l8 j)<|List.range k;rw[Pn]at h2;have h3:∀l:List ba,(∀r∈l,r≠[])->l.length<=l.flatten.length:=by
   intro l
   induction l with
   |nil=>intro _;simp
   |cons a l ih=>intro C;have:=ih (λr hr=>C r<|by simp[hr]);have:=kF.2 (C a<|by simp);simp only[eU,Bj,bG];omega
  have:=h3 x.1 d.ne;omega
 have N:=f.out;have p:=f.base;clear f d G H z t J;go_wp2_with(at_builtin;refine AW _ rfl _ _ 127 rfl w.1.size 31 iS (R U 0 0) 24 underlying127 MP Ny Nz NA rfl (by decide) _ _ _ rfl N _ _ _ rfl rfl rfl (by omega) p ?_);intro v' w5 o u E;obtain⟨E9,Cb,rfl⟩:=eV o;have B:=ah<|A.out.shift o u;clear o u E N;go_wp2;refine bU (v:=R E9 (x.1.length+1) Cb) (by simp[results,results121,go_sem]) rfl ⟨_,y++[R ra x.2.length rc],rfl,B.out.below,?_,?_⟩;rw[P.out];exact B.out.out;rw[P.out];exact B.out.old
def apq {a:aw}{i:Nat}(e:mt a i<a.length)(_hi:i<=a.length):a.getD (mt a i) 0=21:=by
 have key:∀(l:aw)(n:Int)(d:Nat),dx l n=V d->l.getD d 0=21:=by
  intro l
  induction l with
  |nil=>intro n d h;cases h
  |cons c r ih=>
   intro n d h;rw[dx]at h;by_cases b:c=21
   .rw[aj b]at h;by_cases f:n - 1=0;rw[aj f]at h;obtain rfl:=aI h;simpa using b;rw[ai f]at h;cases hr:dx r (n - 1)with
    |none=>rw[hr]at h;cases h
    |some g=>rw[hr]at h;obtain rfl:=aI h;simpa using ih _ _ hr
   rw[ai b]at h;cases hr:dx r (if aU c=db then n+1 else n)with
   |none=>rw[hr]at h;cases h
   |some g=>rw[hr]at h;obtain rfl:=aI h;simpa using ih _ _ hr
 unfold mt at e ⊢;cases hd:dx (a.drop i) 0 with
 |none=>rw[hd]at e;simp at e
 |some d=>have:=key _ _ _ hd;simp only;rw[aN,zS]at this;rw[aN];exact this
def afo {a:aw}{k:Nat}(h:k<a.length)(b:aU (a.getD k 0)=db):k<mt a k:=by
 have i:=nj.start a k (by omega);have g:a.getD k 0≠21:=by intro e;rw[e,NB]at b;cases b
 have f:=i.plain h g;have:mt a k=a.length∨∃d,dx (a.drop<|k+1) (if aU (a.getD k 0)=db then(0:Int)+1 else 0)=V d/\mt a k=k+(d+(k+1 - k)):=by
  unfold mt;rw[f.2.2];cases hm:dx (a.drop<|k+1) (if aU (a.getD k 0)=db then(0:Int)+1 else 0)with
  |none=>exact .inl rfl
  |some d=>exact .inr ⟨d,rfl,rfl⟩
 rcases this with c|⟨d,_,c⟩<;>omega
def apr {c:aw}{i j:Nat}(h:i<c.length)(k:j<c.length)(f:aU (c.getD i 0)=db)(e:aU (c.getD j 0)=db)(g:mt c i=mt c j)(m:mt c i<c.length):i=j:=by
 have key:∀i j,i<c.length->j<c.length->aU (c.getD i 0)=db->aU (c.getD j 0)=db->mt c i=mt c j->mt c i<c.length->¬i<j:=by
  intro i j h k f e g m l;obtain⟨d,o,n⟩:=afp h f m l (by rw[g];exact afo k e) e;have:mt c j=j+d:=by unfold mt;rw[o]
  omega
 have a:=key i j h k f e g m;have b:=key j i k h e f g.symm (by omega);omega
def G9 {a:List ba}{m:Nat}:∀n k,vB a m n=V k->k<n/\(a.getD k []).headD 0=m
 |0,k,h=>by cases h
 |n+1,k,h=>by rw[vB]at h;split at h;rename_i b;obtain rfl:=aI h;exact⟨jd _,b⟩;have:=G9 n k h;exact⟨by omega,this.2⟩
def afw {b:List ba}{m:Nat}:∀n,vB b m n=U->∀k,k<n->(b.getD k []).headD 0≠m
 |0,_,k,hk=>by omega
 |n+1,h,k,hk=>by rw[vB]at h;split at h;cases h;rename_i c;rcases dc k n with a|a;exact afw n h k a;obtain rfl:k=n:=(by omega);exact c
structure nt(n:Nat)(rs:List ba):Prop where
 ne:∀r∈rs,r≠[]
 lt:∀r∈rs,∀p∈r,p<n
 vC:rs.flatten.Nodup
def nx(b:aw)(a:List ba)(i:Nat):Option Nat:=if i<a.length then iK b a ((a.getD i []).getLastD 0)else U
def dP {a:Type}{l:List a}{i:Nat}{d:a}(h:i<l.length):l.getD i d∈l:=by rw[aN,aK h];exact nP h
def Ar {r:ba}(h:r≠[]):r.getLastD 0∈r:=by rw[tK,ID h];exact ajg h
def head_mem {r:ba}(h:r≠[]):r.headD 0∈r:=by
 cases r with
 |nil=>exact absurd rfl h
 |cons a l=>simp
def Qr:∀{a:List ba},a.flatten.Nodup->∀{i j p:Nat},p∈a.getD i []->p∈a.getD j []->i=j
 |[],_,i,j,p,h,_=>by simp at h
 |r::a,hn,i,j,p,hi,hj=>by
  rw[Bj,II]at hn;have c:∀k,p∈a.getD k []->p∈a.flatten:=by intro k b;rcases dc k a.length with h|h;exact Ud.2 ⟨_,dP h,b⟩;rw[aN,tI h]at b;cases b
  cases i with
  |zero=>
   cases j with
   |zero=>rfl
   |succ j=>exact absurd rfl (hn.2.2 p (by simpa using hi) p<|c j<|by simpa using hj)
  |succ i=>
   cases j with
   |zero=>exact absurd rfl (hn.2.2 p (by simpa using hj) p<|c i<|by simpa using hi)
   |succ j=>rw[Qr hn.2.1 (i:=i) (j:=j) (p:=p) (by simpa using hi)<|by simpa using hj]
def NT {b:aw}{a:List ba}(h:nt b.length a){i k:Nat}(c:nx b a i=V k):i<a.length/\k<a.length/\aU (b.getD ((a.getD i []).getLastD 0) 0)=db/\(a.getD k []).headD 0=mt b ((a.getD i []).getLastD 0)/\(a.getD i []).getLastD 0<b.length/\mt b ((a.getD i []).getLastD 0)<b.length:=by unfold nx at c;split at c;rename_i e;unfold iK at c;split at c;rename_i l;obtain⟨f,d⟩:=G9 _ _ c;have g:a.getD i []∈a:=dP e;have j:a.getD k []∈a:=dP f;refine⟨e,f,l,d,h.lt _ g _ (Ar<|h.ne _ g),?_⟩;rw[<-d];exact h.lt _ j _ (head_mem<|h.ne _ j);cases c;cases c
def apS {b:aw}{a:List ba}(h:nt b.length a):∀i j k,nx b a i=V k->nx b a j=V k->i=j:=by intro i j k r s;obtain⟨e,_,f,g,l,m⟩:=NT h r;obtain⟨n,_,o,p,q,u⟩:=NT h s;have:(a.getD i []).getLastD 0=(a.getD j []).getLastD 0:=apr l q f o (by rw[<-g,<-p]) m;have t:=Ar<|h.ne _ (dP (d:=[]) e);have c:=Ar<|h.ne _ (dP (d:=[]) n);rw[<-this]at c;exact Qr h.vC t c
def apR {a:aw}{b:List ba}(h:nt a.length b){s:Nat}(d:iG a (b.getD s [])=db):∀i,nx a b i≠V s:=by intro i l;obtain⟨m,n,f,j,g,k⟩:=NT h l;have c:=apq k<|gV g;have e:0<=opener a (mt a<|(b.getD i []).getLastD 0):=(afL a _).2 ⟨_,afo g f,f,rfl⟩;unfold iG at d;rw[j,c,nB e]at d;cases d
def PN {e:aw}{b:List ba}(h:nt e.length b):∀f (a:ba) i,i<b.length->cE e b f (a++b.getD i [])=a++(pJ (nx e b) f i).flatMap (b.getD · [])
 |0,a,i,hi=>by simp[cE,pJ]
 |f+1,a,i,hi=>by
  have g:=h.ne _ (dP (d:=[]) hi);have c:(a++b.getD i []).getLastD 0=(b.getD i []).getLastD 0:=by rw[tK,Pk,ID g,tK,ID g];rfl
  rw[cE,pJ,c];have j:nx e b i=iK e b ((b.getD i []).getLastD 0):=by rw[nx,aj hi]
  rw[<-j];cases hk:nx e b i with
  |none=>simp
  |some k=>simp only;rw[PN h f (a++b.getD i []) k (NT h hk).2.1];simp
def Nn {f:List ba}(h:f.flatten.Nodup):∀(l:ba),l.Nodup->(l.flatMap (f.getD · [])).Nodup
 |[],_=>by simp
 |i::l,hl=>by rw[Ec]at hl;rw[yF,II];refine⟨?_,Nn h l hl.2,?_⟩;rcases dc i f.length with e|e;exact h.sublist<|iY<|dP e;rw[aN,tI e];simp;intro a g b d c;subst c;obtain⟨j,k,d⟩:=IE.1 d;have:=Qr h g d;subst this;exact hl.1 k
def LM(b:aw)(a:List ba):ba:=(List.range a.length).filter λi=>iG b<|a.getD i []
def MQ(b:aw):∀a:List ba,a.filter (iG b)=(LM b a).map (a.getD · [])
 |[]=>rfl
 |r::a=>by
  have ih:=MQ b a;unfold LM at ih ⊢;rw[eU,ajq,tG,tG];have e:(List.map Nat.succ<|List.range a.length).filter (λi=>iG b<|(r::a).getD i [])=((List.range a.length).filter λi=>iG b<|a.getD i []).map Nat.succ:=by rw[List.filter_map];rfl
  rw[e,ih];cases hb:iG b r<;>simp[hb,Function.comp_def]
def ahe {c:aw}{b:List ba}(h:nt c.length b)(f:Nat):((b.filter<|iG c).flatMap (cE c b f)).Nodup:=by
 have g:∀s∈LM c b,s<b.length/\iG c (b.getD s [])=db:=by intro s d;unfold LM at d;rw[uN,IG]at d;exact d
 have e:(b.filter<|iG c).flatMap (cE c b f)=((LM c b).flatMap (pJ (nx c b) f)).flatMap (b.getD · []):=by
  rw[MQ,List.flatMap_map,List.flatMap_assoc];have:∀l:ba,(∀s∈l,s<b.length)->l.flatMap (λa=>cE c b f<|b.getD a [])=l.flatMap λx=>(pJ (nx c b) f x).flatMap (b.getD · []):=by
   intro l
   induction l with
   |nil=>intro _;rfl
   |cons a l ih=>intro i;rw[yF,yF,ih λs d=>i s<|by simp[d]];have:=PN h f [] a (i a<|by simp);simp only[r8]at this;rw[this]
  exact this _ λs d=>(g s d).1
 rw[e];refine Nn h.vC _ (afP (apS h) f _ ?_ λs d=>apR h (g s d).2);exact ki _ ajl
def afN {b e:aw}{c:List ba}(h:nt b.length c)(g:∀r∈c,∀p∈r,e.getD p 0=e.getD (r.headD 0) 0)(j:∀i,i<b.length->aU (b.getD i 0)=db->mt b i<b.length->e.getD (mt b i) 0=e.getD i 0):∀f i,i<c.length->∀p∈(pJ (nx b c) f i).flatMap (c.getD · []),e.getD p 0=e.getD ((c.getD i []).headD 0) 0
 |0,i,hi,p,a=>by simp[pJ]at a;exact g _ (dP hi) p (by simpa [aN]using a)
 |f+1,i,hi,p,a=>by
  rw[pJ]at a;cases hk:nx b c i with
  |none=>rw[hk]at a;simp at a;exact g _ (dP hi) p (by simpa [aN]using a)
  |some k=>rw[hk]at a;simp only[yF]at a;rcases ji.1 a with a|a;exact g _ (dP hi) p a;obtain⟨s,l,m,n,o,q⟩:=NT h hk;rw[afN h g j f k l p a,n,j _ o m q];exact g _ (dP hi) _ (Ar<|h.ne _ (dP (d:=[]) hi))
def ak8 {b e:aw}{c:List ba}(h:nt b.length c)(w:∀r∈c,∀p∈r,e.getD p 0=e.getD (r.headD 0) 0)(x:∀i,i<b.length->aU (b.getD i 0)=db->mt b i<b.length->e.getD (mt b i) 0=e.getD i 0){f:Nat}{r:ba}(u:r∈c):∀p∈cE b c f r,p<b.length/\e.getD p 0=e.getD ((cE b c f r).headD 0) 0:=by
 obtain⟨i,o,v⟩:=mC u;have n:c.getD i []=r:=by rw[aN,aK o,<-v];rfl
 have g:=PN h f [] i o;simp only[r8]at g;rw[n]at g;have d:(cE b c f r).headD 0=r.headD 0:=by
  rw[g];have:∃t,pJ (nx b c) f i=i::t:=by
   cases f with
   |zero=>exact⟨[],rfl⟩
   |succ f=>rw[pJ];cases nx b c i with
    |none=>exact⟨[],rfl⟩
    |some k=>exact⟨_,rfl⟩
  obtain⟨t,y⟩:=this;rw[y,yF,n];cases hr':r with
  |nil=>exact absurd hr'<|h.ne r u
  |cons a l=>rfl
 intro p s;rw[d,g]at*;refine⟨?_,?_⟩;obtain⟨j,_,q⟩:=IE.1 s;rcases dc j c.length with m|m;exact h.lt _ (dP m) p q;rw[aN,tI m]at q;cases q;rw[afN h w x f i o p s,n]
def qf(c:Int):Bool:=c==11||(c==10||(c==12||(aU c||c==21)))
def Cl(c:Int):Prop:=c=0∨c=1∨c=3∨c=6∨c=10∨c=11∨c=12∨c=18∨c=19∨c=20∨c=21
def K0(c:Int):Prop:=(0<=c/\c<=8)∨(10<=c/\c<=12)∨(18<=c/\c<=21)
def K1(c:Int):Prop:=(0<=c/\c<=7)∨(10<=c/\c<=12)∨(18<=c/\c<=21)
def K3(c:Int):Prop:=c≠2/\K1 c
def Hj {d:Type}{f:d->Int->aw->Int}{g:d->Int->aw->d}{I:d->Prop}{P Q:Int->Prop}(h:∀s c r,I s->P c->Q (f s c r)/\I (g s c r)):∀(t:aw)(s:d),I s->(∀c∈t,P c)->∀c∈pass f g s t,Q c
 |[],_,_,_,c,b=>by cases b
 |a::r,s,hs,hp,c,b=>by rw[pass]at b;have:=h s a r hs (hp a<|by simp);rcases gI.1 b with rfl|b;exact this.1;exact Hj h r _ this.2 (λx hx=>hp x<|by simp[hx]) c b
def X4 {g f:Int}{P:Int->Prop}(e:P f):∀(t:aw)(b:Int),(∀c∈t,P c)->∀c∈mO g f b t,P c
 |[],_,_,c,d=>by cases d
 |a::r,b,hp,c,d=>by rw[mO]at d;rcases gI.1 d with d|d;rw[d];generalize(if a=0∨a=1∨a=2 then a else b)=q;split;exact e;exact hp a (by simp);exact X4 e r _ (λx hx=>hp x<|by simp[hx]) c d
def ah5 {a:Int}(l:a=0∨a=1){t:aw}(m:∀c∈t,K0 c):(∀c∈pass f6 g3 () (pass f5 g5 U<|pass f4 g4 U<|pass f3 g3 ()<|mO 2 6 a<|pass (f1 a) (g1 a) U t),Cl c)/\∀c∈vJ a t,Cl c:=by
 have g:∀c∈pass (f1 a) (g1 a) U t,K1 c:=by
  refine Hj (I:=λs=>∀p,s=V p->K1 p) (P:=K0) (Q:=K1) ?_ t U (by simp) m;intro s c r e b;have:K1 (f1 a s c r):=by
   unfold f1;split
   .cases s with
    |none=>rcases l with rfl|rfl<;>simp[K1]
    |some p=>simp only;split;simp[K1];exact e p rfl
   unfold K0 at b;unfold K1;omega
  exact⟨this,by intro p d;rw[g1]at d;obtain rfl:=aI d;exact this⟩
 have h:∀c∈mO 2 6 a (pass (f1 a) (g1 a) U t),K1 c:=X4 (by simp[K1]) _ _ g;have i:∀c∈pass f3 g3 () (mO 2 6 a<|pass (f1 a) (g1 a) U t),K3 c:=by refine Hj (I:=λ_=>True) (P:=K1) (Q:=K3) ?_ _ () trivial h;intro s c r _ b;refine⟨?_,trivial⟩;unfold f3;split;simp[K3,K1];exact⟨‹_›,b⟩
 unfold vJ;generalize pass f3 g3 () (mO 2 6 a<|pass (f1 a) (g1 a) U t)=t3 at*;have j:∀c∈pass f4 g4 U t3,K3 c:=by
  refine Hj (I:=λs=>∀p,s=V p->K3 p) (P:=K3) (Q:=K3) ?_ t3 U (by simp) i;intro s c r e b;have:K3 (f4 s c r):=by unfold f4;split;split;exact e _ rfl;exact b;exact b
  exact⟨this,by intro p d;rw[g4]at d;obtain rfl:=aI d;exact this⟩
 have k:∀c∈pass f5 g5 U (pass f4 g4 U t3),K3 c:=by refine Hj (I:=λ_=>True) (P:=K3) (Q:=K3) ?_ _ U trivial j;intro s c r _ b;refine⟨?_,trivial⟩;unfold f5;split;simp[K3,K1];exact b
 have f:∀c∈pass f6 g3 () (pass f5 g5 U<|pass f4 g4 U t3),Cl c:=by refine Hj (I:=λ_=>True) (P:=K3) (Q:=Cl) ?_ _ () trivial k;intro s c r _ b;refine⟨?_,trivial⟩;unfold f6;split;simp[Cl];unfold K3 K1 at b;unfold Cl;omega
 exact⟨f,X4 (by simp[Cl]) _ _ f⟩
def NQ:Int->aw->aw
 |_,[]=>[]
 |last,c::r=>(if c=0∨c=1 then c else if c=3/\last=0 then 0 else c)::NQ (if c=0∨c=1 then c else last) r
def X0:∀(t:aw)(a:Int),(∀c∈t,c≠2)->NQ a t=mO 0 0 a t
 |[],_,_=>rfl
 |c::r,a,h=>by
  have e:=h c (by simp);have d:=λx hx=>h x<|yG _ hx
  rw[NQ,mO];by_cases b:c=0∨c=1;rw[aj b,aj b,aj (by omega:c=0∨c=1∨c=2),ai (by omega:¬(c=3/\c=0)),X0 r c d];rw[ai b,ai b,ai (by omega:¬(c=0∨c=1∨c=2)),X0 r a d]
def wI(a:Int):aw->Int
 |[]=>bH a
 |c::r=>if qf c=db then wI a r else bH c
def fM(a:Int)(s c:Int)(r:aw):Int:=if qf c=db then(if s=wI a r then s else c)else c
def gM(s c:Int)(_:aw):Int:=if qf c=db then s else bH c
def E6(e c:Int):Int:=if qf c=db then e else c
def Cl.afs {c:Int}(h:Cl c):(qf c=db↔bH c<0):=by unfold Cl at h;rcases h with rfl|rfl|rfl|rfl|rfl|rfl|rfl|rfl|rfl|rfl|rfl<;>decide
def afG {a:Int}(e:a=0∨a=1):∀t:aw,(∀c∈t,Cl c)->wI a t=vD a t
 |[],_=>by rw[wI,vD];rcases e with rfl|rfl<;>decide
 |c::r,h=>by have d:=(h c<|by simp).afs;rw[wI,vD,afG e r λx hx=>h x<|by simp[hx]];by_cases b:qf c=db;rw[aj b,aj<|d.1 b];rw[ai b,ai λf=>b<|d.2 f]
def R4 {c:Int}(h:¬bH c<0):bH c=0∨bH c=1:=by unfold bH at*;split;exact .inl rfl;split;exact .inr rfl;rename_i a b;rw[ai a,ai b]at h;exact absurd (by decide) h
def XT {f e:Int}(i:f=0∨f=1):∀(t:aw)(s:Int),(s=0∨s=1)->(∀c∈t,Cl c)->(pass (fM f) gM s t).map (E6 e)=pass (fN f e) gN s t
 |[],_,_,_=>rfl
 |c::r,s,hs,h=>by
  have l:=(h c<|by simp).afs;have k:=λx hx=>h x<|yG _ hx
  rw[pass,pass,ni];by_cases a:qf c=db;have g:=l.1 a;have j:gM s c r=s:=(by rw[gM,aj a]);have b:gN s c r=s:=(by rw[gN,aj g]);rw[j,b,XT i r s hs k,fM,aj a,afG i r k,fN,aj g];congr 1;by_cases hx:s=vD f r;rw[aj hx,aj hx,E6,ai<|by rcases hs with rfl|rfl<;>decide];rw[ai hx,ai hx,E6,aj a];have d:¬bH c<0:=λm=>a<|l.2 m
  have j:gM s c r=bH c:=(by rw[gM,ai a]);have b:gN s c r=bH c:=(by rw[gN,ai d]);rw[j,b,XT i r _ (R4 d) k,fM,ai a,fN,ai d,E6,ai a]
def apF {b f e:Int}(i:b=0∨b=1)(j:e=0∨e=1){t:aw}:∀c∈E7 b f e t,c=0∨c=1∨c=3∨c=6:=by
 refine Hj (I:=λs=>s=0∨s=1) (P:=λ_=>True) (Q:=λc=>c=0∨c=1∨c=3∨c=6) ?_ t b i (λ_ _=>trivial);intro s c r h _;by_cases a:bH c<0;rw[fN,aj a,gN,aj a];refine⟨?_,h⟩;split<;>omega
 rw[fN,ai a,gN,ai a];refine⟨?_,R4 a⟩;unfold bH at a;by_cases d:c=0;exact .inl d;rw[ai d]at a;by_cases g:c=1∨c=3∨c=6;omega;rw[ai g]at a;exact absurd (by decide) a
def uf(own:Int)(t:aw)(a:Nat):Nat->Bool
 |0=>da
 |m+1=>bH (t.getD a 0)==own||uf own t (a+1) m
def Ut(p:Int->Bool)(t:aw):∀m a,mJ p t a (m+1)=(p (t.getD a 0)||mJ p t (a+1) m)
 |0,a=>by simp[mJ]
 |m+1,a=>by rw[mJ,Ut p t m a,mJ,Bool.or_assoc,show a+(m+1)=a+1+m by omega]
def vF(own:Int)(t:aw):∀m a,mJ (Fp own) t a m=uf own t a m
 |0,a=>rfl
 |m+1,a=>by rw[Ut,uf,vF own t m<|a+1];rfl
def uq(t:aw)(a:Nat):Nat->Int->Int
 |0,w=>w
 |m+1,w=>uq t (a+1) m (if bH (t.getD a 0)= -1 then w else bH (t.getD a 0))
def Ye {own:Int}(e:own=0∨own=1)(t:aw):∀m a w,(w= -1∨w=1 - own)->uf own t a m=da->(uq t a m w=if w= -1/\mJ (zg own) t a m=da then -1 else 1 - own)
 |0,a,w,hw,_=>by rw[uq,mJ];rcases hw with rfl|rfl;simp;rw[ai<|by omega]
 |m+1,a,w,hw,hh=>by
  rw[uf,Fy]at hh;have d:bH (t.getD a 0)≠own:=by simpa using hh.1
  rw[uq,Ut];by_cases c:bH (t.getD a 0)= -1;rw[aj c,Ye e t m (a+1) w hw hh.2];have:zg own (t.getD a 0)=da:=(by unfold zg;rw[c];rfl);rw[this,DM];have f:bH (t.getD a 0)=0∨bH (t.getD a 0)=1:=R4 (by intro b;unfold bH at c b;split at b;omega;split at b;omega;rename_i x y;rw[ai x,ai y]at c;exact c rfl);have:zg own (t.getD a 0)=db:=(by unfold zg;rw[Fx,Es,bne_iff_ne];exact⟨by omega,d⟩);rw[ai c,this,Ye e t m (a+1) _ (.inr<|by omega) hh.2,ai<|by omega,ai<|by simp]
def Xv {a:Int}(b:a=0∨a=1)(t:aw):∀m,lM a t m=0∨lM a t m=1
 |0=>b
 |m+1=>by rw[lM];split;exact Xv b t m;exact R4 ‹_›
def wK(t:aw)(p:Nat×Nat)(own a:Int):Int:=
 if uf own t (p.1+1) (p.2 - (p.1+1))=db then own
 else if uq t (p.1+1) (p.2 - (p.1+1)) (-1)≠ -1/\lM a t p.1≠uq t (p.1+1) (p.2 - (p.1+1)) (-1)then own else uq t (p.1+1) (p.2 - (p.1+1)) (-1)
def Dz(t a:aw)(p:Nat×Nat)(own b:Int):aw:=
 if wK t p own b= -1 then t else qi a (wK t p own b) p.2 (qi a (wK t p own b) p.1 t)
def aqo {own b:Int}(d:own=0∨own=1)(f:b=0∨b=1)(t a:aw)(p:Nat×Nat):Dz t a p own b=uu t a p own b:=by
 unfold Dz uu wK AG;rw[vF];have g:=Xv f t p.1;cases hh:uf own t (p.1+1) (p.2 - (p.1+1))with
 |true=>simp only[Aq];rw[ai<|by omega,ai<|by simp]
 |false=>
  have c:=Ye d t (p.2 - (p.1+1)) (p.1+1) (-1) (.inl rfl) hh;cases ho':mJ (zg own) t (p.1+1) (p.2 - (p.1+1))with
  |false=>rw[ho',aj ⟨rfl,rfl⟩]at c;rw[c];simp
  |true=>rw[ho',ai<|by simp]at c;rw[c];have e:(if(1 - own≠ -1/\lM b t p.1≠1 - own)then own else 1 - own)=lM b t p.1:=(by by_cases hx:lM b t p.1=1 - own;rw[ai λh=>h.2 hx,hx];rw[aj ⟨by omega,hx⟩];omega);simp only[if_false,Ib];rw[e,ai<|by omega,ai<|by simp]
def jM(l c:Int):Int:=if(c=3∨c=6)/\l%2=0 then 2 else if(c=3∨c=6)∨c≠(if l%2=0 then 0 else 1)then 1 else 0
def arH {l c:Int}(b:c=0∨c=1∨c=3∨c=6):l+jM l c=pF c l:=by
 unfold jM pF;by_cases a:l%2=0;rw[aj a,aj a];rcases b with rfl|rfl|rfl|rfl<;>simp[a]
 rw[ai a,ai a];rcases b with rfl|rfl|rfl|rfl<;>simp[a]
def mo(l:aw)(x:Nat×Int×Int):aw:=l.set x.1<|pF x.2.2 x.2.1
def jl(l:aw)(x:Nat×Int×Int):aw:=l.set x.1<|l.getD x.1 0+jM x.2.1 x.2.2
def uD:∀(a:List<|Nat×Int×Int)(l:aw),(a.map Prod.fst).Nodup->(∀x∈a,l.getD x.1 0=x.2.1/\(x.2.2=0∨x.2.2=1∨x.2.2=3∨x.2.2=6))->a.foldl jl l=a.foldl mo l
 |[],_,_,_=>rfl
 |x::a,l,hn,h=>by
  rw[ni,Ec]at hn;have hx:=h x (by simp);have e:jl l x=mo l x:=by unfold jl mo;rw[hx.1,arH hx.2]
  rw[rZ,rZ,e];refine uD a _ hn.2 λy c=> ?_
  have b:=h y (by simp[c]);refine⟨?_,b.2⟩;unfold mo;rw[getD_set_ne];exact b.1;intro d;exact hn.1<|by rw[d];exact jX.2 ⟨y,c,rfl⟩
def jN(a:ba)(b:Int)(t:aw):List (Nat×Int×Int):=(a.zip t).map λx=>(x.1,b,x.2)
def ahO(a:ba)(b:Int)(t:aw)(h:a.length<=t.length):(jN a b t).map Prod.fst=a:=by unfold jN;rw[Po];show(a.zip t).map Prod.fst=a;exact List.map_fst_zip h
def kU:aw->Bool
 |[]=>db
 |c::r=>if c=10 then db else if mj c=db then kU r else da
def qM(c:Int)(r:aw):Bool:=c==10||(mj c&&kU r)
def nS(a:Int):Int->aw->aw->aw
 |_,[],_=>[]
 |_,_::_,[]=>[]
 |prev,c::cs,o::os=>(if qM c cs=db then a else if bX c=da then prev else o)::nS a (if qM c cs=db then a else if bX c=da then prev else o) cs os
def Ds(a c o:Int):Int:=if c=10 then a else if bX c=da then -1 else o
def BZ(a c:Int)(r:aw)(v:Int):Int:=if mj c=db/\kU r=db then a else v
def l1(a:Int):aw->aw->aw
 |[],_=>[]
 |_::_,[]=>[]
 |c::cs,o::os=>BZ a c cs (Ds a c o)::l1 a cs os
def Aa:Int->aw->aw
 |_,[]=>[]
 |a,v::r=>(if v= -1 then a else v)::Aa (if v= -1 then a else v) r
def Ms {a:Int}(k:a≠ -1):∀(d f:aw)(b:Int),(∀o∈f,o≠ -1)->Aa b (l1 a d f)=nS a b d f
 |[],_,_,_=>rfl
 |_::_,[],_,_=>rfl
 |c::d,o::f,b,h=>by
  have m:=h o (by simp);have key:(if BZ a c d (Ds a c o)= -1 then b else BZ a c d (Ds a c o))=(if qM c d=db then a else if bX c=da then b else o):=by
   unfold BZ Ds;by_cases e:c=10
   .subst e;have l:¬(mj 10=db/\kU d=db):=λh=>absurd h.1<|by decide
    have j:qM 10 d=db:=rfl;rw[ai l,aj rfl,ai k,aj j]
   have j:qM c d=(mj c&&kU d):=(by unfold qM;rw[show(c==10)=da by simpa using e,DM]);rw[j];by_cases i:mj c=db/\kU d=db;rw[aj i,ai k,aj<|by rw[Fx];exact i];rw[ai i,ai e,ai (show¬(mj c&&kU d)=db by rw[Fx];exact i)];by_cases g:bX c=da;rw[aj g,aj g,aj rfl];rw[ai g,ai g,ai m]
  rw[l1,Aa,nS,key,Ms k d f _ (λx hx=>h x<|by simp[hx])]
def Ce(t d:aw):List (Nat×Nat):=match dW t d t.length 0 ([],[])with
 |none=>[]
 |some c=>c.mergeSort λa b=>decide (a.1<=b.1)
def aqq(t e:aw):mG t e (Ce t e):=by
 unfold mG Ce;cases hp:dW t e t.length 0 ([],[])with
 |none=>rfl
 |some d=>simp only;refine⟨List.mergeSort_perm _ _,?_⟩;have:=List.pairwise_mergeSort (le:=λ(a b:Nat×Nat)=>decide (a.1<=b.1)) (by intro a b c;simp;omega) (by intro a b;simp;omega) d;exact this.imp<|by intro a b h;simpa using h
def mG.is {t a:aw}{b:List (Nat×Nat)}(h:mG t a b):b=Ce t a:=h.one<|aqq t a
def B6(t a:aw)(c:List<|Nat×Nat)(e b:Int):aw:=c.foldl (λt p=>uu t a p e b) t
def XO(a:aw)(e c:Int):∀(b:List<|Nat×Nat)(t:aw),(B6 t a b e c).length=t.length
 |[],t=>rfl
 |p::b,t=>by rw[B6,rZ];exact(XO a e c b _).trans (aqn _ _ _ _ _)
def Od(b a:aw)(s:Sq):aw:=
 E7 s.aq s.ay (s.level%2) (B6 (vJ s.aq<|bz a s.at') (bz a s.at') (Ce (vJ s.aq<|bz a s.at')<|bz b s.at') (s.level%2) s.aq)
def rQ(b a:aw)(s:Sq):List (Nat×Int×Int):=jN s.at' s.level<|Od b a s
def gT(a:aw)(d:Int):Int:=if d=0∨d=1 then d else found a
def fQ(b a:aw)(d:Int):aw:=
 nS (gT a d) (gT a d) a (((iL a (bf a<|gT a d) (aO a)<|gT a d).flatMap (rQ b<|je a<|gT a d)).foldl mo (bf a<|gT a d))
structure gP(w:World)(B s:Nat)(v:Value)(l:ba):Prop where
 cell:w.1[s]? =some (.cells #[v] 257 (0,0))
 row:w.ownsRow B 3 1 v l.length<|iv<|nl l
 low:B<=s
structure bS(w w':World)(s:Nat)(v v':Value):Prop where
 os:w'.os=w.os
 tape:w'.tape=w.tape
 output:w'.output=w.output
 size:w.1.size<=w'.1.size
 block:∀k,k<w.1.size->k≠s->v.ownBlock≠some k->w'.1[k]? =w.1[k]?
 own:v'.ownBlock=v.ownBlock∨∀k,v'.ownBlock=some k->w.1.size<=k
def bS.below {w c d:cw}{B s:Nat}{v j:cJ}{l:ba}(h:bS w c s v j)(b:gP w B s v l)(g:cD B d w):cD B d c:=
 g.trans ⟨h.os,h.tape,h.output,h.size,λk i=>by have f:=b.low;have a:k<w.1.size:=lW (lW i f)<|gV<|dg b.cell;refine h.block k a (by omega) ?_;intro e;have:=wJ b.row k e;omega⟩
def gP.ne {w:cw}{B s:Nat}{v:cJ}{l:ba}(h:gP w B s v l):v.ownBlock≠V s:=by rcases h.row.2 with⟨rfl,_⟩|⟨g,c,b,rfl,_,a,_⟩;simp[Value.ownBlock];simp only[Value.ownBlock];intro e;obtain rfl:=aI e;rw[h.cell]at a;simp at a
def gP.grow {w d:cw}{B s:Nat}{v b:cJ}{l q:ba}{m:Nat}(h:gP w B s v l)(c:d.ownsRow B 3 1 b m<|iv<|nl q)(f:w.grownBy d v.ownBlock)(a:b.ownBlock=v.ownBlock∨b.ownBlock=V (w.1.size+1)):gP (d.setCell (S s 0 U) b) B s b q/\bS w (d.setCell (S s 0 U) b) s v b/\d.cell? (S s 0 U)=V v/\d.frozen? (S s 0 U)=da:=by
 have n:=dg h.cell;have p:d.1[s]? =V (bi #[v] 257 (0,0)):=by rw[f.block s n h.ne.symm];exact h.cell
 have o:b.ownBlock≠V s:=by rcases a with a|a;rw[a];exact h.ne;rw[a];intro e;have:=aI e;omega
 have r:m=q.length:=by have:=c.1;rw[oC,iz]at this;omega
 subst r;refine⟨⟨by rw[fe p];rfl,kT c o 0 b,h.low⟩,⟨f.os,f.tape,f.output,?_,?_,?_⟩,az p 0,cB p 0⟩;have:=f.size;simpa using this;intro k g i j;rw[iX];exact f.block k g (λe=>j e.symm);exact i;rcases a with a|a;exact .inl a;exact .inr λk g=>by rw[a]at g;have:=aI g;omega
def Xz(w:cw)(B s:Nat)(v:cJ)(l:ba)(h:gP w B s v l):cP prog 244 #[.pointer<|V<|S s 0 U] w λe b=>e=bj (Y Z l.length)/\b=w:=by obtain⟨a,c,rfl⟩:=eV h.row;have d:w.cell? (S s 0 U)=V (R a l.length c):=az h.cell 0;clear h;go_enter func244,ntmps244;go_wp2;go_ret;exact⟨rfl,rfl⟩
def sA(w:cw)(B s:Nat)(v:cJ)(l:ba)(i:Nat)(h:gP w B s v l)(a:i<l.length):cP prog 234 #[.pointer<|V<|S s 0 U,Y Z i] w λe f=>e=bj (de #[Y Z (l.getD i 0:Nat),ce db])/\f=w:=by
 obtain⟨g,c,rfl,_,_,_⟩:=iq h.row (by omega);have j:w.cell? (S s 0 U)=V (.slice (V<|S g 0 U) l.length c):=az h.cell 0;have b:=jx h.row i (by rw[iz];exact a);rw[pH _ _ a]at b;generalize l.getD i 0=x at*;generalize l.length=n at*;have d:((i:Int)<(n:Int)):=by omega
 have k:decide ((i:Int)<0)=da:=by simp
 clear h;go_enter func234,ntmps234;go_wp2;go_ret2;exact⟨rfl,rfl⟩
def akf(w:cw)(s:Nat)(i:Int)(b:i<0):cP prog 234 #[.pointer<|V<|S s 0 U,Y Z i] w λe a=>e=bj (de #[Y Z 0,ce da])/\a=w:=by go_enter func234,ntmps234;go_wp2;go_ret2;exact⟨rfl,rfl⟩
def agv(w:cw)(B s:Nat)(v:cJ)(l:ba)(i:Nat)(h:gP w B s v l)(x:l.length<=1000000):cP prog 197 #[.pointer<|V<|S s 0 U,Y Z i] w λe o=>e=bj (de #[])/\∃n,gP o B s n (l++[i])/\bS w o s v n:=by obtain⟨y,u,z,A,C⟩:=fP Tryz.sQ;have r:w.cell? (S s 0 U)=V v:=az h.cell 0;have f0:w.frozen? (S s 0 U)=da:=cB h.cell 0;have b:=h.row;have f:B<=w.1.size:=bM h.low<|gV<|dg h.cell;have q:=ah h;obtain⟨a,c,rfl⟩:=eV b;clear h;go_enter func197,ntmps197;go_wp2_with(at_builtin;refine AW _ rfl _ _ 31 rfl B 3 y (Y Z 0) 8 underlying31 u z A C rfl (by decide) _ _ _ rfl b _ _ _ rfl rfl rfl x f ?_);intro G H d j k;obtain⟨E,D,rfl⟩:=eV d;obtain⟨m,g,F,f5⟩:=q.out.grow (by rw[G0,Rv]at d;exact d) j k;have t:=ah m;have p:=ah g;clear m g d j k b r f0;go_wp2;go_end0;exact⟨rfl,_,t,p⟩
def RF {B g n c z:Nat}{e:TypeId}:∀(d:List cJ)(o:Nat)(w:cw)(b:List cJ),w.ownsRow B e z (.slice (V<|S g 0 U) n c) n b->∃a,(w.setCells g o d).ownsRow B e z (.slice (V<|S g 0 U) n c) n a/\w.grownBy (w.setCells g o d) (V g)/\∀j,j<o->a[j]? =b[j]?
 |[],_,w,b,h=>⟨b,h,kI _ _,λ_ _=>rfl⟩
 |v::d,o,w,b,h=>by obtain⟨f,i⟩:=C0 h o v;obtain⟨a,k,l,m⟩:=RF d (o+1) _ _ f;refine⟨a,k,i.trans l,λj p=> ?_⟩;rw[m j<|by omega,ajc<|by omega]
def Zi {c:Type}(a b:List c)(k:Nat)(h:∀j,j<k->b[j]? =a[j]?):b.take k=a.take k:=by apply Lr;intro j;rw[Ph,Ph];split;exact h j (by assumption);rfl
def gP.cut {w:cw}{B s g c n:Nat}{l:ba}{vs:List cJ}(h:gP w B s (.slice (V<|S g 0 U) l.length c) l)(t:n<l.length):gP ((w.setCells g n vs).setCell (S s 0 U) (.slice (V<|S g 0 U) n c)) B s (.slice (V<|S g 0 U) n c) (l.take n)/\bS w ((w.setCells g n vs).setCell (S s 0 U) (.slice (V<|S g 0 U) n c)) s (.slice (V<|S g 0 U) l.length c) (.slice (V<|S g 0 U) n c)/\(w.setCells g n vs).cell? (S s 0 U)=V (.slice (V<|S g 0 U) l.length c)/\(w.setCells g n vs).frozen? (S s 0 U)=da:=by
 have f:=dg h.cell;have i:=h.ne;have o:g≠s:=by simpa [Value.ownBlock]using i
 obtain⟨u,p,a,q⟩:=RF vs n w _ h.row;have j:(w.setCells g n vs).1[s]? =V (bi #[.slice (V<|S g 0 U) l.length c] 257 (0,0)):=by rw[a.block s f<|by simpa using o.symm];exact h.cell
 have m:=RG p n (by omega);rw[LC,Zi _ _ n q,<-LC n,Xk,LC]at m;refine⟨⟨by rw[fe j];rfl,?_,h.low⟩,⟨a.os,a.tape,a.output,by have:=a.size;simpa using this,?_,.inl rfl⟩,az j 0,cB j 0⟩;have:=kT m (s:=s) (by simpa [Value.ownBlock]using o) 0 (.slice (V<|S g 0 U) n c);simpa [kG<|gV t]using this;intro k r b d;rw[iX];exact a.block k r (λe=>d<|by rw[e];rfl);exact b
def Ee(w:cw)(B s:Nat)(v:cJ)(l:ba)(n:Nat)(h:gP w B s v l)(q:n<l.length)(z:l.length<=1000000):cP prog 235 #[.pointer<|V<|S s 0 U,Y Z n] w λe f=>e=bj (de #[])/\∃d,gP f B s d (l.take n)/\bS w f s v d:=by
 obtain⟨g,c,rfl,b,A,p⟩:=iq h.row (by omega);have u:w.cell? (S s 0 U)=V (.slice (V<|S g 0 U) l.length c):=az h.cell 0;have f0:w.frozen? (S s 0 U)=da:=cB h.cell 0;have o:=ai2 (P:=prog) w 31 3 0 (Y Z 0) underlying31 Tryz.zeroValue3 rfl rfl g n (l.length - n) (c - n) (by omega) (λj y=>by rw[jx h.row (n+j)<|by rw[iz];omega];rfl) (λj _=>Em h.row<|n+j);have m:n<=c:=by omega
 have r:((n:Int)<(l.length:Int)):=by omega
 obtain⟨a,hF,x,f5⟩:=h.cut (vs:=List.replicate (l.length - n)<|Y Z 0) q;have k:=ah a;have i:=ah hF;clear h a hF;generalize w.setCells g n (List.replicate (l.length - n)<|Y Z 0)=t at*;generalize l.length=L at*;go_enter func235,ntmps235;go_wp2;go_end0;exact⟨rfl,_,k,i⟩
def aqY(w:cw)(B s:Nat)(v:cJ)(l:ba)(x:Nat)(h:gP w B s v<|l++[x])(q:l.length<=100000):cP prog 198 #[.pointer<|V<|S s 0 U] w λe d=>e=bj (de #[Y Z x,ce db])/\∃f,gP d B s f l/\bS w d s v f:=by
 have b:(l++[x]).length=l.length+1:=by simp
 obtain⟨a,c,rfl⟩:=eV h.row;have p:w.cell? (S s 0 U)=V (R a (l.length+1) c):=by have:=az h.cell 0;rw[b]at this;exact this
 have o:dd (cP prog 234 #[.pointer<|V<|S s 0 U,Y Z l.length] w λe d=>e=bj (de #[Y Z x,ce db])/\d=w):=by
  have:=sA w B s _ (l++[x]) l.length h (by omega);have hx:(l++[x]).getD l.length 0=x:=by simp
  rw[hx]at this;exact this
 have j:dd (cP prog 235 #[.pointer<|V<|S s 0 U,Y Z l.length] w λe d=>e=bj (de #[])/\∃f,gP d B s f l/\bS w d s (.slice a (l++[x]).length c) f):=by
  have:=Ee w B s _ (l++[x]) l.length h (by omega) (by omega);have hx:(l++[x]).take l.length=l:=by simp
  rw[hx]at this;exact this
 clear h b;generalize l.length=L at*;go_enter func198,ntmps198;go_wp2_with fail;refine o.out.mono ?_;rintro n t ⟨rfl,hx⟩;have g:=hx.symm;subst g;go_wp2_with fail;refine j.out.mono ?_;rintro n r ⟨rfl,f,i,hF⟩;have m:=ah i;have k:=ah hF;clear i hF;go_wp2;go_ret2;exact⟨rfl,_,m,k⟩
def aqX(w:cw)(B s:Nat)(v:cJ)(h:gP w B s v []):cP prog 198 #[.pointer<|V<|S s 0 U] w λe d=>e=bj (de #[Y Z 0,ce da])/\d=w:=by obtain⟨a,c,rfl⟩:=eV h.row;have f:w.cell? (S s 0 U)=V (R a 0 c):=az h.cell 0;clear h;go_enter func198,ntmps198;go_wp2_with fail;refine(akf w s (-1)<|by omega).mono ?_;rintro g i ⟨rfl,hx⟩;have b:=hx.symm;subst b;go_wp2;go_ret2;exact⟨rfl,rfl⟩
def nC(c:Int):Bool:=c==13||(c==14||(c==15||c==16))
def pG(c:Int)(w:cw):cP prog 196 #[Y Z c] w λe d=>e=bj (ce<|aU c)/\d=w:=by
 obtain⟨q,b⟩:=ac<|aU c;rw[<-b];have a:=ah b;clear b;cases h1:(c==18)
 .cases h2:(c==19)
  .go_enter func196,ntmps196;go_wp2;go_ret;exact⟨iA<|by rw[a.out,aU,h1,h2];rfl,rfl⟩
  go_enter func196,ntmps196;go_wp2;go_ret;exact⟨iA<|by rw[a.out,aU,h1,h2];rfl,rfl⟩
 go_enter func196,ntmps196;go_wp2;go_ret;exact⟨iA<|by rw[a.out,aU,h1];rfl,rfl⟩
def Gf(c:Int)(w:cw):cP prog 202 #[Y Z c] w λe d=>e=bj (ce<|nC c)/\d=w:=by
 obtain⟨q,a⟩:=ac<|nC c;rw[<-a];have b:=ah a;clear a;cases h1:(c==13)<;>cases h2:(c==14)<;>cases h3:(c==15)
 all_goals
  go_enter func202,ntmps202;go_wp2;go_ret;exact⟨iA<|by rw[b.out,nC,h1,h2,h3];rfl,rfl⟩
def zl(c:Int)(w:cw):cP prog 160 #[Y Z c] w λe g=>e=bj (ce (!bX c))/\g=w:=by
 have b:(!bX c)=(nC c||(c==17||c==9)):=by rw[Cv];simp only[bX,nC,aiw,aiv,akA,Fy,C2,Fz,vS];omega
 rw[b];clear b;have d:=ah<|Gf c w;generalize nC c=f at*;cases f<;>cases h2:(c==17)
 all_goals
  go_enter func160,ntmps160;go_wp2_with fail;refine d.out.mono ?_;rintro h i ⟨rfl,hx⟩;have a:=hx.symm;subst a;go_wp2;go_ret;exact⟨iA<|by simp,rfl⟩
def PD(c:Int)(w:cw):cP prog 217 #[Y Z c] w λe f=>e=bj (Y Z<|bH c)/\f=w:=by
 obtain⟨q,a⟩:=ac<|bH c;rw[<-a];have b:=ah a;clear a;cases h0:(c==0)<;>cases h1:(c==1)<;>cases h3:(c==3)<;>cases h6:(c==6)
 all_goals
  have d:dd (q=if(c==0)=db then 0 else if(c==1||(c==3||c==6))=db then 1 else -1):=by show _=_;rw[b.out,bH];simp
  go_enter func217,ntmps217;go_wp2;go_ret;exact⟨dX<|by rw[d.out,h0,h1,h3,h6];rfl,rfl⟩
def DI(l:Int)(w:cw)(f:0<=l):cP prog 96 #[Y Z l] w λe d=>e=bj (Y Z<|l%2)/\d=w:=by
 obtain⟨q,a⟩:=ac<|l%2;have b:q=0∨q=1:=by omega
 rw[<-a];rcases b with rfl|rfl
 .have c:(l%2==0)=db:=by simpa using a.symm
  clear a;go_enter func96,ntmps96;go_wp2;go_ret;exact⟨rfl,rfl⟩
 have c:(l%2==0)=da:=by rw[<-a];rfl
 clear a;go_enter func96,ntmps96;go_wp2;go_ret;exact⟨rfl,rfl⟩
def UK(c:Int)(w:cw):cP prog 215 #[Y Z c] w λe f=>e=bj (ce<|qf c)/\f=w:=by
 have b:=ah<|pG c w;unfold qf;generalize aU c=d at*;cases h1:(c==11)<;>cases h2:(c==10)<;>cases h3:(c==12)
 case false.false.false=>
  cases d;all_goals
   go_enter func215,ntmps215;go_wp2_with fail;refine b.out.mono ?_;rintro g h ⟨rfl,hx⟩;have a:=hx.symm;subst a;go_wp2;go_ret;exact⟨iA<|by simp,rfl⟩
 all_goals
  go_enter func215,ntmps215;go_wp2;go_ret;exact⟨iA<|by simp,rfl⟩
def H8(c:Int):Bool:=c==11||(aU c||(c==21|| !bX c))
def akR(c:Int)(w:cw):cP prog 162 #[Y Z c] w λe i=>e=bj (ce<|H8 c)/\i=w:=by
 have b:=ah<|pG c w;have g:=ah<|zl c w;unfold H8;generalize aU c=h at*;generalize(!bX c)=j at*;cases h1:(c==11)
 .cases h
  .cases h3:(c==21)
   .go_enter func162,ntmps162;go_wp2_with fail;refine b.out.mono ?_;rintro d f ⟨rfl,hx⟩;have a:=hx.symm;subst a;go_wp2_with fail;refine g.out.mono ?_;rintro d f ⟨rfl,hx⟩;have a:=hx.symm;subst a;go_wp2;go_ret;exact⟨iA<|by simp,rfl⟩
   go_enter func162,ntmps162;go_wp2_with fail;refine b.out.mono ?_;rintro d f ⟨rfl,hx⟩;have a:=hx.symm;subst a;go_wp2;go_ret;exact⟨iA<|by simp,rfl⟩
  go_enter func162,ntmps162;go_wp2_with fail;refine b.out.mono ?_;rintro d f ⟨rfl,hx⟩;have a:=hx.symm;subst a;go_wp2;go_ret;exact⟨iA<|by simp,rfl⟩
 go_enter func162,ntmps162;go_wp2;go_ret;exact⟨iA<|by simp,rfl⟩
def gP.setOther {w:cw}{B s g:Nat}{v:cJ}{l:ba}(h:gP w B s v l)(b:g≠s)(a:v.ownBlock≠V g)(k:Nat)(u:cJ):gP (w.setCell (S g k U) u) B s v l:=
 ⟨by rw[iX];exact h.cell;exact b.symm,kT h.row a k u,h.low⟩
def bI.Ex {w b:cw}{B g n c s:Nat}{v j:cJ}{t:aw}(h:bI w B g n c t)(e:bS w b s v j)(i:g≠s)(d:v.ownBlock≠V g):bI b B g n c t:=
 kS h λk o f a=>by
  have:g=k:=by simpa [Value.ownBlock]using f
  subst this;rw[e.block g (dg a) i d];exact a
def bS.I1 {w d:cw}{s g:Nat}{v a:cJ}(c:bS w d s v a)(f:g<w.1.size)(b:v.ownBlock≠V g):a.ownBlock≠V g:=by rcases c.own with h|h;rw[h];exact b;intro e;have:=h g e;omega
def afC:∀(l:ba)(n:Nat),l.Nodup->(∀a∈l,a<n)->l.length<=n
 |[],n,_,_=>by simp
 |a::l,0,_,h=>by have:=h a (by simp);omega
 |a::l,n+1,hn,h=>by
  have ih:=afC ((a::l).erase n) n (hn.erase n) (λb c=>by
   have f:=h b<|ajj c;have g:b≠n:=λe=>by subst e;exact(ai3 hn) c
   omega)
  by_cases d:n∈a::l;rw[ajh d]at ih;omega;rw[ajb d]at ih;omega
def apk(i:aw)(n b F aa:Nat)(w:cw)(hl:i.length=n)(hn:n<=1000)(hc:bJ w b F i)(hb:b<w.1.size):cP prog 140 #[.slice (V<|S b F U) n aa] w λe t=>∃g,e=bj (.slice (V<|S g 0 U) n n)/\aW t w.1.size 3 g n (iv<|oD i)/\cD w.1.size w t:=by
 have ab:=run_make_row' (P:=prog) 31 3 (Y Z 0) 8 underlying31 Tryz.sQ rfl .i64 .i64 n (by omega) (by omega);have L:dd (bJ w b F i/\b<w.1.size/\i.length=n):=⟨hc,hb,hl⟩
 obtain⟨W1,q⟩:=ac<|(w.alloc<|bi (madeCells #[Y Z 0] n) 3).alloc (bi #[R U 0 0] 257);have A:dd (cD w.1.size w W1):=by rw[q];exact((aA _ _).alloc (au _) _).alloc (by simp) _
 have y:dd (bI W1 w.1.size w.1.size n n (uj i 0).1):=by
  rw[q];have h1:aW (w.alloc<|bi (madeCells #[Y Z 0] n) 3) w.1.size 3 w.1.size n (List.replicate n<|Y Z 0):=aW.made (au _) (by omega);have h2:=h1.alloc<|bi #[R U 0 0] 257;have e:iv (uj i 0).1=List.replicate n (Y Z 0):=by rw[uj,hl];simp[iv]
  show World.ownsRow _ _ _ _ _ _ _;rw[e];exact h2
 have m:dd (gP W1 w.1.size (w.1.size+1) (R U 0 0) (uj i 0).2):=by
  rw[q];refine⟨?_,⟨rfl,.inl ⟨rfl,rfl⟩⟩,by omega⟩;have ae:(w.alloc<|bi (madeCells #[Y Z 0] n) 3).1.size=w.1.size+1:=by simp
  rw[<-ae];exact pM
 clear hc hb hl;go_enter func140,ntmps140;go_wp2;rw[<-q];obtain⟨s,hs⟩:=ac<|w.1.size+1;obtain⟨g,hg⟩:=ac w.1.size;rw[<-hs];rw[<-hs]at m;have HG:dd (g=w.1.size/\s=w.1.size+1):=⟨hg,hs⟩
 rw[<-hg]at y ⊢;have OC:=ah hg.symm;clear q ab hs hg;go_loopg [14] n (λgh kv W=>∃(k:Nat)(v:cJ)(x:aw×ba),k<=n/\gh=n - k/\kv=Y Z k/\cD w.1.size w W/\bI W w.1.size g n n x.1/\gP W w.1.size s v x.2/\v.ownBlock≠V g/\uj i k=x);exact⟨0,R U 0 0,uj i 0,by omega,rfl,rfl,A,by rw[OC.out];exact y.out,m,by simp[Value.ownBlock],rfl⟩;clear A y m;obtain⟨k,v,x,hk,rfl,rfl,O,B,hS,hV,J⟩:=hrel;have HB:=ah O;have HR:=ah B;have HS:=ah hS;have H:=ah hV;have HX:=ah J;have l:=NK i k (by rw[L.out.2.2];exact hk);rw[J]at l;have dK:=ah l;have T:g≠s:=by have:=HG.out;omega
 have vX:g<wr.1.size:=(Bu B g rfl).2;have E:x.2.length<=k:=by
  have h1:=l.vC;have h2:∀a∈x.2,a<k:=λa ha=>by obtain⟨d,hd⟩:=mA ha;exact(l.opn d a hd).2.2.1
  exact afC x.2 k h1 h2
 by_cases D:k<n
 .have r:k<i.length:=by rw[L.out.2.2];exact D
  have cc:=L.out.1.stay O L.out.2.1 k r;have C:=B.cell k D;have af:=B.frozen k;generalize x.1.getD k 0=oc at C;have f:uj i (k+1)=Rq i k x:=by rw[uj,J]
  have eN:=B.set k (-1);have Q:=hS.setOther T hV k<|Y Z (-1);have fW:cD w.1.size w (wr.setCell (S g k U)<|Y Z (-1)):=O.setCell (p:=(S g k U)) (by rw[OC.out];exact au _) _;have y:=ah eN;have m:=ah Q;have A:=ah fW;have N:g<(wr.setCell (S g k U)<|Y Z (-1)).1.size:=by simpa using vX
  unfold Rq at f;generalize i.getD k 0=c at*;clear O B hS hV J l eN Q fW HB HR HS;cases bK:aU c
  .rw[bK,ai<|by decide]at f;by_cases j:c=21
   .subst j;rw[aj rfl]at f;rcases Bh x.2 with h|⟨G,o,h⟩
    .rw[h]at f;have z:dd (uj i (k+1)=(x.1.set k (-1),x.2)):=(by show _=_;rw[f,h];rfl);have CK:dd (cP prog 198 #[.pointer<|V<|S s 0 U] (wr.setCell (S g k U)<|Y Z (-1)) λe t=>e=bj (de #[Y Z 0,ce da])/\t=wr.setCell (S g k U) (Y Z (-1))):=aqX _ w.1.size s v (by have:=m.out;rw[h]at this;exact this);clear f bK r h;go_wp2_with fail;refine(pG 21 _).mono ?_;rintro I wx ⟨rfl,hx⟩;subst hx;rw[NB];go_wp2_with fail;refine CK.out.mono ?_;rintro I wx ⟨rfl,hx⟩;subst hx;go_wp2;go_roundg (n - (k+1));exact⟨k+1,v,(x.1.set k (-1),x.2),by omega,rfl,by simp,A,y,m,H,z⟩;omega
    rw[CX]at h;rw[h]at f;have z:dd (uj i (k+1)=(((x.1.set k (-1)).set o (k:Int)).set k (o:Int),G)):=(by show _=_;rw[f];simp);have M:=dK.out.opn G.length o (by rw[h];simp);have ag:o<k:=M.2.2.1;have ad:G.length<=100000:=(by rw[h]at E;simp at E;omega);have CK:dd (cP prog 198 #[.pointer<|V<|S s 0 U] (wr.setCell (S g k U)<|Y Z (-1)) λe t=>e=bj (de #[Y Z o,ce db])/\∃v',gP t w.1.size s v' G/\bS (wr.setCell (S g k U)<|Y Z (-1)) t s v v'):=aqY _ w.1.size s v G o (by have:=m.out;rw[h]at this;exact this) ad;clear f bK r h M E;go_wp2_with fail;refine(pG 21 _).mono ?_;rintro I wx ⟨rfl,hx⟩;subst hx;rw[NB];go_wp2_with fail;refine CK.out.mono ?_;rintro I K ⟨rfl,v3,X,u⟩;have p5:bI K w.1.size g n n (x.1.set k (-1)):=y.out.Ex u T H;have Gv:v3.ownBlock≠V g:=u.I1 N H;have cA:cD w.1.size w K:=u.below m A;have Q4:o<n:=(by omega);have co:=p5.cell o Q4;have fo:=p5.frozen o;have QE:=p5.set o (k:Int);have ck:=QE.cell k D;have fk:=QE.frozen k;have qD:dd (bI ((K.setCell (S g o U)<|Y Z k).setCell (S g k U) (Y Z o)) w.1.size g n n<|((x.1.set k (-1)).set o (k:Int)).set k (o:Int)):=QE.set k (o:Int);have eZ:dd (gP ((K.setCell (S g o U)<|Y Z k).setCell (S g k U) (Y Z o)) w.1.size s v3 G):=(X.setOther T Gv o _).setOther T Gv k _;have bF:dd (cD w.1.size w<|(K.setCell (S g o U)<|Y Z k).setCell (S g k U) (Y Z o)):=(cA.setCell (p:=(S g o U)) (by rw[OC.out];exact au _) _).setCell (p:=(S g k U)) (by rw[OC.out];exact au _) _;have TM:=ah Gv;generalize(x.1.set k (-1)).getD o 0=oo at co;generalize((x.1.set k (-1)).set o (k:Int)).getD k 0=kk at ck;clear X u p5 Gv cA QE CK;go_wp2;go_roundg (n - (k+1));exact⟨k+1,v3,(((x.1.set k (-1)).set o (k:Int)).set k (o:Int),G),by omega,rfl,by simp,bF,qD,eZ,TM,z⟩;omega
   rw[ai j]at f;have DA:(c !=21)=db:=(by simpa using j);have z:=ah f;have zK:=ah bK;clear f j bK r;go_wp2_with fail;refine(pG c _).mono ?_;rintro I wx ⟨rfl,hx⟩;subst hx;rw[zK.out];go_wp2;go_roundg (n - (k+1));exact⟨k+1,v,(x.1.set k (-1),x.2),by omega,rfl,by simp,A,y,m,H,z⟩;omega
  rw[bK,aj rfl]at f;have j:c≠21:=(by rintro rfl;cases bK);have DA:(c !=21)=db:=(by simpa using j);have z:=ah f;have zK:=ah bK;have Lb:dd (cP prog 197 #[.pointer<|V<|S s 0 U,Y Z k] (wr.setCell (S g k U)<|Y Z (-1)) λe t=>e=bj (de #[])/\∃v',gP t w.1.size s v' (x.2++[k])/\bS (wr.setCell (S g k U)<|Y Z (-1)) t s v v'):=agv _ _ _ _ _ _ m.out (by omega);clear f j bK r;go_wp2_with fail;refine(pG c _).mono ?_;rintro I wx ⟨rfl,hx⟩;subst hx;rw[zK.out];go_wp2_with fail;refine Lb.out.mono ?_;rintro I K ⟨rfl,v3,X,u⟩;have gH:=ah X;have aJ:=ah<|u.below m A;have oU:=ah<|y.out.Ex u T H;have TM:=ah<|u.I1 N H;clear X u Lb;go_wp2;go_roundg (n - (k+1));exact⟨k+1,v3,(x.1.set k (-1),x.2++[k]),by omega,rfl,by simp,aJ,oU,gH,TM,z⟩;omega
 obtain rfl:k=n:=by omega
 have HL:dd (x.1=oD i):=by show _=_;rw[oD,L.out.2.2,J]
 clear O B hS hV J l;go_wp2;refine bU (v:= .slice (V<|S g 0 U) k k) (by simp[results,results140,go_sem]) rfl ⟨g,rfl,?_,HB⟩;have:=HR.out;rw[HL.out]at this;exact this
structure cN(w:World)(B s:Nat)(v lp:Value)(x:XS):Prop where
 cell:w.1[s]? =some (.cells #[lp,v,.int .i64 x.aM,.int .i64 x.aV,.int .i64 x.valid] 212 (0,0))
 row:w.ownsRow B 215 3 v x.st.length<|kM x.st
 low:B<=s
def cN.ne {w:cw}{B s:Nat}{v c:cJ}{x:XS}(h:cN w B s v c x):v.ownBlock≠V s:=by rcases h.row.2 with⟨rfl,_⟩|⟨g,d,b,rfl,_,a,_⟩;simp[Value.ownBlock];simp only[Value.ownBlock];intro e;obtain rfl:=aI e;rw[h.cell]at a;simp at a
def bS.I7 {w c d:cw}{B s:Nat}{v l j:cJ}{x:XS}(h:bS w c s v l)(b:cN w B s v j x)(g:cD B d w):cD B d c:=
 g.trans ⟨h.os,h.tape,h.output,h.size,λk i=>by have f:=b.low;have a:k<w.1.size:=lW (lW i f)<|gV<|dg b.cell;refine h.block k a (by omega) ?_;intro e;have:=wJ b.row k e;omega⟩
def bS.refl(w:cw)(s:Nat)(v:cJ):bS w w s v v:=⟨rfl,rfl,rfl,au _,λ_ _ _ _=>rfl,.inl rfl⟩
def cN.ent {w:cw}{B s:Nat}{v n:cJ}{x:XS}(h:cN w B s v n x)(i:Nat)(b:i<x.st.length):∃g c,v= .slice (V<|S g 0 U) x.st.length c/\x.st.length<=c/\g<w.1.size/\∃e,x.st[i]? =V e/\w.cell? (S g (i*3) U)=V (Y Z e.l)/\w.cell? (S g (i*3+1) U)=V (Y Z e.o)/\w.cell? (S g (i*3+2) U)=V (ce e.i):=by
 obtain⟨g,c,rfl,d,f,_⟩:=iq h.row (by omega);refine⟨g,c,rfl,d,f,x.st[i],aK b,?_⟩;have key:∀(l:List aY)(i:Nat)(b:i<l.length),(kM l)[i*3]? =V (Y Z l[i].l)/\(kM l)[i*3+1]? =V (Y Z l[i].o)/\(kM l)[i*3+2]? =V (ce l[i].i):=by
  intro l
  induction l with
  |nil=>intro i b;simp at b
  |cons a l ih=>
   intro i b;have e:kM (a::l)=[Y Z a.l,Y Z a.o,ce a.i]++kM l:=(by simp[kM,aY.cells]);cases i with
   |zero=>rw[e];simp
   |succ i=>have:=ih i (by simpa using b);rw[e,show(i+1)*3=i*3+3 by omega];simpa using this
 obtain⟨j,k,m⟩:=key x.st i b;exact⟨by rw[cT h.row (i*3)<|by omega];exact j,by rw[cT h.row (i*3+1)<|by omega];exact k,by rw[cT h.row (i*3+2)<|by omega];exact m⟩
def ao4(w:cw)(B s:Nat)(v b:cJ)(x:XS)(h:cN w B s v b x):cP prog 241 #[.pointer<|V<|S s 1 U] w λe d=>e=bj (Y Z x.st.length)/\d=w:=by obtain⟨a,c,rfl⟩:=eV h.row;have f:w.cell? (S s 1 U)=V (R a x.st.length c):=az h.cell 1;clear h;go_enter func241,ntmps241;go_wp2;go_ret;exact⟨rfl,rfl⟩
def sy(w:cw)(B s:Nat)(v z:cJ)(x:XS)(i:Nat)(e:aY)(h:cN w B s v z x)(b:x.st[i]? =V e):cP prog 263 #[.pointer<|V<|S s 1 U,Y Z i] w λr A=>r=bj (de #[df #[Y Z e.l,Y Z e.o,ce e.i],ce db])/\cD w.1.size w A:=by
 have u:i<x.st.length:=(tJ.1 b).1;obtain⟨g,c,rfl,_,d,m,a,j,k,l⟩:=h.ent i u;obtain rfl:e=m:=aI<|b.symm.trans a;have f:=dg h.cell;have C:(w.alloc<|bi #[Y Z 0,Y Z 0,ce da] 215).cell? (S s 1 U)=V (.slice (V<|S g 0 U) x.st.length c):=(gW _ _ (S s 1 U) f).trans (az h.cell 1);have j:=(gW w (bi #[Y Z 0,Y Z 0,ce da] 215) (S g (i*3) U) d).trans j;have k:=(gW w (bi #[Y Z 0,Y Z 0,ce da] 215) (S g (i*3+1) U) d).trans k;have l:=(gW w (bi #[Y Z 0,Y Z 0,ce da] 215) (S g (i*3+2) U) d).trans l;have y:((i:Int)<(x.st.length:Int)):=by omega
 have t:decide ((i:Int)<0)=da:=by simp
 clear h b a;generalize x.st.length=n at*;obtain⟨p,q,o⟩:=e;simp only at j k l ⊢;go_enter func263,ntmps263;go_wp2;exact bU (v:=de #[df #[Y Z p,Y Z q,ce o],ce db]) (by simp[results,results263,Tryz.isAgg215,Tryz.sizeOf215,go_sem]) rfl ⟨rfl,(aA _ _).alloc (au _) _⟩
def Tryz.aom:(prog.info? 215).map (λi=>(i.zero,i.size,i.bytes))=V (V<|df #[Y Z 0,Y Z 0,ce da],3,24):=by kernel_rfl
def cN.grow {w c:cw}{B s:Nat}{v a o:cJ}{x:XS}{st':List aY}{m:Nat}(h:cN w B s v o x)(b:c.ownsRow B 215 3 a m<|kM st')(d:w.grownBy c v.ownBlock)(f:a.ownBlock=v.ownBlock∨∀k,a.ownBlock=V k->w.1.size<=k):cN (c.setCell (S s 1 U) a) B s a o {x with st:=st'}/\bS w (c.setCell (S s 1 U) a) s v a/\c.cell? (S s 1 U)=V v/\c.frozen? (S s 1 U)=da:=by
 have j:=dg h.cell;have n:c.1[s]? =V (bi #[o,v,Y Z x.aM,Y Z x.aV,Y Z x.valid] 212 (0,0)):=by rw[d.block s j h.ne.symm];exact h.cell
 have l:a.ownBlock≠V s:=by rcases f with f|f;rw[f];exact h.ne;intro e;have:=f s e;omega
 have q:m=st'.length:=by have:=b.1;rw[Mg]at this;omega
 subst q;refine⟨⟨by rw[fe n];rfl,kT b l 1 a,h.low⟩,⟨d.os,d.tape,d.output,?_,?_,f⟩,az n 1,cB n 1⟩;have:=d.size;simpa using this;intro k p g i;rw[iX];exact d.block k p (λe=>i e.symm);exact g
def ajV(w:cw)(a b:Obj)(r:Option Nat):w.grownBy ((w.alloc a).alloc b).drew r:=⟨rfl,rfl,rfl,by simp;omega,λk c _=>by show((w.alloc a).alloc b).1[k]? =_;rw[dh (w.alloc a) b k<|by simp;omega];exact dh w a k c⟩
def apJ(w:cw)(a:Obj)(d f g:cJ)(e:TypeId):∀j u,[d,f,g][j]? =V u->((w.alloc a).alloc (bi #[d,f,g] e)).drew.cell? ((⟨w.1.size+1,0,U⟩:Addr).add j)=V u:=by
 intro j u b;have c:(w.alloc a).1.size=w.1.size+1:=by simp
 rw[<-c]
 match j,b with
 |0,b=>simp at b;subst b;simp[Addr.add]
 |1,b=>simp at b;subst b;simp[Addr.add]
 |2,b=>simp at b;subst b;simp[Addr.add]
def Hy {P:Program}{q:Array Oper}{o:Oper}{a:Act}{w:cw}{K:Act->cw->Prop}{Q:Exit->Act->cw->Prop}{E:Prop}(A:o.guard=U)(s x:Operand)(t:TypeId) (L:o.op= .call {callee:= .builtin .append,args:=#[s,x],argTypes:=#[t,t]}) (c:Nat) (e:TypeId) (i:TypeInfo) (z:cJ) (size bytes:Nat) (O:P.underlying t=V (.slice e)) (J:P.info? e=V i) (T:i.zero=V z) (l:i.size=size) (y:i.bytes=bytes) (C:z.cells.size=size) (B:0<size) (W:bytes<=64) (v:cJ) (n:Nat) (D:List cJ) (N:a.eval s=v) (p:w.ownsRow c e size v n D) (g:Nat) (b:List cJ) (hx:a.eval x= .slice (V<|S g 0 U) 1 1) (X:b.length=size) (k:∀j u,b[j]? =V u->w.cell? (((S g 0 U):Addr).add j)=V u) (F:∀u∈b,u.oneCell'=db) (Y:n<=1000000) (f:c<=w.1.size) (h:∀m r,r.ownsRow c e size m (n+1) (D++b)->w.grownBy r v.ownBlock->(m.ownBlock=v.ownBlock∨m.ownBlock=V w.1.size)->K (a.put o.dst m) r):if Region.wanted o (yielded q a.tmps)=db then Oper.wp P o a w K Q else E:=by
 have R:Region.wanted o (yielded q a.tmps)=db:=by simp[Region.wanted,A]
 rw[aj R];have d:(n+1)*bytes<=140737488355328:=by have:(n+1)*bytes<=1000001*64:=zT (by omega) W;omega
 obtain⟨m,r,M,G,H,_,I⟩:=nD (P:=P) w c t o.type e i z size bytes O J T l y C B v n D p (S g 0 U) 1 1 b (by omega) k F (by unfold maxLen;omega) d f;unfold Oper.wp execOp;simp only[L,resolve,invoke,builtin,IU,j4,Uk,fZ,ni,Eb,N,hx,M];exact h m r G H I
def RN(w:cw)(B s:Nat)(v q:cJ)(x:XS)(f g:Int)(d:Bool)(h:cN w B s v q x)(F:x.st.length<=1000000):cP prog 142 #[.pointer<|V<|S s 1 U,df #[Y Z f,Y Z g,ce d]] w λe y=>e=bj (de #[])/\∃t,cN y B s t q {x with st:=x.st++[⟨f,g,d⟩]}/\bS w y s v t:=by
 obtain⟨G,H,A,C,D⟩:=fP Tryz.aom;have n:w.cell? (S s 1 U)=V v:=az h.cell 1;have f0:w.frozen? (S s 1 U)=da:=cB h.cell 1;have b:=h.row;have E:B<=w.1.size:=bM h.low<|gV<|dg h.cell;obtain⟨a,c,rfl⟩:=eV b;have l:=ah h;clear h;go_enter func142,ntmps142;have j:=dg l.out.cell;have L:(w.alloc<|bi #[Y Z f,Y Z g,ce d] 215).cell? (S s 1 U)=V (R a x.st.length c):=(gW _ _ (S s 1 U) j).trans n;clear n f0;go_wp2
 go_region_law (refine Hy rfl _ _ 208 rfl B 215 G (df #[Y Z 0,Y Z 0,ce da]) 3 24 underlying208 H A C D rfl (by decide) (by decide) _ x.st.length (kM x.st) rfl (lZ (lZ b<|bi #[Y Z f,Y Z g,ce d] 215)<|bi #[Y Z f,Y Z g,ce d] 215) _ [Y Z f,Y Z g,ce d] rfl rfl (apJ w _ _ _ _ _) (by intro u p;simp at p;rcases p with rfl|rfl|rfl<;>rfl) F (by simp;omega) ?_;intro N O i m r;obtain⟨K,J,rfl⟩:=eV i;obtain⟨I,z,M,f5⟩:=l.out.grow (st':=x.st++[⟨f,g,d⟩]) (by rw[Qj];exact i) ((ajV w _ _ _).trans m) (by rcases r with h|h;exact .inl h;exact .inr λk o=>by rw[h]at o;have:=aI o;simp at this;omega);clear i m r)
 all_goals
  go_end0;exact⟨rfl,_,I,z⟩
def Zn(w:cw)(B s:Nat)(v z:cJ)(x:XS)(e:aY)(h:cN w B s v z x)(q:x.st[x.st.length - 1]? =V e)(K:x.st.length<=100000):cP prog 238 #[.pointer<|V<|S s 1 U] w λo u=>o=bj (df #[Y Z e.l,Y Z e.o,ce e.i])/\cD w.1.size w u:=by
 have l:0<x.st.length:=by have:=(tJ.1 q).1;omega
 obtain⟨n,r⟩:∃n,x.st.length=n+1:=⟨x.st.length - 1,by omega⟩
 obtain⟨a,c,rfl⟩:=eV h.row;have m:=dg h.cell;have t:dd (∀W,cD w.1.size w W->cP prog 263 #[.pointer<|V<|S s 1 U,Y Z n] W λo u=>o=bj (de #[df #[Y Z e.l,Y Z e.o,ce e.i],ce db])/\cD W.1.size W u):=λW y=>
  sy W B s _ z x n e ⟨by rw[y.block s m];exact h.cell,fS h.row y,h.low⟩ (by rw[r,pS]at q;exact q)
 have C:(w.alloc<|bi #[Y Z 0,Y Z 0,ce da] 215).cell? (S s 1 U)=V (R a (n+1) c):=by rw[<-r];exact(gW _ _ (S s 1 U) m).trans (az h.cell 1)
 have G:n<=100000:=by omega
 clear h q l r;obtain⟨d,f,b⟩:=e;simp only at t ⊢;go_enter func238,ntmps238;go_wp2_with fail;refine(t _ ((aA _ _).alloc (au _) _)).mono ?_;rintro o k ⟨rfl,g⟩;obtain⟨i,j⟩:=uW g;have H:=(i w.1.size 0<|by simp).trans (show _=V (Y Z 0)by simp);have I:=(i w.1.size 1<|by simp).trans (show _=V (Y Z 0)by simp);have J:=(i w.1.size 2<|by simp).trans (show _=V (ce da)by simp);have f0:=(j w.1.size 0<|by simp).trans (show _=da by simp);have f1:=(j w.1.size 1<|by simp).trans (show _=da by simp);have f2:=(j w.1.size 2<|by simp).trans (show _=da by simp);have L:w.1.size<k.1.size:=by have:=g.size;simp at this;omega
 have A:dd (cD w.1.size w k):=((aA _ _).alloc (au _) _).trans (g.mono<|by simp);clear i j g C t;go_wp2;have D:((((k.setCell (S w.1.size 0 U)<|Y Z d).setCell (S w.1.size 1 U) (Y Z f)).setCell (S w.1.size 2 U) (ce b)).alloc (bi #[Y Z d,Y Z f,ce b] 215)).cell? (S w.1.size 0 U)=(((k.setCell (S w.1.size 0 U)<|Y Z d).setCell (S w.1.size 1 U) (Y Z f)).setCell (S w.1.size 2 U) (ce b)).cell? (S w.1.size 0 U):=gW _ _ (S w.1.size 0 U) (by simp;omega);have E:((((k.setCell (S w.1.size 0 U)<|Y Z d).setCell (S w.1.size 1 U) (Y Z f)).setCell (S w.1.size 2 U) (ce b)).alloc (bi #[Y Z d,Y Z f,ce b] 215)).cell? (S w.1.size 1 U)=(((k.setCell (S w.1.size 0 U)<|Y Z d).setCell (S w.1.size 1 U) (Y Z f)).setCell (S w.1.size 2 U) (ce b)).cell? (S w.1.size 1 U):=gW _ _ (S w.1.size 1 U) (by simp;omega);have F:((((k.setCell (S w.1.size 0 U)<|Y Z d).setCell (S w.1.size 1 U) (Y Z f)).setCell (S w.1.size 2 U) (ce b)).alloc (bi #[Y Z d,Y Z f,ce b] 215)).cell? (S w.1.size 2 U)=(((k.setCell (S w.1.size 0 U)<|Y Z d).setCell (S w.1.size 1 U) (Y Z f)).setCell (S w.1.size 2 U) (ce b)).cell? (S w.1.size 2 U):=gW _ _ (S w.1.size 2 U) (by simp;omega);refine bU (v:=df #[Y Z d,Y Z f,ce b]) (by simp[results,results238,Tryz.isAgg215,Tryz.sizeOf215,go_sem,D,E,F,H,I,J]) rfl ⟨rfl,?_⟩;exact(((A.out.setCell (p:=(S w.1.size 0 U)) (au _) _).setCell (p:=(S w.1.size 1 U)) (au _) _).setCell (p:=(S w.1.size 2 U)) (au _) _).alloc (by simp;omega) _
def ais(a b c:cJ)(n:Nat):(Builtin.zeroCells #[a,b,c] n).toList.length=n*3:=by simp[Builtin.zeroCells]
def aus(a b c:cJ)(n:Nat)(u:cJ)(h:u∈(Builtin.zeroCells #[a,b,c] n).toList):u=a∨u=b∨u=c:=by
 simp[Builtin.zeroCells]at h;obtain⟨i,_,rfl⟩:=h;have d:i%3=0∨i%3=1∨i%3=2:=by omega
 rcases d with h|h|h<;>simp[h]
def arV(w:cw)(h:TypeId)(b o n c:Nat)(i:0<n)(e:∀j,j<n*3->(w.cell?<|S b (o+j) U).isSome=db)(f:∀j,j<n*3->w.frozen? (S b (o+j) U)=da):(Builtin.clear_ #[208] h #[.slice (V<|S b o U) n c]).run prog w= .ok (de #[]) (w.setCells b o (Builtin.zeroCells #[Y Z 0,Y Z 0,ce da] n).toList):=by
 have a:=run_storeCells_cells (P:=prog) b o (Builtin.zeroCells #[Y Z 0,Y Z 0,ce da] n).toList 0 w (by rw[ais];simpa using e) (by rw[ais];simpa using f) (by intro v g;rcases aus _ _ _ _ _ g with rfl|rfl|rfl<;>rfl);simp only[qE]at a;obtain⟨m,rfl⟩:∃m,n=m+1:=⟨n - 1,by omega⟩
 have d:(Value.agg #[Y Z 0,Y Z 0,ce da]).cells=#[Y Z 0,Y Z 0,ce da]:=rfl;simp[Builtin.clear_,Ch underlying208,Tryz.zeroValue215,d,a]
def Vx:∀(a:List aY)(n:Nat),(kM a).take (n*3)=kM (a.take n)
 |[],n=>by simp[kM]
 |e::a,0=>by simp[kM]
 |e::a,n+1=>by
  have h:∀l:List aY,kM (e::l)=Y Z e.l::Y Z e.o::ce e.i::kM l:=λl=>by simp[kM,aY.cells]
  rw[Uh,h,h,show(n+1)*3=n*3+1+1+1 by omega];simp only[Uh];rw[Vx a n]
def cN.cut {w:cw}{B s g c n:Nat}{j:cJ}{x:XS}{vs:List cJ}(h:cN w B s (.slice (V<|S g 0 U) x.st.length c) j x)(r:n<x.st.length):cN ((w.setCells g (n*3) vs).setCell (S s 1 U) (.slice (V<|S g 0 U) n c)) B s (.slice (V<|S g 0 U) n c) j {x with st:=x.st.take n}/\bS w ((w.setCells g (n*3) vs).setCell (S s 1 U) (.slice (V<|S g 0 U) n c)) s (.slice (V<|S g 0 U) x.st.length c) (.slice (V<|S g 0 U) n c)/\(w.setCells g (n*3) vs).cell? (S s 1 U)=V (.slice (V<|S g 0 U) x.st.length c)/\(w.setCells g (n*3) vs).frozen? (S s 1 U)=da:=by
 have f:=dg h.cell;have m:g≠s:=by simpa [Value.ownBlock]using h.ne
 obtain⟨t,o,a,p⟩:=RF vs (n*3) w _ h.row;have i:(w.setCells g (n*3) vs).1[s]? =V (bi #[j,.slice (V<|S g 0 U) x.st.length c,Y Z x.aM,Y Z x.aV,Y Z x.valid] 212 (0,0)):=by rw[a.block s f<|by simpa using m.symm];exact h.cell
 have l:=RG o n (by omega);rw[Zi _ _ (n*3) p,Vx]at l;refine⟨⟨by rw[fe i];rfl,?_,h.low⟩,⟨a.os,a.tape,a.output,by have:=a.size;simpa using this,?_,.inl rfl⟩,az i 1,cB i 1⟩;have:=kT l (s:=s) (by simpa [Value.ownBlock]using m) 1 (.slice (V<|S g 0 U) n c);simpa [kG<|gV r]using this;intro k q b d;rw[iX];exact a.block k q (λe=>d<|by rw[e];rfl);exact b
def alx(w:cw)(B s:Nat)(v d:cJ)(x:XS)(n:Nat)(h:cN w B s v d x)(q:n<x.st.length)(A:x.st.length<=1000000):cP prog 264 #[.pointer<|V<|S s 1 U,Y Z n] w λe i=>e=bj (de #[])/\∃f,cN i B s f d {x with st:=x.st.take n}/\bS w i s v f:=by
 obtain⟨g,c,rfl,b,C,p⟩:=iq h.row (by omega);have u:w.cell? (S s 1 U)=V (.slice (V<|S g 0 U) x.st.length c):=az h.cell 1;have f0:w.frozen? (S s 1 U)=da:=cB h.cell 1;have o:=arV w 0 g (n*3) (x.st.length - n) (c - n) (by omega) (λj z=>by rw[cT h.row (n*3+j)<|by omega];have:n*3+j<(kM x.st).length:=(by rw[Mg];omega);rw[aK this];rfl) (λj _=>Em h.row<|n*3+j);have m:n<=c:=by omega
 have r:((n:Int)<(x.st.length:Int)):=by omega
 obtain⟨a,hF,y,f5⟩:=h.cut (vs:=(Builtin.zeroCells #[Y Z 0,Y Z 0,ce da]<|x.st.length - n).toList) q;have l:=ah a;have k:=ah hF;clear h a hF;generalize w.setCells g (n*3) (Builtin.zeroCells #[Y Z 0,Y Z 0,ce da]<|x.st.length - n).toList=t at*;generalize x.st.length=L at*;go_enter func264,ntmps264;go_wp2;go_end0;exact⟨rfl,_,l,k⟩
def cN.below {w c:cw}{B s:Nat}{v b:cJ}{x:XS}(h:cN w B s v b x)(a:cD w.1.size w c):cN c B s v b x:=⟨by rw[a.block s<|dg h.cell];exact h.cell,fS h.row a,h.low⟩
def bS.pre {w f g:cw}{s:Nat}{v e:cJ}(a:cD w.1.size w f)(h:bS f g s v e):bS w g s v e:=
 ⟨h.os.trans a.os,h.tape.trans a.tape,h.output.trans a.output,bM a.size h.size,λk b c d=>by rw[h.block k (lW b a.size) c d];exact a.block k b,by rcases h.own with h|h;exact .inl h;exact .inr λk b=>bM a.size<|h k b⟩
def bS.post {w f g:cw}{s:Nat}{v e:cJ}(h:bS w f s v e)(a:cD w.1.size f g):bS w g s v e:=
 ⟨a.os.trans h.os,a.tape.trans h.tape,a.output.trans h.output,bM h.size a.size,λk d b c=>by rw[a.block k d];exact h.block k d b c,h.own⟩
def cN.setOther {w:cw}{B s g:Nat}{v a:cJ}{x:XS}(h:cN w B s v a x)(c:g≠s)(b:v.ownBlock≠V g)(k:Nat)(u:cJ):cN (w.setCell (S g k U) u) B s v a x:=
 ⟨by rw[iX];exact h.cell;exact c.symm,kT h.row b k u,h.low⟩
def ago(w:cw)(B s:Nat)(v D:cJ)(x:XS)(st:List aY)(e:aY)(h:cN w B s v D x)(n:x.st=st++[e])(hl:st.length<=100000):cP prog 237 #[.pointer<|V<|S s 1 U] w λu z=>u=bj (de #[df #[Y Z e.l,Y Z e.o,ce e.i],ce db])/\∃y,cN z B s y D {x with st:=st}/\bS w z s v y:=by
 have o:x.st.length=st.length+1:=by rw[n];simp
 obtain⟨a,c,rfl⟩:=eV h.row;have ab:=dg h.cell;have J:dd (∀W,cD w.1.size w W->cP prog 263 #[.pointer<|V<|S s 1 U,Y Z st.length] W λu z=>u=bj (de #[df #[Y Z e.l,Y Z e.o,ce e.i],ce db])/\cD W.1.size W z):=λW C=>
  sy W B s _ D x st.length e (h.below C) (by rw[n];simp)
 have K:dd (∀W,cD w.1.size w W->cP prog 264 #[.pointer<|V<|S s 1 U,Y Z st.length] W λu z=>u=bj (de #[])/\∃y,cN z B s y D {x with st:=st}/\bS W z s (R a x.st.length c) y):=λW C=>by have:=alx W B s _ D x st.length (h.below C) (by omega) (by omega);rw[show x.st.take st.length=st by rw[n];simp]at this;exact this
 have H:dd (∀W,cD w.1.size w W->W.cell? (S s 1 U)=V (R a (st.length+1) c)):=λW C=>by rw[<-o];exact az (h.below C).cell 1
 have M:dd (∀k,w.1.size<=k->(Value.slice a x.st.length c).ownBlock≠V k):=by intro k hk e';have:=vE h.row _ e';omega
 have c1:=H.out (w.alloc<|bi #[Y Z 0,Y Z 0,ce da] 215)<|(aA _ _).alloc (au _) _;clear h n o;obtain⟨r,t,q⟩:=e;simp only at J ⊢;generalize st.length=L at*;go_enter func237,ntmps237;go_wp2_with fail;refine(J _ ((aA _ _).alloc (au _) _)).mono ?_;rintro u d ⟨rfl,i⟩;have E:cD w.1.size w d:=((aA _ _).alloc (au _) _).trans (i.mono<|by simp);have F:w.1.size<d.1.size:=by have:=i.size;simp at this;omega
 obtain⟨j,l⟩:=uW i;have O:=(j w.1.size 0<|by simp).trans (show _=V (Y Z 0)by simp);have P:=(j w.1.size 1<|by simp).trans (show _=V (Y Z 0)by simp);have Q:=(j w.1.size 2<|by simp).trans (show _=V (ce da)by simp);have f0:=(l w.1.size 0<|by simp).trans (show _=da by simp);have f1:=(l w.1.size 1<|by simp).trans (show _=da by simp);have f2:=(l w.1.size 2<|by simp).trans (show _=da by simp);have c2:=H.out (d.alloc<|bi #[Y Z r,Y Z t,ce q] 215)<|E.alloc E.size _;have A:=ah E;clear j l i c1 J E;go_wp2_with fail;refine(K _ (A.out.alloc A.out.size _)).mono ?_;rintro u f ⟨rfl,y,N,hF⟩;have b:∀g k:Nat,g<d.1.size+1->w.1.size<=g->f.cell? (S g k U)=(d.alloc<|bi #[Y Z r,Y Z t,ce q] 215).cell? (S g k U)/\f.frozen? (S g k U)=(d.alloc<|bi #[Y Z r,Y Z t,ce q] 215).frozen? (S g k U):=λg k hg vX=>by have:=hF.block g (by simpa using hg) (by omega)<|M.out g vX;exact⟨by simp only[World.cell?,this],by simp only[World.frozen?,this]⟩
 have q0:f.cell? (S d.1.size 0 U)=V (Y Z r):=(b _ 0 (by omega) (by omega)).1.trans (by simp);have q1:f.cell? (S d.1.size 1 U)=V (Y Z t):=(b _ 1 (by omega) (by omega)).1.trans (by simp);have q2:f.cell? (S d.1.size 2 U)=V (ce q):=(b _ 2 (by omega) (by omega)).1.trans (by simp);have r0:f.cell? (S w.1.size 0 U)=V (Y Z 0):=((b _ 0 (by omega) (by omega)).1.trans (gW _ _ (S w.1.size 0 U) F)).trans O;have r1:f.cell? (S w.1.size 1 U)=V (Y Z 0):=((b _ 1 (by omega) (by omega)).1.trans (gW _ _ (S w.1.size 1 U) F)).trans P;have r2:f.cell? (S w.1.size 2 U)=V (ce da):=((b _ 2 (by omega) (by omega)).1.trans (gW _ _ (S w.1.size 2 U) F)).trans Q;have m:∀k,f.frozen? (S w.1.size k U)=d.frozen? (S w.1.size k U):=λk=>(b _ k (by omega) (by omega)).2.trans (((aA d.1.size d).alloc (au _) _).frozen (p:=(S w.1.size k U)) F)
 have g0:=(m 0).trans f0;have g1:=(m 1).trans f1;have g2:=(m 2).trans f2;have G:y.ownBlock≠V w.1.size:=by rcases hF.own with h|h;rw[h];exact M.out _ (au _);intro e;have:=h _ e;simp at this;omega
 have I:w.1.size≠s:=by omega
 have aa:w.1.size≠d.1.size:=by omega
 have X:dd _:=((N.setOther I G 0<|Y Z r).setOther I G 1 (Y Z t)).setOther I G 2 (ce q);have T:dd _:=(bS.pre (A.out.alloc A.out.size _) hF).post ((((aA w.1.size f).setCell (p:=(S w.1.size 0 U)) (au _) (Y Z r)).setCell (p:=(S w.1.size 1 U)) (au _) (Y Z t)).setCell (p:=(S w.1.size 2 U)) (au _) (ce q));clear N hF m b O P Q f0 f1 f2 c2 H K A;go_wp2;refine bU (v:=de #[df #[Y Z r,Y Z t,ce q],ce db]) (by simp[results,results237,Tryz.isAgg215,Tryz.sizeOf215,go_sem,r0,r1,r2]) rfl ⟨rfl,_,X,T⟩
def Tryz.akv(l o:Int)(i:Bool)(w:cw):(Instr.field 215 (df #[Y Z l,Y Z o,ce i]) 0).run prog w= .ok (Y Z l) w:=by kernel_rfl
def Tryz.aku(l o:Int)(i:Bool)(w:cw):(Instr.field 215 (df #[Y Z l,Y Z o,ce i]) 2).run prog w= .ok (ce i) w:=by kernel_rfl
def Vi(w:cw)(B s:Nat)(v j:cJ)(x:XS)(n:Int)(h:cN w B s v j x):cP prog 240 #[.pointer<|V<|S s 0 U,Y Z n] w λe k=>e=bj (ce<|pY x n)/\k=w:=by
 have l:w.cell? (S s 2 U)=V (Y Z x.aM):=az h.cell 2;have m:w.cell? (S s 3 U)=V (Y Z x.aV):=az h.cell 3;unfold pY;clear h;generalize x.aM=a at*;generalize x.aV=b at*;by_cases f:n<=125
 .by_cases c:a=0
  .by_cases d:b=0
   .subst c d;go_enter func240,ntmps240;go_wp2;go_ret;simp[f]
   have i:=ae d;subst c;go_enter func240,ntmps240;go_wp2;go_ret;simp[d]
  have g:=ae c;go_enter func240,ntmps240;go_wp2;go_ret;simp[c]
 go_enter func240,ntmps240;go_wp2;go_ret;simp;omega
def afx(w:cw)(B s:Nat)(v q:cJ)(x:XS)(c:Int)(h:cN w B s v q x)(e:x.st≠[])(p:x.st.length<=100000)(y:0<=(bq x.st).l)(j:(bq x.st).l<=1000):cP prog 239 #[.pointer<|V<|S s 0 U,Y Z c] w λb m=>b=bj (Y Z<|jt (bq x.st).l c)/\cD w.1.size w m:=by
 have n:x.st[x.st.length - 1]? =V (bq x.st):=by
  have u:x.st.length - 1<x.st.length:=by have:=kF.2 e;omega
  unfold bq;rw[tK,IC,aK u];rfl
 have g:dd (cP prog 238 #[.pointer<|V<|S s 1 U] w λb m=>b=bj (df #[Y Z (bq x.st).l,Y Z (bq x.st).o,ce (bq x.st).i])/\cD w.1.size w m):=Zn w B s v q x _ h n p;have C:=Tryz.akv;clear n h e p;generalize bq x.st=t at*;obtain⟨l,o,i⟩:=t;simp only at g y j ⊢;unfold jt;by_cases a:(l+1)%2=c
 .rw[aj a];have k:((l+1)%2 !=c)=da:=by simp[a]
  have r:=ah a;clear a;go_enter func239,ntmps239;go_wp2_with fail;refine g.out.mono ?_;rintro b z ⟨rfl,d⟩;have f:=ah d;clear d;go_wp2_with fail;refine(DI (l+1) _ (by omega)).mono ?_;rintro b A ⟨rfl,rfl⟩;go_wp2;go_ret;exact⟨rfl,f⟩
 rw[ai a];have k:((l+1)%2 !=c)=db:=by simp[a]
 have r:=ah a;clear a;go_enter func239,ntmps239;go_wp2_with fail;refine g.out.mono ?_;rintro b z ⟨rfl,d⟩;have f:=ah d;clear d;go_wp2_with fail;refine(DI (l+1) _ (by omega)).mono ?_;rintro b A ⟨rfl,rfl⟩;go_wp2;go_ret;exact⟨dX<|by omega,f⟩
def cN.N9 {w:cw}{B s:Nat}{v a:cJ}{x:XS}(h:cN w B s v a x)(e:Int):cN (w.setCell (S s 2 U)<|Y Z e) B s v a {x with aM:=e}:=⟨by rw[fe h.cell];rfl,kT h.row h.ne 2 _,h.low⟩
def cN.Hu {w:cw}{B s:Nat}{v a:cJ}{x:XS}(h:cN w B s v a x)(e:Int):cN (w.setCell (S s 3 U)<|Y Z e) B s v a {x with aV:=e}:=⟨by rw[fe h.cell];rfl,kT h.row h.ne 3 _,h.low⟩
def cN.Oa {w:cw}{B s:Nat}{v a:cJ}{x:XS}(h:cN w B s v a x)(e:Int):cN (w.setCell (S s 4 U)<|Y Z e) B s v a {x with valid:=e}:=⟨by rw[fe h.cell];rfl,kT h.row h.ne 4 _,h.low⟩
def bS.set(w:cw)(s:Nat)(v:cJ)(k:Nat)(u:cJ):bS w (w.setCell (S s k U) u) s v v:=⟨rfl,rfl,rfl,by simp,λb _ a _=>by rw[iX];exact a,.inl rfl⟩
def bS.trans {w j l:cw}{s:Nat}{v g i:cJ}(h:bS w j s v g)(a:bS j l s g i):bS w l s v i:=
 ⟨a.os.trans h.os,a.tape.trans h.tape,a.output.trans h.output,bM h.size a.size,λk d b c=>by
  rw[a.block k (lW d h.size) b,h.block k d b c];rcases h.own with e|e;rw[e];exact c;intro m;have:=e k m;omega,by
  rcases a.own with f|f;rw[f];exact h.own;exact .inr λk d=>bM h.size<|f k d⟩
def ahJ {a:List aY}(b:a≠[]):a[a.length - 1]? =V (bq a):=by
 have c:a.length - 1<a.length:=by have:=kF.2 b;omega
 unfold bq;rw[tK,IC,aK c];rfl
def atq {b:List aY}(a:b≠[]):b=b.dropLast++[bq b]:=by have:=F4 a;rw[bq,tK,ID a];exact this.symm
def aoI(w:cw)(B s:Nat)(v i:cJ)(x:XS)(j:Int)(h:cN w B s v i x)(p:x.st≠[])(E:x.st.length<=1000)(D:0<=(bq x.st).l)(o:(bq x.st).l<=1000)(J:0<=x.aM/\x.aM<=100000)(K:0<=x.valid/\x.valid<=100000):cP prog 204 #[.pointer<|V<|S s 0 U,Y Z j] w λe q=>e=bj (de #[])/\∃y,cN q B s y i (jP x j)/\bS w q s v y:=by
 have t:dd (cP prog 239 #[.pointer<|V<|S s 0 U,Y Z j] w λe q=>e=bj (Y Z<|jt (bq x.st).l j)/\cD w.1.size w q):=afx w B s v i x j h p (by omega) D o;have d:dd (∀W,cD w.1.size w W->cN W B s v i x):=λW f=>h.below f
 have z:=ah E;unfold jP;generalize jt (bq x.st).l j=n at*;simp only;clear h p E D o;obtain⟨F,u,A,a⟩:=x;simp only at t d z J K ⊢;by_cases k:pY ⟨F,u,A,a⟩ n=db
 .rw[aj k];have r:=ah k;clear k;go_enter func204,ntmps204;go_wp2_with fail;refine t.out.mono ?_;rintro e c ⟨rfl,f⟩;have b:=ah f;clear f;go_wp2_with fail;refine(Vi c B s v i _ n (d c b)).mono ?_;rintro e L ⟨rfl,hx⟩;have g:=hx.symm;subst g;rw[r.out];have I:c.cell? (S s 4 U)=V (Y Z a):=az (d _ b.out).cell 4;have f4:c.frozen? (S s 4 U)=da:=cB (d _ b.out).cell 4;go_wp2_with fail;refine(RN _ B s v i _ n (-1) db ((d _ b.out).Oa (a+1)) (by have:=z.out;simp only;omega)).mono ?_;rintro e M ⟨rfl,y,C,hF⟩;have H:=ah C;have G:dd _:=bS.pre b<|(bS.set c s v 4<|Y Z<|a+1).trans hF;clear C hF;go_wp2;go_end0;exact⟨rfl,_,H,G⟩
 rw[ai k];have m:pY ⟨F,u,A,a⟩ n=da:=by simpa using k
 have r:=ah m;clear k m;go_enter func204,ntmps204;go_wp2_with fail;refine t.out.mono ?_;rintro e c ⟨rfl,f⟩;have b:=ah f;clear f;go_wp2_with fail;refine(Vi c B s v i _ n (d c b)).mono ?_;rintro e L ⟨rfl,hx⟩;have g:=hx.symm;subst g;rw[r.out];have I:c.cell? (S s 2 U)=V (Y Z u):=az (d _ b.out).cell 2;have f4:c.frozen? (S s 2 U)=da:=cB (d _ b.out).cell 2;go_wp2;exact bU (Cg rfl _ _ _) rfl ⟨rfl,_,(d _ b.out).N9 _,bS.pre b<|bS.set _ s v 2 _⟩
def aq2(w:cw)(B s:Nat)(v j:cJ)(x:XS)(h:cN w B s v j x)(m:x.st≠[])(N:x.st.length<=1000)(G:x.aV<=100000):cP prog 206 #[.pointer<|V<|S s 0 U] w λb d=>b=bj (de #[])/\∃k,cN d B s k j (kZ x)/\bS w d s v k:=by
 have J:w.cell? (S s 2 U)=V (Y Z x.aM):=az h.cell 2;have K:w.cell? (S s 3 U)=V (Y Z x.aV):=az h.cell 3;have f3:w.frozen? (S s 3 U)=da:=cB h.cell 3;have n:=ah h;unfold kZ;by_cases u:0<x.aM
 .rw[aj u];clear h G;go_enter func206,ntmps206;go_wp2;go_end0;exact⟨rfl,_,n,bS.refl _ _ _⟩
 rw[ai u];by_cases y:0<x.aV
 .rw[aj y];clear h;go_enter func206,ntmps206;go_wp2;go_end0;exact⟨rfl,_,n.out.Hu _,bS.set _ _ _ _ _⟩
 rw[ai y];have p:dd (cP prog 238 #[.pointer<|V<|S s 1 U] w λb d=>b=bj (df #[Y Z (bq x.st).l,Y Z (bq x.st).o,ce (bq x.st).i])/\cD w.1.size w d):=Zn w B s v j x _ h (ahJ m) (by omega);have M:=Tryz.aku;have E:dd (∀W,cD w.1.size w W->cP prog 237 #[.pointer<|V<|S s 1 U] W λb d=>b=bj (de #[df #[Y Z (bq x.st).l,Y Z (bq x.st).o,ce (bq x.st).i],ce db])/\∃k,cN d B s k j {x with st:=x.st.dropLast}/\bS W d s v k):=λW a=>ago W B s v j x x.st.dropLast (bq x.st) (h.below a) (atq m)<|by simp;omega
 have t:dd (∀W,cD w.1.size w W->cP prog 241 #[.pointer<|V<|S s 1 U] W λe d=>e=bj (Y Z x.st.length)/\d=W):=λW a=>ao4 W B s v j x<|h.below a
 clear h;by_cases q:(bq x.st).i=db
 .rw[ai<|by simp[q]];go_enter func206,ntmps206;go_wp2_with fail;refine p.out.mono ?_;rintro b C ⟨rfl,a⟩;have c:=ah a;clear a;rw[q];go_wp2;go_end0;exact⟨rfl,_,n.out.below c,bS.pre c<|bS.refl _ _ _⟩
 have f:(bq x.st).i=da:=(by simpa using q);by_cases z:1<x.st.length
 .rw[aj ⟨f,z⟩];have r:(2:Int)<=x.st.length:=(by omega);generalize x.st.length=L at*;go_enter func206,ntmps206;go_wp2_with fail;refine p.out.mono ?_;rintro b C ⟨rfl,a⟩;have c:=ah a;clear a;rw[f];go_wp2_with fail;refine(t _ c.out).mono ?_;rintro b I ⟨rfl,hx⟩;have g:=hx.symm;subst g;go_wp2_with fail;refine(E _ c.out).mono ?_;rintro b O ⟨rfl,k,A,hF⟩;have F:=ah A;have D:dd _:=bS.pre c hF;clear A hF;go_wp2;go_end0;exact⟨rfl,_,F,D⟩
 rw[ai λH=>z H.2];have r:¬(2:Int)<=x.st.length:=(by omega);generalize x.st.length=L at*;go_enter func206,ntmps206;go_wp2_with fail;refine p.out.mono ?_;rintro b C ⟨rfl,a⟩;have c:=ah a;clear a;rw[f];go_wp2_with fail;refine(t _ c.out).mono ?_;rintro b I ⟨rfl,hx⟩;have g:=hx.symm;subst g;go_wp2;go_end0;exact⟨rfl,_,n.out.below c,bS.pre c<|bS.refl _ _ _⟩
def al3(w:cw)(B s:Nat)(v e:cJ)(x:XS)(h:cN w B s v e x)(l:0<=x.aM/\x.aM<=100000)(b:0<x.aM∨x.valid=0):cP prog 200 #[.pointer<|V<|S s 0 U] w λj g=>j=bj (de #[])/\∃f,cN g B s f e (jE x)/\bS w g s v f:=by
 have k:w.cell? (S s 2 U)=V (Y Z x.aM):=az h.cell 2;have i:w.cell? (S s 4 U)=V (Y Z x.valid):=az h.cell 4;have f2:w.frozen? (S s 2 U)=da:=cB h.cell 2;have a:=ah h;unfold jE;clear h;by_cases c:0<x.aM
 .rw[aj c];clear b;go_enter func200,ntmps200;go_wp2;exact bU (Cg rfl _ _ _) rfl ⟨rfl,_,a.out.N9 _,bS.set _ _ _ _ _⟩
 rw[ai c];have d:x.valid=0:=by omega
 rw[aj d];rw[d]at i;clear b;go_enter func200,ntmps200;go_wp2;exact bU (Cg rfl _ _ _) rfl ⟨rfl,_,a,bS.refl _ _ _⟩
def al2(w:cw)(B s:Nat)(v g:cJ)(x:XS)(h:cN w B s v g x)(E:x.st.length<=1000)(D:x.aM=0)(Q:1<=x.valid/\x.valid<=100000)(hex:∃e∈x.st,e.i=db):cP prog 200 #[.pointer<|V<|S s 0 U] w λj o=>j=bj (de #[])/\∃d,cN o B s d g {x with aV:=0,st:=iW x.st,valid:=x.valid - 1}/\bS w o s v d:=by
 obtain⟨st,T,aV,valid⟩:=x;simp only at E D Q hex ⊢;subst D;have J:w.cell? (S s 2 U)=V (Y Z 0):=az h.cell 2;have K:w.cell? (S s 3 U)=V (Y Z aV):=az h.cell 3;have f3:w.frozen? (S s 3 U)=da:=cB h.cell 3;have L:w.cell? (S s 4 U)=V (Y Z valid):=az h.cell 4;have f4:w.frozen? (S s 4 U)=da:=cB h.cell 4;have R:(valid==0)=da:=by simp;omega
 have C:dd (cN ((w.setCell (S s 4 U)<|Y Z<|valid - 1).setCell (S s 3 U) (Y Z 0)) B s v g ⟨st,0,0,valid - 1⟩):=(h.Oa<|valid - 1).Hu 0;have G:dd (bS w ((w.setCell (S s 4 U)<|Y Z<|valid - 1).setCell (S s 3 U) (Y Z 0)) s v v):=(bS.set _ _ _ _ _).trans (bS.set _ _ _ _ _);have p:=ah hex;clear h hex;go_enter func200,ntmps200;go_wp2;clear J K L f3 f4;go_loopg [2,3,31,32,33,34,35,36,37,38,39,40,41,42,43] (st.length+1) (λgk _ _ _ _ _ _ _ _ _ _ _ _ _ _ _ wr=>∃(d:cJ)(a:List aY),cN wr B s d g ⟨a,0,0,valid - 1⟩/\bS w wr s v d/\iW a=iW st/\(∃e∈a,e.i=db)/\a.length<gk/\a.length<=1000);exact⟨v,st,C,G,rfl,p,by omega,E⟩;obtain⟨d,a,t,hF,F,hex,O,P⟩:=hrel;clear C G p;have f:a≠[]:=by rintro rfl;simp at hex
 obtain⟨b,e,rfl⟩:∃b e,a=b++[e]:=⟨a.dropLast,a.getLast f,(F4 f).symm⟩
 simp only[bG,eU,kW]at O P;have i:dd (∀W,cD wr.1.size wr W->cP prog 237 #[.pointer<|V<|S s 1 U] W λj o=>j=bj (de #[df #[Y Z e.l,Y Z e.o,ce e.i],ce db])/\∃n,cN o B s n g ⟨b,0,0,valid - 1⟩/\bS W o s d n):=λW N=>ago W B s d g ⟨b++[e],0,0,valid - 1⟩ b e (t.below N) rfl (by omega)
 have z:=ah hF;have A:=ah F;have p:=ah hex;have X:=ah<|dg t.cell;clear t hF F hex f;obtain⟨el,eo,M⟩:=e;simp only at i;cases M
 .have y:dd (iW b=iW st):=by have:=A.out;rw[RM _ _ rfl]at this;exact this
  have I:dd (∃r∈b,r.i=db):=by obtain⟨r,l,u⟩:=p.out;rcases ji.1 l with l|l;exact⟨r,l,u⟩;rw[r7.1 l]at u;cases u
  go_wp2_with fail;refine(i _ (aA _ _)).mono ?_;rintro j H ⟨rfl,n,m,c⟩;have q:=ah m;have k:=ah<|z.out.trans c;clear m c i;go_wp2;go_roundg (b.length+1);exact⟨_,b,q.out.below<|(aA _ _).alloc (au _) _,k.out.post<|(aA _ _).alloc k.out.size _,y,I,by omega,by omega⟩;omega
 have y:dd (b=iW st):=by have:=A.out;rw[RJ _ _ rfl]at this;exact this
 go_wp2_with fail;refine(i _ (aA _ _)).mono ?_;rintro j H ⟨rfl,n,m,c⟩;have q:dd (cN H B s n g ⟨iW st,0,0,valid - 1⟩):=by have:=m;rw[y.out]at this;exact this
 have k:=ah<|z.out.trans c;clear m c i;go_wp2;exact bU (Cg rfl _ _ _) rfl ⟨rfl,_,q.out.below<|(aA _ _).alloc (au _) _,k.out.post<|(aA _ _).alloc k.out.size _⟩
def Ge(x:XS)(a o:Int):XS:=
 if pY x (jt (bq x.st).l a)=db then{x with st:=x.st++[⟨jt (bq x.st).l a,o,da⟩]}
 else if x.aM=0 then{x with aV:=x.aV+1}else x
def alX {w a:cw}{t:TypeId}(b:cD (w.alloc<|bi #[Y Z 0,Y Z 0,ce da] t).1.size (w.alloc<|bi #[Y Z 0,Y Z 0,ce da] t) a):cD w.1.size w a/\a.cell? (S w.1.size 0 U)=V (Y Z 0)/\a.cell? (S w.1.size 1 U)=V (Y Z 0)/\a.cell? (S w.1.size 2 U)=V (ce da) /\a.frozen? (S w.1.size 0 U)=da/\a.frozen? (S w.1.size 1 U)=da/\a.frozen? (S w.1.size 2 U)=da:=by refine⟨((aA _ _).alloc (au _) _).trans (b.mono<|by simp),?_,?_,?_,?_,?_,?_⟩;all_goals first|rw[b.cell<|by simp];go_simp|rw[b.frozen<|by simp];go_simp
def alW {w d:cw}(h:cD w.1.size w d)(a b c:cJ):dd (cD w.1.size w<|((d.setCell (S w.1.size 0 U) a).setCell (S w.1.size 1 U) b).setCell (S w.1.size 2 U) c):=
 ((h.setCell (au _) _).setCell (au _) _).setCell (au _) _
def alY(w:cw)(B s:Nat)(v k:cJ)(x:XS)(c:Int)(E:nC c=db)(h:cN w B s v k x)(q:x.st≠[])(Q:x.st.length<=1000)(P:0<=(bq x.st).l)(p:(bq x.st).l<=1000)(he:0<=x.aV/\x.aV<=100000):cP prog 203 #[.pointer<|V<|S s 0 U,Y Z c] w λj u=>j=bj (de #[])/\∃H,cN u B s H k (lH x c)/\bS w u s v H:=by
 obtain⟨b,o,E,O⟩:∃b o:Int,(c=13/\b=0/\o= -1∨c=14/\b=1/\o= -1∨c=15/\b=0/\o=0∨c=16/\b=1/\o=1)/\lH x c=Ge x b o:=by
  have:c=13∨c=14∨c=15∨c=16:=by simpa [nC]using E
  rcases this with rfl|rfl|rfl|rfl;exact⟨0, -1,by simp,by simp[lH,Ge]⟩;exact⟨1, -1,by simp,by simp[lH,Ge]⟩;exact⟨0,0,by simp,by simp[lH,Ge]⟩;exact⟨1,1,by simp,by simp[lH,Ge]⟩
 have ho:0<=b/\b<=1:=by omega
 rw[O];clear O;have J:dd (∀W,cD w.1.size w W->cP prog 239 #[.pointer<|V<|S s 0 U,Y Z b] W λj u=>j=bj (Y Z<|jt (bq x.st).l b)/\cD W.1.size W u):=λW g=>afx W B s v k x b (h.below g) q (by omega) P p
 have e:dd (∀W,cD w.1.size w W->cN W B s v k x):=λW g=>h.below g
 have I:=ah Q;have HZ:=ah<|dg h.cell;obtain⟨aa,t⟩:=ac<|Ge x b o;rw[<-t];unfold Ge at t;have K:=ah t;clear t;generalize jt (bq x.st).l b=n at*;clear h q Q P p ho;obtain⟨st,A,L,i⟩:=x;simp only at J e I K he;have D:cD w.1.size w (w.alloc<|bi #[Y Z 0,Y Z 0,ce da] 215):=(aA _ _).alloc (au _) _;obtain⟨m,G⟩:∃m:cw->cw,m=λa=>((a.setCell (S w.1.size 0 U)<|Y Z n).setCell (S w.1.size 1 U) (Y Z o)).setCell (S w.1.size 2 U) (ce da):=⟨_,rfl⟩
 have C:dd (∀a,((a.setCell (S w.1.size 0 U)<|Y Z n).setCell (S w.1.size 1 U) (Y Z o)).setCell (S w.1.size 2 U) (ce da)=m a):=λa=>by rw[G]
 have y:dd (∀a,cD w.1.size w a->cD w.1.size w (m a)):=λa g=>by rw[G];exact(alW g _ _ _).out
 clear G;rcases E with⟨rfl,rfl,rfl⟩|⟨rfl,rfl,rfl⟩|⟨rfl,rfl,rfl⟩|⟨rfl,rfl,rfl⟩;all_goals
  go_enter func203,ntmps203;go_wp2_with fail;refine(J _ D).mono ?_;rintro j a ⟨rfl,g⟩;obtain⟨M,j0,j1,j2,X,g1,g2⟩:=alX g;have d:dd _:=y.out _ M;clear g M;go_wp2_with fail;rw[C.out a];refine(Vi _ B s v k _ n (e _ d.out)).mono ?_;rintro j wx ⟨rfl,hx⟩;subst hx;have r:dd _:=K.out;generalize pY ⟨st,A,L,i⟩ n=f at r ⊢;cases f
  .clear j0 j1 j2 X g1 g2;generalize m a=z at*;have c2:z.cell? (S s 2 U)=V (Y Z A):=az (e _ d.out).cell 2;by_cases F:A=0
   .subst F;have c3:z.cell? (S s 3 U)=V (Y Z L):=az (e _ d.out).cell 3;have f3:z.frozen? (S s 3 U)=da:=cB (e _ d.out).cell 3;go_wp2;go_end0;exact⟨rfl,_,by rw[r.out];exact(e _ d.out).Hu _,bS.pre d<|bS.set _ s v 3 _⟩
   have ab:=ae F;go_wp2;go_end0;exact⟨rfl,_,by rw[r.out,ai<|by simp,ai F];exact e.out _ d.out,bS.pre d<|bS.refl _ s v⟩
  rw[<-C.out a];have d:dd _:=C.out a▸d.out;go_wp2_with fail
  go_region_with (go_at_call 142;refine(RN _ B s v k _ n _ da (e _ d.out.drew) (by have:=I.out;simp only;omega)).mono ?_;rintro j w3 ⟨rfl,H,N,hF⟩)
  all_goals
   have T:=ah N;have R:dd _:=bS.pre d.out.drew hF;clear N hF;go_wp2;go_end0;exact⟨rfl,_,by rw[r.out,aj trivial];exact T.out,R⟩
def DJ(a:aw)(x:List ba×ba)(p:Nat):List ba×ba:=
 if x.2≠[]/\a.getD (x.2.headD 0) 0≠a.getD p 0 then(x.1++[x.2],[p])else(x.1,x.2++[p])
def jJ(a:List Bool)(n:Nat):ba:=(List.range n).filter (l8 a)
def ag5(b:aw)(a:List Bool):∀n i x,zj b a n i x=wM (((List.range' i n).filter (l8 a)).foldl (DJ b) x)
 |0,i,x=>rfl
 |n+1,i,x=>by rw[zj,ag5 b a n<|i+1,List.range'_succ,tG];unfold Hr;cases h:a.getD i da;have e:l8 a i=da:=h;rw[aj rfl,e,ai<|by decide];have e:l8 a i=db:=h;rw[e,ai<|by decide,aj (rfl:db=db),rZ];rfl
def asb(a:aw)(b:List Bool):dB a b=wM ((jJ b a.length).foldl (DJ a) ([],[])):=by rw[dB,ag5,jJ,List.range_eq_range']
def qj(d:aw)(left:ba)(a b:List ba)(c:Nat):Prop:=wM ((left.drop c).foldl (DJ d) (b,[]))=a
def yE(e:aw)(left:ba)(a b:List ba)(d c:Nat):Prop:=wM ((left.drop c).foldl (DJ e) (b,(left.take c).drop d))=a
def ahd {left:ba}{b a:Nat}(h:b<=a)(c:a<left.length):(left.take<|a+1).drop b=(left.take a).drop b++[left.getD a 0]:=by rw[uO,aK c,ai8<|by simp;omega,aN,aK c];rfl
def YW {left:ba}{b a:Nat}(h:b<a)(d:a<=left.length):((left.take a).drop b).headD 0=left.getD b 0/\(left.take a).drop b≠[]/\((left.take a).drop b).length=a - b:=by
 have c:((left.take a).drop b).length=a - b:=by simp;omega
 refine⟨?_,?_,c⟩;rw[List.headD_eq_head?_getD,List.head?_drop,Pj h,aN];intro e;rw[e]at c;simp at c;omega
def Qb {left:ba}{k:Nat}(h:k<left.length):left.drop k=left.getD k 0::left.drop (k+1):=by rw[lV h,aN,aK h];rfl
def qj.start(a:aw)(b:List Bool):qj a (jJ b a.length) (dB a b) [] 0:=by rw[qj,asb];rfl
def qj.opn {e:aw}{left:ba}{a b:List ba}{c:Nat}(h:qj e left a b c)(d:c<left.length):yE e left a b c (c+1):=by unfold qj at h;rw[Qb d,rZ]at h;rw[yE,ahd (au _) d,lu<|by simp;omega];rw[DJ,ai λf=>f.1 rfl]at h;exact h
def yE.more {f:aw}{left:ba}{b c:List ba}{e a:Nat}(h:yE f left b c e a)(d:e<a)(g:a<left.length)(i:f.getD (left.getD a 0) 0=f.getD (left.getD e 0) 0):yE f left b c e (a+1):=by unfold yE at h;rw[Qb g,rZ,DJ,ai λj=>j.2<|by simp only;rw[(YW d<|gV g).1,i]]at h;rw[yE,ahd (gV d) g];exact h
def yE.shut {i:aw}{left:ba}{c b:List ba}{f a:Nat}(h:yE i left c b f a)(j:f<a)(o:a<=left.length)(m:¬a<left.length∨i.getD (left.getD a 0) 0≠i.getD (left.getD f 0) 0):qj i left c (b++[(left.take a).drop f]) a:=by
 unfold yE at h;obtain⟨l,k,_⟩:=YW j o;rcases dc a left.length with d|g
 .rw[Qb d,rZ,DJ,aj ⟨k,by simp only;rw[l];exact λe=>m.elim (λh=>h d) λh=>h e.symm⟩]at h;rw[qj,Qb d,rZ];have:DJ i (b++[(left.take a).drop f],[]) (left.getD a 0)=(b++[(left.take a).drop f],[left.getD a 0]):=by rw[DJ,ai λn=>n.1 rfl];rfl
  rw[this];exact h
 rw[lu g,T8,wM,ai k]at h;rw[qj,lu g,T8,wM,aj rfl];exact h
def qj.done {d:aw}{left:ba}{a b:List ba}{c:Nat}(h:qj d left a b c)(e:¬c<left.length):b=a:=by unfold qj at h;rw[lu<|by omega,T8,wM,aj rfl]at h;exact h
def PL(b:aw)(a:List ba):∀f p,cE b a (f+1) p=match iK b a ((cE b a f p).getLastD 0)with
  |none=>cE b a f p
  |some k=>cE b a f p++a.getD k []
 |0,p=>by rw[cE];cases h:iK b a (p.getLastD 0)<;>simp only[cE,h]
 |f+1,p=>by
  rw[cE];cases h:iK b a (p.getLastD 0)with
  |none=>simp only[cE,h]
  |some k=>simp only;rw[PL b a f<|p++a.getD k []];rw[show cE b a (f+1) p=cE b a f (p++a.getD k [])by rw[cE,h]]
def Gq {b:aw}{c:List ba}{a:Nat}{p:ba}(h:iK b c ((cE b c a p).getLastD 0)=U):∀d,cE b c (a+d) p=cE b c a p
 |0=>rfl
 |d+1=>by rw[<-oZ,PL,Gq h d,h]
def ak7 {c:aw}{b:List ba}{a k:Nat}{p:ba}(h:iK c b ((cE c b a p).getLastD 0)=V k):cE c b (a+1) p=cE c b a p++b.getD k []:=by rw[PL,h]
def ak9 {c:aw}{d:List ba}(h:nt c.length d)(f:Nat){r:ba}(b:r∈d)(g:iG c r=db):(cE c d f r).Nodup:=
 have key:∀(l:List ba),(l.flatMap<|cE c d f).Nodup->∀r∈l,(cE c d f r).Nodup:=by
  intro l
  induction l with
  |nil=>intro _ r b;cases b
  |cons a l ih=>intro e r b;rw[yF,II]at e;rcases gI.1 b with rfl|b;exact e.1;exact ih e.2.1 r b
 key _ (ahe h f) r (uN.2 ⟨b,g⟩)
def XV {b:aw}{c:List ba}{a k:Nat}(h:iK b c a=V k):k<c.length/\aU (b.getD a 0)=db/\(c.getD k []).headD 0=mt b a:=by unfold iK at h;split at h;rename_i f;obtain⟨d,e⟩:=G9 _ _ h;exact⟨d,f,e⟩;cases h
def PM {a:aw}{c:List ba}(h:nt a.length c){r:ba}(d:r∈c):∀f,∀p∈cE a c f r,p<a.length
 |0=>h.lt r d
 |f+1=>by
  rw[PL];cases hn:iK a c ((cE a c f r).getLastD 0)with
  |none=>exact PM h d f
  |some k=>intro p b;rcases ji.1 b with b|b;exact PM h d f p b;exact h.lt _ (dP (XV hn).1) p b
def Mj:∀(l:ba)(n:Nat),l.Nodup->(∀a∈l,a<n)->l.length<=n
 |[],n,_,_=>by simp
 |a::l,0,_,h=>by have:=h a (by simp);omega
 |a::l,n+1,hn,h=>by
  have ih:=Mj ((a::l).erase n) n (hn.erase n) (λb c=>by
   have f:=h b<|ajj c;have g:b≠n:=λe=>by subst e;exact(ai3 hn) c
   omega)
  by_cases d:n∈a::l;rw[ajh d]at ih;omega;rw[ajb d]at ih;omega
def Gt {a:aw}{b:List ba}(h:nt a.length b)(f:Nat){r:ba}(c:r∈b)(d:iG a r=db):(cE a b f r).length<=a.length:=
 Mj _ _ (ak9 h f c d) (PM h c f)
