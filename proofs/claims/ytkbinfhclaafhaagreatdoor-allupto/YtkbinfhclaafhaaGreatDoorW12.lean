import Derived.Test.YtkbinfhclaafhaaGreatDoorW11
import Derived.RangeFuncBox
import Derived.LoopNIn
namespace Go.Proofs.YtkbinfhclaafhaaGreatDoor
open Go.RowKit
open Go.Proofs.Tryz
set_option maxRecDepth 100000
set_option maxHeartbeats 32000000
set_option linter.all false
open Go.Value renaming int->Y,slice->R,string->cd,bool->ce,tuple->de,agg->df
open Go.IntKind renaming i64->Z
open Option renaming none->U,some->V
open Go.Addr renaming mk->S
open Go.Obj renaming cells->bi
open Go.Ending renaming returned->bj
open Go renaming World->cw,Value->cJ,Calls->cP
open Go.RowKit renaming Below->cD,Hid->dd
open Bool renaming false->da,true->db
def akY(w:cw)(c:Array cJ)(t:TypeId)(j:Nat):(w.alloc<|bi c t).cell? (S w.1.size j U)=c[j]? :=by have h:(w.alloc<|bi c t).1[w.1.size]? =V (bi c t (0,0)):=World.alloc_heap_new w _;unfold World.cell?;simp only[h];rfl
def Fv {P:Program}(w:cw){g:Array Oper}{rest:List Oper}{o:Oper}{a:Act}{Q:Exit->Act->cw->Prop}(y:o.guard=U)(s x:Operand)(t:TypeId) (L:o.op= .call {callee:= .builtin .append,args:=#[s,x],argTypes:=#[t,t]}) (b:Nat) (e:TypeId) (i:TypeInfo) (z:cJ) (size bytes:Nat) (N:P.underlying t=V (.slice e)) (J:P.info? e=V i) (O:i.zero=V z) (c:i.size=size) (r:i.bytes=bytes) (D:z.cells.size=size) (C:0<size) (R:bytes<=64) (v:cJ) (n:Nat) (E:List cJ) (M:a.eval s=v) (f:w.ownsRow b e size v n E) (m:List cJ) (G:TypeId) (k:Nat) (hx:a.eval x= .slice (V<|S k 0 U) 1 1) (A:k=w.1.size) (T:m.length=size) (H:∀u∈m,u.oneCell'=db) (W:n<=1000000) (q:b<=w.1.size) (h:∀p l,l.ownsRow b e size p (n+1) (E++m)->w.grownBy l v.ownBlock->wpList P g Q rest (a.put o.dst p) l):wpList P g Q (o::rest) a (w.alloc<|bi m.toArray G):=by
 subst A;refine Kt _ y s x t L b e i z size bytes N J O c r D C v n E M (f.alloc _) (S w.1.size 0 U) 1 1 m hx (by omega) ?_ H ?_ ?_ ?_ ?_
 .intro j u K;have e:((S w.1.size 0 U):Addr).add j=(S w.1.size j U):=by by_cases F:j=0;subst F;rfl;simp[Addr.add,F]
  rw[e,akY];simpa using K
 .unfold maxLen;omega
 .have:(n+1)*bytes<=1000001*64:=zT (by omega) R;omega
 .simp;omega
 intro p l I d _;refine h p l I ⟨d.os,d.tape,d.output,?_,λk A B=> ?_⟩;have:=d.size;simp at this;omega;rw[d.block k (by simp;omega) B];exact dh w _ k A
def atk {s:bc}{p:Nat}(h:p<s.size):dM s p=lG (dD s p) (dM s (dD s p).T):=by rw[dM,aj h]
def fC {w:cw}{B:Nat}{e:TypeId}{z n:Nat}{v:cJ}{d:List cJ}(h:w.ownsRow B e z v n d):∃a b,v=R a n b:=by rcases h.2 with⟨rfl,rfl⟩|⟨g,b,c,rfl,_⟩;exact⟨U,0,rfl⟩;exact⟨_,b,rfl⟩
def jy {w:cw}{B:Nat}{e:TypeId}{z n:Nat}{v:cJ}{i:List cJ}(h:w.ownsRow B e z v n i)(l:0<n):∃g a,v= .slice (V<|S g 0 U) n a/\n<=a/\B<=g/\g<w.1.size:=by have b:=h.lt;rcases h.2 with⟨_,j⟩|⟨g,a,c,rfl,d,k,f,_⟩;omega;exact⟨g,a,rfl,f,d,(b g rfl).2⟩
def jc {w a:cw}{B:Nat}{e:TypeId}{z n:Nat}{v:cJ}{b:List cJ}(h:w.ownsRow B e z v n b)(c:cD w.1.size w a):a.ownsRow B e z v n b:=
 kS h λ_ _ _ d=>aR c d
def Zj {W a:cw}{B:Nat}{e:TypeId}{z n:Nat}{v:cJ}{f:List cJ}{c:Array cJ}{T:TypeId}(d:W.ownsRow B e z v n f)(b:(W.alloc<|bi c T).grownBy a v.ownBlock):a.1[W.1.size]? =V (bi c T (0,0)):=by rw[b.block W.1.size (by simp) λh=>by have:=(d.lt _ h.symm).2;omega];exact World.alloc_heap_new W _
def cell_of {w:cw}{b:Nat}{c:Array cJ}{t:TypeId}{f:Nat×Nat}(h:w.1[b]? =V (bi c t f))(j:Nat):w.cell? (S b j U)=c[j]? :=by unfold World.cell?;simp only[h];rfl
def atn {w:cw}{B g a n:Nat}{l:List Tk}{u:Tk}{e:TypeId}(h:w.ownsRow B e 5 (.slice (V<|S g 0 U) n a) n<|mR<|l++[u])(b:n=l.length+1):w.cell? (S g (l.length*5) U)=V (Y Z u.k):=by have:=(Zl (l++[u]) l.length<|by simp).1;rw[cT h (l.length*5)<|by omega,this];simp
def ato {w:cw}{B g a n:Nat}{l:List Tk}{u:Tk}{e:TypeId}(h:w.ownsRow B e 5 (.slice (V<|S g 0 U) n a) n<|mR<|l++[u])(b:n=l.length+1):w.cell? (S g (l.length*5+2) U)=V (Y Z u.T):=by have:=(Zl (l++[u]) l.length<|by simp).2.2.1;rw[cT h (l.length*5+2)<|by omega,this];simp
def Tryz.aou:(prog.info? 125).map (λi=>(i.zero,i.size,i.bytes))=V (V<|df #[Y Z 0,Y Z 0,Y Z 0,Y Z 0,Y Z 0],5,40):=by kernel_rfl
def atj(s:bc)(w:cw)(hz:s.size<=1000):cP prog 75 #[cd s] w λe w'=>∃v,e=bj v/\w'.ownsRow w.1.size 125 5 v (dM s 0).length (mR<|dM s 0)/\cD w.1.size w w':=by
 obtain⟨iT,vY,Ao⟩:∃i,prog.info? 125=V i/\(i.zero,i.size,i.bytes)=(V<|df #[Y Z 0,Y Z 0,Y Z 0,Y Z 0,Y Z 0],5,40):=by simpa using Tryz.aou
 simp only[IQ]at Ao;obtain⟨wF,wG,wH⟩:=Ao;obtain⟨aa,hR⟩:=ac<|dM s 0;rw[<-hR];have HR:=ah hR;clear hR;go_enter func75,ntmps75;go_wp2;go_loopg [3,4,5,6] s.size (λgk lv pv _ _ W=>∃(l:List Tk)(p:Nat),p<=s.size/\gk=s.size - p/\l.length<=p/\pv=Y Z p/\BX l (dM s p)=aa/\(∀n u,l=n++[u]->u.k=0->u.B=0/\u.E=0)/\W.ownsRow w.1.size 125 5 lv l.length (mR l)/\cD w.1.size w W);exact⟨[],0,by omega,rfl,by simp,rfl,HR.out.symm,λn u h=>by simp at h,fh _ _ _ _,aA _ _⟩;obtain⟨l,p,hp,rfl,ag,rfl,hj,yP,f,hb⟩:=hrel;by_cases C:p<s.size
 .have am:(p:Int)<(s.size:Int):=by omega
  have X:=ah hb;have P:dd (BX l (lG (dD s p)<|dM s (dD s p).T)=aa):=by show _=_;rw[<-hj,atk C]
  have Kw:=ah yP;have HW:=aub s p wr hz C;have O3:dd (p<(dD s p).T/\(dD s p).T<=s.size):=⟨Cs s p,ZN C⟩
  have Lj:dd ((dD s p).k=0->(dD s p).B=0/\(dD s p).E=0):=λh=>by rw[ZL s p h];exact⟨rfl,rfl⟩
  clear hj yP hb;obtain⟨⟨Q,r,c,o,q⟩,ht⟩:∃t,dD s p=t:=⟨_,rfl⟩
  rw[ht]at HW P O3 Lj;clear ht;unfold Cq at HW;simp only at HW P O3 Lj;obtain⟨Jo,rF⟩:=O3.out;clear O3;obtain⟨qa,qc,rfl⟩:=fC f;go_wp2_with fail;refine HW.mono ?_;clear HW;rintro ev W ⟨rfl,K⟩;have a:=jc f K;have aD:=ah<|X.out.trans<|K.mono X.out.size;have x:=aD.out.size;have A:=ah a;clear f K X a;by_cases hk:Q=0
  .subst hk;rcases Bh l with rfl|⟨n,u,rfl⟩
   .have a:=A.out;clear A;simp only[kW]at a ag ⊢;go_wp2_with(at_builtin;refine Fv _ rfl _ _ 123 rfl w.1.size 125 iT _ 5 40 underlying123 vY wF wG wH rfl (by decide) (by decide) _ _ _ rfl (lZ a _) [_,_,_,_,_] _ _ rfl (by simp) rfl (by simp[Value.oneCell']) (by omega) (by simp;omega) ?_);intro v2 I b d;have j:=Zj a d;have U:=cell_of j 2;simp only[jW,mZ,kE]at U;have aG:dd (cD w.1.size w I):=(aD.out.alloc x _).grown d (by simp;omega) (λy M=>(a.lt y M).1);have bP:dd (I.ownsRow w.1.size 125 5 v2 (0+1)<|mR<|([]:List Tk)++[⟨0,r,c,o,q⟩]):=(by show World.ownsRow _ _ _ _ _ _ _;rw[Ol];exact b);clear a b d j;go_wp2;go_roundg (s.size - c);case measure=>omega
    case rel=>refine⟨([]:List Tk)++[⟨0,r,c,o,q⟩],c,rF,rfl,by simp;omega,rfl,?_,?_,by exact bP.out,aG⟩;rw[<-P.out];exact(Xp ([]:List Tk) ⟨0,r,c,o,q⟩ (dM s c) λl1 u1 h1=>by simp at h1).symm;intro N O L z;have J:O=⟨0,r,c,o,q⟩:=(by have:=congrArg List.getLast? L;simp at this;exact this.symm);subst J;exact Lj.out<|by first|exact z|trivial
   rw[CX]at*;obtain⟨m,hm⟩:=ac n.length;have af:(n++[u]).length=m+1:=(by simp[hm]);rw[af]at A ag ⊢;have a:=A.out;obtain⟨g,gc,ae,kR,al,iU⟩:=jy a (by omega);simp only[lY,lq]at ae;obtain⟨rfl,rfl⟩:=ae;have H:=ah hm;have ad:=atn a (by omega);rw[<-hm]at ad;clear hm A;obtain⟨S,G,R,D,F⟩:=u;simp only at ad;by_cases z:S=0
   .subst z;have ao:=Em a<|m*5+2;have ab:=ato a (by rw[H.out]);rw[<-H.out]at ab;simp only at ab;have ap:¬g=W.1.size:=(by omega);have an:¬W.1.size=g:=(by omega);have ai:=C0 a (m*5+2)<|Y Z c;have HS:=ah ai;clear ai a;go_wp2;go_roundg (s.size - c);case measure=>omega
    case rel=>obtain⟨b1,b2⟩:=Kw.out n ⟨0,G,R,D,F⟩ rfl rfl;refine⟨n++[(⟨0,G,c,D,F⟩:Tk)],c,rF,rfl,by simp[<-H.out];omega,rfl,?_,?_,?_,?_⟩;rw[<-P.out];exact(aoM n ⟨0,G,R,D,F⟩ ⟨0,r,c,o,q⟩ (dM s c) rfl rfl b1 b2).symm;intro N O L z;have J:O=⟨0,G,c,D,F⟩:=(by have:=congrArg List.getLast? L;simp at this;exact this.symm);subst J;exact⟨b1,b2⟩;rw[show(n++[(⟨0,G,c,D,F⟩:Tk)]).length=m+1 by simp[H.out]];have:=HS.out.1;rw[show m*5+2=n.length*5+2 by rw[<-H.out],atl]at this;rw[<-H.out]at this;exact lZ this _;exact(aD.out.grown HS.out.2 x λy M=>by obtain rfl:=aI M;exact al).alloc (by simpa using x) _
   have ar:((S:Int)==0)=da:=(by simpa using z);have ak:=ah z;clear z;go_wp2_with(at_builtin;refine Fv _ rfl _ _ 123 rfl w.1.size 125 iT _ 5 40 underlying123 vY wF wG wH rfl (by decide) (by decide) _ _ _ rfl (lZ a _) [_,_,_,_,_] _ _ rfl (by simp) rfl (by simp[Value.oneCell']) (by omega) (by simp;omega) ?_);intro v2 I b d;have j:=Zj a d;have U:=cell_of j 2;simp only[jW,mZ,kE]at U;have aG:dd (cD w.1.size w I):=(aD.out.alloc x _).grown d (by simp;omega) (λy M=>(a.lt y M).1);have bP:dd (I.ownsRow w.1.size 125 5 v2 ((m+1)+1)<|mR<|(n++[⟨S,G,R,D,F⟩])++[⟨0,r,c,o,q⟩]):=(by show World.ownsRow _ _ _ _ _ _ _;rw[Ol];exact b);clear a b d j;go_wp2;go_roundg (s.size - c);case measure=>omega
   case rel=>refine⟨(n++[⟨S,G,R,D,F⟩])++[⟨0,r,c,o,q⟩],c,rF,rfl,by simp[<-H.out];omega,rfl,?_,?_,by rw[show(n++[(⟨S,G,R,D,F⟩:Tk)]++[(⟨0,r,c,o,q⟩:Tk)]).length=m+1+1 by simp[H.out]];exact bP.out,aG⟩;rw[<-P.out];exact(Xp (n++[⟨S,G,R,D,F⟩]) ⟨0,r,c,o,q⟩ (dM s c) λl1 u1 h1=> .inl (by have:=congrArg List.getLast? h1;simp at this;subst this;exact ak.out)).symm;intro N O L z;have J:O=⟨0,r,c,o,q⟩:=(by have:=congrArg List.getLast? L;simp at this;exact this.symm);subst J;exact Lj.out<|by first|exact z|trivial
  have aq:((Q:Int)==0)=da:=(by simpa using hk);have a:=A.out;have aj:=ah hk;clear hk A;go_wp2_with(at_builtin;refine Fv _ rfl _ _ 123 rfl w.1.size 125 iT _ 5 40 underlying123 vY wF wG wH rfl (by decide) (by decide) _ _ _ rfl (lZ a _) [_,_,_,_,_] _ _ rfl (by simp) rfl (by simp[Value.oneCell']) (by omega) (by simp;omega) ?_);intro v2 I b d;have j:=Zj a d;have U:=cell_of j 2;simp only[jW,mZ,kE]at U;have aG:dd (cD w.1.size w I):=(aD.out.alloc x _).grown d (by simp;omega) (λy M=>(a.lt y M).1);have bP:dd (I.ownsRow w.1.size 125 5 v2 (l.length+1)<|mR<|l++[⟨Q,r,c,o,q⟩]):=by show World.ownsRow _ _ _ _ _ _ _;rw[Ol];exact b
  clear a b d j;go_wp2;go_roundg (s.size - c);case measure=>omega
  case rel=>refine⟨l++[⟨Q,r,c,o,q⟩],c,rF,rfl,by simp;omega,rfl,?_,?_,by simpa using bP.out,aG.out⟩;rw[<-P.out];exact(Xp l ⟨Q,r,c,o,q⟩ (dM s c) λ_ _ _=> .inr aj).symm;intro N O L z;have J:O=⟨Q,r,c,o,q⟩:=(by have:=congrArg List.getLast? L;simp at this;exact this.symm);subst J;exact Lj.out<|by first|exact z|trivial
 obtain rfl:p=s.size:=by omega
 have am:¬(s.size:Int)<(s.size:Int):=by omega
 have Wl:l=aa:=by rw[<-hj,Kq C,aoK]
 subst Wl;have A:=ah f;have X:=ah hb;obtain⟨qa,qc,rfl⟩:=fC f;clear f hb hj yP HR;go_wp2;go_ret;exact⟨_,rfl,A,X⟩
def jumps(K:Nat->Act->cw->Prop)(Q:Exit->Act->cw->Prop):Exit->Act->cw->Prop
 | .goto l,a,w=>K l a w
 |e,a,w=>Q e a w
section
variable{P:Program}{a:Act}{w:World}{Q:Exit->Act->World->Prop}{K:Nat->Act->World->Prop}
@[go_sem] theorem avp:jumps K Q .normal a w=Q .normal a w:=rfl
@[go_sem] theorem avn (id:Nat):jumps K Q (.exit id) a w=Q (.exit id) a w:=rfl
@[go_sem] theorem avr:jumps K Q .ret a w=Q .ret a w:=rfl
@[go_sem] theorem avq (b:List PanicEntry):jumps K Q (.panic b) a w=Q (.panic b) a w:=rfl
@[go_sem] theorem avo (l:Nat):jumps K Q (.goto l) a w=K l a w:=rfl
def auh {r X:Code}(s:Nat)(J:Nat->Nat->Act->cw->Prop) (first:r.wp P (Exit.then (λa w=>∃n,J s n a w) λ_ _ _=>False) a w) (F:findLabel (.seq r (.seq (.label s) X)) s=V (.seq .skip X)) (pass:∀l n a w,J l n a w->∃C,findLabel (.seq r (.seq (.label s) X)) l=V (.seq .skip C)/\C.wp P (jumps (λv u x=>∃m,m<n/\J v m u x) Q) a w):(Code.scope (.seq r (.seq (.label s) X))).wp P Q a w:=by
 have key:∀n l a w,J l n a w->∀b k z,∃e u x,Q e u x/\∃rest,findLabel (.seq r (.seq (.label s) X)) l=V rest/\Arrives P (lone (b.at a (.code rest:: .inScope (.seq r (.seq (.label s) X))::k)) z w) b k z e u x:=by
  intro n
  induction n using Nat.strongRecOn with
  |_ n ih=>
   intro l a w D b k z;obtain⟨C,j,E⟩:=pass l n a w D;have N:(Code.seq .skip C).wp P (jumps (λv u x=>∃m,m<n/\J v m u x) Q) a w:=wp_seq<|wp_skip E;obtain⟨e,c,f,o,d⟩:=N b (.inScope (.seq r (.seq (.label s) X))::k) z;cases e with
   |normal=>exact⟨.normal,c,f,o,_,j,Steps.trans d (.one step_inScope)⟩
   |exit id=>exact⟨.exit id,c,f,o,_,j,λH G=>d H<|by simp[exitTo,G]⟩
   |goto v=>obtain⟨m,M,B⟩:=o;obtain⟨q,p,t,i,rest,A,g⟩:=ih m M v c f B b k z;exact⟨q,p,t,i,_,j,.of_steps (d _ (by simp[gotoIn,A])) g⟩
   |ret=>exact⟨_,c,f,o,_,j,d⟩
   |panic L=>exact⟨_,c,f,o,_,j,d⟩
   |outgrown=>exact⟨_,c,f,o,_,j,d⟩
 have y:(Code.seq r (.seq (.label s) X)).wp P (jumps (λv u x=>∃m,J v m u x) Q) a w:=by
  refine wp_seq<|wp_mono first ?_;intro e u x h;cases e with
  |normal=>
   obtain⟨n,D⟩:=h;obtain⟨C,j,E⟩:=pass s n u x D;rw[F]at j;injection j with j;injection j with _ j;subst j;refine wp_seq<|wp_label ?_;refine wp_mono E ?_;intro e K O I;cases e with
   |goto v=>obtain⟨m,_,B⟩:=I;exact⟨m,B⟩
   |_=>exact I
  |_=>exact h.elim
 intro b k z;obtain⟨e,c,f,o,d⟩:=y b (.inScope (.seq r (.seq (.label s) X))::k) z;cases e with
 |normal=>exact⟨.normal,c,f,o,.head Oh<|Steps.trans d (.one step_inScope)⟩
 |exit id=>exact⟨.exit id,c,f,o,λH G=> .head Oh (d H<|by simp[exitTo,G])⟩
 |goto v=>obtain⟨m,B⟩:=o;obtain⟨q,p,t,i,rest,A,g⟩:=key m v c f B b k z;exact⟨q,p,t,i,.of_steps (.head Oh<|d _ (by simp[gotoIn,A])) g⟩
 |ret=>exact⟨_,c,f,o,.of_steps (.one Oh) d⟩
 |panic L=>exact⟨_,c,f,o,.of_steps (.one Oh) d⟩
 |outgrown=>exact⟨_,c,f,o,.of_steps (.one Oh) d⟩
end
noncomputable def agz:Code:=match Tryz.f107.body with
 |some (.scope c)=>c
 |_=> .skip
noncomputable def Kf(l:Nat):Code:=match findLabel agz l with
 |some (.seq _ X)=>X
 |_=> .skip
def AtR(b:Nat)(a:Act):Prop:=∃u0 u1 u2 u3 u5 u6 u7 u8 u9 c e f g h i u16 j k l m d N u23 u24 O u26 P u28 Q R T u32 u33 W X Y Z xz p q r s t u44 u v w x y z A B C D E F G H I J K L M u64 n o ya yc yg yh yj ym yo zm zn zo zq zu zw zx zy zz zA zB zC zD:cJ,a={tmps:=#[u0,u1,u2,u3,.pointer<|V<|S b 0 U,u5,u6,u7,u8,u9,c,e,f,g,h,i,u16,j,k,l,m,d,N,u23,u24,O,u26,P,u28,Q,R,T,u32,u33,W,X,Y,Z,xz,p,q,r,s,t,u44,u,v,w,x,y,z,A,B,C,D,E,F,G,H,I,J,K,L,M,u64,n,o,ya,yc,yg,yh,yj,ym,yo,zm,zn,zo,zq,zu,zw,zx,zy,zz,zA,zB,zC,zD],defers:=[]}
structure kH(w:World):Prop where
 lc:∃t f,w.1[(7:Nat)]? =some (.cells #[.int .u8 47,.int .u8 47] t f)
 bb:∃t f,w.1[(8:Nat)]? =some (.cells #[.int .u8 47,.int .u8 42] t f)
 be:∃t f,w.1[(9:Nat)]? =some (.cells #[.int .u8 42,.int .u8 47] t f)
def kH.below {w b:cw}{n:Nat}(h:kH w)(c:10<=n)(a:cD n w b):kH b:=
 ⟨h.lc.imp λ_ h=>h.imp λ_ h=>(a.block _ (by omega)).trans h,h.bb.imp λ_ h=>h.imp λ_ h=>(a.block _ (by omega)).trans h,h.be.imp λ_ h=>h.imp λ_ h=>(a.block _ (by omega)).trans h⟩
def kH.sz {w:cw}(h:kH w):10<=w.1.size∨w.1.size<=9+1/\9<w.1.size:=by obtain⟨_,_,a⟩:=h.be;have:=bO a;omega
structure RC where
 w0:World
 rb:Nat
 s:bc
 l:Nat
 n₀:Nat
 J:List PR->World->Prop
 Jx:List PR->World->Prop
 X:List PR
structure pU(C:RC):Prop where
 T:Tl C.l C.n₀ C.J C.Jx C.X
 hn:C.n₀<=C.rb
 h20:10<=C.n₀
 hz:C.s.size<=1000
 env:kH C.w0
structure RW(C:RC)(w:World)(p:RP)(st:Bool)(pre:List PR):Prop where
 rs:Rs w C.rb C.s C.l C.J C.Jx C.X p st pre
 ok:tP C.s p
 be:Below C.n₀ C.w0 w
def LJ(C:RC)(b n:Nat)(a:Act)(w:cw):Prop:=AtR C.rb a/\∃p d c,RW C w p d c/\
 ((b=3/\(d=da->C.X=c++cI C.s da p)/\n=if d then 0 else 2*(C.s.size - p.at_)+3)∨(d=da/\C.X=c++cI C.s da p/\p.at_<C.s.size/\n=2*(C.s.size - p.at_)+2/\((b=0/\bt C.s p.at_=34)∨(b=1/\bt C.s p.at_=47/\bt C.s (p.at_+1)=47)∨(b=2/\bt C.s p.at_=47/\bt C.s (p.at_+1)=42))))
def RE(C:RC):Ending->cw->Prop:=λe b=>(∃v,e=bj v)/\cD C.n₀ C.w0 b/\(C.J C.X b∨∃a,a<+:C.X/\C.Jx a b)
def RW.drewN {C:RC}{w:cw}{p:RP}{b:Bool}{a:List PR}(h:RW C w p b a)(O:pU C)(m:Nat):RW C (w.drewN m) p b a:=
 ⟨h.rs.grown O.T (Ez<|pZ _ _)<|h.rs.rd.drewN m,h.ok,gY h.be m⟩
def RW.below {C:RC}{w c:cw}{p:RP}{e:Bool}{b:List PR}(h:RW C w p e b)(O:pU C)(a:cD w.1.size w c):RW C c p e b:=by
 have g:c.1[C.rb]? =w.1[C.rb]? :=a.block _ h.rs.rd.lt;have f:lT w c:=⟨a.os,a.tape,a.output,a.size,λk o d _=>(a.block k<|bO d).trans d⟩
 exact⟨h.rs.nR O.T f<|g.trans h.rs.rd,h.ok,h.be.trans<|a.mono<|by have:=h.rs.rd.lt;have:=O.hn;omega⟩
def RW.al {C:RC}{w:cw}{p:RP}{b:Bool}{a:List PR}(h:RW C w p b a)(O:pU C)(o:Obj):RW C (w.alloc o) p b a:=h.below O<|(aA _ _).alloc (au _) _
def kH.cells {w:cw}(h:kH w):(w.cell? (S 7 0 U)=V (Y .u8 47)/\w.cell? (S 7 1 U)=V (Y .u8 47))/\(w.cell? (S 8 0 U)=V (Y .u8 47)/\w.cell? (S 8 1 U)=V (Y .u8 42))/\(w.cell? (S 9 0 U)=V (Y .u8 42)/\w.cell? (S 9 1 U)=V (Y .u8 47)):=
 let⟨_,_,h1⟩:=h.lc
 let⟨_,_,h2⟩:=h.bb
 let⟨_,_,h3⟩:=h.be
 ⟨⟨az h1 0,az h1 1⟩,⟨az h2 0,az h2 1⟩,⟨az h3 0,az h3 1⟩⟩
def RW.env {C:RC}{w:cw}{p:RP}{b:Bool}{a:List PR}(h:RW C w p b a)(O:pU C):kH w:=O.env.below O.h20 h.be
def RW.over {C:RC}{w:cw}{p:RP}{b:Bool}{a:List PR}(h:RW C w p b a)(O:pU C):cP prog 177 #[.pointer<|V<|S C.rb 0 U] w λe f=>e=bj (ce<|nH C.s p b)/\RW C f p b a:=
 (afR w C.rb C.s _ p b h.rs.rd).mono λ_ _ ⟨c,m,d⟩=>⟨c,by rw[d];exact h.drewN O m⟩
def RW.ae9 {C:RC}{w:cw}{p:RP}{b:Bool}{a:List PR}(h:RW C w p b a)(O:pU C):cP prog 182 #[.pointer<|V<|S C.rb 0 U] w λe f=>e=bj (ce<|ze C.s p b)/\RW C f p b a:=
 (afa w C.rb C.s _ p b h.rs.rd h.ok.e).mono λ_ _ ⟨c,m,d⟩=>⟨c,by rw[d];exact h.drewN O m⟩
def RW.sign {C:RC}{w:cw}{p:RP}{c:Bool}{a:List PR}(h:RW C w p c a)(O:pU C)(b:p.at_<C.s.size):cP prog 178 #[.pointer<|V<|S C.rb 0 U] w λe g=>e=bj (df #[Y .u8<|bt C.s p.at_,Y .u8<|bt C.s<|p.at_+1])/\RW C g p c a:=
 (asE w C.rb C.s _ p c h.rs.rd b (by have:=O.hz;omega)).mono λ_ _ ⟨f,d⟩=>⟨f,h.below O d⟩
def RW.cut {C:RC}{w:cw}{p:RP}{st:Bool}{f:List PR}(h:RW C w p st f)(O:pU C)(k t:Nat)(q:k<=2)(r:t<=2)(i:p.at_+t<=C.s.size)(m:st=da->(f++dS k t p)<+:C.X):cP prog 179 #[.pointer<|V<|S C.rb 0 U,Y Z k,Y Z t] w λe s=>(∃v,e=bj v)/\∃g,(st=db->g=db)/\RW C s (iO t p st) g (f++dS k t p):=by have a:=h.ok.a;have b:=h.ok.b;have c:=h.ok.c;have d:=h.ok.d;have e:=h.ok.e;have z:=O.hz;exact(EC w C.rb C.s C.l C.n₀ C.J C.Jx C.X O.T O.hn p st f h.rs k t q r a c (by omega) (by omega) (by omega) (by omega) m).mono λ_ _ ⟨o,n,g,j,l⟩=>⟨o,g,j,l,h.ok.cut i,h.be.trans n⟩
def RW.open {C:RC}{w:cw}{p:RP}{d:Bool}{a:List PR}(h:RW C w p d a)(O:pU C)(c:Nat)(m:c<=2)(f:p.at_+c<=C.s.size)(j:d=da->(a++dS 0 0 p)<+:C.X):cP prog 181 #[.pointer<|V<|S C.rb 0 U,Y Z c] w λe n=>(∃v,e=bj v)/\∃b,(d=db->b=db)/\RW C n (dz c p d) b (a++dS 0 0 p):=
 (ap4 w C.rb C.s C.l C.n₀ C.J C.Jx C.X O.T O.hn p d a h.rs c m h.ok O.hz j).mono λ_ _ ⟨l,k,b,g,i⟩=>⟨l,b,g,i,h.ok.open f,h.be.trans k⟩
def RW.grown {C:RC}{w d:cw}{p b:RP}{c:Bool}{a:List PR}(h:RW C w p c a)(O:pU C)(e:w.grownBy d<|V C.rb)(g:Rd d C.rb C.s (.func (.yield C.l) #[] #[]) b c)(f:tP C.s b):RW C d b c a:=
 ⟨h.rs.grown O.T e g,f,h.be.trans<|Below.Fa e O.hn<|by have:=h.rs.rd.lt;have:=O.hn;omega⟩
def RW.feed {C:RC}{w:cw}{p:RP}{c:Bool}{a:List PR}(h:RW C w p c a)(O:pU C)(b:p.at_+1<=C.s.size):cP prog 180 #[.pointer<|V<|S C.rb 0 U] w λe i=>(∃v,e=bj v)/\RW C i (pX p) c a:=
 (amv w C.rb C.s _ p c h.rs.rd (by have:=h.ok.e;have:=O.hz;omega) (by have:=h.ok.f;have:=h.ok.e;have:=O.hz;omega)).mono λ_ _ ⟨g,d,f⟩=>⟨g,h.grown O f d<|h.ok.feed b⟩
def RW.asI {C:RC}{w:cw}{p:RP}{b:Bool}{a:List PR}(h:RW C w p b a)(O:pU C):cP prog 183 #[.pointer<|V<|S C.rb 0 U] w λe g=>(∃v,e=bj v)/\RW C g (dm p (if b then p.at_ else bY C.s p.at_)) b a:=by
 refine(asJ w C.rb C.s _ p b h.rs.rd h.ok.e (by have:=O.hz;omega)).mono λ_ _ ⟨f,c,d⟩=>⟨f,h.grown O d c ?_⟩
 cases b with
 |true=>exact h.ok.to (au _) h.ok.e
 |false=>exact h.ok.to (G7 _ _)<|NH h.ok.e
def RW.step {C:RC}{w:cw}{p:RP}{b:Bool}{a:List PR}(h:RW C w p b a)(O:pU C){j:Nat}(c:p.at_<=j)(d:j<=C.s.size):RW C (w.setCell (S C.rb 6 U)<|Y Z j) (dm p j) b a:=
 h.grown O (nU<|pZ _ _) (h.rs.rd.s6 j) (h.ok.to c d)
def RW.end {C:RC}{w:cw}{p:RP}{b:Bool}{a:List PR}(h:RW C w p b a)(c:b=da->C.X=a)(v:cJ):RE C (bj v) w:=by
 refine⟨⟨_,rfl⟩,h.be,?_⟩;cases b with
 |true=>exact .inr<|h.rs.no rfl
 |false=>refine .inl ?_;have:=h.rs.go rfl;rw[c rfl];exact this
def arq(C:RC)(O:pU C)(w:cw)(p:RP)(L:Bool)(F:List PR)(h:RW C w p L F)(hX:L=da->C.X=F++cI C.s da p)(n:Nat)(hn:n=if L then 0 else 2*(C.s.size - p.at_)+3) (K:Nat->Act->cw->Prop) (hK:∀l m a w,m<n->LJ C l m a w->K l a w) (u0 u1 u2 u3 u5 u6 u7 u8 u9 vI wQ wR wT wU wV u16 wW wX wY wZ w9 xd u23 u24 xg u26 xh u28 xm xo xq u32 u33 xu xw xx xy xz xA xB xC xD xE u44 xG xH xI xJ xK xL xM xN xO xP xQ xR xS xU xV xW xX xY xZ u64 x8 x9 ya yc yg yh yj ym yo zm zn zo zq zu zw zx zy zz zA zB zC zD:cJ):Code.wp prog (Kf 3) (jumps K<|bodyPost prog Tryz.f107<|RE C) {tmps:=#[u0,u1,u2,u3,.pointer<|V<|S C.rb 0 U,u5,u6,u7,u8,u9,vI,wQ,wR,wT,wU,wV,u16,wW,wX,wY,wZ,w9,xd,u23,u24,xg,u26,xh,u28,xm,xo,xq,u32,u33,xu,xw,xx,xy,xz,xA,xB,xC,xD,xE,u44,xG,xH,xI,xJ,xK,xL,xM,xN,xO,xP,xQ,xR,xS,xU,xV,xW,xX,xY,xZ,u64,x8,x9,ya,yc,yg,yh,yj,ym,yo,zm,zn,zo,zq,zu,zw,zx,zy,zz,zA,zB,zC,zD],defers:=[]} w:=by
 conv=>arg 2;whnf
 have X:=ah hK;have Z:=ah hn;clear hK hn;go_wp2;go_loopg [] (C.s.size - p.at_) (λgh W=>∃b d c,gh=C.s.size - b.at_/\RW C W b d c/\(d=da->C.X=c++cI C.s da b)/\(d=da->L=da/\p.at_<=b.at_));exact⟨p,L,F,rfl,h,hX,λe=>⟨e,au _⟩⟩;obtain⟨b,d,c,rfl,J,R,D⟩:=hrel;have HW:=ah J;have CU:=ah R;have qB:=ah D;clear hX h;by_cases k:nH C.s b d=db
 .have y:=J.over O;rw[k]at y;have s:dd (d=da->C.X=c++dS 0 0 b):=λe=>by rw[R e,cI,ai];rfl;subst e;simp[nH]at k;omega
  clear k J R D;go_wp2_with fail;refine y.mono ?_;rintro N W1 ⟨rfl,r⟩;have H:=r.cut O 0 0 (by omega) (by omega) (by have:=r.ok.e;omega) (λe=>by rw[s.out e];exact gv _);clear y r;go_wp2_with fail;refine H.mono ?_;rintro N W2 ⟨⟨v,rfl⟩,ad,u,i⟩;have HF:dd (RE C (bj<|de #[]) W2):=i.end (λe=>by
   have:d=da:=by cases hs:d with
    |true=>rw[u hs]at e;cases e
    |false=>rfl
   exact s.out this) _
  clear H u i;go_wp2;exact bU (Cg rfl _ _ _) rfl HF.out
 have k:nH C.s b d=da:=by simpa using k
 have y:=J.over O;rw[k]at y;have aa:d=da:=by simp[nH]at k;exact k.1
 have E:b.at_<C.s.size:=by have:=J.ok.e;simp[nH]at k;omega
 subst aa;have f:=ah E;clear k J R D;have P:dd (C.X=c++cI C.s da b):=CU.out rfl;have g:dd (L=da/\p.at_<=b.at_):=qB.out rfl;clear CU qB;go_wp2_with fail;refine y.mono ?_;rintro N W1 ⟨rfl,r⟩;have HS:=r.sign O E;clear y r E;go_wp2_with fail;refine HS.mono ?_;rintro N W2 ⟨rfl,u⟩;obtain⟨o,A⟩:∃o,bt C.s b.at_=o:=⟨_,rfl⟩
 obtain⟨t,B⟩:∃t,bt C.s (b.at_+1)=t:=⟨_,rfl⟩
 have M:dd (bt C.s b.at_=o/\bt C.s (b.at_+1)=t):=⟨A,B⟩
 rw[A,B];clear A B HS;have i:RW C (W2.alloc<|bi #[Y .u8 o,Y .u8 t] 246) b da c:=u.al O _;obtain⟨⟨y1,y2⟩,⟨y3,y4⟩,y5,y6⟩:=(i.env O).cells;have G:=ah i;have c6:=i.rs.rd.c6;have f6:=i.rs.rd.fz 6;clear u i;by_cases x:o=34
 .subst x;go_wp2;refine Kv ?_;exact X.out 0 (2*(C.s.size - b.at_)+2) _ _ (by have:=Z.out;rw[g.out.1]at this;have r:=g.out.2;have u:=f.out;simp at this;omega) ⟨⟨_,_,_,_,_,_,_,_,_,_,_,_,_,_,_,_,_,_,_,_,_,_,_,_,_,_,_,_,_,_,_,_,_,_,_,_,_,_,_,_,_,_,_,_,_,_,_,_,_,_,_,_,_,_,_,_,_,_,_,_,_,_,_,_,_,_,_,_,_,_,_,_,_,_,_,_,_,_,_,_,_,_,_,_,_,_,rfl⟩,b,da,c,G.out,.inr ⟨rfl,P.out,f.out,rfl,.inl ⟨rfl,M.out.1⟩⟩⟩
 have T:=ae x;by_cases z:o=47/\t=47
 .obtain⟨rfl,rfl⟩:=z;clear x T;go_wp2;refine Kv ?_;exact X.out 1 (2*(C.s.size - b.at_)+2) _ _ (by have:=Z.out;rw[g.out.1]at this;have r:=g.out.2;have u:=f.out;simp at this;omega) ⟨⟨_,_,_,_,_,_,_,_,_,_,_,_,_,_,_,_,_,_,_,_,_,_,_,_,_,_,_,_,_,_,_,_,_,_,_,_,_,_,_,_,_,_,_,_,_,_,_,_,_,_,_,_,_,_,_,_,_,_,_,_,_,_,_,_,_,_,_,_,_,_,_,_,_,_,_,_,_,_,_,_,_,_,_,_,_,_,rfl⟩,b,da,c,G.out,.inr ⟨rfl,P.out,f.out,rfl,.inr (.inl ⟨rfl,M.out⟩)⟩⟩
 by_cases I:o=47/\t=42
 .obtain⟨rfl,rfl⟩:=I;clear x T z;go_wp2;refine Kv ?_;exact X.out 2 (2*(C.s.size - b.at_)+2) _ _ (by have:=Z.out;rw[g.out.1]at this;have r:=g.out.2;have u:=f.out;simp at this;omega) ⟨⟨_,_,_,_,_,_,_,_,_,_,_,_,_,_,_,_,_,_,_,_,_,_,_,_,_,_,_,_,_,_,_,_,_,_,_,_,_,_,_,_,_,_,_,_,_,_,_,_,_,_,_,_,_,_,_,_,_,_,_,_,_,_,_,_,_,_,_,_,_,_,_,_,_,_,_,_,_,_,_,_,_,_,_,_,_,_,rfl⟩,b,da,c,G.out,.inr ⟨rfl,P.out,f.out,rfl,.inr (.inr ⟨rfl,M.out⟩)⟩⟩
 by_cases Q:o=10
 .subst Q;clear x T z I;have s:dd (C.X=(c++dS 0 0 b)++cI C.s da (pX<|cQ 0 b)):=by show _=_;have q:=M.out.1;rw[P.out,cI,aj f.out,ai<|by decide,ai<|by rw[q];decide,ai (by rw[q];rintro⟨h,_⟩;exact absurd h<|by decide),ai (by rw[q];rintro⟨h,_⟩;exact absurd h<|by decide),aj q,dY]
  have H:=G.out.cut O 0 0 (by omega) (by omega) (by have:=f.out;omega) (λ_=>⟨_,s.out.symm⟩);rw[BF]at H;clear c6 f6;go_wp2_with fail;refine H.mono ?_;rintro N W3 ⟨⟨v,rfl⟩,rR,_,i⟩;have qW:=i.feed O (by rw[kK];have:=f.out;omega);clear H i;go_wp2_with fail;refine qW.mono ?_;rintro N W4 ⟨⟨v,rfl⟩,h4⟩;have H4:=ah h4;clear qW h4;go_wp2;have QS:(pX<|cQ 0 b).at_=b.at_+1:=(by show(cQ 0 b).at_+1=_;rw[kK]);go_roundg (C.s.size - (b.at_+1));exact⟨_,rR,_,by rw[QS],H4,λ_=>s.out,λ_=>⟨g.out.1,by have:=g.out.2;omega⟩⟩;have:=f.out;omega
 have Fj:=ae Q;have s:dd (C.X=c++cI C.s da (dm b<|b.at_+1)):=by show _=_;obtain⟨q,e2⟩:=M.out;rw[P.out,cI,aj f.out,ai<|by decide,ai<|by rw[q];exact x,ai<|by rw[q,e2];exact z,ai<|by rw[q,e2];exact I,ai<|by rw[q];exact Q]
 have HZ:dd (b.at_+1<=1000):=(by have:=f.out;have:=O.hz;show _<=_;omega);have ab:(b.at_:Int)<=1000:=(by have:=HZ.out;omega);by_cases YD:o=47
 .subst YD;have r1:(t==47)=da:=(by simpa using z);have r2:(t==42)=da:=(by simpa using I);clear x z I Q;go_wp2;go_roundg (C.s.size - (b.at_+1));exact⟨_,da,_,rfl,G.out.step O (j:=b.at_+1) (by omega)<|by have:=f.out;omega,λ_=>s.out,λ_=>⟨g.out.1,by have:=g.out.2;show _<=b.at_+1;omega⟩⟩;have:=f.out;omega
 have ac:=ae YD;clear x z I Q YD;go_wp2;go_roundg (C.s.size - (b.at_+1));exact⟨_,da,_,rfl,G.out.step O (j:=b.at_+1) (by omega)<|by have:=f.out;omega,λ_=>s.out,λ_=>⟨g.out.1,by have:=g.out.2;show _<=b.at_+1;omega⟩⟩;have:=f.out;omega
def art(C:RC)(O:pU C)(w:cw)(p:RP)(c:List PR)(h:RW C w p da c)(B:C.X=c++cI C.s da p)(f:p.at_<C.s.size)(i:bt C.s p.at_=47)(j:bt C.s (p.at_+1)=47)(n:Nat)(D:n=2*(C.s.size - p.at_)+2) (K:Nat->Act->cw->Prop) (A:∀l m a w,m<n->LJ C l m a w->K l a w) (u0 u1 u2 u3 u5 u6 u7 u8 u9 I L M N P Q u16 R T W X J xd u23 u24 xg u26 xh u28 xm xo xq u32 u33 xu xw xx xy xz xA xB xC xD xE u44 xG xH xI xJ xK xL xM xN xO xP xQ xR xS xU xV xW xX xY xZ u64 Y Z ya yc yg yh yj ym yo zm zn zo zq zu zw zx zy zz zA zB zC zD:cJ):Code.wp prog (Kf 1) (jumps K<|bodyPost prog Tryz.f107<|RE C) {tmps:=#[u0,u1,u2,u3,.pointer<|V<|S C.rb 0 U,u5,u6,u7,u8,u9,I,L,M,N,P,Q,u16,R,T,W,X,J,xd,u23,u24,xg,u26,xh,u28,xm,xo,xq,u32,u33,xu,xw,xx,xy,xz,xA,xB,xC,xD,xE,u44,xG,xH,xI,xJ,xK,xL,xM,xN,xO,xP,xQ,xR,xS,xU,xV,xW,xX,xY,xZ,u64,Y,Z,ya,yc,yg,yh,yj,ym,yo,zm,zn,zo,zq,zu,zw,zx,zy,zz,zA,zB,zC,zD],defers:=[]} w:=by
 conv=>arg 2;whnf
 have F:=ah A;have G:=ah D;clear A D;have y:dd (p.at_+1<C.s.size):=sw (by rw[j];decide);have g:dd (C.X=(c++dS 0 0 p)++(dS 2 0 (dm (dz 2 p da)<|bY C.s<|p.at_+2)++cI C.s da (cQ 0<|dm (dz 2 p da)<|bY C.s<|p.at_+2))):=by show _=_;rw[B,cI,aj f,ai<|by decide,ai<|by rw[i];decide,aj ⟨i,j⟩,dY]
 have t:=h.open O 2 (by omega) (by have:=y.out;omega) (λ_=>⟨_,g.out.symm⟩);clear h B f i j;go_wp2_with fail;refine t.mono ?_;rintro z W1 ⟨⟨v,rfl⟩,b,_,k⟩;have u:=k.asI O;clear t k;go_wp2_with fail;refine u.mono ?_;rintro z W2 ⟨⟨v,rfl⟩,d⟩;rw[NW]at d;have s:=d.cut O 2 0 (by omega) (by omega) (by have:=d.ok.e;omega) (λe=>by rw[e,ai<|by decide,g.out,<-dY];exact Ue _ _);clear u d;go_wp2_with fail;refine s.mono ?_;rintro z W3 ⟨⟨v,rfl⟩,r,x,o⟩;have E:=ah o;have H:=ah x;clear s o x;go_wp2;refine Kv ?_;have q:p.at_<(iO 0 (dm (dz 2 p da) (if b then p.at_+2 else bY C.s (p.at_+2))) b).at_:=by rw[L6];show _<(if b then p.at_+2 else bY C.s (p.at_+2))+0;have:=G7 C.s<|p.at_+2;split<;>omega
 have hx:r=da->C.X=((c++dS 0 0 p)++dS 2 0 (dm (dz 2 p da) (if b then p.at_+2 else bY C.s (p.at_+2))))++cI C.s da (iO 0 (dm (dz 2 p da) (if b then p.at_+2 else bY C.s (p.at_+2))) b):=λe=>by
  have:b=da:=by cases hs:b with
   |true=>rw[H.out hs]at e;cases e
   |false=>rfl
  subst this;rw[ai<|by decide,BF,dY];exact g.out
 exact F.out 3 (if r then 0 else 2*(C.s.size - (iO 0 (dm (dz 2 p da) (if b then p.at_+2 else bY C.s (p.at_+2))) b).at_)+3) _ _ (by have k:=G.out;have d:=q;have o:=y.out;split<;>omega) ⟨⟨_,_,_,_,_,_,_,_,_,_,_,_,_,_,_,_,_,_,_,_,_,_,_,_,_,_,_,_,_,_,_,_,_,_,_,_,_,_,_,_,_,_,_,_,_,_,_,_,_,_,_,_,_,_,_,_,_,_,_,_,_,_,_,_,_,_,_,_,_,_,_,_,_,_,_,_,_,_,_,_,_,_,_,_,_,_,rfl⟩,iO 0 (dm (dz 2 p da) (if b then p.at_+2 else bY C.s (p.at_+2))) b,r,_,E.out,.inl ⟨rfl,hx,rfl⟩⟩
def arp(C:RC)(O:pU C)(w:cw)(p:RP)(A:List PR)(h:RW C w p da A)(hX:C.X=A++cI C.s da p)(f:p.at_<C.s.size)(T:bt C.s p.at_=47)(u:bt C.s (p.at_+1)=42)(n:Nat)(hn:n=2*(C.s.size - p.at_)+2) (K:Nat->Act->cw->Prop) (hK:∀l m a w,m<n->LJ C l m a w->K l a w) (u0 u1 u2 u3 u5 u6 u7 u8 u9 vI wQ wR wT wU wV u16 wW wX wY wZ w9 xd u23 u24 xg u26 xh u28 xm xo xq u32 u33 xu xw xx xy xz xA xB xC xD xE u44 xG xH xI xJ xK xL xM xN xO xP xQ xR xS xU xV xW xX xY xZ u64 x8 x9 ya yc yg yh yj ym yo zm zn zo zq zu zw zx zy zz zA zB zC zD:cJ):Code.wp prog (Kf 2) (jumps K<|bodyPost prog Tryz.f107<|RE C) {tmps:=#[u0,u1,u2,u3,.pointer<|V<|S C.rb 0 U,u5,u6,u7,u8,u9,vI,wQ,wR,wT,wU,wV,u16,wW,wX,wY,wZ,w9,xd,u23,u24,xg,u26,xh,u28,xm,xo,xq,u32,u33,xu,xw,xx,xy,xz,xA,xB,xC,xD,xE,u44,xG,xH,xI,xJ,xK,xL,xM,xN,xO,xP,xQ,xR,xS,xU,xV,xW,xX,xY,xZ,u64,x8,x9,ya,yc,yg,yh,yj,ym,yo,zm,zn,zo,zq,zu,zw,zx,zy,zz,zA,zB,zC,zD],defers:=[]} w:=by
 conv=>arg 2;whnf
 have HK:=ah hK;have HN:=ah hn;clear hK hn;have dO:dd (p.at_+1<C.s.size):=sw (by rw[u];decide);have HE:dd (C.X=(A++dS 0 0 p)++cI C.s db (dz 2 p da)):=by show _=_;rw[hX,cI,aj f,ai<|by decide,ai<|by rw[T];decide,ai (by rw[u];rintro⟨_,h⟩;exact absurd h<|by decide),aj ⟨T,u⟩,dY]
 have o:=h.open O 2 (by omega) (by have:=dO.out;omega) (λ_=>⟨_,HE.out.symm⟩);clear h hX f T u;go_wp2_with fail;refine o.mono ?_;rintro x W1 ⟨⟨v,rfl⟩,aa,_,E⟩;have H1:=ah E;clear o E;go_wp2;go_loopg [] (C.s.size - (dz 2 p da).at_) (λgh W=>∃b d c,gh=C.s.size - b.at_/\RW C W b d c/\(d=da->C.X=c++cI C.s db b)/\p.at_<b.at_);exact⟨dz 2 p da,aa,_,rfl,H1,λ_=>HE.out,by rw[NW];omega⟩;obtain⟨b,d,c,rfl,F,N,I⟩:=hrel;have HW:=ah F;have CU:=ah N;have M:=ah I;clear I;by_cases r:nH C.s b d=db
 .have o:=F.over O;rw[r]at o;have g:dd (d=da->C.X=c++dS 2 0 b):=λe=>by rw[N e,cI,ai];rfl;subst e;simp[nH]at r;omega
  clear r F N;go_wp2_with fail;refine o.mono ?_;rintro x W2 ⟨rfl,q⟩;have k:=q.cut O 2 0 (by omega) (by omega) (by have:=q.ok.e;omega) (λe=>by rw[g.out e];exact gv _);clear o q;go_wp2_with fail;refine k.mono ?_;rintro x Q ⟨⟨v,rfl⟩,ad,q,s⟩;have HF:dd (RE C (bj<|de #[]) Q):=s.end (λe=>by
   have:d=da:=by cases hs:d with
    |true=>rw[q hs]at e;cases e
    |false=>rfl
   exact g.out this) _
  clear k q s;go_wp2;go_end0;exact HF.out
 have r:nH C.s b d=da:=by simpa using r
 have o:=F.over O;rw[r]at o;have Z:d=da:=by simp[nH]at r;exact r.1
 have f:b.at_<C.s.size:=by have:=F.ok.e;simp[nH]at r;omega
 subst Z;have i:=ah f;clear r F N;have lU:dd (C.X=c++cI C.s db b):=CU.out rfl;clear CU;go_wp2_with fail;refine o.mono ?_;rintro x W2 ⟨rfl,E⟩;have HS:=E.sign O f;clear o E f;go_wp2_with fail;refine HS.mono ?_;rintro x Q ⟨rfl,q⟩;obtain⟨t,y⟩:∃t,bt C.s b.at_=t:=⟨_,rfl⟩
 obtain⟨D,z⟩:∃D,bt C.s (b.at_+1)=D:=⟨_,rfl⟩
 have G:dd (bt C.s b.at_=t/\bt C.s (b.at_+1)=D):=⟨y,z⟩
 rw[y,z];clear y z HS;have s:RW C (Q.alloc<|bi #[Y .u8 t,Y .u8 D] 246) b da c:=q.al O _;obtain⟨⟨y1,y2⟩,⟨y3,y4⟩,y5,y6⟩:=(s.env O).cells;have L:=ah s;have c6:=s.rs.rd.c6;have f6:=s.rs.rd.fz 6;clear q s;by_cases B:t=42/\D=47
 .obtain⟨rfl,rfl⟩:=B;have g:dd (C.X=(c++dS 2 2 b)++cI C.s da (cQ 2 b)):=by show _=_;rw[lU.out,cI,aj i.out,aj rfl,aj G.out,dY]
  have KQ:dd (b.at_+1<C.s.size):=sw (by rw[G.out.2];decide);have k:=L.out.cut O 2 2 (by omega) (by omega) (by have:=KQ.out;omega) (λ_=>⟨_,g.out.symm⟩);rw[BF]at k;clear c6 f6;go_wp2_with fail;refine k.mono ?_;rintro x W4 ⟨⟨v,rfl⟩,P,_,H⟩;have H4:=ah H;clear k H;go_wp2;refine Kv ?_;have X:p.at_<(cQ 2 b).at_:=(by rw[kK];have:=M.out;omega);exact HK.out 3 (if P then 0 else 2*(C.s.size - (cQ 2 b).at_)+3) _ _ (by have E:=HN.out;have q:=X;have s:=dO.out;split<;>omega) ⟨⟨_,_,_,_,_,_,_,_,_,_,_,_,_,_,_,_,_,_,_,_,_,_,_,_,_,_,_,_,_,_,_,_,_,_,_,_,_,_,_,_,_,_,_,_,_,_,_,_,_,_,_,_,_,_,_,_,_,_,_,_,_,_,_,_,_,_,_,_,_,_,_,_,_,_,_,_,_,_,_,_,_,_,_,_,_,_,rfl⟩,cQ 2 b,P,_,H4.out,.inl ⟨rfl,λ_=>g.out,rfl⟩⟩
 by_cases J:t=10
 .subst J;clear B;have g:dd (C.X=(c++dS 2 0 b)++cI C.s db (pX<|cQ 0 b)):=by show _=_;rw[lU.out,cI,aj i.out,aj rfl,ai (by rw[G.out.1];rintro⟨h,_⟩;exact absurd h<|by decide),aj G.out.1,dY]
  have k:=L.out.cut O 2 0 (by omega) (by omega) (by have:=i.out;omega) (λ_=>⟨_,g.out.symm⟩);rw[BF]at k;clear c6 f6;go_wp2_with fail;refine k.mono ?_;rintro x W4 ⟨⟨v,rfl⟩,P,_,H⟩;have qW:=H.feed O (by rw[kK];have:=i.out;omega);clear k H;go_wp2_with fail;refine qW.mono ?_;rintro x W5 ⟨⟨v,rfl⟩,h5⟩;have H5:=ah h5;clear qW h5;go_wp2;have QS:(pX<|cQ 0 b).at_=b.at_+1:=(by show(cQ 0 b).at_+1=_;rw[kK]);go_roundg (C.s.size - (b.at_+1));exact⟨_,P,_,by rw[QS],H5,λ_=>g.out,by rw[QS];have:=M.out;omega⟩;have:=i.out;omega
 have Fj:=ae J;have g:dd (C.X=c++cI C.s db (dm b<|b.at_+1)):=by show _=_;obtain⟨u,e2⟩:=G.out;rw[lU.out,cI,aj i.out,aj rfl,ai<|by rw[u,e2];exact B,ai<|by rw[u];exact J]
 have ab:(b.at_:Int)<=1000:=(by have:=i.out;have:=O.hz;omega);by_cases R:t=42
 .subst R;have r1:(D==47)=da:=(by simpa using B);clear B J;go_wp2;go_roundg (C.s.size - (b.at_+1));exact⟨_,da,_,rfl,L.out.step O (j:=b.at_+1) (by omega)<|by have:=i.out;omega,λ_=>g.out,by have:=M.out;show _<b.at_+1;omega⟩;have:=i.out;omega
 have ac:=ae R;clear B J R;go_wp2;go_roundg (C.s.size - (b.at_+1));exact⟨_,da,_,rfl,L.out.step O (j:=b.at_+1) (by omega)<|by have:=i.out;omega,λ_=>g.out,by have:=M.out;show _<b.at_+1;omega⟩;have:=i.out;omega
def ars(C:RC)(O:pU C)(w:cw)(p:RP)(d:List PR)(h:RW C w p da d)(hX:C.X=d++cI C.s da p)(f:p.at_<C.s.size)(e0:bt C.s p.at_=34)(n:Nat)(hn:n=2*(C.s.size - p.at_)+2) (K:Nat->Act->cw->Prop) (hK:∀l m a w,m<n->LJ C l m a w->K l a w) (u0 u1 u2 u3 u5 u6 u7 u8 u9 vI wQ wR wT wU wV u16 wW wX wY wZ w9 xd u23 u24 xg u26 xh u28 xm xo xq u32 u33 xu xw xx xy xz xA xB xC xD xE u44 xG xH xI xJ xK xL xM xN xO xP xQ xR xS xU xV xW xX xY xZ u64 x8 x9 ya yc yg yh yj ym yo zm zn zo zq zu zw zx zy zz zA zB zC zD:cJ):Code.wp prog (Kf 0) (jumps K<|bodyPost prog Tryz.f107<|RE C) {tmps:=#[u0,u1,u2,u3,.pointer<|V<|S C.rb 0 U,u5,u6,u7,u8,u9,vI,wQ,wR,wT,wU,wV,u16,wW,wX,wY,wZ,w9,xd,u23,u24,xg,u26,xh,u28,xm,xo,xq,u32,u33,xu,xw,xx,xy,xz,xA,xB,xC,xD,xE,u44,xG,xH,xI,xJ,xK,xL,xM,xN,xO,xP,xQ,xR,xS,xU,xV,xW,xX,xY,xZ,u64,x8,x9,ya,yc,yg,yh,yj,ym,yo,zm,zn,zo,zq,zu,zw,zx,zy,zz,zA,zB,zC,zD],defers:=[]} w:=by
 conv=>arg 2;whnf
 have HK:=ah hK;have HN:=ah hn;clear hK hn;have dO:=ah f;have R:dd (C.X=(d++dS 0 0 p)++(dS 1 (qT C.s<|p.at_+1) (dm (dz 1 p da) (qR C.s<|p.at_+1).1)++cI C.s da (cQ (qT C.s<|p.at_+1)<|dm (dz 1 p da) (qR C.s<|p.at_+1).1))):=by show _=_;rw[hX,cI,aj f,ai<|by decide,aj e0,dY]
 have k:=h.open O 1 (by omega) (by omega) (λ_=>⟨_,R.out.symm⟩);clear h hX f e0;go_wp2_with fail;refine k.mono ?_;rintro G W1 ⟨⟨v,rfl⟩,b,_,r⟩;have H1:=ah r;clear k r;have HZ:=ah O.hz;obtain⟨Q,hQ⟩:∃Q,qR C.s (p.at_+1)=Q:=⟨_,rfl⟩
 have T:=ah hQ;clear hQ;go_wp2;go_loopg [] (C.s.size - (p.at_+1)) (λgh W=>∃a,gh=C.s.size - a/\RW C W (dm (dz 1 p da) a) b (d++dS 0 0 p)/\(b=da->qR C.s a=Q)/\p.at_<a);exact⟨p.at_+1,rfl,by have:=H1.out;rw[show dm (dz 1 p da) (p.at_+1)=dz 1 p da by rw[<-NW (p:=p) (st:=da)];rfl];exact this,λ_=>T.out,by omega⟩;obtain⟨a,rfl,D,N,H⟩:=hrel;have HW:=ah D;have Hq:=ah N;have J:=ah H;have HA:dd (a<=C.s.size):=D.ok.e;clear H;by_cases q:ze C.s (dm (dz 1 p da) a) b=db
 .have k:=D.ae9 O;rw[q]at k;have eY:dd (b=da->Q=(a,da)):=λe=>by rw[<-N e,qR,ai];subst e;rintro⟨r,g⟩;simp only[ze,nH,Fz,dm]at q;rcases q with(c|c)|c;cases c;have:=J3 c;omega;exact g<|J3 c
  clear q D N;go_wp2_with fail;refine k.mono ?_;rintro G W2 ⟨rfl,g⟩;have F:dd (b=da->C.X=(d++dS 0 0 p)++(dS 1 0 (dm (dz 1 p da) a)++cI C.s da (cQ 0<|dm (dz 1 p da) a))):=λe=>by have:=R.out;rw[qT,T.out,eY.out e]at this;exact this
  have A:=g.cut O 1 0 (by omega) (by omega) (by have:=HA.out;exact this) (λe=>by rw[F.out e,<-dY];exact Ue _ _);clear k g;go_wp2_with fail;refine A.mono ?_;rintro G X ⟨⟨v,rfl⟩,E,Mn,c⟩;have z:=ah c;have Ss:=ah Mn;clear A c Mn;go_wp2;refine Kv ?_;have u:p.at_<(iO 0 (dm (dz 1 p da) a) b).at_:=by rw[L6];exact J.out
  have hx:E=da->C.X=((d++dS 0 0 p)++dS 1 0 (dm (dz 1 p da) a))++cI C.s da (iO 0 (dm (dz 1 p da) a) b):=λe=>by
   have:b=da:=by cases hs:b with
    |true=>rw[Ss.out hs]at e;cases e
    |false=>rfl
   subst this;rw[BF,dY];exact F.out rfl
  exact HK.out 3 (if E then 0 else 2*(C.s.size - (iO 0 (dm (dz 1 p da) a) b).at_)+3) _ _ (by have r:=HN.out;have g:=u;have c:=dO.out;split<;>omega) ⟨⟨_,_,_,_,_,_,_,_,_,_,_,_,_,_,_,_,_,_,_,_,_,_,_,_,_,_,_,_,_,_,_,_,_,_,_,_,_,_,_,_,_,_,_,_,_,_,_,_,_,_,_,_,_,_,_,_,_,_,_,_,_,_,_,_,_,_,_,_,_,_,_,_,_,_,_,_,_,_,_,_,_,_,_,_,_,_,rfl⟩,iO 0 (dm (dz 1 p da) a) b,E,_,z.out,.inl ⟨rfl,hx,rfl⟩⟩
 have q:ze C.s (dm (dz 1 p da) a) b=da:=by simpa using q
 have k:=D.ae9 O;rw[q]at k;simp only[ze,nH,Fy,C2]at q;obtain⟨⟨rfl,g⟩,c⟩:=q;have f:a<C.s.size:=by have:=HA.out;have g:¬a=C.s.size:=g;omega
 have c:bt C.s a≠10:=c;have i:dd (a<C.s.size/\bt C.s a≠10):=⟨f,c⟩
 have P:dd (qR C.s a=Q):=Hq.out rfl;clear g c D N Hq;go_wp2_with fail;refine k.mono ?_;rintro G W2 ⟨rfl,r⟩;have HS:=r.sign O f;clear k r f;go_wp2_with fail;refine HS.mono ?_;rintro G X ⟨rfl,g⟩;obtain⟨t,x⟩:∃t,bt C.s (dm (dz 1 p da) a).at_=t:=⟨_,rfl⟩
 obtain⟨B,y⟩:∃B,bt C.s ((dm (dz 1 p da) a).at_+1)=B:=⟨_,rfl⟩
 have o:dd (bt C.s a=t/\bt C.s (a+1)=B):=⟨x,y⟩
 rw[x,y];clear x y HS;have c:RW C (X.alloc<|bi #[Y .u8 t,Y .u8 B] 246) (dm (dz 1 p da) a) da (d++dS 0 0 p):=g.al O _;have z:=ah c;have c6:(X.alloc<|bi #[Y .u8 t,Y .u8 B] 246).cell? (S C.rb 6 U)=V (Y Z a):=c.rs.rd.c6;have f6:=c.rs.rd.fz 6;clear g c;have aa:(a:Int)<=1000:=by have:=i.out.1;have:=HZ.out;omega
 by_cases L:t=34
 .subst L;have s:dd (Q=(a,db)):=(by show _=_;rw[<-P.out,qR,aj i.out,aj o.out.1]);have F:dd (C.X=(d++dS 0 0 p)++(dS 1 1 (dm (dz 1 p da) a)++cI C.s da (cQ 1<|dm (dz 1 p da) a))):=by have:=R.out;rw[qT,T.out,s.out]at this;exact this
  have A:=z.out.cut O 1 1 (by omega) (by omega) (by have:=i.out.1;show a+1<=_;omega) (λ_=>by rw[F.out,<-dY];exact Ue _ _);rw[BF]at A;clear c6 f6;go_wp2_with fail;refine A.mono ?_;rintro G W4 ⟨⟨v,rfl⟩,E,_,h4⟩;have H4:=ah h4;clear A h4;go_wp2;refine Kv ?_;have u:p.at_<(cQ 1<|dm (dz 1 p da) a).at_:=(by rw[kK];have:=J.out;show _<a+1;omega);exact HK.out 3 (if E then 0 else 2*(C.s.size - (cQ 1<|dm (dz 1 p da) a).at_)+3) _ _ (by have r:=HN.out;have g:=u;have c:=dO.out;split<;>omega) ⟨⟨_,_,_,_,_,_,_,_,_,_,_,_,_,_,_,_,_,_,_,_,_,_,_,_,_,_,_,_,_,_,_,_,_,_,_,_,_,_,_,_,_,_,_,_,_,_,_,_,_,_,_,_,_,_,_,_,_,_,_,_,_,_,_,_,_,_,_,_,_,_,_,_,_,_,_,_,_,_,_,_,_,_,_,_,_,_,rfl⟩,cQ 1<|dm (dz 1 p da) a,E,_,H4.out,.inl ⟨rfl,λ_=>by rw[dY];exact F.out,rfl⟩⟩
 have DB:=ae L;by_cases M:t=92
 .subst M;clear L DB;by_cases I:B=10
  .subst I;have s:dd (qR C.s (a+1)=Q):=(by show _=_;rw[<-P.out];conv=>rhs;rw[qR,aj i.out,ai<|by rw[o.out.1];decide,ai<|by rw[o.out.2];rintro⟨_,h⟩;exact h rfl]);go_wp2;go_roundg (C.s.size - (a+1));exact⟨a+1,rfl,z.out.step O (j:=a+1) (by show a<=_;omega)<|by have:=i.out.1;omega,λ_=>s.out,by have:=J.out;omega⟩;have:=i.out.1;omega
  have Fj:=ae I;have s:dd (qR C.s (a+2)=Q):=(by show _=_;rw[<-P.out];conv=>rhs;rw[qR,aj i.out,ai<|by rw[o.out.1];decide,aj<|by rw[o.out.1,o.out.2];exact⟨rfl,I⟩]);have FK:dd (a+1<C.s.size):=sw (by rw[o.out.2];exact I);clear I;go_wp2;go_roundg (C.s.size - (a+2));exact⟨a+2,rfl,z.out.step O (j:=a+2) (by show a<=_;omega)<|by have:=FK.out;omega,λ_=>s.out,by have:=J.out;omega⟩;have:=i.out.1;omega
 have ab:=ae M;have s:dd (qR C.s (a+1)=Q):=(by show _=_;rw[<-P.out];conv=>rhs;rw[qR,aj i.out,ai<|by rw[o.out.1];exact L,ai<|by rw[o.out.1];rintro⟨h,_⟩;exact M h]);clear L M;go_wp2;go_roundg (C.s.size - (a+1));exact⟨a+1,rfl,z.out.step O (j:=a+1) (by show a<=_;omega)<|by have:=i.out.1;omega,λ_=>s.out,by have:=J.out;omega⟩;have:=i.out.1;omega
@[go_sem] theorem avw (P:Program) (w:cw) (a:Addr) (l:Nat) (m:Mode):(store a (.func (.yield l) #[] #[]) m).run P w=stored P w a (.func (.yield l) #[] #[]) m:=run_store P w a _ m rfl
def AQ:RP:=⟨0,0,0,0,0⟩
def agA(C:RC)(O:pU C)(c n:Nat)(a:Act)(w:cw)(h:LJ C c n a w):findLabel agz c=V (.seq .skip<|Kf c)/\Code.wp prog (Kf c) (jumps (λs r u=>∃m,m<n/\LJ C s m r u)<|bodyPost prog Tryz.f107<|RE C) a w:=by obtain⟨b,p,t,d,k,q⟩:=h;obtain⟨u0,b⟩:=b;obtain⟨u1,b⟩:=b;obtain⟨u2,b⟩:=b;obtain⟨u3,b⟩:=b;obtain⟨u5,b⟩:=b;obtain⟨u6,b⟩:=b;obtain⟨u7,b⟩:=b;obtain⟨u8,b⟩:=b;obtain⟨u9,b⟩:=b;obtain⟨v,b⟩:=b;obtain⟨y,b⟩:=b;obtain⟨z,b⟩:=b;obtain⟨A,b⟩:=b;obtain⟨B,b⟩:=b;obtain⟨D,b⟩:=b;obtain⟨u16,b⟩:=b;obtain⟨E,b⟩:=b;obtain⟨F,b⟩:=b;obtain⟨G,b⟩:=b;obtain⟨H,b⟩:=b;obtain⟨x,b⟩:=b;obtain⟨xd,b⟩:=b;obtain⟨u23,b⟩:=b;obtain⟨u24,b⟩:=b;obtain⟨xg,b⟩:=b;obtain⟨u26,b⟩:=b;obtain⟨xh,b⟩:=b;obtain⟨u28,b⟩:=b;obtain⟨xm,b⟩:=b;obtain⟨xo,b⟩:=b;obtain⟨xq,b⟩:=b;obtain⟨u32,b⟩:=b;obtain⟨u33,b⟩:=b;obtain⟨xu,b⟩:=b;obtain⟨xw,b⟩:=b;obtain⟨xx,b⟩:=b;obtain⟨xy,b⟩:=b;obtain⟨xz,b⟩:=b;obtain⟨K,b⟩:=b;obtain⟨L,b⟩:=b;obtain⟨M,b⟩:=b;obtain⟨N,b⟩:=b;obtain⟨P,b⟩:=b;obtain⟨u44,b⟩:=b;obtain⟨Q,b⟩:=b;obtain⟨R,b⟩:=b;obtain⟨S,b⟩:=b;obtain⟨T,b⟩:=b;obtain⟨U,b⟩:=b;obtain⟨W,b⟩:=b;obtain⟨X,b⟩:=b;obtain⟨Y,b⟩:=b;obtain⟨Z,b⟩:=b;obtain⟨xP,b⟩:=b;obtain⟨xQ,b⟩:=b;obtain⟨xR,b⟩:=b;obtain⟨xS,b⟩:=b;obtain⟨xU,b⟩:=b;obtain⟨xV,b⟩:=b;obtain⟨xW,b⟩:=b;obtain⟨xX,b⟩:=b;obtain⟨xY,b⟩:=b;obtain⟨xZ,b⟩:=b;obtain⟨u64,b⟩:=b;obtain⟨I,b⟩:=b;obtain⟨J,b⟩:=b;obtain⟨ya,b⟩:=b;obtain⟨yc,b⟩:=b;obtain⟨yg,b⟩:=b;obtain⟨yh,b⟩:=b;obtain⟨yj,b⟩:=b;obtain⟨ym,b⟩:=b;obtain⟨yo,b⟩:=b;obtain⟨zm,b⟩:=b;obtain⟨zn,b⟩:=b;obtain⟨zo,b⟩:=b;obtain⟨zq,b⟩:=b;obtain⟨zu,b⟩:=b;obtain⟨zw,b⟩:=b;obtain⟨zx,b⟩:=b;obtain⟨zy,b⟩:=b;obtain⟨zz,b⟩:=b;obtain⟨zA,b⟩:=b;obtain⟨zB,b⟩:=b;obtain⟨zC,b⟩:=b;obtain⟨zD,b⟩:=b;subst b;rcases q with⟨rfl,i,j⟩|⟨rfl,i,e,j,⟨rfl,g⟩|⟨rfl,g,o⟩|⟨rfl,g,o⟩⟩;exact⟨rfl,arq C O w p t d k i n j _ (λl m a w f h=>⟨m,f,h⟩) _ _ _ _ _ _ _ _ _ _ _ _ _ _ _ _ _ _ _ _ _ _ _ _ _ _ _ _ _ _ _ _ _ _ _ _ _ _ _ _ _ _ _ _ _ _ _ _ _ _ _ _ _ _ _ _ _ _ _ _ _ _ _ _ _ _ _ _ _ _ _ _ _ _ _ _ _ _ _ _ _ _ _ _ _ _⟩;exact⟨rfl,ars C O w p d k i e g n j _ (λl m a w f h=>⟨m,f,h⟩) _ _ _ _ _ _ _ _ _ _ _ _ _ _ _ _ _ _ _ _ _ _ _ _ _ _ _ _ _ _ _ _ _ _ _ _ _ _ _ _ _ _ _ _ _ _ _ _ _ _ _ _ _ _ _ _ _ _ _ _ _ _ _ _ _ _ _ _ _ _ _ _ _ _ _ _ _ _ _ _ _ _ _ _ _ _⟩;exact⟨rfl,art C O w p d k i e g o n j _ (λl m a w f h=>⟨m,f,h⟩) _ _ _ _ _ _ _ _ _ _ _ _ _ _ _ _ _ _ _ _ _ _ _ _ _ _ _ _ _ _ _ _ _ _ _ _ _ _ _ _ _ _ _ _ _ _ _ _ _ _ _ _ _ _ _ _ _ _ _ _ _ _ _ _ _ _ _ _ _ _ _ _ _ _ _ _ _ _ _ _ _ _ _ _ _ _⟩;exact⟨rfl,arp C O w p d k i e g o n j _ (λl m a w f h=>⟨m,f,h⟩) _ _ _ _ _ _ _ _ _ _ _ _ _ _ _ _ _ _ _ _ _ _ _ _ _ _ _ _ _ _ _ _ _ _ _ _ _ _ _ _ _ _ _ _ _ _ _ _ _ _ _ _ _ _ _ _ _ _ _ _ _ _ _ _ _ _ _ _ _ _ _ _ _ _ _ _ _ _ _ _ _ _ _ _ _ _⟩
def aro(w:cw)(s:bc)(l b:Nat)(J j:List PR->cw->Prop)(T:Tl l b J j<|cI s da AQ)(p:b<=w.1.size)(g:10<=b)(u:s.size<=1000)(f:kH w)(r:J [] w):cP prog 107 #[cd s,.func (.yield l) #[] #[]] w λe d=>(∃v,e=bj v)/\cD b w d/\(J (cI s da AQ) d∨∃c,c<+:cI s da AQ/\j c d):=by
 obtain⟨C,m⟩:∃C:RC,C=⟨w,w.1.size,s,l,b,J,j,cI s da AQ⟩:=⟨_,rfl⟩
 have O:pU C:=by subst m;exact⟨T,p,g,u,f⟩
 have q:dd (RE C=λe d=>(∃v,e=bj v)/\cD b w d/\(J (cI s da AQ) d∨∃c,c<+:cI s da AQ/\j c d)):=by subst m;rfl
 have x:LJ C 3 (2*s.size+3) ⟨#[cd s,.func (.yield l) #[] #[],undef,undef,.pointer<|V<|S w.1.size 0 U,undef,undef,undef,cd s,.func (.yield l) #[] #[],df #[cd s,.func (.yield l) #[] #[],Y Z 0,Y Z 0,Y Z 0,Y Z 0,Y Z 0,ce da],undef,undef,undef,undef,undef,undef,undef,undef,undef,undef,undef,undef,undef,undef,undef,undef,undef,undef,undef,undef,undef,undef,undef,undef,undef,undef,undef,undef,undef,undef,undef,undef,undef,undef,undef,undef,undef,undef,undef,undef,undef,undef,undef,undef,undef,undef,undef,undef,undef,undef,undef,undef,undef,undef,undef,undef,undef,undef,undef,undef,undef,undef,undef,undef,undef,undef,undef,undef,undef,undef,undef,undef,undef,undef,undef,undef],[]⟩ (w.alloc<|bi #[cd s,.func (.yield l) #[] #[],Y Z 0,Y Z 0,Y Z 0,Y Z 0,Y Z 0,ce da] 244):=by subst m;refine⟨⟨_,_,_,_,_,_,_,_,_,_,_,_,_,_,_,_,_,_,_,_,_,_,_,_,_,_,_,_,_,_,_,_,_,_,_,_,_,_,_,_,_,_,_,_,_,_,_,_,_,_,_,_,_,_,_,_,_,_,_,_,_,_,_,_,_,_,_,_,_,_,_,_,_,_,_,_,_,_,_,_,_,_,_,_,_,_,rfl⟩,AQ,da,[],⟨⟨World.alloc_heap_new w _,λ_=>T.hJ _ _ _ r ⟨rfl,rfl,rfl,by simp,λk o t _=>(dh w _ k (bO t)).trans t⟩,(λe=>by cases e)⟩,⟨au _,au _,au _,lB _,lB _,au _⟩,(aA _ _).alloc p _⟩,.inl ⟨rfl,λ_=>rfl,by simp[AQ]⟩⟩
 rw[<-q.out];clear T p g u f r m q;go_enter func107,ntmps107;refine auh 3 (LJ C) ?_ rfl (λi n a w h=>⟨_,(agA C O i n a w h).1,(agA C O i n a w h).2⟩);go_wp2;exact⟨_,x⟩
def tY {h:Type}(d:Nat)(P:Program)(m:Nat)(n:Array cJ)(c:h->Array cJ)(j i:cw->cw->Prop)(X:List h)(k:cw):Prop:=
 ∀(l:Nat)(J f:List h->cw->Prop)(W:cw),cD k.1.size k W->(∀a A B,J a A->i A B->J a B)->(∀a A B,f a A->i A B->f a B)->
  (∀a x g,J a g->(a++[x])<+:X->YieldAt Fence.wide 0 P l (c x) g λe b=>(e=bj (ce db)/\J (a++[x]) b/\j g b)∨(e=bj (ce da)/\f (a++[x]) b/\j g b))->
  J [] W->cP P m (#[.func (.yield l) #[] #[]]++n) W λe b=>(∃v,e=bj v)/\cD d W b/\(J X b∨∃a,a<+:X/\f a b)
def YF {Z:Type}{P:Program}{g:Operand}{ps:Array Tmp}{f j:Code}{Q:Exit->Act->cw->Prop}{a:Act}{w:cw}{gf:Nat}{lb:Array cJ}(hg:a.eval g= .func (.func gf) #[] lb)(eg:∀args w,(callFunc gf args).run P w= .ok (.enter gf args) w) {s:Z->Array cJ} {y Ab:cw->cw->Prop} {X:List Z} {n₀:Nat} (an:n₀<=w.1.size) (ae:tY n₀ P gf lb s y Ab X w) (ao:∀x,(s x).size=ps.size) (N:∀{A B C:cw},y A B->y B C->y A C) (ab:∀(W:cw)(l:Nat)(o u:Obj),w.1.size<=l->W.1[l]? =V o->o.isCells=da->y W (W.putObj l u)) (Qx:∀A B,Ab A B->Same A B) (I:List Z->cw->Prop) (K:Code->List Z->cw->Prop) (hI:∀b A B,I b A->Ab A B->I b B) (ag:∀c b A B,K c b A->Ab A B->K c b B) (aa:∀b (W:cw)(l:Nat)(o u:Obj),w.1.size<=l->W.1[l]? =V o->o.isCells=da->I b W->I b (W.putObj l u)) (QA:∀c b (W:cw)(l:Nat)(o u:Obj),w.1.size<=l->W.1[l]? =V o->o.isCells=da->K c b W->K c b (W.putObj l u)) (h0:∀o1 o2,I []<|(w.alloc o1).alloc o2) (af:∀(l:Nat)(b:List Z)(x:Z)(W:cw),w.1.size<=l->I b W->(b++[x])<+:X->f.wpIn (Fence.wide.inRound l) 0 P (Exit.then (λH d=>Same W d/\y W d/\∀o u,d.1[l]? =V o->o.isCells=da->j.wpIn (Fence.wide.inRound l) 0 P (aq6 y I K (b++[x])<|d.putObj l u) H (d.putObj l u)) λ_ _ _=>False)
    {tmps:=(ps.zip<|s x).foldl (λt (p,v)=>t.setIfInBounds p v) a.tmps,defers:=[]} W)
  (O:∀(D:Nat)(W:cw),w.1.size<=D->cD n₀ w W->I X W->W.1[D]? =V (.deferred<|V [])->Q .normal {a with defers:={target:= .collected D,args:=#[]}::a.defers} W) (R:∀(D:Nat)(c:Code)(b:List Z)(W:cw),w.1.size<=D->cD n₀ w W->b<+:X->K c b W->W.1[D]? =V (.deferred<|V [])->c.wp P Q {a with defers:={target:= .collected D,args:=#[]}::a.defers} W):(Code.rangeFunc g ps f j).wp P Q a w:=by
 refine(Oo (n:=0)).1 (wpIn_rangeFunc λfn _=> ?_)
 -- the record of the loop,as it is ready,busy,done
 let m:LoopState->Option Code->Loop:=λst pe=>{state:=st,pending:=pe,fn,tmps:=a.tmps,params:=ps,assign:=f,body:=j,defers:=w.1.size}
 have ap:(w.alloc (.deferred<|V [])).1.size=w.1.size+1:=by simp
 generalize r:(w.alloc (.deferred<|V [])).alloc (.loop<|m .ready U)=L;have al:L.1[w.1.size+1]? =V (.loop<|m .ready U):=by rw[<-r,<-ap];exact World.alloc_heap_new _ _
 have ai:L.1[w.1.size]? =V (.deferred<|V []):=by rw[<-r];exact(dh _ _ _ (by simp)).trans (World.alloc_heap_new w _)
 refine⟨w.1.size+1,[{target:= .collected w.1.size,args:=#[]}],L,{target:= .fn (.func gf) lb,args:=#[.func (.yield<|w.1.size+1) #[] #[]]},L,gf,#[.func (.yield<|w.1.size+1) #[] #[]]++lb,L,?_,?_,λ_ _=>trivial,?_,(λh=>by cases h),?_⟩;rw[<-r];exact run_enterLoop_outer fn a.tmps ps f j
 .simp only[resolve,hg];simp[go_sem]
 .simp[invoke,go_sem,eg]
 refine Ja.2 ?_;refine(ae (w.1.size+1)
  (λb W=>I b W/\W.1[w.1.size+1]? =V (.loop<|m .ready U)/\W.1[w.1.size]? =V (.deferred<|V []))
  (λb W=>∃c,K c b W/\W.1[w.1.size+1]? =V (.loop<|m .done<|V c)/\W.1[w.1.size]? =V (.deferred<|V [])) L
  (by rw[<-r];exact((aA _ _).alloc (au _) _).alloc (by simp) _)
  (λb A B ⟨h1,h2,h3⟩ q=>⟨hI b A B h1 q,Qx A B q _ _ h2 rfl,Qx A B q _ _ h3 rfl⟩)
  (λb A B ⟨c,h1,h2,h3⟩ q=>⟨c,ag c b A B h1 q,Qx A B q _ _ h2 rfl,Qx A B q _ _ h3 rfl⟩) ?_
  ⟨by rw[<-r];exact h0 _ _,al,ai⟩).mono ?_
 .rintro b x W ⟨hi,J,hd⟩ hx;refine⟨fn,_,f,j,run_yield J<|ao x,roundIn_of_wpIn trivial (wpIn_mono (af (w.1.size+1) b x W (by omega) hi hx) ?_)⟩;intro e H d hK;cases e with
  |normal=>
   obtain⟨hs,hk,hb⟩:=hK;have G:=hs _ _ J rfl;have ah:=hs _ _ hd rfl;refine⟨_,run_beginRound G rfl,wpIn_mono (hb _ (.loop<|m .busy U) G rfl) ?_⟩;have ak:y W (d.putObj (w.1.size+1) (.loop<|m .busy U)):=N hk<|ab d _ _ _ (by omega) G rfl;have am:(d.putObj (w.1.size+1) (.loop<|m .busy U)).1[w.1.size+1]? =V (.loop<|m .busy U):=World.putObj_heap_same (Ou.1 G).1;have aj:(d.putObj (w.1.size+1) (.loop<|m .busy U)).1[w.1.size]? =V (.deferred<|V []):=(ja<|by omega).trans ah;intro e2 a2 M hq
   -- behind the j,whatever the i
   have E:∀i:Option Code,Same (d.putObj (w.1.size+1) (.loop<|m .busy U)) M->y (d.putObj (w.1.size+1) (.loop<|m .busy U)) M->∃z,z=M.putObj (w.1.size+1) (.loop<|m (if i.isNone then .ready else .done) i)/\(Instr.endRound (w.1.size+1) i).run P M= .ok (ce i.isNone) z/\M.1[w.1.size+1]? =V (.loop<|m .busy U)/\z.1[w.1.size+1]? =V (.loop<|m (if i.isNone then .ready else .done) i)/\z.1[w.1.size]? =V (.deferred<|V [])/\y W z:=λi h1 h2=>by have F:=h1 _ _ am rfl;exact⟨_,rfl,run_endRound i F,F,World.putObj_heap_same (Ou.1 F).1,(ja<|by omega).trans (h1 _ _ aj rfl),N (N ak h2)<|ab M _ _ _ (by omega) F rfl⟩
   cases e2 with
   |normal=>obtain⟨S,T,Y⟩:=hq;obtain⟨z,rfl,f1,f2,f3,f4,f5⟩:=E U S T;exact⟨_,_,f1,.inl ⟨rfl,⟨aa _ _ _ _ _ (by omega) f2 rfl Y,f3,f4⟩,f5⟩⟩
   |ret=>obtain⟨S,T,Y⟩:=hq;obtain⟨z,rfl,f1,f2,f3,f4,f5⟩:=E (V .ret) S T;exact⟨_,_,f1,.inr ⟨rfl,⟨_,QA _ _ _ _ _ _ (by omega) f2 rfl Y,f3,f4⟩,f5⟩⟩
   |exit id=>obtain⟨S,T,Y⟩:=hq;obtain⟨z,rfl,f1,f2,f3,f4,f5⟩:=E (V (.exit id)) S T;exact⟨_,_,f1,.inr ⟨rfl,⟨_,QA _ _ _ _ _ _ (by omega) f2 rfl Y,f3,f4⟩,f5⟩⟩
   |goto t=>obtain⟨S,T,Y⟩:=hq;obtain⟨z,rfl,f1,f2,f3,f4,f5⟩:=E (V (.goto t)) S T;exact⟨_,_,f1,.inr ⟨rfl,⟨_,QA _ _ _ _ _ _ (by omega) f2 rfl Y,f3,f4⟩,f5⟩⟩
   |panic ch=>exact hq.elim
   |outgrown=>exact hq.elim
  |ret=>exact hK.elim
  |exit id=>exact hK.elim
  |goto t=>exact hK.elim
  |panic ch=>exact hK.elim
  |outgrown=>exact hK.elim
 have ac:cD n₀ w L:=(by rw[<-r];exact((aA _ _).alloc an _).alloc (by simp;omega) _);have ug:∀(W:cw)(u:Obj),cD n₀ w W->cD n₀ w (W.putObj (w.1.size+1) u):=λW u h=>h.trans ⟨rfl,rfl,rfl,by simp[World.putObj],λk hk=>ja<|by omega⟩
 rintro e M ⟨⟨v,rfl⟩,ad,⟨hi,J,hd⟩|⟨b,hp,c,hi,J,hd⟩⟩;exact⟨U,_,run_endLoop J<|by simp[m],O _ _ (au _) (ug _ _ (ac.trans ad)) (aa _ _ _ _ _ (by omega) J rfl hi) ((ja<|by omega).trans hd)⟩;exact⟨V c,_,run_endLoop J<|by simp[m],(Oo (n:=0)).2 (R _ c b _ (au _) (ug _ _ (ac.trans ad)) hp (QA _ _ _ _ _ _ (by omega) J rfl hi) ((ja<|by omega).trans hd))⟩
def amc {P:Program}(w:cw)(d:Nat)(t:TypeId)(x y:Array TypeId)(b:Bool)(f:Fn)(v:Array cJ)(h:P.underlying t=V (.func x y b)):(Op.equalIn (d+1) t (.func f #[] v) .nilFunc).run P w= .ok da w:=by simp[Op.equalIn,Ch h]
def Tryz.apE(l:Nat)(w:cw):(binOp .neq 171 (.func (.yield l) #[] #[]) .nilFunc).run prog w= .ok (ce db) w:=by have e:(Op.equalIn 10000 171 (.func (.yield l) #[] #[]) .nilFunc).run prog w= .ok da w:=amc w 9999 _ _ _ _ _ #[] underlying171;simp only[binOp];simp[Op.equal,Op.maxDepth,e]
def cO(s:bc):List PR:=if s.size<=600 then cI s da AQ else []
def Yn(i:cw)(a g:Nat)(s:bc)(A:i.cell? (S g 0 U)=V (cd s))(m:kH i)(c:10<=a)(f:a<=i.1.size):tY a prog 106 #[.pointer<|V<|S g 0 U] Mf (zR a) lT (cO s) i:=by
 intro l J z W d n j o h;have B:W.cell? (S g 0 U)=V (cd s):=cU d A;have k:kH W:=m.below c<|d.mono f;show cP prog 106 #[.func (.yield l) #[] #[],.pointer<|V<|S g 0 U] W _;by_cases t:s.size<=600
 .have p:(s.size:Int)<=600:=by omega
  have b:cO s=cI s da AQ:=aj t;have C:=λw=>Tryz.apE l w
  have q:=aro W s l a J z ⟨n,j,by rw[<-b];exact o⟩ (bM f d.size) c (by omega) k h;rw[<-b]at q;clear n j o h k d b;go_enter func106,ntmps106;go_wp2_with fail;refine q.mono ?_;rintro E D ⟨⟨v,rfl⟩,e,r⟩;have y:=ah e;have x:=ah r;clear r e;go_wp2;go_end0;exact⟨⟨_,rfl⟩,y,x⟩
 have p:¬(s.size:Int)<=600:=by omega
 have b:cO s=[]:=ai t;rw[b];have u:=ah h;clear n j o k d b h;go_enter func106,ntmps106;go_wp2;go_end0;exact⟨⟨_,rfl⟩,aA _ _,.inl u⟩
def Vv(w:cw)(s:bc):cP prog 63 #[cd s] w λe a=>e=bj (.func (.func 106) #[] #[.pointer<|V<|S w.1.size 0 U])/\a=w.alloc (bi #[cd s] 9):=by go_enter func63,ntmps63;go_wp2;go_ret;exact⟨rfl,rfl⟩
section
attribute [local go_sem] Oper.semAt_some
def Au(l:List PR):List cJ:=l.map λx=>Y Z x.line
def rN(x:PR):List cJ:=[Y Z x.kind,Y Z x.from_,Y Z x.dR,Y Z x.body,Y Z x.end_]
def oF(l:List PR):List cJ:=l.flatMap rN
def ape(l:List PR)(x:PR):Au (l++[x])=Au l++[Y Z x.line]:=by simp[Au]
def af6(l:List PR)(x:PR):oF (l++[x])=oF l++rN x:=by simp[oF]
def J8 {w f:cw}{a:Nat}{e:TypeId}{size:Nat}{v:cJ}{n:Nat}{i:List cJ}(h:w.ownsRow a e size v n i)(p:lT w f)(q:e≠244):f.ownsRow a e size v n i:=by refine⟨h.1,?_⟩;rcases h.2 with h|⟨g,b,d,rfl,l,m,o⟩;exact .inl h;exact .inr ⟨g,b,d,rfl,l,p.block g _ m (λc r k=>by injection k with _ j _;exact absurd j q),o⟩
def zi {w:cw}{a:Nat}{e:TypeId}{size:Nat}{v:cJ}{n:Nat}{f:List cJ}(h:w.ownsRow a e size v n f){l:Nat}{o:Obj}(m:w.1[l]? =V o)(k:o.isCells=da)(p:Obj):(w.putObj l p).ownsRow a e size v n f:=by refine⟨h.1,?_⟩;rcases h.2 with h|⟨g,b,c,rfl,i,d,j⟩;exact .inl h;refine .inr ⟨g,b,c,rfl,i,?_,j⟩;rw[ja];exact d;rintro rfl;rw[m]at d;obtain rfl:=aI d;cases k
def I8 {B:Nat}{w W:cw}(h:cD B w W){l:Nat}(c:B<=l)(a:Obj):cD B w (W.putObj l a):=
 h.trans ⟨rfl,rfl,rfl,by simp[World.putObj],λk b=>ja<|by omega⟩
structure PI(w:World)(n:Int)(pre:List PR)(W:World):Prop where
 bn:W.1[w.1.size]? =some (.cells #[.int .i64 n] 3 (0,0))
 rows:∃lv pv,W.1[w.1.size+1]? =some (.cells #[lv] 31 (0,0))/\W.1[w.1.size+2]? =some (.cells #[pv] 71 (0,0))/\W.ownsRow (w.1.size+4) 3 1 lv pre.length (Au pre)/\W.ownsRow (w.1.size+4) 75 5 pv pre.length (oF pre)
 sz:w.1.size+4<=W.1.size
def PI.nR {w:cw}{n:Int}{b:List PR}{A B:cw}(h:PI w n b A)(a:lT A B):PI w n b B:=by obtain⟨k,l,f,g,i,j⟩:=h.rows;exact⟨a.block _ _ h.bn (λc d e=>by cases e),⟨k,l,a.block _ _ f (λc d e=>by cases e),a.block _ _ g (λc d e=>by cases e),J8 i a<|by decide,J8 j a<|by decide⟩,bM h.sz a.size⟩
def PI.put {w:cw}{n:Int}{a:List PR}{W:cw}(h:PI w n a W){l:Nat}{o:Obj}(m:w.1.size+4<=l)(d:W.1[l]? =V o)(c:o.isCells=da)(b:Obj):PI w n a (W.putObj l b):=by obtain⟨j,k,e,f,g,i⟩:=h.rows;exact⟨(ja<|by omega).trans h.bn,⟨j,k,(ja<|by omega).trans e,(ja<|by omega).trans f,zi g d c b,zi i d c b⟩,by simp[World.putObj];exact h.sz⟩
def RB(t:TypeId):Prop:=t=3∨t=31∨t=75∨t=71
structure Kb(B:Nat)(A C:World):Prop where
 below:Below B A C
 keep:∀(k:Nat)(o:Obj),A.1[k]? =some o->(∀c t fr,o=Obj.cells c t fr->¬RB t)->C.1[k]? =some o
def Kb.refl(B:Nat)(A:cw):Kb B A A:=⟨aA _ _,λ_ _ h _=>h⟩
def Kb.trans {B:Nat}{A C D:cw}(h:Kb B A C)(k:Kb B C D):Kb B A D:=⟨h.below.trans k.below,λi o b a=>k.keep i o (h.keep i o b a) a⟩
def Kb.al {B:Nat}{A C:cw}(h:Kb B A C)(b:B<=C.1.size)(o:Obj):Kb B A (C.alloc o):=h.trans ⟨(aA _ _).alloc b o,λk _ a _=>(dh C o k<|bO a).trans a⟩
def Kb.grown {B:Nat}{A C D:cw}{r:Option Nat}(h:Kb B A C)(d:C.grownBy D r)(j:B<=C.1.size)(f:∀k,r=V k->B<=k/\∃c t b,C.1[k]? =V (Obj.cells c t b)/\RB t):Kb B A D:=by refine h.trans ⟨(aA _ _).grown d j (λk e=>(f k e).1),λk o a l=> ?_⟩;refine(d.block k (bO a) ?_).trans a;intro e;obtain⟨_,c,t,b,g,i⟩:=f k e.symm;rw[g]at a;exact l c t b (aI a).symm i
def Kb.same {B:Nat}{A C:cw}(h:Kb B A C):Same A C:=λk o b a=>h.keep k o b λc t d e=>by subst e;cases a
def Kb.G5 {B:Nat}{A C:cw}(h:Kb B A C):zR B A C:=⟨h.below,λk c g d=>h.keep k _ d (λf t b e=>by injection e with _ a _;subst a;unfold RB;decide)⟩
def jL {w:cw}{a:Nat}{e:TypeId}{size:Nat}{v:cJ}{n:Nat}{l:List cJ}(h:w.ownsRow a e size v n l){k:Nat}(b:v.ownBlock=V k):a<=k/\∃c,w.1[k]? =V (Obj.cells c e (0,0)):=by rcases h.2 with⟨rfl,_⟩|⟨g,d,f,rfl,i,j,m⟩;simp[Value.ownBlock]at b;simp only[Value.ownBlock]at b;obtain rfl:=aI b;exact⟨i,_,j⟩
def Cc {w d:cw}{a:Nat}{e:TypeId}{size:Nat}{v:cJ}{n:Nat}{f:List cJ}{r:Option Nat}(h:w.ownsRow a e size v n f)(g:w.grownBy d r)(b:∀k,v.ownBlock=V k->V k≠r):d.ownsRow a e size v n f:=
 kS h λk _ i c=>(g.block k (bO c)<|b k i).trans c
def afT {w:cw}{f a:Nat}{e i:TypeId}{size b:Nat}{v j:cJ}{n q:Nat}{r g:List cJ}(h:w.ownsRow f e size v n r)(l:w.ownsRow a i b j q g)(o:e≠i):∀k,v.ownBlock=V k->V k≠j.ownBlock:=by intro k p e;obtain⟨_,c,m⟩:=jL h p;obtain⟨_,s,d⟩:=jL l e.symm;rw[m]at d;injection d with d;injection d with _ d _;exact o d
def af7(w:cw)(a b c d e:cJ)(t:TypeId):∀j u,[a,b,c,d,e][j]? =V u->(w.alloc<|bi #[a,b,c,d,e] t).cell? (((S w.1.size 0 U):Addr).add j)=V u:=by
 intro j u f;have key:=λi=>az (World.alloc_heap_new w<|bi #[a,b,c,d,e] t) i
 match j,f with
 |0,f=>exact(key 0).trans f
 |1,f=>exact(key 1).trans f
 |2,f=>exact(key 2).trans f
 |3,f=>exact(key 3).trans f
 |4,f=>exact(key 4).trans f
 |j+5,f=>simp at f
end
section
attribute [local go_sem] Oper.semAt_some
def FA(n:Int)(a:List PR):Prop:=¬(1<=n/\n<=a.length)/\a.length<1000
def IV(n:Int)(a:List PR):Prop:=((a.length:Int)=n∨a.length=1000)/\0<a.length
def IZ(w:cw)(a b c d:Obj):((((w.alloc a).alloc b).alloc c).alloc d).1[w.1.size]? =V a/\((((w.alloc a).alloc b).alloc c).alloc d).1[w.1.size+1]? =V b/\((((w.alloc a).alloc b).alloc c).alloc d).1[w.1.size+2]? =V c/\((((w.alloc a).alloc b).alloc c).alloc d).1[w.1.size+3]? =V d:=by
 have i:(w.alloc a).1.size=w.1.size+1:=by simp
 have j:((w.alloc a).alloc b).1.size=w.1.size+2:=by simp
 have k:(((w.alloc a).alloc b).alloc c).1.size=w.1.size+3:=by simp
 have e:(w.alloc a).1[w.1.size]? =V a:=World.alloc_heap_new w a;have f:((w.alloc a).alloc b).1[w.1.size+1]? =V b:=by have:=World.alloc_heap_new (w.alloc a) b;rw[i]at this;exact this
 have g:(((w.alloc a).alloc b).alloc c).1[w.1.size+2]? =V c:=by have:=World.alloc_heap_new ((w.alloc a).alloc b) c;rw[j]at this;exact this
 have h:((((w.alloc a).alloc b).alloc c).alloc d).1[w.1.size+3]? =V d:=by have:=World.alloc_heap_new (((w.alloc a).alloc b).alloc c) d;rw[k]at this;exact this
 exact⟨(dh _ _ _ (by omega)).trans ((dh _ _ _ (by omega)).trans ((dh _ _ _ (by omega)).trans e)),(dh _ _ _ (by omega)).trans ((dh _ _ _ (by omega)).trans f),(dh _ _ _ (by omega)).trans g,h⟩
def yK(w:cw)(o:Obj):lT w (w.alloc o):=⟨rfl,rfl,rfl,by simp,λk _ a _=>(dh w o k<|bO a).trans a⟩
def ur {w:cw}{b a:Nat}{e:TypeId}{size:Nat}{v:cJ}{n:Nat}{f:List cJ}(h:w.ownsRow b e size v n f)(l:a<=b):w.ownsRow a e size v n f:=by refine⟨h.1,?_⟩;rcases h.2 with h|⟨g,c,d,rfl,k,i,j⟩;exact .inl h;exact .inr ⟨g,c,d,rfl,by omega,i,j⟩
def Xu {n:Nat}{A B C:cw}(h:zR n A B)(k:zR n B C):zR n A C:=⟨h.below.trans k.below,λ_ _ _ e=>k.rd _ _ _ (h.rd _ _ _ e)⟩
def Xt {n:Nat}{W:cw}{l:Nat}{o:Obj}(d:n<=l)(f:W.1[l]? =V o)(b:o.isCells=da)(a:Obj):zR n W (W.putObj l a):=
 ⟨I8 (aA _ _) d a,λi c g e=>by rw[ja];exact e;rintro rfl;rw[f]at e;obtain rfl:=aI e;cases b⟩
def YV {A B:cw}(h:lT A B):Same A B:=λk o b a=>h.block k o b λc d e=>by subst e;cases a
def Tryz.aoo:(prog.info? 3).map (λi=>(i.zero,i.size,i.bytes))=V (V<|Y Z 0,1,8):=by kernel_rfl
def Tryz.aeE:(prog.info? 75).map (λi=>(i.zero,i.size,i.bytes))=V (V<|df #[Y Z 0,Y Z 0,Y Z 0,Y Z 0,Y Z 0],5,40):=by kernel_rfl
def Yx(w:cw)(s:bc)(n:Int)(P:kH w)(ad:10<=w.1.size):cP prog 43 #[cd s,Y Z n] w λe w'=>∃v1 v2 l,e=bj (de #[v1,v2])/\w'.ownsRow w.1.size 3 1 v1 l.length (Au l)/\w'.ownsRow w.1.size 75 5 v2 l.length (oF l)/\cD w.1.size w w'/\((l=cO s/\FA n l)∨(l<+:cO s/\IV n l)):=by
 refine(Ja (n:=0)).1 (callsIn_of_wp_marks func43 rfl trivial ?_ rfl);simp only[ntmps43,iw,eU,kW,Nat.reduceAdd,Nat.reduceSub,ZW,ZX,gU,lJ,r8,uL];refine(Oo (n:=0)).2 ?_;go_wp2_with fail;refine(Vv _ s).mono ?_;rintro ev W1 ⟨rfl,rfl⟩;go_wp2;have X:(((((w.alloc<|bi #[Y Z n] 3).alloc (bi #[R U 0 0] 31)).alloc (bi #[R U 0 0] 71)).alloc (bi #[cd s] 9)).1.size)=w.1.size+4:=by simp
 obtain⟨W0,E⟩:=ac<|((((w.alloc<|bi #[Y Z n] 3).alloc (bi #[R U 0 0] 31)).alloc (bi #[R U 0 0] 71)).alloc (bi #[cd s] 9));rw[<-E]at X ⊢;have I:cD w.1.size w W0:=by rw[E];exact((((aA _ _).alloc (au _) _).alloc (by simp) _).alloc (by simp;omega) _).alloc (by simp;omega) _
 have BN:W0.cell? ⟨w.1.size+3,0,U⟩=V (cd s):=by rw[E];exact az (IZ w _ _ _ _).2.2.2 0
 have Q:PI w n [] W0:=by refine⟨?_,⟨R U 0 0,R U 0 0,?_,?_,fh _ _ _ _,fh _ _ _ _⟩,by omega⟩;rw[E];exact(IZ w _ _ _ _).1;rw[E];exact(IZ w _ _ _ _).2.1;rw[E];exact(IZ w _ _ _ _).2.2.1
 clear E;refine YF (gf:=106) (lb:=#[.pointer<|V ⟨w.1.size+3,0,U⟩]) ?_ (Go.Proofs.enters_of func106 (by kernel_rfl) rfl) (n₀:=w.1.size) (by omega) (Yn W0 w.1.size (w.1.size+3) s BN (P.below ad I) ad<|by omega) (λx=>rfl)
  Xu (λW l o F hl C hc=>Xt (by omega) C hc F) (λA B h=>YV h)
  (λa W=>PI w n a W/\FA n a) (λc a W=>c= .exit 0/\PI w n a W/\IV n a)
  (λa A B h ha=>⟨h.1.nR ha,h.2⟩) (λc a A B h ha=>⟨h.1,h.2.1.nR ha,h.2.2⟩)
  (λa W l o F hl C hc h=>⟨h.1.put (by omega) C hc F,h.2⟩) (λc a W l o F hl C hc h=>⟨h.1,h.2.1.put (by omega) C hc F,h.2.2⟩)
  ?h0 ?round ?done ?stop
 .rfl
 case h0=>exact λo1 o2=>⟨(Q.nR<|yK W0 o1).nR (yK _ o2),by simp[FA];omega⟩
 case round=>
  rintro l a ⟨xl,p,m,q,g,i⟩ W hl ⟨Mx,J⟩ hx;simp only[Mf]
  gi_wp2
  refine⟨λk o d _=>(dh W _ k (bO d)).trans d,⟨(aA _ _).alloc (by have:=Mx.sz;omega) _,λk _ _ d=>(dh W _ k (bO d)).trans d⟩,?_⟩;intro o F C qJ;have Jm:=(Mx.nR<|yK W<|bi #[Y Z p,Y Z m,Y Z q,Y Z g,Y Z i] 75).put (by omega) C qJ F;have T:((W.alloc<|bi #[Y Z p,Y Z m,Y Z q,Y Z g,Y Z i] 75).putObj l F).1[W.1.size]? =V (bi #[Y Z p,Y Z m,Y Z q,Y Z g,Y Z i] 75 (0,0)):=by rw[ja];exact World.alloc_heap_new W _;rintro rfl;rw[World.alloc_heap_new]at C;obtain rfl:=aI C;cases qJ
  have ao:∀r f:cJ,W.1[w.1.size+2]? =V (bi #[f] 71 (0,0))->True:=λ_ _ _=>trivial
  have ag:=Mx.sz;obtain⟨r,f,k1,k2,k3,k4⟩:=Mx.rows;have ai:∀k,f.ownBlock=V k->k<W.1.size:=λk d=>by obtain⟨_,c,v⟩:=jL k4 d;exact bO v
  have a1:=yK W<|bi #[Y Z p,Y Z m,Y Z q,Y Z g,Y Z i] 75;have p1:((W.alloc<|bi #[Y Z p,Y Z m,Y Z q,Y Z g,Y Z i] 75).putObj l F).1[w.1.size+1]? =V (bi #[r] 31 (0,0)):=(ja<|by omega).trans (a1.block _ _ k1 (λc fr e=>by cases e));have p2:((W.alloc<|bi #[Y Z p,Y Z m,Y Z q,Y Z g,Y Z i] 75).putObj l F).1[w.1.size+1+1]? =V (bi #[f] 71 (0,0)):=(ja<|by omega).trans (a1.block _ _ k2 (λc fr e=>by cases e));have p3:=zi (J8 k3 a1<|by decide) C qJ F;have p4:=zi (J8 k4 a1<|by decide) C qJ F;have nW:=Jm.bn;have af:=Jm.sz;have aa:W.1.size<((W.alloc<|bi #[Y Z p,Y Z m,Y Z q,Y Z g,Y Z i] 75).putObj l F).1.size:=bO T;clear k1 k2 k3 k4 a1 Jm Mx ao C qJ;generalize(W.alloc<|bi #[Y Z p,Y Z m,Y Z q,Y Z g,Y Z i] 75).putObj l F=O at*;generalize W.1.size=pb at*;have aC:=J.2;obtain⟨i0,ak,ax,ay,aB⟩:=fP Tryz.aoo;obtain⟨i5,am,ar,av,aw⟩:=fP Tryz.aeE;have c6:O.cell? ⟨w.1.size+1,0,U⟩=V r:=az p1 0;have HX:=ah hx;have Bc:=ah J;clear hx J BN I Q P X hl
  gi_wp2_with (gi_at_builtin;refine wpListIn_append_own _ rfl _ _ 31 rfl (w.1.size+4) 3 i0 _ 1 8 underlying31 ak ax ay aB rfl (by decide) r a.length (Au a) rfl (p3.alloc _) (S O.1.size 0 U) 1 1 [Y Z xl] rfl rfl (mI _ _ _) (by simp[Value.oneCell']) (by unfold maxLen;omega) (by omega) (by simp;omega) ?_)
  intro v1 b o3 g3 _;obtain⟨u,t,rfl⟩:=ownsRow_succ o3;have q3:∀k o,k<O.1.size->O.1[k]? =V o->(∀j,r.ownBlock=V j->k≠j)->b.1[k]? =V o:=λk o d C an=>(g3.block k (by simp;omega) λe=>an k e.symm rfl).trans ((dh O _ k d).trans C)
  have Rp:∀j,r.ownBlock=V j->w.1.size+4<=j:=λj N=>(jL p3 N).1
  have b1:b.1[w.1.size+1]? =V (bi #[r] 31 (0,0)):=q3 _ _ (by omega) p1 (λj N=>by have:=Rp j N;omega);have b2:b.1[w.1.size+1+1]? =V (bi #[f] 71 (0,0)):=q3 _ _ (by omega) p2 (λj N=>by have:=Rp j N;omega);have b0:b.1[w.1.size]? =V (bi #[Y Z n] 3 (0,0)):=q3 _ _ (by omega) nW (λj N=>by have:=Rp j N;omega);have bp:b.1[pb]? =V (bi #[Y Z p,Y Z m,Y Z q,Y Z g,Y Z i] 75 (0,0)):=q3 _ _ aa T (λj N e=>by subst e;obtain⟨_,c,v⟩:=jL p3 N;rw[T]at v;cases v);have o4:=Cc (p4.alloc<|bi #[Y Z xl] 3) g3 (afT p4 p3<|by decide);have K3:Kb w.1.size O b:=((Kb.refl _ _).al (by omega) _).grown g3 (by simp;omega) (λk d=>by obtain⟨v,c,h2⟩:=jL (p3.alloc<|bi #[Y Z xl] 3) d;exact⟨by omega,c,_,_,h2,.inl rfl⟩);have ap:w.1.size+4<=b.1.size:=by have:=g3.size;simp at this;omega
  have LY:b.cell? ⟨w.1.size+1,0,U⟩=V r:=az b1 0;have aj:b.frozen? ⟨w.1.size+1,0,U⟩=da:=cB b1 0;have g4:b.grownBy (b.setCell ⟨w.1.size+1,0,U⟩ (.slice (V<|S u 0 U) (a.length+1) t)) (V<|w.1.size+1):=uw _ _ _ _;have K4:Kb w.1.size O (b.setCell ⟨w.1.size+1,0,U⟩ (.slice (V<|S u 0 U) (a.length+1) t)):=K3.grown g4 (by omega) (λk d=>by obtain rfl:=aI d;exact⟨by omega,_,_,_,b1,.inr (.inl rfl)⟩);have e1:(b.setCell ⟨w.1.size+1,0,U⟩ (.slice (V<|S u 0 U) (a.length+1) t)).1[w.1.size+1]? =V (bi #[.slice (V<|S u 0 U) (a.length+1) t] 31 (0,0)):=by rw[fe b1];rfl
  have e2:(b.setCell ⟨w.1.size+1,0,U⟩ (.slice (V<|S u 0 U) (a.length+1) t)).1[w.1.size+1+1]? =V (bi #[f] 71 (0,0)):=(g4.block _ (by omega) (λe=>by have:=aI e;omega)).trans b2;have e0:(b.setCell ⟨w.1.size+1,0,U⟩ (.slice (V<|S u 0 U) (a.length+1) t)).1[w.1.size]? =V (bi #[Y Z n] 3 (0,0)):=(g4.block _ (by omega) (λe=>by have:=aI e;omega)).trans b0;have ep:(b.setCell ⟨w.1.size+1,0,U⟩ (.slice (V<|S u 0 U) (a.length+1) t)).1[pb]? =V (bi #[Y Z p,Y Z m,Y Z q,Y Z g,Y Z i] 75 (0,0)):=(g4.block _ (bO bp) (λe=>by have:=aI e;omega)).trans bp;have r3:=Cc o3 g4 (λk d e=>by have:=(jL o3 d).1;have:=aI e;omega);have r4:=Cc o4 g4 (λk d e=>by have:=(jL o4 d).1;have:=aI e;omega);have s4:(b.setCell ⟨w.1.size+1,0,U⟩ (.slice (V<|S u 0 U) (a.length+1) t)).1.size=b.1.size:=by simp
  have c7:(b.setCell ⟨w.1.size+1,0,U⟩ (.slice (V<|S u 0 U) (a.length+1) t)).cell? ⟨w.1.size+1+1,0,U⟩=V f:=az e2 0;have d0:(b.setCell ⟨w.1.size+1,0,U⟩ (.slice (V<|S u 0 U) (a.length+1) t)).cell? (S pb 0 U)=V (Y Z p):=az ep 0;have d1:(b.setCell ⟨w.1.size+1,0,U⟩ (.slice (V<|S u 0 U) (a.length+1) t)).cell? (S pb 1 U)=V (Y Z m):=az ep 1;have d2:(b.setCell ⟨w.1.size+1,0,U⟩ (.slice (V<|S u 0 U) (a.length+1) t)).cell? (S pb 2 U)=V (Y Z q):=az ep 2;have d3:(b.setCell ⟨w.1.size+1,0,U⟩ (.slice (V<|S u 0 U) (a.length+1) t)).cell? (S pb 3 U)=V (Y Z g):=az ep 3;have d4:(b.setCell ⟨w.1.size+1,0,U⟩ (.slice (V<|S u 0 U) (a.length+1) t)).cell? (S pb 4 U)=V (Y Z i):=az ep 4;have nw:=af7 (b.setCell ⟨w.1.size+1,0,U⟩ (.slice (V<|S u 0 U) (a.length+1) t)) (Y Z p) (Y Z m) (Y Z q) (Y Z g) (Y Z i) 75;rw[s4]at nw
  gi_wp2_with (gi_at_builtin;refine wpListIn_append_own _ rfl _ _ 71 rfl (w.1.size+4) 75 i5 _ 5 40 underlying71 am ar av aw rfl (by decide) f a.length (oF a) rfl (r4.alloc _) (S b.1.size 0 U) 1 1 (rN ⟨xl,p,m,q,g,i⟩) rfl rfl nw (by simp[rN,Value.oneCell']) (by unfold maxLen;omega) (by omega) (by simp;omega) ?_)
  intro v2 z o5 g5 _;obtain⟨L,K,rfl⟩:=ownsRow_succ o5;have ae:∀j,f.ownBlock=V j->w.1.size+4<=j:=λj N=>(jL r4 N).1
  have q5:∀k o,k<w.1.size+4->(b.setCell ⟨w.1.size+1,0,U⟩ (.slice (V<|S u 0 U) (a.length+1) t)).1[k]? =V o->z.1[k]? =V o:=λk o d C=>(g5.block k (by simp;omega) λe=>by have:=ae k e.symm;omega).trans ((dh _ _ k (by rw[s4];omega)).trans C)
  have t1:=q5 _ _ (by omega) e1;have t2:=q5 _ _ (by omega) e2;have t0:=q5 _ _ (by omega) e0;have u3:=Cc (r3.alloc<|bi #[Y Z p,Y Z m,Y Z q,Y Z g,Y Z i] 75) g5 (afT r3 r4<|by decide);have K5:Kb w.1.size O z:=(K4.al (by rw[s4];omega)<|bi #[Y Z p,Y Z m,Y Z q,Y Z g,Y Z i] 75).grown g5 (by simp;omega) (λk d=>by obtain⟨v,c,h2⟩:=jL (r4.alloc<|bi #[Y Z p,Y Z m,Y Z q,Y Z g,Y Z i] 75) d;exact⟨by omega,c,_,_,h2,.inr (.inr (.inl rfl))⟩);have aq:w.1.size+4<=z.1.size:=by have:=g5.size;simp at this;omega
  have PF:z.cell? ⟨w.1.size+1+1,0,U⟩=V f:=az t2 0;have aD:z.frozen? ⟨w.1.size+1+1,0,U⟩=da:=cB t2 0;have g6:z.grownBy (z.setCell ⟨w.1.size+1+1,0,U⟩ (.slice (V<|S L 0 U) (a.length+1) K)) (V<|w.1.size+1+1):=uw _ _ _ _;have K6:Kb w.1.size O (z.setCell ⟨w.1.size+1+1,0,U⟩ (.slice (V<|S L 0 U) (a.length+1) K)):=K5.grown g6 (by omega) (λk d=>by obtain rfl:=aI d;exact⟨by omega,_,_,_,t2,.inr (.inr (.inr rfl))⟩);have x1:(z.setCell ⟨w.1.size+1+1,0,U⟩ (.slice (V<|S L 0 U) (a.length+1) K)).1[w.1.size+1]? =V (bi #[.slice (V<|S u 0 U) (a.length+1) t] 31 (0,0)):=(g6.block _ (by omega) (λe=>by have:=aI e;omega)).trans t1;have x2:(z.setCell ⟨w.1.size+1+1,0,U⟩ (.slice (V<|S L 0 U) (a.length+1) K)).1[w.1.size+1+1]? =V (bi #[.slice (V<|S L 0 U) (a.length+1) K] 71 (0,0)):=by rw[fe t2];rfl
  have x0:(z.setCell ⟨w.1.size+1+1,0,U⟩ (.slice (V<|S L 0 U) (a.length+1) K)).1[w.1.size]? =V (bi #[Y Z n] 3 (0,0)):=(g6.block _ (by omega) (λe=>by have:=aI e;omega)).trans t0;have z3:=Cc u3 g6 (λk d e=>by have:=(jL u3 d).1;have:=aI e;omega);have z5:=Cc o5 g6 (λk d e=>by have:=(jL o5 d).1;have:=aI e;omega);have ab:PI w n (a++[⟨xl,p,m,q,g,i⟩]) (z.setCell ⟨w.1.size+1+1,0,U⟩ (.slice (V<|S L 0 U) (a.length+1) K)):=by refine⟨x0,⟨_,_,x1,x2,?_,?_⟩,by have:=g6.size;omega⟩;rw[ape,bG];exact z3;rw[af6,bG];exact z5
  have G:dd (Kb w.1.size O (z.setCell ⟨w.1.size+1+1,0,U⟩ (.slice (V<|S L 0 U) (a.length+1) K))/\PI w n (a++[⟨xl,p,m,q,g,i⟩]) (z.setCell ⟨w.1.size+1+1,0,U⟩ (.slice (V<|S L 0 U) (a.length+1) K))):=⟨K6,ab⟩
  have k7:(z.setCell ⟨w.1.size+1+1,0,U⟩ (.slice (V<|S L 0 U) (a.length+1) K)).cell? ⟨w.1.size+1+1,0,U⟩=V (.slice (V<|S L 0 U) (a.length+1) K):=az x2 0;have k0:(z.setCell ⟨w.1.size+1+1,0,U⟩ (.slice (V<|S L 0 U) (a.length+1) K)).cell? (S w.1.size 0 U)=V (Y Z n):=az x0 0;clear K6 ab z3 z5 x0 x1 x2 u3 K5 t0 t1 t2 q5 ae o5 g5 r3 r4 e0 e1 e2 ep g4 K4 nw s4 d0 d1 d2 d3 d4 c7 LY aj K3 o4 o3 g3 b0 b1 b2 bp Rp q3 c6 p1 p2 p3 p4 nW T ai af aa ap aq ag g6;by_cases y:((a.length:Int)+1=n∨a.length+1=1000)
  .have HS:dd (IV n<|a++[⟨xl,p,m,q,g,i⟩]):=by refine⟨?_,by simp⟩;rw[bG];rcases y with h|h;left;simp;omega;right;simp;omega
   by_cases v:(a.length:Int)+1=n
   .have r1:((a.length:Int)+1==n)=db:=(by simpa using v);clear v y
    gi_wp2
    exact⟨G.out.1.same,G.out.1.G5,rfl,G.out.2,HS⟩
   have r1:((a.length:Int)+1==n)=da:=(by simpa using v);have r2:((a.length:Int)+1==1000)=db:=(by rw[vS];rcases y with h|h<;>omega);clear v y
   gi_wp2
   exact⟨G.out.1.same,G.out.1.G5,rfl,G.out.2,HS⟩
  have HS:dd (FA n<|a++[⟨xl,p,m,q,g,i⟩]):=by obtain⟨v,h2⟩:=Bc.out;refine⟨?_,?_⟩;rintro⟨h3,h4⟩;rw[bG]at h4;simp at h4;exact v ⟨h3,by omega⟩;rw[bG];simp;omega
  have r1:((a.length:Int)+1==n)=da:=(by simp;omega);have r2:((a.length:Int)+1==1000)=da:=(by simp;omega);clear y
  gi_wp2
  exact⟨G.out.1.same,G.out.1.G5,G.out.2,HS⟩
 case done=>
  rintro D W hD M ⟨hP,J⟩ H;obtain⟨r,f,k1,k2,k3,k4⟩:=hP.rows;have c6:W.cell? ⟨w.1.size+1,0,U⟩=V r:=az k1 0;have c7:W.cell? ⟨w.1.size+1+1,0,U⟩=V f:=az k2 0;have G:dd (cD w.1.size w W/\W.ownsRow (w.1.size+4) 3 1 r (cO s).length (Au<|cO s)/\W.ownsRow (w.1.size+4) 75 5 f (cO s).length (oF<|cO s)/\FA n (cO s)):=⟨I.trans M,k3,k4,J⟩
  have HK:=ah H;have HD:dd (w.1.size<=D):=by show _<=_;omega
  clear k1 k2 k3 k4 hP J M H hD I BN Q P X;simp only;go_wp2;go_region;all_goals
   go_wp2;have H:W.drew.1[D]? =V (.deferred<|V []):=HK.out;obtain⟨v,h2,h3,h4⟩:=G.out;refine⟨by simp,.inl ⟨_,_,rfl,run_takeDeferred H,?_⟩⟩;refine⟨de #[r,f],by simp[results,results43,go_sem],r,f,cO s,rfl,?_,?_,?_,.inl ⟨rfl,h4⟩⟩;exact zi (w:=W.drew) (ur h2<|by omega) H rfl _;exact zi (w:=W.drew) (ur h3<|by omega) H rfl _;exact I8 (W:=W.drew) v.drew HD _
 case stop=>
  rintro D c a W hD M hp ⟨rfl,hP,y⟩ H;obtain⟨r,f,k1,k2,k3,k4⟩:=hP.rows;have c6:W.cell? ⟨w.1.size+1,0,U⟩=V r:=az k1 0;have c7:W.cell? ⟨w.1.size+1+1,0,U⟩=V f:=az k2 0;have G:dd (cD w.1.size w W/\W.ownsRow (w.1.size+4) 3 1 r a.length (Au a)/\W.ownsRow (w.1.size+4) 75 5 f a.length (oF a)/\a<+:cO s/\IV n a):=⟨I.trans M,k3,k4,hp,y⟩
  have HK:=ah H;have HD:dd (w.1.size<=D):=by show _<=_;omega
  clear k1 k2 k3 k4 hP y M H hD I BN Q P X hp;go_wp2;go_region;all_goals
   go_wp2;have H:W.drew.1[D]? =V (.deferred<|V []):=HK.out;obtain⟨v,h2,h3,h4⟩:=G.out;refine⟨by simp,.inl ⟨_,_,rfl,run_takeDeferred H,?_⟩⟩;refine⟨de #[r,f],by simp[results,results43,go_sem],r,f,a,rfl,?_,?_,?_,.inr h4⟩;exact zi (w:=W.drew) (ur h2<|by omega) H rfl _;exact zi (w:=W.drew) (ur h3<|by omega) H rfl _;exact I8 (W:=W.drew) v.drew HD _
end
def C6(k t:Nat)(p:RP)(a:p.from_<=p.at_):(dS k t p).length<=(cQ t p).from_ - p.from_/\p.from_<=(cQ t p).from_/\(cQ t p).from_<=(cQ t p).at_:=by unfold dS cQ;split;simp only[kW];omega;simp only[eU,kW];omega
def Yc(a:Nat)(p:RP):(dz a p da).from_=(cQ 0 p).from_:=by unfold dz;rw[BF]
def arS(s:bc)(a:Bool)(p:RP)(g:p.from_<=p.at_)(u:p.at_<=s.size):(cI s a p).length<=s.size - p.from_:=by
 fun_induction cI s a p with
 |case1 p c d ih=>have e:=C6 2 2 p g;have h:=kK (t:=2) (p:=p);have f:=sw (s:=s) (i:=p.at_+1) (by rw[d.2];decide);have:=ih e.2.2 (by rw[kK];omega);rw[bG];omega
 |case2 p c d f ih=>have e:=C6 2 0 p g;have h:=kK (t:=0) (p:=p);have j:(pX<|cQ 0 p).from_=(cQ 0 p).at_+1:=rfl;have b:(pX<|cQ 0 p).at_=(cQ 0 p).at_+1:=rfl;have:=ih (by omega) (by rw[b,kK];omega);rw[bG];omega
 |case3 p c d f ih=>have j:(dm p<|p.at_+1).from_=p.from_:=rfl;have b:(dm p<|p.at_+1).at_=p.at_+1:=rfl;have:=ih (by omega) (by omega);omega
 |case4 a p c d f ih=>have e:=C6 0 0 p g;have j:(dm (dz 1 p da) (qR s<|p.at_+1).1).from_=(cQ 0 p).from_:=Yc 1 p;have b:(dm (dz 1 p da) (qR s<|p.at_+1).1).at_=(qR s<|p.at_+1).1:=rfl;have q:=NF s<|p.at_+1;have h:=kK (t:=0) (p:=p);have m:=C6 1 (qT s<|p.at_+1) (dm (dz 1 p da) (qR s<|p.at_+1).1) (by omega);have n:=kK (t:=qT s<|p.at_+1) (p:=dm (dz 1 p da) (qR s<|p.at_+1).1);have r:=RR (s:=s) (i:=p.at_+1) (by omega);have:=ih m.2.2 (by rw[kK,b];exact r);rw[bG,bG];omega
 |case5 a p c d f k ih=>have e:=C6 0 0 p g;have j:(dm (dz 2 p da)<|bY s<|p.at_+2).from_=(cQ 0 p).from_:=Yc 2 p;have b:(dm (dz 2 p da)<|bY s<|p.at_+2).at_=bY s (p.at_+2):=rfl;have q:=G7 s<|p.at_+2;have h:=kK (t:=0) (p:=p);have l:=sw (s:=s) (i:=p.at_+1) (by rw[k.2];decide);have m:=C6 2 0 (dm (dz 2 p da)<|bY s<|p.at_+2) (by omega);have n:=kK (t:=0) (p:=dm (dz 2 p da)<|bY s<|p.at_+2);have v:=NH (s:=s) (i:=p.at_+2) (by omega);have:=ih m.2.2 (by rw[kK,b];omega);rw[bG,bG];omega
 |case6 a p c d f k l ih=>have e:=C6 0 0 p g;have j:=Yc 2 p;have b:=NW (hd:=2) (p:=p) (st:=da);have h:=kK (t:=0) (p:=p);have o:=sw (s:=s) (i:=p.at_+1) (by rw[l.2];decide);have:=ih (by omega) (by omega);rw[bG];omega
 |case7 a p c d f k l o ih=>have e:=C6 0 0 p g;have h:=kK (t:=0) (p:=p);have j:(pX<|cQ 0 p).from_=(cQ 0 p).at_+1:=rfl;have b:(pX<|cQ 0 p).at_=(cQ 0 p).at_+1:=rfl;have:=ih (by omega) (by rw[b,kK];omega);rw[bG];omega
 |case8 a p c d f k l o ih=>have j:(dm p<|p.at_+1).from_=p.from_:=rfl;have b:(dm p<|p.at_+1).at_=p.at_+1:=rfl;have:=ih (by omega) (by omega);omega
 |case9 a p c=>have e:=C6 (if a=db then 2 else 0) 0 p g;have h:=kK (t:=0) (p:=p);omega
def AH(s:bc):(cO s).length<=600:=by unfold cO;split;have:=arS s da AQ (au _)<|lB _;omega;simp
def Co(n:Int)(l:List PR):List PR:=if 0<n/\n<l.length then l.take n.toNat else l
def Zm {s:bc}{n:Int}{l:List PR}(h:(l=cO s/\FA n l)∨(l<+:cO s/\IV n l)):l=Co n (cO s):=by
 have i:=AH s;unfold Co;rcases h with⟨rfl,a,c⟩|⟨b,a,c⟩;rw[ai<|by rintro⟨f,g⟩;exact a ⟨by omega,by omega⟩];have j:=b.length_le;have d:(l.length:Int)=n:=by rcases a with h|h<;>omega
 have e:=List.prefix_iff_eq_take.1 b;split;rw[<-d,Bg];exact e;rw[e,jY<|by omega]
def Mc(l:List PR)(t:PR):kL (l++[t])=kL l++[Y Z t.line,Y Z t.kind,Y Z t.from_,Y Z t.dR,Y Z t.body,Y Z t.end_]:=by simp[kL]
def alI(s:bc)(a:s.size<=600):(gw s (dM s 0) 0 0).length<=600:=by have h:=AH s;unfold cO at h;rw[aj a]at h;rw[<-RI];exact h
def N3(s:bc)(a:s.size<=600):cO s=gw s (dM s 0) 0 0:=by unfold cO;rw[aj a];exact RI s
def Sh {p b a:Nat}(h:b<=a):b<=wi p b a/\wi p b a<=a:=by unfold wi;split;omega;split<;>omega
def TC.drop {s:bc}:∀{l:List Tk}{p:Nat}(i:Nat),TC s p l->∃q,p<=q/\TC s q (l.drop i)
 |l,p,0,h=>⟨p,au _,h⟩
 |[],p,i+1,_=>⟨p,au _,by simp[TC]⟩
 |t::ts,p,i+1,h=>by obtain⟨c,d,e,f,g,a⟩:=h;obtain⟨q,j,b⟩:=TC.drop i a;exact⟨q,by omega,b⟩
def Tryz.aeA:(prog.info? 83).map (λi=>(i.zero,i.size,i.bytes))=V (V<|df #[Y Z 0,Y Z 0,Y Z 0,Y Z 0,Y Z 0,Y Z 0],6,48):=by kernel_rfl
def Jf(s:bc):List PR:=if s.size<=600 then gw s (dM s 0) 0 0 else []
def P9(s:bc):Jf s=cO s:=by unfold Jf;split;rename_i h;exact(N3 s h).symm;rename_i h;unfold cO;rw[ai h]
structure tQ(s:bc)(all:List PR)(o:List PR)(t:Tk)(ts:List Tk)(ln bg fr p:Nat):Prop where
 UJ:bg<=t.T
 Rm:ln<=bg
 go:p<=t.T->bg<=fr/\fr<=p/\o++(lQ s t.k t.T t.B t.E ln bg fr p++gw s ts (jR s t.T ln bg p).1 (jR s t.T ln bg p).2)=all
 done:¬p<=t.T->o++gw s ts ln bg=all
section
variable{s:ByteArray}{all o:List PR}{t:Tk}{ts:List Tk}{ln bg fr p:Nat}
def tQ.start(h:o++gw s (t::ts) ln bg=all)(a:bg<=t.F)(hF:t.F<t.T)(b:ln<=bg):tQ s all o t ts ln bg t.F t.F:=
 ⟨by omega,b,λ_=>⟨a,au _,h⟩,λc=>absurd (gV hF) c⟩
def tQ.step(h:tQ s all o t ts ln bg fr p)(a:p<t.T)(c:¬bt s p=10):tQ s all o t ts ln bg fr (p+1):=by obtain⟨d,f,b⟩:=h.go (by omega);rw[Cj a c,C8 a c]at b;exact⟨h.UJ,h.Rm,λ_=>⟨d,by omega,b⟩,λe=>absurd a e⟩
def tQ.feed(h:tQ s all o t ts ln bg fr p)(a:p<t.T)(c:bt s p=10):tQ s all (o++dZ ln t.k bg fr p t.B t.E) t ts (ln+1) (p+1) (p+1) (p+1):=by obtain⟨e,f,b⟩:=h.go (by omega);rw[Ht a c,Ji a c]at b;have:=h.Rm;exact⟨a,by omega,λ_=>⟨au _,au _,by rw[<-b];simp only[dY]⟩,λd=>absurd a d⟩
def tQ.stop(h:tQ s all o t ts ln bg fr p)(e:p=t.T):tQ s all (o++dZ ln t.k bg fr p t.B t.E) t ts ln bg fr (p+1):=by obtain⟨b,c,a⟩:=h.go (by omega);rw[Ci<|by omega,Jh<|by omega]at a;exact⟨h.UJ,h.Rm,λd=>by omega,λ_=>by rw[<-a];simp only[dY]⟩
def tQ.len(h:tQ s all o t ts ln bg fr p):o.length<=all.length:=by by_cases a:p<=t.T;rw[<-(h.go a).2.2];simp;rw[<-h.done a];simp
end
def SY {c k b a p B E:Nat}(h:¬a<p):dZ c k b a p B E=[]:=ai h
def SK {d k a b p B E:Nat}(h:b<p)(c:k=0):dZ d k a b p B E=[⟨d,k,b - a,p - a,0,0⟩]:=by unfold dZ;rw[aj h,aj c,aj c]
def Tt {ln k bg a p B E:Nat}(h:a<p)(b:k≠0):dZ ln k bg a p B E=[⟨ln,k,a - bg,p - bg,wi B a p - bg,wi E a p - bg⟩]:=by unfold dZ;rw[aj h,ai b,ai b]
def atp {w:cw}{B g a:Nat}{l:List Tk}{e:TypeId}(h:w.ownsRow B e 5 (.slice (V<|S g 0 U) l.length a) l.length<|mR l)(i:Nat)(b:i<l.length):w.cell? (S g (i*5) U)=V (Y Z l[i].k)/\w.cell? (S g (i*5+1) U)=V (Y Z l[i].F)/\w.cell? (S g (i*5+2) U)=V (Y Z l[i].T)/\w.cell? (S g (i*5+3) U)=V (Y Z l[i].B)/\w.cell? (S g (i*5+4) U)=V (Y Z l[i].E):=by obtain⟨c,d,f,j,m⟩:=Zl l i b;exact⟨by rw[cT h (i*5)<|by omega];exact c,by rw[cT h (i*5+1)<|by omega];exact d,by rw[cT h (i*5+2)<|by omega];exact f,by rw[cT h (i*5+3)<|by omega];exact j,by rw[cT h (i*5+4)<|by omega];exact m⟩
def R8 {W j:cw}{B b:Nat}{e:TypeId}{z n:Nat}{v:cJ}{r:List cJ}{c:Array cJ}{T:TypeId}{o:Obj}{f:Nat×Nat}(q:W.ownsRow B e z v n r)(a:W.1[b]? =V (bi c T f))(m:T≠e)(p:(W.alloc o).grownBy j v.ownBlock):j.1[b]? =V (bi c T f):=by have i:b<W.1.size:=bO a;rw[p.block b (by simp;omega) λh=> ?_];exact(dh _ _ _ i).trans a;rcases q.2 with⟨rfl,_⟩|⟨g,k,l,rfl,_,d,_⟩;simp[Value.ownBlock]at h;simp only[Value.ownBlock,CZ]at h;subst h;rw[a]at d;simp only[CZ,Obj.cells.injEq]at d;exact m d.2.1
def YG(s:bc)(w:cw):cP prog 50 #[cd s] w λe w'=>∃v,e=bj v/\w'.ownsRow w.1.size 83 6 v (Jf s).length (kL<|Jf s)/\cD w.1.size w w':=by
 unfold Jf;by_cases hz:s.size<=600;case neg=>
  rw[ai hz];have aB:(s.size:Int)>600:=by omega
  clear hz;go_enter func50,ntmps50;go_wp2;go_ret;exact⟨_,rfl,fh _ _ _ _,aA _ _⟩
 case pos=>
  rw[aj hz];have aB:¬(s.size:Int)>600:=by omega
  obtain⟨iT,vY,Ao⟩:∃i,prog.info? 83=V i/\(i.zero,i.size,i.bytes)=(V<|df #[Y Z 0,Y Z 0,Y Z 0,Y Z 0,Y Z 0,Y Z 0],6,48):=by simpa using Tryz.aeA
  simp only[IQ]at Ao;obtain⟨wF,wG,wH⟩:=Ao;have S6:=ah<|alI s hz;have TJ:=ah<|tT s 0;have qY:=atj s w (by omega);obtain⟨J,am⟩:=ac<|dM s 0;rw[<-am]at S6 TJ qY ⊢;clear am;obtain⟨S,h⟩:=ac<|gw s J 0 0;have OA:=ah h.symm;rw[<-h]at S6 ⊢;clear h;have az:=TJ.out.len;go_enter func50,ntmps50;go_wp2_with fail;refine qY.mono ?_;clear qY;rintro ev r ⟨tv,rfl,m,T⟩;obtain⟨ta,tc,rfl⟩:=fC m;have CN:=ah m;have aD:=ah T;have an:=T.size;clear m T;obtain⟨n,hn⟩:=ac J.length;rw[<-hn]at CN az ⊢;have HN:=ah hn;clear hn;go_wp2;go_loopg [3,5,6,7,8,9,10,11] n (λgk ov lv bv iv _ _ _ _ W=>∃(i f g:Nat)(o:List PR),i<=n/\gk=n - i/\iv=Y Z i/\lv=Y Z f/\bv=Y Z g/\f<=g/\TC s g (J.drop i)/\o++gw s (J.drop i) f g=S/\W.ownsRow r.1.size 83 6 ov o.length (kL o)/\cD r.1.size r W);exact⟨0,0,0,[],by omega,rfl,rfl,rfl,rfl,by omega,TJ,OA,fh _ _ _ _,aA _ _⟩
  rename cw=>wo
  obtain⟨i,f,g,o,hi,rfl,rfl,rfl,rfl,af,BU,h,a,G⟩:=hrel;obtain⟨oa,oc,rfl⟩:=fC a;by_cases ay:i<n
  .have U:i<J.length:=(by rw[<-HN.out];exact ay);have m:=jc CN G;obtain⟨tg,aL,al,aI,_,aJ⟩:=jy m (by omega);simp only[lY,lq]at al;obtain⟨rfl,rfl⟩:=al;have ak:=atp (by rw[HN.out]at m;exact m) i U;have ae:J.drop i=J[i]::J.drop (i+1):=lV U;rw[ae]at BU h;generalize J[i]=t at*;obtain⟨q,tF,A,k,l⟩:=t;simp only at ak;obtain⟨r0,r1,r2,r3,r4⟩:=ak;obtain⟨h1,h2,h3,h4,h5,h6⟩:=BU;simp only at h1 h2 h3 h4 h5 h6;have ap:=ah h6;obtain⟨Zo,WM⟩:=ac<|J.drop<|i+1;have ao:=ah WM;rw[<-WM]at h;have HP:=ah<|tQ.start h h1 h2 af;have HB:=ah G;have M:=ah a;have z:=G.size;have ax:(i:Int)<(n:Int):=(by omega);clear ae h6 WM h a G m U;go_wp2;go_loopg [3,5,6,9,10,11] (s.size+1 - tF) (λgk ov lv bv fv pv _ W=>∃(f g d p:Nat)(o:List PR),p<=A+1/\gk=s.size+1 - p/\lv=Y Z f/\bv=Y Z g/\fv=Y Z d/\pv=Y Z p/\tQ s S o ⟨q,tF,A,k,l⟩ Zo f g d p/\d<=A/\W.ownsRow r.1.size 83 6 ov o.length (kL o)/\cD r.1.size r W/\W.1[wo.1.size]? =V (bi #[Y Z q,Y Z tF,Y Z A,Y Z k,Y Z l] 125 (0,0)));exact⟨f,g,tF,tF,o,by omega,rfl,rfl,rfl,rfl,rfl,HP,by omega,lZ M _,HB.out.alloc z _,World.alloc_heap_new _ _⟩
   rename cw=>wq
   clear M HB HP r0 r1 r2 r3 r4 af;obtain⟨f,g,d,p,o,hp,rfl,rfl,rfl,rfl,rfl,N,aM,a,G,K⟩:=hrel;obtain⟨qa,qc,rfl⟩:=fC a;have aN:=N.len;have aH:=S6.out;have P:=ah N;have O:=ah G;have Q:=ah K;have aw:=N.UJ;have aq:=N.Rm;have z:=G.size;have aO:wo.1.size<wq.1.size:=bO K;have c0:=cell_of K 0;have c1:=cell_of K 1;have c2:=cell_of K 2;have c3:=cell_of K 3;have c4:=cell_of K 4;simp only[jW,mZ,kE]at c0 c1 c2 c3 c4;by_cases ad:p<=A
   .obtain⟨C,L,_⟩:=N.go ad;have ar:(p:Int)<=(A:Int):=(by omega);clear N G K;by_cases Q8:p<A
    .have ag:p<s.size:=(by omega);have av:(p:Int)<(A:Int):=(by omega);have ug:=pV ag;obtain⟨c,hc⟩:∃c,s[p]'ag=c:=⟨_,rfl⟩
     rw[hc]at ug;have aF:(p:Int)<(s.size:Int):=(by omega);by_cases u:bt s p=10
     .have Fj:(c.toNat:Int)=10:=(by rw[<-ug,u]);have A6:=ah u;clear ug u;have u:=A6;by_cases sN:d<p
      .by_cases X:q=0
       .have MM:(p:Int)>(d:Int):=(by omega);have aa:¬(q:Int)>0:=(by omega);have HK:=ah X;clear X;go_wp2_with(at_builtin;refine Fv _ rfl _ _ 80 rfl r.1.size 83 iT _ 6 48 underlying80 vY wF wG wH rfl (by decide) (by decide) _ _ _ rfl (lZ a _) [_,_,_,_,_,_] _ _ rfl (by simp) rfl (by simp[Value.oneCell']) (by omega) (by simp;omega) ?_);intro v2 H b j;have x:=R8 a Q (by decide) j;have D:dd (cD r.1.size r H):=(O.out.alloc z _).grown j (by simp;omega) (λy hy=>(a.lt y hy).1);have d2:=cell_of x 2;simp only[jW,mZ,kE]at d2;have I:=ah x;have F:dd (H.ownsRow r.1.size 83 6 v2 (o++dZ f q g d p k l).length (kL<|o++dZ f q g d p k l)):=(by show World.ownsRow _ _ _ _ _ _ _;rw[SK sN HK.out,Mc,bG];simp only[zQ C,zQ<|bM C L,Int.ofNat_zero];exact b);clear b j x;go_wp2;go_roundg (s.size+1 - (p+1));exact⟨f+1,p+1,p+1,p+1,o++dZ f q g d p k l,by omega,rfl,by go_num,by go_num,by go_num,by go_num,P.out.feed Q8 A6,by omega,F,D,I⟩;omega
       have MM:(p:Int)>(d:Int):=(by omega);have aa:(q:Int)>0:=(by omega);have TQ:dd _:=Si k d p;have TR:dd _:=Si l d p;have ab:=Sh (p:=k) L;have Nk:=Sh (p:=l) L;have KF:=Tt (ln:=f) (bg:=g) (B:=k) (E:=l) sN X;generalize wi k d p=wb at*;generalize wi l d p=we at*;obtain⟨ZI,aC⟩:=ab;obtain⟨ZJ,aE⟩:=Nk;have SR:dd _:=KF;clear KF;go_wp2_with fail;refine(TQ _).mono ?_;rintro ev wx ⟨rfl,rfl⟩;go_wp2_with fail;refine(TR _).mono ?_;rintro ev wx ⟨rfl,rfl⟩;go_wp2_with(at_builtin;refine Fv _ rfl _ _ 80 rfl r.1.size 83 iT _ 6 48 underlying80 vY wF wG wH rfl (by decide) (by decide) _ _ _ rfl (lZ a _) [_,_,_,_,_,_] _ _ rfl (by simp) rfl (by simp[Value.oneCell']) (by omega) (by simp;omega) ?_);intro v2 H b j;have x:=R8 a Q (by decide) j;have D:dd (cD r.1.size r H):=(O.out.alloc z _).grown j (by simp;omega) (λy hy=>(a.lt y hy).1);have d2:=cell_of x 2;simp only[jW,mZ,kE]at d2;have I:=ah x;have F:dd (H.ownsRow r.1.size 83 6 v2 (o++dZ f q g d p k l).length (kL<|o++dZ f q g d p k l)):=(by show World.ownsRow _ _ _ _ _ _ _;rw[SR.out,Mc,bG];simp only[zQ C,zQ<|bM C L,zQ<|bM C ZI,zQ<|bM C ZJ];exact b);clear b j x;go_wp2;go_roundg (s.size+1 - (p+1));exact⟨f+1,p+1,p+1,p+1,o++dZ f q g d p k l,by omega,rfl,by go_num,by go_num,by go_num,by go_num,P.out.feed Q8 A6,by omega,F,D,I⟩;omega
      have MM:¬(p:Int)>(d:Int):=(by omega);have F:dd (wq.ownsRow r.1.size 83 6 (R qa o.length qc) (o++dZ f q g d p k l).length (kL<|o++dZ f q g d p k l)):=(by show World.ownsRow _ _ _ _ _ _ _;rw[SY sN,mH];exact a);have D:dd _:=O.out;have I:dd _:=Q.out;clear a;go_wp2;go_roundg (s.size+1 - (p+1));exact⟨f+1,p+1,p+1,p+1,o++dZ f q g d p k l,by omega,rfl,by go_num,by go_num,by go_num,by go_num,P.out.feed Q8 A6,by omega,F,D,I⟩;omega
     have Fj:((c.toNat:Int)==10)=da:=(by rw[ug]at u;simpa using u);have aK:((c.toNat:Int) !=10)=db:=(by rw[ug]at u;simpa using u);have M:=ah a;have A6:=ah u;clear ug u a;go_wp2;go_roundg (s.size+1 - (p+1));exact⟨f,g,d,p+1,o,by omega,rfl,rfl,rfl,rfl,by go_num,P.out.step Q8 A6,by omega,M,O,Q⟩;omega
    have Tg:dd (p=A):=(by show p=A;omega);have av:¬(p:Int)<(A:Int):=(by omega);by_cases sN:d<p
    .by_cases X:q=0
     .have MM:(p:Int)>(d:Int):=(by omega);have aa:¬(q:Int)>0:=(by omega);have HK:=ah X;clear X;go_wp2_with(at_builtin;refine Fv _ rfl _ _ 80 rfl r.1.size 83 iT _ 6 48 underlying80 vY wF wG wH rfl (by decide) (by decide) _ _ _ rfl (lZ a _) [_,_,_,_,_,_] _ _ rfl (by simp) rfl (by simp[Value.oneCell']) (by omega) (by simp;omega) ?_);intro v2 H b j;have x:=R8 a Q (by decide) j;have D:dd (cD r.1.size r H):=(O.out.alloc z _).grown j (by simp;omega) (λy hy=>(a.lt y hy).1);have d2:=cell_of x 2;simp only[jW,mZ,kE]at d2;have I:=ah x;have F:dd (H.ownsRow r.1.size 83 6 v2 (o++dZ f q g d p k l).length (kL<|o++dZ f q g d p k l)):=(by show World.ownsRow _ _ _ _ _ _ _;rw[SK sN HK.out,Mc,bG];simp only[zQ C,zQ<|bM C L,Int.ofNat_zero];exact b);clear b j x;go_wp2;go_roundg (s.size+1 - (p+1));exact⟨f,g,d,p+1,o++dZ f q g d p k l,by omega,rfl,rfl,rfl,rfl,by go_num,P.out.stop Tg,by omega,F,D,I⟩;omega
     have MM:(p:Int)>(d:Int):=(by omega);have aa:(q:Int)>0:=(by omega);have TQ:dd _:=Si k d p;have TR:dd _:=Si l d p;have ab:=Sh (p:=k) L;have Nk:=Sh (p:=l) L;have KF:=Tt (ln:=f) (bg:=g) (B:=k) (E:=l) sN X;generalize wi k d p=wb at*;generalize wi l d p=we at*;obtain⟨ZI,aC⟩:=ab;obtain⟨ZJ,aE⟩:=Nk;have SR:dd _:=KF;clear KF;go_wp2_with fail;refine(TQ _).mono ?_;rintro ev wx ⟨rfl,rfl⟩;go_wp2_with fail;refine(TR _).mono ?_;rintro ev wx ⟨rfl,rfl⟩;go_wp2_with(at_builtin;refine Fv _ rfl _ _ 80 rfl r.1.size 83 iT _ 6 48 underlying80 vY wF wG wH rfl (by decide) (by decide) _ _ _ rfl (lZ a _) [_,_,_,_,_,_] _ _ rfl (by simp) rfl (by simp[Value.oneCell']) (by omega) (by simp;omega) ?_);intro v2 H b j;have x:=R8 a Q (by decide) j;have D:dd (cD r.1.size r H):=(O.out.alloc z _).grown j (by simp;omega) (λy hy=>(a.lt y hy).1);have d2:=cell_of x 2;simp only[jW,mZ,kE]at d2;have I:=ah x;have F:dd (H.ownsRow r.1.size 83 6 v2 (o++dZ f q g d p k l).length (kL<|o++dZ f q g d p k l)):=(by show World.ownsRow _ _ _ _ _ _ _;rw[SR.out,Mc,bG];simp only[zQ C,zQ<|bM C L,zQ<|bM C ZI,zQ<|bM C ZJ];exact b);clear b j x;go_wp2;go_roundg (s.size+1 - (p+1));exact⟨f,g,d,p+1,o++dZ f q g d p k l,by omega,rfl,rfl,rfl,rfl,by go_num,P.out.stop Tg,by omega,F,D,I⟩;omega
    have MM:¬(p:Int)>(d:Int):=(by omega);have F:dd (wq.ownsRow r.1.size 83 6 (R qa o.length qc) (o++dZ f q g d p k l).length (kL<|o++dZ f q g d p k l)):=(by show World.ownsRow _ _ _ _ _ _ _;rw[SY sN,mH];exact a);have D:dd _:=O.out;have I:dd _:=Q.out;clear a;go_wp2;go_roundg (s.size+1 - (p+1));exact⟨f,g,d,p+1,o++dZ f q g d p k l,by omega,rfl,rfl,rfl,rfl,by go_num,P.out.stop Tg,by omega,F,D,I⟩;omega
   have ar:¬(p:Int)<=(A:Int):=(by omega);have M:=ah a;have HD:=ah<|N.done ad;clear N G K a c0 c1 c3 c4;go_wp2;go_roundg (n - (i+1));exact⟨i+1,f,g,o,by omega,rfl,by go_num,rfl,rfl,aq,ap.out.mono aw,by rw[<-ao.out];exact HD.out,M,O⟩;omega
  obtain rfl:i=n:=(by omega);have ax:¬(i:Int)<(i:Int):=(by omega);have ho:o=S:=(by rw[<-h,tC<|by rw[HN.out];exact au _,gw,mH]);subst ho;have HB:=ah G;have M:=ah a;clear a G BU h OA;go_wp2;go_ret;exact⟨_,rfl,ur M an,aD.out.trans<|HB.out.mono an⟩
