import Derived.Test.YtkbinfhclaafhaaGreatDoorW12
namespace Go.Proofs.YtkbinfhclaafhaaGreatDoor
open Go.RowKit
open Go.Proofs.Tryz
set_option maxRecDepth 100000
set_option maxHeartbeats 32000000
set_option linter.all false
open Go.Value renaming int->Y,slice->R,string->cd,bool->ce,tuple->de,agg->df
open Go.IntKind renaming i64->Z
open Option renaming none->U,some->V
open Go.Addr renaming mk->S
open Go.Obj renaming cells->bi
open Go.Ending renaming returned->bj
open Go renaming World->cw,Value->cJ,Calls->cP
open Go.RowKit renaming Below->cD,Hid->dd
open Bool renaming false->da,true->db
def alJ:∀(l:List PR)(i:Nat)(b:i<l.length),(kL l)[i*6]? =V (Y Z l[i].line)/\(kL l)[i*6+1]? =V (Y Z l[i].kind)/\(kL l)[i*6+2]? =V (Y Z l[i].from_)/\(kL l)[i*6+3]? =V (Y Z l[i].dR)/\(kL l)[i*6+4]? =V (Y Z l[i].body)/\(kL l)[i*6+5]? =V (Y Z l[i].end_):=by
 intro l
 induction l with
 |nil=>intro i b;simp at b
 |cons a l ih=>
  intro i b;have e:kL (a::l)=[Y Z a.line,Y Z a.kind,Y Z a.from_,Y Z a.dR,Y Z a.body,Y Z a.end_]++kL l:=by simp[kL]
  cases i with
  |zero=>rw[e];simp
  |succ i=>have:=ih i (by simpa using b);rw[e,show(i+1)*6=i*6+6 by omega];simpa using this
def aqz:∀(l:List PR)(i:Nat)(b:i<l.length),(oF l)[i*5]? =V (Y Z l[i].kind)/\(oF l)[i*5+1]? =V (Y Z l[i].from_)/\(oF l)[i*5+2]? =V (Y Z l[i].dR)/\(oF l)[i*5+3]? =V (Y Z l[i].body)/\(oF l)[i*5+4]? =V (Y Z l[i].end_):=by
 intro l
 induction l with
 |nil=>intro i b;simp at b
 |cons a l ih=>
  intro i b;have e:oF (a::l)=[Y Z a.kind,Y Z a.from_,Y Z a.dR,Y Z a.body,Y Z a.end_]++oF l:=by simp[oF,rN]
  cases i with
  |zero=>rw[e];simp
  |succ i=>have:=ih i (by simpa using b);rw[e,show(i+1)*5=i*5+5 by omega];simpa using this
def uC(w:cw)(g:Nat)(l:List PR):Prop:=∀i (a:i<l.length),w.cell? (S g (i*6) U)=V (Y Z l[i].line)/\w.cell? (S g (i*6+1) U)=V (Y Z l[i].kind)/\w.cell? (S g (i*6+2) U)=V (Y Z l[i].from_)/\w.cell? (S g (i*6+3) U)=V (Y Z l[i].dR)/\w.cell? (S g (i*6+4) U)=V (Y Z l[i].body)/\w.cell? (S g (i*6+5) U)=V (Y Z l[i].end_)
def Ei(w:cw)(g:Nat)(l:List PR):Prop:=∀i (a:i<l.length),w.cell? (S g (i*5) U)=V (Y Z l[i].kind)/\w.cell? (S g (i*5+1) U)=V (Y Z l[i].from_)/\w.cell? (S g (i*5+2) U)=V (Y Z l[i].dR)/\w.cell? (S g (i*5+3) U)=V (Y Z l[i].body)/\w.cell? (S g (i*5+4) U)=V (Y Z l[i].end_)
def FZ(w:cw)(g:Nat)(l:List PR):Prop:=∀i (a:i<l.length),w.cell? (S g i U)=V (Y Z l[i].line)
def P8 {w:cw}{B g a n:Nat}{l:List PR}{e:TypeId}(h:w.ownsRow B e 6 (.slice (V<|S g 0 U) n a) n<|kL l)(o:n=l.length):uC w g l:=by intro i b;obtain⟨c,d,f,j,k,m⟩:=alJ l i b;exact⟨by rw[cT h (i*6)<|by omega];exact c,by rw[cT h (i*6+1)<|by omega];exact d,by rw[cT h (i*6+2)<|by omega];exact f,by rw[cT h (i*6+3)<|by omega];exact j,by rw[cT h (i*6+4)<|by omega];exact k,by rw[cT h (i*6+5)<|by omega];exact m⟩
def RH {w:cw}{B g a n:Nat}{l:List PR}{e:TypeId}(h:w.ownsRow B e 5 (.slice (V<|S g 0 U) n a) n<|oF l)(m:n=l.length):Ei w g l:=by intro i b;obtain⟨c,d,f,j,k⟩:=aqz l i b;exact⟨by rw[cT h (i*5)<|by omega];exact c,by rw[cT h (i*5+1)<|by omega];exact d,by rw[cT h (i*5+2)<|by omega];exact f,by rw[cT h (i*5+3)<|by omega];exact j,by rw[cT h (i*5+4)<|by omega];exact k⟩
def XC {w:cw}{B g a n:Nat}{l:List PR}{e:TypeId}(h:w.ownsRow B e 1 (.slice (V<|S g 0 U) n a) n<|Au l)(c:n=l.length):FZ w g l:=by intro i b;rw[cT h i<|by omega];simp[Au,b]
def uC.take {w:cw}{g:Nat}{l:List PR}(h:uC w g l)(m:Nat):uC w g (l.take m):=by
 intro i b;have a:i<l.length:=by simp at b;omega
 have:=h i a;simpa using this
def uC.below {w b:cw}{g:Nat}{l:List PR}(h:uC w g l)(a:cD w.1.size w b):uC b g l:=by intro i c;obtain⟨d,e,f,j,k,m⟩:=h i c;exact⟨cU a d,cU a e,cU a f,cU a j,cU a k,cU a m⟩
def Ei.below {w b:cw}{g:Nat}{l:List PR}(h:Ei w g l)(a:cD w.1.size w b):Ei b g l:=by intro i c;obtain⟨d,e,f,j,k⟩:=h i c;exact⟨cU a d,cU a e,cU a f,cU a j,cU a k⟩
def FZ.below {w a:cw}{g:Nat}{l:List PR}(h:FZ w g l)(b:cD w.1.size w a):FZ a g l:=λi c=>cU b<|h i c
def asm {s:bc}{k T B E c a b p:Nat}:∀x∈lQ s k T B E c a b p,x.kind=0->x.body=x.end_:=by
 have e:∀c k a b p B E,∀x∈dZ c k a b p B E,x.kind=0->x.body=x.end_:=by intro c k a b p B E x hx f;unfold dZ at hx;split at hx;simp at hx;subst hx;simp only at f;subst f;simp;cases hx
 fun_induction lQ s k T B E c a b p with
 |case1 c a b p d g ih=>intro x hx;rcases ji.1 hx with hx|hx;exact e _ _ _ _ _ _ _ x hx;exact ih x hx
 |case2 c a b p d g ih=>exact ih
 |case3 c a b p d=>exact e _ _ _ _ _ _ _
def EM(s:bc):∀(a:List Tk)(c b:Nat),∀x∈gw s a c b,x.kind=0->x.body=x.end_
 |[],_,_,x,hx=>by cases hx
 |t::a,c,b,x,hx=>by rw[gw]at hx;rcases ji.1 hx with hx|hx;exact asm x hx;exact EM s a _ _ x hx
def Zg(s:bc)(n:Int):∀x∈Co n (cO s),x.kind=0->x.body=x.end_:=by
 have h:∀x∈cO s,x.kind=0->x.body=x.end_:=by rw[<-P9];unfold Jf;split;exact EM s _ _ _;intro x hx;cases hx
 intro x hx;unfold Co at hx;split at hx;exact h x<|Lu hx;exact h x hx
def Zh(n:Int)(l:List PR):(Co n l).length<=l.length:=by unfold Co;split;simp;omega;exact au _
def Jv {w:cw}{b j:Nat}{v:cJ}(h:w.cell? (S b j U)=V v):b<w.1.size:=by unfold World.cell? at h;split at h;rename_i a;exact bO a;cases h
def aoU(k a:Int)(s:bc)(oe:cJ)(w:cw)(af:kH w)(ak:10<=w.1.size):cP prog 31 #[df #[Y Z k,Y Z a,cd s,oe]] w λe w'=>e=bj (ce db)/\cD w.1.size w w':=by
 have cM:dd (cD w.1.size w<|w.alloc<|bi #[Y Z k,Y Z a,cd s,oe] 29):=(aA _ _).alloc (au _) _;have HO:dd ((w.alloc<|bi #[Y Z k,Y Z a,cd s,oe] 29).1[w.1.size]? =V (bi #[Y Z k,Y Z a,cd s,oe] 29 (0,0))):=World.alloc_heap_new _ _;have HE:=ah af;have O:=ah ak;clear af ak;obtain⟨L,F⟩:=ac<|cO s;have HL:=ah F;have HQ:=YG s<|w.alloc<|bi #[Y Z k,Y Z a,cd s,oe] 29;rw[P9,<-F]at HQ;have kD:dd _:=HQ;have Ah:L.length<=600:=by rw[F];exact AH s
 clear F HQ;by_cases hc:0<a/\a<L.length
 .obtain⟨m,rfl⟩:∃m:Nat,a=(m:Int):=⟨a.toNat,by omega⟩
  obtain⟨aB,al⟩:=hc;have B:dd (L.take m=Co m (cO s)):=by show _=_;rw[<-HL.out];unfold Co;rw[aj ⟨aB,al⟩];rfl
  have ay:(L.take m).length=m:=by simp;omega
  go_enter func31,ntmps31;go_wp2_with fail;refine jV kD ?_;rintro ev A ⟨v,rfl,G,j⟩;obtain⟨vg,R,rfl,BV,_⟩:=jy G (by omega);obtain⟨vq,WN⟩:=ac<|V ((S vg 0 U):Addr);have P:dd (0<(L.take m).length->∃g,vq=V (S g 0 U)/\(L.take m).length<=R/\uC A g (L.take m)):=λ_=>⟨vg,WN,by omega,(P8 G rfl).take m⟩
  have H:=ah<|cM.out.trans<|j.mono cM.out.size;have x:w.1.size<=A.1.size:=H.out.size;have jf:=ah<|aR j HO;have HP:dd (cP prog 43 #[cd s,Y Z (m:Int)] A λe w'=>∃v1 v2 l,e=bj (de #[v1,v2])/\w'.ownsRow A.1.size 3 1 v1 l.length (Au l)/\w'.ownsRow A.1.size 75 5 v2 l.length (oF l)/\cD A.1.size A w'/\((l=cO s/\FA (m:Int) l)∨(l<+:cO s/\IV (m:Int) l))):=Yx A s (m:Int) (HE.out.below O H)<|bM O x;have o1:=cell_of jf 1;have o2:=cell_of jf 2;simp only[jW,mZ,kE]at o1 o2;clear G j kD HO HL HE O;have aC:¬R=0:=by omega
  obtain⟨N,J⟩:=ac L.length;have D4:=ah J;rw[<-J]at al BV Ah ⊢;clear J;go_wp2_with fail;refine HP.out.mono ?_;rintro ev t ⟨v1,v2,l,rfl,b,c,o,hl⟩;have u:=Zm hl;rw[<-B.out]at u;subst u;obtain⟨x1,c1,rfl⟩:=fC b;obtain⟨x2,c2,rfl⟩:=fC c;have aG:=ah<|H.out.trans<|o.mono x;obtain⟨l,Q⟩:=ac<|(L.take m);rw[<-Q]at B b c P;have X:dd (∀i (hi:i<l.length),l[i].kind=0->l[i].body=l[i].end_):=λi hi=>by have:=Zg s (m:Int) l[i] (by rw[<-B.out];exact nP hi);exact this
  obtain⟨n,p⟩:=ac l.length;have az:n<=600:=by rw[p,B.out];exact bM (Zh _ _)<|AH s
  have HR:dd (0<n->∃g g1 g2,vq=V (S g 0 U)/\x1=V (S g1 0 U)/\x2=V (S g2 0 U)/\n<=R/\n<=c1/\n<=c2/\uC t g l/\FZ t g1 l/\Ei t g2 l):=λr=>by rw[p]at r;obtain⟨g,hg,kR,K⟩:=P.out r;obtain⟨g1,d1,C,ap,_⟩:=jy b r;obtain⟨g2,d2,e2,aq,_⟩:=jy c r;simp only[lY,lq]at C e2;obtain⟨rfl,rfl⟩:=C;obtain⟨rfl,rfl⟩:=e2;exact⟨g,g1,g2,hg,rfl,rfl,by omega,by omega,by omega,K.below o,XC b rfl,RH c rfl⟩
  have nL:=ah p;rw[<-Q,<-p];have I:n=m:=by rw[p,Q,ay]
  rw[<-WN];subst I;clear p b c hl o P B HP Q o1 o2 WN ay;go_wp2;go_loopg [6,7] n (λgk iv _ W=>∃(q:Nat),q<=n/\gk=n - q/\iv=Y Z q/\cD t.1.size t W);exact⟨0,by omega,rfl,rfl,aA _ _⟩;obtain⟨q,hq,rfl,rfl,f⟩:=hrel;by_cases M:q<n
  .have y:q<l.length:=(by rw[<-nL.out];exact M);obtain⟨g,g1,g2,rfl,rfl,rfl,ao,am,an,hD,F,hP⟩:=HR.out (by omega);obtain⟨d0,d1,d2,d3,d4,d5⟩:=(hD.below f) q y;have l0:=(F.below f) q y;obtain⟨p0,p1,p2,p3,p4⟩:=(hP.below f) q y;have D:=X.out q y;have gl:=Jv l0;have gp:=Jv p0;generalize l[q]=e at*;obtain⟨ae,z,ad,ag,aa,ab⟩:=e;simp only at d0 d1 d2 d3 d4 d5 l0 p0 p1 p2 p3 p4 D;have JH:(q:Int)<(n:Int):=(by omega);have E:=ah f;have T:=f.size;clear f y hD F hP X;by_cases d:z=0
   .have yT:=D d;subst d;subst yT;clear D;go_wp2_with fail;go_quiet(fail);go_wp2_with fail;go_quiet(fail);go_wp2_with fail;go_quiet(fail);go_wp2;go_roundg (n - (q+1));exact⟨q+1,by omega,rfl,by go_num,gY (E.out.alloc T _) _⟩;omega
   have ar:(z:Int)>0:=(by omega);have av:((z:Int)==0)=da:=(by simpa using d);have aw:0<z:=(by omega);have ax:¬z=0:=(by omega);clear D d;go_wp2_with fail;go_quiet(fail);go_wp2_with fail;go_quiet(fail);go_wp2_with fail;go_quiet(fail);go_wp2;go_roundg (n - (q+1));exact⟨q+1,by omega,rfl,by go_num,gY (E.out.alloc T _) _⟩;omega
  obtain rfl:q=n:=(by omega);have JH:¬(q:Int)<(q:Int):=(by omega);have E:=ah f;clear f;go_wp2;go_ret;exact⟨rfl,aG.out.trans<|E.out.mono aG.out.size⟩
 have B:dd (L=Co a (cO s)):=by show _=_;rw[<-HL.out];unfold Co;rw[ai hc]
 by_cases h1:(0:Int)<a
 .go_enter func31,ntmps31;go_wp2_with fail;refine jV kD ?_;rintro ev A ⟨v,rfl,G,j⟩;obtain⟨vq,R,rfl⟩:=fC G;have P:dd (0<L.length->∃g,vq=V (S g 0 U)/\L.length<=R/\uC A g L):=λr=>by obtain⟨vg,vd,C,BV,_⟩:=jy G r;simp only[lY,lq]at C;obtain⟨rfl,rfl⟩:=C;exact⟨vg,rfl,BV,P8 G rfl⟩
  have H:=ah<|cM.out.trans<|j.mono cM.out.size;have x:w.1.size<=A.1.size:=H.out.size;have jf:=ah<|aR j HO;have HP:=ah<|Yx A s a (HE.out.below O H)<|bM O x;have o1:=cell_of jf 1;have o2:=cell_of jf 2;simp only[jW,mZ,kE]at o1 o2;clear G j kD HO HL HE O;obtain⟨N,J⟩:=ac L.length;have D4:=ah J;rw[<-J]at hc Ah ⊢;clear J;have h2:¬a<(N:Int):=λh=>hc ⟨h1,h⟩
  clear hc;go_wp2_with fail;refine HP.out.mono ?_;rintro ev t ⟨v1,v2,l,rfl,b,c,o,hl⟩;have u:=Zm hl;rw[<-B.out]at u;subst u;obtain⟨x1,c1,rfl⟩:=fC b;obtain⟨x2,c2,rfl⟩:=fC c;have aG:=ah<|H.out.trans<|o.mono x;have X:dd (∀i (hi:i<l.length),l[i].kind=0->l[i].body=l[i].end_):=λi hi=>by have:=Zg s a l[i] (by rw[<-B.out];exact nP hi);exact this
  obtain⟨n,p⟩:=ac l.length;have az:n<=600:=(by rw[p,B.out];exact bM (Zh _ _)<|AH s);have HR:dd (0<n->∃g g1 g2,vq=V (S g 0 U)/\x1=V (S g1 0 U)/\x2=V (S g2 0 U)/\n<=R/\n<=c1/\n<=c2/\uC t g l/\FZ t g1 l/\Ei t g2 l):=λr=>by rw[p]at r;obtain⟨g,hg,kR,K⟩:=P.out r;obtain⟨g1,d1,C,ap,_⟩:=jy b r;obtain⟨g2,d2,e2,aq,_⟩:=jy c r;simp only[lY,lq]at C e2;obtain⟨rfl,rfl⟩:=C;obtain⟨rfl,rfl⟩:=e2;exact⟨g,g1,g2,hg,rfl,rfl,by omega,by omega,by omega,K.below o,XC b rfl,RH c rfl⟩
  have nL:=ah p;rw[<-p];have I:n=N:=(by rw[p,D4.out]);subst I;clear p b c hl o P B HP o1 o2;go_wp2;go_loopg [6,7] n (λgk iv _ W=>∃(q:Nat),q<=n/\gk=n - q/\iv=Y Z q/\cD t.1.size t W);exact⟨0,by omega,rfl,rfl,aA _ _⟩;obtain⟨q,hq,rfl,rfl,f⟩:=hrel;by_cases M:q<n
  .have y:q<l.length:=(by rw[<-nL.out];exact M);obtain⟨g,g1,g2,rfl,rfl,rfl,ao,am,an,hD,F,hP⟩:=HR.out (by omega);obtain⟨d0,d1,d2,d3,d4,d5⟩:=(hD.below f) q y;have l0:=(F.below f) q y;obtain⟨p0,p1,p2,p3,p4⟩:=(hP.below f) q y;have D:=X.out q y;have gl:=Jv l0;have gp:=Jv p0;generalize l[q]=e at*;obtain⟨ae,z,ad,ag,aa,ab⟩:=e;simp only at d0 d1 d2 d3 d4 d5 l0 p0 p1 p2 p3 p4 D;have JH:(q:Int)<(n:Int):=(by omega);have E:=ah f;have T:=f.size;clear f y hD F hP X;by_cases d:z=0
   .have yT:=D d;subst d;subst yT;clear D;go_wp2_with fail;go_quiet(fail);go_wp2_with fail;go_quiet(fail);go_wp2_with fail;go_quiet(fail);go_wp2;go_roundg (n - (q+1));exact⟨q+1,by omega,rfl,by go_num,gY (E.out.alloc T _) _⟩;omega
   have ar:(z:Int)>0:=(by omega);have av:((z:Int)==0)=da:=(by simpa using d);have aw:0<z:=(by omega);have ax:¬z=0:=(by omega);clear D d;go_wp2_with fail;go_quiet(fail);go_wp2_with fail;go_quiet(fail);go_wp2_with fail;go_quiet(fail);go_wp2;go_roundg (n - (q+1));exact⟨q+1,by omega,rfl,by go_num,gY (E.out.alloc T _) _⟩;omega
  obtain rfl:q=n:=(by omega);have JH:¬(q:Int)<(q:Int):=(by omega);have E:=ah f;clear f;go_wp2;go_ret;exact⟨rfl,aG.out.trans<|E.out.mono aG.out.size⟩
 go_enter func31,ntmps31;go_wp2_with fail;refine jV kD ?_;rintro ev A ⟨v,rfl,G,j⟩;obtain⟨vq,R,rfl⟩:=fC G;have P:dd (0<L.length->∃g,vq=V (S g 0 U)/\L.length<=R/\uC A g L):=λr=>by obtain⟨vg,vd,C,BV,_⟩:=jy G r;simp only[lY,lq]at C;obtain⟨rfl,rfl⟩:=C;exact⟨vg,rfl,BV,P8 G rfl⟩
 have H:=ah<|cM.out.trans<|j.mono cM.out.size;have x:w.1.size<=A.1.size:=H.out.size;have jf:=ah<|aR j HO;have HP:=ah<|Yx A s a (HE.out.below O H)<|bM O x;have o1:=cell_of jf 1;have o2:=cell_of jf 2;simp only[jW,mZ,kE]at o1 o2;clear G j kD HO HL HE O;obtain⟨N,J⟩:=ac L.length;have D4:=ah J;rw[<-J]at hc Ah ⊢;clear J;clear hc;go_wp2_with fail;refine HP.out.mono ?_;rintro ev t ⟨v1,v2,l,rfl,b,c,o,hl⟩;have u:=Zm hl;rw[<-B.out]at u;subst u;obtain⟨x1,c1,rfl⟩:=fC b;obtain⟨x2,c2,rfl⟩:=fC c;have aG:=ah<|H.out.trans<|o.mono x;have X:dd (∀i (hi:i<l.length),l[i].kind=0->l[i].body=l[i].end_):=λi hi=>by have:=Zg s a l[i] (by rw[<-B.out];exact nP hi);exact this
 obtain⟨n,p⟩:=ac l.length;have az:n<=600:=(by rw[p,B.out];exact bM (Zh _ _)<|AH s);have HR:dd (0<n->∃g g1 g2,vq=V (S g 0 U)/\x1=V (S g1 0 U)/\x2=V (S g2 0 U)/\n<=R/\n<=c1/\n<=c2/\uC t g l/\FZ t g1 l/\Ei t g2 l):=λr=>by rw[p]at r;obtain⟨g,hg,kR,K⟩:=P.out r;obtain⟨g1,d1,C,ap,_⟩:=jy b r;obtain⟨g2,d2,e2,aq,_⟩:=jy c r;simp only[lY,lq]at C e2;obtain⟨rfl,rfl⟩:=C;obtain⟨rfl,rfl⟩:=e2;exact⟨g,g1,g2,hg,rfl,rfl,by omega,by omega,by omega,K.below o,XC b rfl,RH c rfl⟩
 have nL:=ah p;rw[<-p];have I:n=N:=(by rw[p,D4.out]);subst I;clear p b c hl o P B HP o1 o2;go_wp2;go_loopg [6,7] n (λgk iv _ W=>∃(q:Nat),q<=n/\gk=n - q/\iv=Y Z q/\cD t.1.size t W);exact⟨0,by omega,rfl,rfl,aA _ _⟩;obtain⟨q,hq,rfl,rfl,f⟩:=hrel;by_cases M:q<n
 .have y:q<l.length:=(by rw[<-nL.out];exact M);obtain⟨g,g1,g2,rfl,rfl,rfl,ao,am,an,hD,F,hP⟩:=HR.out (by omega);obtain⟨d0,d1,d2,d3,d4,d5⟩:=(hD.below f) q y;have l0:=(F.below f) q y;obtain⟨p0,p1,p2,p3,p4⟩:=(hP.below f) q y;have D:=X.out q y;have gl:=Jv l0;have gp:=Jv p0;generalize l[q]=e at*;obtain⟨ae,z,ad,ag,aa,ab⟩:=e;simp only at d0 d1 d2 d3 d4 d5 l0 p0 p1 p2 p3 p4 D;have JH:(q:Int)<(n:Int):=(by omega);have E:=ah f;have T:=f.size;clear f y hD F hP X;by_cases d:z=0
  .have yT:=D d;subst d;subst yT;clear D;go_wp2_with fail;go_quiet(fail);go_wp2_with fail;go_quiet(fail);go_wp2_with fail;go_quiet(fail);go_wp2;go_roundg (n - (q+1));exact⟨q+1,by omega,rfl,by go_num,gY (E.out.alloc T _) _⟩;omega
  have ar:(z:Int)>0:=(by omega);have av:((z:Int)==0)=da:=(by simpa using d);have aw:0<z:=(by omega);have ax:¬z=0:=(by omega);clear D d;go_wp2_with fail;go_quiet(fail);go_wp2_with fail;go_quiet(fail);go_wp2_with fail;go_quiet(fail);go_wp2;go_roundg (n - (q+1));exact⟨q+1,by omega,rfl,by go_num,gY (E.out.alloc T _) _⟩;omega
 obtain rfl:q=n:=(by omega);have JH:¬(q:Int)<(q:Int):=(by omega);have E:=ah f;clear f;go_wp2;go_ret;exact⟨rfl,aG.out.trans<|E.out.mono aG.out.size⟩
def aqT(o:o6)(w:cw)(l:o.k=4)(c:kH w)(b:10<=w.1.size):cP prog 18 #[qK o] w λe i=>e=bj (ce db)/\cD w.1.size w i:=by
 obtain⟨k,a,s,h⟩:=o;simp only at l;subst l;unfold qK;have m:dd (∀W,cD w.1.size w W->cP prog 31 #[df #[Y Z 4,Y Z a,cd s,h]] W λe i=>e=bj (ce db)/\cD W.1.size W i):=λW j=>aoU 4 a s h W (c.below b j)<|bM b j.size
 clear c b;go_enter func18,ntmps18;have d:cD w.1.size w (w.alloc<|bi #[Y Z 4,Y Z a,cd s,h] 29):=(aA _ _).alloc (au _) _;have g:=ah d;clear d;go_wp2_with fail;refine(m _ g.out).mono ?_;rintro e p ⟨rfl,f⟩;have n:=ah<|Ox g<|f.mono<|Ow g;clear f;go_wp2;go_ret;exact⟨rfl,n⟩
def aS(s:bc)(a i:Nat):List bc:=
 if i<s.size then if bt s i=10 then s.extract a i::aS s (i+1) (i+1)else aS s a (i+1)else [s.extract a i]
termination_by s.size - i
def XF {s:bc}{a i:Nat}(h:i<s.size)(b:bt s i=10):aS s a i=s.extract a i::aS s (i+1) (i+1):=by rw[aS,aj h,aj b]
def XE {s:bc}{a i:Nat}(h:i<s.size)(b:¬bt s i=10):aS s a i=aS s a (i+1):=by rw[aS,aj h,ai b]
def afc {s:bc}{a i:Nat}(h:¬i<s.size):aS s a i=[s.extract a i]:=by rw[aS,ai h]
def E5(s:bc)(a i:Nat)(h:i<=s.size):(aS s a i).length<=s.size+1 - i:=by
 fun_induction aS s a i with
 |case1 a i b c ih=>have:=ih (by omega);simp only[eU];omega
 |case2 a i b c ih=>have:=ih (by omega);omega
 |case3 a i b=>simp only[eU,kW];omega
def js(l:List bc):List cJ:=l.map λx=>cd x
def afd(l:List bc)(x:bc):js (l++[x])=js l++[cd x]:=by simp[js]
def Tryz.aot:(prog.info? 9).map (λi=>(i.zero,i.size,i.bytes))=V (V<|cd ⟨#[]⟩,1,16):=by kernel_rfl
def aph {w:cw}{B:Nat}{e:TypeId}{z n:Nat}{v:cJ}{d:List cJ}(h:w.ownsRow B e z v n d):∃a b,v=R a n b:=by rcases h.2 with⟨rfl,rfl⟩|⟨g,b,c,rfl,_⟩;exact⟨U,0,rfl⟩;exact⟨_,b,rfl⟩
def agE(s:bc)(w:cw)(hz:s.size<=900000):cP prog 23 #[cd s] w λe N=>∃v,e=bj v/\N.ownsRow w.1.size 9 1 v (aS s 0 0).length (js<|aS s 0 0)/\cD w.1.size w N:=by
 obtain⟨L,M,I⟩:∃i,prog.info? 9=V i/\(i.zero,i.size,i.bytes)=(V<|cd ⟨#[]⟩,1,16):=by simpa using Tryz.aot
 simp only[IQ]at I;obtain⟨O,P,Q⟩:=I;obtain⟨K,z⟩:=ac<|aS s 0 0;rw[<-z];have J:=ah z;clear z;go_enter func23,ntmps23;go_wp2;go_loopg [3,4,5] (s.size+1) (λgk lv X pv W=>∃(l:List bc)(j p:Nat),p<=s.size+1/\gk=s.size+1 - p/\l.length<=p/\j<=p/\X=Y Z j/\pv=Y Z p/\(p<=s.size->l++aS s j p=K)/\(p=s.size+1->l=K)/\W.ownsRow w.1.size 9 1 lv l.length (js l)/\cD w.1.size w W);exact⟨[],0,0,by omega,rfl,by simp,by omega,rfl,rfl,λ_=>J.out.symm,λh=>by omega,fh _ _ _ _,aA _ _⟩;obtain⟨l,j,p,hp,rfl,ab,sN,rfl,rfl,C,B,a,A⟩:=hrel;obtain⟨qa,qc,rfl⟩:=aph a;have o:=ah A;have k:=A.size;clear A;by_cases D:p<=s.size
 .have F:(p:Int)<=(s.size:Int):=by omega
  have r:=ah<|C D;clear C B;by_cases g:p<s.size
  .have ad:((p:Int)==(s.size:Int))=da:=(by simp;omega);have U:(p:Int)<(s.size:Int):=(by omega);have m:=pV g;obtain⟨c,hc⟩:∃c,s[p]'g=c:=⟨_,rfl⟩
   rw[hc]at m;by_cases d:bt s p=10
   .have S:(c.toNat:Int)=10:=(by rw[<-m,d]);have q:=ah d;clear m d;go_wp2_with(at_builtin;refine rT _ rfl _ _ 42 rfl w.1.size 9 L (cd ⟨#[]⟩) 16 underlying42 M O P Q rfl (by decide) _ _ _ rfl a _ _ rfl rfl (by omega) k ?_);intro H n b f;have u:dd (cD w.1.size w n):=o.out.grown f k (λy G=>(a.lt y G).1);have x:dd (n.ownsRow w.1.size 9 1 H (l.length+1)<|js<|l++[s.extract j p]):=(by show World.ownsRow _ _ _ _ _ _ _;rw[afd];exact b);clear a b f;go_wp2;go_roundg (s.size+1 - (p+1));exact⟨l++[s.extract j p],p+1,p+1,by omega,rfl,by simp;omega,by omega,by go_num,by go_num,λ_=>by rw[<-r.out,XF g q.out,dY];rfl,λh=>by omega,by simpa using x.out,u.out⟩;omega
   have S:((c.toNat:Int)==10)=da:=(by rw[m]at d;simpa using d);have q:=ah d;have t:=ah a;clear m d a;go_wp2;go_roundg (s.size+1 - (p+1));exact⟨l,j,p+1,by omega,rfl,by omega,by omega,rfl,by go_num,λ_=>by rw[<-XE g q.out];exact r.out,λh=>by omega,t,o⟩;omega
  have E:p=s.size:=(by omega);subst E;go_wp2_with(at_builtin;refine rT _ rfl _ _ 42 rfl w.1.size 9 L (cd ⟨#[]⟩) 16 underlying42 M O P Q rfl (by decide) _ _ _ rfl a _ _ rfl rfl (by omega) k ?_);intro H n b f;have u:dd (cD w.1.size w n):=o.out.grown f k (λy G=>(a.lt y G).1);have x:dd (n.ownsRow w.1.size 9 1 H (l.length+1)<|js<|l++[s.extract j s.size]):=by show World.ownsRow _ _ _ _ _ _ _;rw[afd];exact b
  clear a b f;go_wp2;go_roundg (s.size+1 - (s.size+1));exact⟨l++[s.extract j s.size],s.size+1,s.size+1,by omega,rfl,by simp;omega,by omega,by go_num,by go_num,λh=>by omega,λ_=>by rw[<-r.out,afc g],by simpa using x.out,u.out⟩;omega
 have F:¬(p:Int)<=(s.size:Int):=by omega
 have T:l=K:=B (by omega);subst T;have t:=ah a;clear a C B J;go_wp2;go_ret;exact⟨_,rfl,t,o⟩
def oM(w:cw)(v:cJ)(l:List PR):Prop:=∃x c,v=R x l.length c/\(0<l.length->∃g,x=V (S g 0 U)/\l.length<=c/\uC w g l)
def oM.below {w a:cw}{v:cJ}{l:List PR}(h:oM w v l)(d:cD w.1.size w a):oM a v l:=by obtain⟨x,c,rfl,h⟩:=h;exact⟨x,c,rfl,λb=>let⟨g,h1,h2,h3⟩:=h b;⟨g,h1,h2,h3.below d⟩⟩
def Qa {w:cw}{B:Nat}{e:TypeId}{v:cJ}{l:List PR}(h:w.ownsRow B e 6 v l.length<|kL l):oM w v l:=by obtain⟨x,c,rfl⟩:=fC h;refine⟨x,c,rfl,λb=> ?_⟩;obtain⟨g,d,a,f,_⟩:=jy h b;simp only[lY,lq]at a;obtain⟨rfl,rfl⟩:=a;exact⟨g,rfl,f,P8 h rfl⟩
def dF.form {w:cw}{v:cJ}{l:aw}(h:dF w v l):∃x c,v=R x l.length c/\(0<l.length->∃b a,x=V (S b a U)/\bJ w b a l):=by rcases h with⟨rfl,rfl⟩|⟨b,a,d,rfl,e⟩;exact⟨U,0,rfl,λh=>absurd h<|by simp⟩;exact⟨_,d,rfl,λ_=>⟨b,a,rfl,e⟩⟩
def iV(l:List PR)(a:Nat):List PR:=l.filter λx=>x.line==a
def apX {l:List PR}{line i:Nat}(a:i<l.length):iV (l.take<|i+1) line=iV (l.take i) line++(if l[i].line=line then [l[i]]else []):=by rw[pR a];unfold iV;rw[tD];congr 1;by_cases h:l[i].line=line<;>simp[h]
def Ya(l:List PR)(a:Nat):(iV l a).length<=l.length:=Bk _ _
def afJ(l:List PR)(v:cJ)(a:Nat)(w:cw)(Q:l.length<=600)(S:oM w v l):cP prog 79 #[v,Y Z a] w λe I=>∃H,e=bj H/\I.ownsRow w.1.size 83 6 H (iV l a).length (kL<|iV l a)/\cD w.1.size w I:=by
 obtain⟨U,vY,B⟩:∃i,prog.info? 83=V i/\(i.zero,i.size,i.bytes)=(V<|df #[Y Z 0,Y Z 0,Y Z 0,Y Z 0,Y Z 0,Y Z 0],6,48):=by simpa using Tryz.aeA
 simp only[IQ]at B;obtain⟨wF,wG,wH⟩:=B;obtain⟨x,c,rfl,hx⟩:=S;obtain⟨n,z⟩:=ac l.length;have C:=ah z;rw[<-z]at Q hx ⊢;have L:=ah hx;clear z hx;go_enter func79,ntmps79;go_wp2;go_loopg [5,6] n (λgk X N W=>∃(i:Nat),i<=n/\gk=n - i/\N=Y Z i/\W.ownsRow w.1.size 83 6 X (iV (l.take i) a).length (kL<|iV (l.take i) a)/\cD w.1.size w W);exact⟨0,by omega,rfl,rfl,fh _ _ _ _,aA _ _⟩;obtain⟨i,hi,rfl,rfl,b,h⟩:=hrel;obtain⟨qa,qc,rfl⟩:=fC b;have q:=ah h;have j:=h.size;by_cases u:i<n
 .have f:i<l.length:=by rw[<-C.out];exact u
  obtain⟨g,rfl,P,E⟩:=L.out (by omega);obtain⟨d0,d1,d2,d3,d4,d5⟩:=(E.below h) i f;have m:=apX (line:=a) f;have A:(iV (l.take i) a).length<=600:=bM (Ya _ _) (by simp;omega);generalize l[i]=t at*;obtain⟨p,tk,tf,tt,tb,te⟩:=t;simp only at d0 d1 d2 d3 d4 d5 m;obtain⟨o,G⟩:=ac<|iV (l.take i) a;rw[<-G]at m b A ⊢;have D:=ah m;have s:(i:Int)<(n:Int):=by omega
  clear G m h E f;by_cases F:p=a
  .subst F;go_wp2_with(at_builtin;refine Fv _ rfl _ _ 80 rfl w.1.size 83 U _ 6 48 underlying80 vY wF wG wH rfl (by decide) (by decide) _ _ _ rfl b [_,_,_,_,_,_] _ _ rfl rfl rfl (by simp[Value.oneCell']) (by omega) j ?_);intro v2 J d k;have M:dd (cD w.1.size w J):=q.out.grown k j (λy T=>(b.lt y T).1);have r:dd (J.ownsRow w.1.size 83 6 v2 (iV (l.take<|i+1) p).length (kL<|iV (l.take<|i+1) p)):=(by show World.ownsRow _ _ _ _ _ _ _;rw[D.out,aj trivial,Mc,bG];exact d);clear b d k;go_wp2;go_roundg (n - (i+1));exact⟨i+1,by omega,rfl,by go_num,r,M⟩;omega
  have O:((p:Int)==(a:Int))=da:=(by simp;omega);have r:dd (wr.ownsRow w.1.size 83 6 (R qa o.length qc) (iV (l.take<|i+1) a).length (kL<|iV (l.take<|i+1) a)):=by show World.ownsRow _ _ _ _ _ _ _;rw[D.out,ai F,mH];exact b
  clear b;go_wp2;go_roundg (n - (i+1));exact⟨i+1,by omega,rfl,by go_num,r,q⟩;omega
 obtain rfl:i=n:=by omega
 have s:¬(i:Int)<(i:Int):=by omega
 rw[jY<|by rw[C.out];exact au _]at b ⊢;have K:=ah b;clear b h;go_wp2;go_ret;exact⟨_,rfl,K,q⟩
def wd(r:Int):Nat:=if r<128 then 1 else if r<2048 then 2 else if r<65536 then 3 else 4
def ah7(r:Int)(w:cw):cP prog 135 #[Y Z r] w λe d=>e=bj (Y Z (wd r:Nat))/\d=w:=by
 unfold wd;by_cases a:r<128
 .rw[aj a];go_enter func135,ntmps135;go_wp2;go_ret;exact⟨rfl,rfl⟩
 rw[ai a];by_cases b:r<2048
 .rw[aj b];go_enter func135,ntmps135;go_wp2;go_ret;exact⟨rfl,rfl⟩
 rw[ai b];by_cases c:r<65536
 .rw[aj c];go_enter func135,ntmps135;go_wp2;go_ret;exact⟨rfl,rfl⟩
 rw[ai c];go_enter func135,ntmps135;go_wp2;go_ret;exact⟨rfl,rfl⟩
def atX(r:Int):wd r<=4/\1<=wd r:=by unfold wd;split;omega;split;omega;split<;>omega
def dQ:Nat->aw->ba
 |p,[]=>[p]
 |p,r::rs=>p::dQ (p+wd r) rs
def nv(l:ba):List cJ:=l.map λx=>Y Z (x:Nat)
def afF(l:ba)(x:Nat):nv (l++[x])=nv l++[Y Z (x:Nat)]:=by simp[nv]
def Yt(p:Nat)(a:aw):(dQ p a).length=a.length+1:=by
 induction a generalizing p with
 |nil=>rfl
 |cons r a ih=>simp[dQ,ih]
def Yw(f:aw)(v:cJ)(w:cw)(hl:f.length<=1000)(Q:dF w v f):cP prog 133 #[v] w λe A=>∃V,e=bj V/\A.ownsRow w.1.size 3 1 V (f.length+1) (nv<|dQ 0 f)/\cD w.1.size w A:=by
 obtain⟨R,O,S,T,U⟩:=fP Tryz.Dp;obtain⟨x,c,rfl,hx⟩:=Q.form;obtain⟨n,G⟩:=ac f.length;have N:=ah G;rw[<-G]at hl hx ⊢;have HX:=ah hx;clear G hx Q;go_enter func133,ntmps133;go_wp2;go_loopg [3,4,5] n (λgk ov pv gD W=>∃(i p:Nat)(o:ba),i<=n/\gk=n - i/\gD=Y Z i/\pv=Y Z p/\o.length=i/\p<=4*i/\o++dQ p (f.drop i)=dQ 0 f/\W.ownsRow w.1.size 3 1 ov i (nv o)/\cD w.1.size w W);exact⟨0,0,[],by omega,rfl,rfl,rfl,rfl,by omega,rfl,fh _ _ _ _,aA _ _⟩;obtain⟨i,p,o,hi,rfl,rfl,rfl,t,ad,g,a,z⟩:=hrel;obtain⟨qa,qc,rfl⟩:=fC a;have M:=ah z;have j:=z.size;have pP:=ah t;clear t;by_cases F:i<n
 .have k:i<f.length:=by rw[<-N.out];exact F
  obtain⟨b,ae,rfl,P⟩:=HX.out (by omega);have X:=ah P;have m:f.drop i=f[i]::f.drop (i+1):=lV k;have s:f.getD i 0=f[i]:=by rw[aN,aK k];rfl
  have HI:=ah k;obtain⟨r,H⟩:=ac<|f.getD i 0;have HR:=ah H;rw[m,<-s,<-H,dQ]at g;have K:=ah g;have E:(i:Int)<(n:Int):=by omega
  have HW:dd (∀W,cP prog 135 #[Y Z r] W λe A=>e=bj (Y Z (wd r:Nat))/\A=W):=λW=>ah7 r W
  have I:=atX r;clear m s H g P k z;go_wp2_with(at_builtin;refine rT _ rfl _ _ 31 rfl w.1.size 3 R (Y Z 0) 8 underlying31 O S T U rfl (by decide) _ _ _ rfl a _ _ rfl rfl (by omega) j ?_);intro L u d h;have C:cD w.1.size w u:=M.out.grown h j (λy J=>(a.lt y J).1);have B:=ah C;have l:=(X.out.below C) i HI;rw[<-HR.out]at l;have D:dd (u.ownsRow w.1.size 3 1 L (i+1)<|nv<|o++[p]):=by show World.ownsRow _ _ _ _ _ _ _;rw[afF];exact d
  clear a d h C;generalize wd r=q at*;obtain⟨aa,ab⟩:=I;go_wp2_with fail;refine(HW _).mono ?_;rintro ev wx ⟨rfl,rfl⟩;go_wp2;go_roundg (n - (i+1));exact⟨i+1,p+q,o++[p],by omega,rfl,by go_num,by go_num,by simp[pP.out],by omega,by rw[<-K.out];simp,D.out,B.out⟩;omega
 obtain rfl:i=n:=by omega
 have E:¬(i:Int)<(i:Int):=by omega
 rw[tC<|by rw[N.out];exact au _,dQ]at g;have K:=ah g;clear g z;go_wp2_with(at_builtin;refine rT _ rfl _ _ 31 rfl w.1.size 3 R (Y Z 0) 8 underlying31 O S T U rfl (by decide) _ _ _ rfl a _ _ rfl rfl (by omega) j ?_);intro L u d h;have B:dd (cD w.1.size w u):=M.out.grown h j (λy J=>(a.lt y J).1);have D:dd (u.ownsRow w.1.size 3 1 L (i+1)<|nv<|dQ 0 f):=by show World.ownsRow _ _ _ _ _ _ _;rw[<-K.out,afF];exact d
 clear a d h;go_wp2;go_ret;exact⟨_,rfl,D,B⟩
def pI(q:Nat):List PR->Nat->Int
 |[],_=> -1
 |x::xs,k=>if x.from_<=q/\q<x.dR then(k:Int)else pI q xs (k+1)
def af5(l:List PR)(v:cJ)(q:Nat)(w:cw)(G:l.length<=600)(H:oM w v l):cP prog 194 #[v,Y Z q] w λe I=>e=bj (Y Z<|pI q l 0)/\I=w:=by
 obtain⟨x,c,rfl,hx⟩:=H;obtain⟨n,r⟩:=ac l.length;have y:=ah r;rw[<-r]at G hx ⊢;have C:=ah hx;clear r hx;obtain⟨D,m⟩:=ac<|pI q l 0;rw[<-m];have B:=ah m.symm;clear m;go_enter func194,ntmps194;go_wp2;go_loopg [5] n (λgk E W=>∃(i:Nat),i<=n/\gk=n - i/\E=Y Z i/\pI q (l.drop i) i=D/\W=w);exact⟨0,by omega,rfl,rfl,B,rfl⟩;obtain⟨i,J,rfl,rfl,a,rfl⟩:=hrel;by_cases p:i<n
 .have b:i<l.length:=by rw[<-y.out];exact p
  obtain⟨g,rfl,F,d⟩:=C.out (by omega);obtain⟨_,_,d2,d3,_,_⟩:=d i b;rw[lV b,pI]at a;generalize l[i]=t at*;obtain⟨N,M,s,u,K,L⟩:=t;simp only at d2 d3 a;have o:(i:Int)<(n:Int):=by omega
  by_cases z:s<=q
  .have j:(q:Int) ≥ (s:Int):=(by omega);by_cases A:q<u
   .have k:(q:Int)<(u:Int):=(by omega);rw[aj ⟨z,A⟩]at a;subst a;clear d b;go_wp2;go_ret;exact⟨rfl,rfl⟩
   have k:¬(q:Int)<(u:Int):=(by omega);rw[ai λh=>A h.2]at a;have f:=ah a;clear d b a;go_wp2;go_roundg (n - (i+1));exact⟨i+1,by omega,rfl,by go_num,f,rfl⟩;omega
  have j:¬(q:Int) ≥ (s:Int):=(by omega);rw[ai λh=>z h.1]at a;have f:=ah a;clear d b a;go_wp2;go_roundg (n - (i+1));exact⟨i+1,by omega,rfl,by go_num,f,rfl⟩;omega
 obtain rfl:i=n:=by omega
 have o:¬(i:Int)<(i:Int):=by omega
 rw[tC<|by rw[y.out];exact au _,pI]at a;subst a;go_wp2;go_ret;exact⟨rfl,rfl⟩
def l5(s:bc)(p:Nat):Nat:=if p<s.size then if _h:aQ s p=0 then p else l5 s (p+aQ s p)else p
termination_by s.size - p
def Qh {s:bc}{p:Nat}(h:p<s.size)(a:aQ s p=0):l5 s p=p:=by rw[l5,aj h,dif_pos a]
def Qi {s:bc}{p:Nat}(h:p<s.size)(a:aQ s p≠0):l5 s p=l5 s (p+aQ s p):=by conv=>lhs;rw[l5,aj h,dif_neg a]
def U' {s:bc}{p:Nat}(h:¬p<s.size):l5 s p=p:=by rw[l5,ai h]
def tR(s:bc)(p:Nat)(l:aw):Prop:=nQ s p l/\l5 s p=l5 s 0
def tR.start(s:bc):tR s 0 []:=⟨nQ.start s,rfl⟩
def tR.stop {s:bc}{p:Nat}{l:aw}(h:tR s p l)(a:¬p<s.size):cK s=V l:=h.1.stop a
def tR.bad {s:bc}{p:Nat}{l:aw}(h:tR s p l)(a:p<s.size)(b:aQ s p=0):cK s=U:=h.1.bad a b
def tR.step {s:bc}{p:Nat}{l:aw}(h:tR s p l)(a:p<s.size)(b:aQ s p≠0):tR s (p+aQ s p) (l++[fK s p]):=⟨h.1.step a b,by rw[<-h.2,Qi a b]⟩
def ar8(s:bc)(w:cw)(hs:s.size<=1000):cP prog 67 #[cd s] w λe g=>cD w.1.size w g/\((cK s=U/\l5 s 0<s.size/\e=bj (de #[R U 0 0,Y Z (l5 s 0:Nat)]))∨∃v l,cK s=V l/\l.length<=s.size/\e=bj (de #[v,Y Z (-1)])/\g.ownsRow w.1.size 3 1 v l.length (l.map<|Value.int .i64)):=by
 obtain⟨I,H,u,x,y⟩:=fP Tryz.Dp;go_enter func67,ntmps67;go_wp2;go_loopw [4,5] (λv i wr=>∃(p:Nat)(l:aw),p<=s.size/\i=Y Z p/\tR s p l/\wr.ownsRow w.1.size 3 1 v l.length (l.map<|Value.int .i64)/\cD w.1.size w wr) (λ_ i _=>s.size - (intOf i).toNat);case atStart=>exact⟨0,[],lB _,rfl,tR.start s,fh _ _ _ _,aA _ _⟩
 case round=>
  obtain⟨p,l,hp,rfl,L,b,C⟩:=hrel;have q:=ah L;have ab:=C.size;have ad:l.length<=p:=by obtain⟨f,_,h,_⟩:=L.1;exact h
  clear L;by_cases c:p<s.size
  .have aa:(p:Int)<(s.size:Int):=(by omega);have j:=ahE s p c;have t:(s.extract p s.size).size=s.size - p:=R3 s p;by_cases z:aQ s p=0
   .rw[z]at j;have o:dd (cP prog 112 #[cd<|s.extract p s.size] wr λe g=>e=bj (Y Z 0)/\g=wr):=(by have:=Cm (s.extract p s.size) wr (by omega) (by omega);rw[j]at this;exact this);have J:=ah z;clear j t z;go_wp2_with fail;refine o.out.mono ?_;rintro e g ⟨rfl,rfl⟩;go_wp2;go_ret2;exact⟨C,.inl ⟨q.out.bad c J,by rw[<-q.out.2,Qh c J.out];exact c,by rw[<-q.out.2,Qh c J.out];rfl⟩⟩
   rcases zk s p c z with⟨m,K,r⟩|⟨m,hn,K,S,T,W,r⟩|⟨m,hn,K,S,T,W,h5,h6,r⟩|⟨m,hn,K,S,T,W,h5,h6,h7,h8,r⟩
   .have d:aQ s p≠0:=(by omega);have A:dd (tR s (p+1)<|l++[fK s p]):=m▸q.out.step c d;have B:=ah r;rw[m]at j;have o:dd (cP prog 112 #[cd<|s.extract p s.size] wr λe g=>e=bj (Y Z 1)/\g=wr):=(by have:=Cm (s.extract p s.size) wr (by omega) (by omega);rw[j]at this;exact this);clear j t z d r m q;have D:s[p]'(by omega)=s.get! (p):=(get_eq s (p)<|by omega).symm;have E:((s.get!<|p).toNat:Int)<256:=(by have:=(s.get!<|p).toNat_lt;omega);generalize s.get! (p)=k at*;go_wp2_with fail;refine o.out.mono ?_;rintro e g ⟨rfl,rfl⟩;clear o;go_wp2;refine dN 1 ?_;rw[bB];go_wp2_with(at_builtin;refine Ct _ rfl _ _ 31 rfl w.1.size 3 I (Y Z 0) 8 underlying31 H u x y rfl (by decide) _ _ _ rfl b _ _ rfl rfl (by omega) (by omega) ?_);intro O P a n;clear b;go_wp2;go_roundw;case rel=>exact⟨p+1,_,by omega,by go_num,A,by rw[B.out];simpa using a,C.trans n⟩
    case measure=>simp[intOf];omega
   .have d:aQ s p≠0:=(by omega);have A:dd (tR s (p+2)<|l++[fK s p]):=m▸q.out.step c d;have B:=ah r;rw[m]at j;have o:dd (cP prog 112 #[cd<|s.extract p s.size] wr λe g=>e=bj (Y Z 2)/\g=wr):=(by have:=Cm (s.extract p s.size) wr (by omega) (by omega);rw[j]at this;exact this);clear j t z d r m q;have D:s[p]'(by omega)=s.get! (p):=(get_eq s (p)<|by omega).symm;have E:((s.get!<|p).toNat:Int)<256:=(by have:=(s.get!<|p).toNat_lt;omega);have F:s[p+1]'(by omega)=s.get! (p+1):=(get_eq s (p+1)<|by omega).symm;have G:((s.get!<|p+1).toNat:Int)<256:=(by have:=(s.get!<|p+1).toNat_lt;omega);generalize s.get! (p)=k at*;generalize s.get! (p+1)=Q at*;have X:bits .and .i64 (k.toNat:Int) 31=((k.toNat%32:Nat):Int):=Ur ⟨k.toNat,k.toNat_lt⟩;go_wp2_with fail;refine o.out.mono ?_;rintro e g ⟨rfl,rfl⟩;clear o;go_wp2;refine dN 2 ?_;rw[bB];go_wp2;rw[bB];go_wp2_with(at_builtin;refine Ct _ rfl _ _ 31 rfl w.1.size 3 I (Y Z 0) 8 underlying31 H u x y rfl (by decide) _ _ _ rfl b _ _ rfl rfl (by omega) (by omega) ?_);intro O P a n;clear b;go_wp2;go_roundw;case rel=>exact⟨p+2,_,by omega,by go_num,A,by rw[B.out];simpa using a,C.trans n⟩
    case measure=>simp[intOf];omega
   .have d:aQ s p≠0:=(by omega);have A:dd (tR s (p+3)<|l++[fK s p]):=m▸q.out.step c d;have B:=ah r;rw[m]at j;have o:dd (cP prog 112 #[cd<|s.extract p s.size] wr λe g=>e=bj (Y Z 3)/\g=wr):=(by have:=Cm (s.extract p s.size) wr (by omega) (by omega);rw[j]at this;exact this);clear j t z d r m q;have D:s[p]'(by omega)=s.get! (p):=(get_eq s (p)<|by omega).symm;have E:((s.get!<|p).toNat:Int)<256:=(by have:=(s.get!<|p).toNat_lt;omega);have F:s[p+1]'(by omega)=s.get! (p+1):=(get_eq s (p+1)<|by omega).symm;have G:((s.get!<|p+1).toNat:Int)<256:=(by have:=(s.get!<|p+1).toNat_lt;omega);have M:s[p+2]'(by omega)=s.get! (p+2):=(get_eq s (p+2)<|by omega).symm;have N:((s.get!<|p+2).toNat:Int)<256:=(by have:=(s.get!<|p+2).toNat_lt;omega);generalize s.get! (p)=k at*;generalize s.get! (p+1)=Q at*;generalize s.get! (p+2)=c2 at*;have X:bits .and .i64 (k.toNat:Int) 15=((k.toNat%16:Nat):Int):=Uo ⟨k.toNat,k.toNat_lt⟩;go_wp2_with fail;refine o.out.mono ?_;rintro e g ⟨rfl,rfl⟩;clear o;go_wp2;refine dN 3 ?_;rw[bB];go_wp2;rw[bB];go_wp2;rw[bB];go_wp2_with(at_builtin;refine Ct _ rfl _ _ 31 rfl w.1.size 3 I (Y Z 0) 8 underlying31 H u x y rfl (by decide) _ _ _ rfl b _ _ rfl rfl (by omega) (by omega) ?_);intro O P a n;clear b;go_wp2;go_roundw;case rel=>exact⟨p+3,_,by omega,by go_num,A,by rw[B.out];simpa using a,C.trans n⟩
    case measure=>simp[intOf];omega
   have d:aQ s p≠0:=(by omega);have A:dd (tR s (p+4)<|l++[fK s p]):=m▸q.out.step c d;have B:=ah r;rw[m]at j;have o:dd (cP prog 112 #[cd<|s.extract p s.size] wr λe g=>e=bj (Y Z 4)/\g=wr):=(by have:=Cm (s.extract p s.size) wr (by omega) (by omega);rw[j]at this;exact this);clear j t z d r m q;have D:s[p]'(by omega)=s.get! (p):=(get_eq s (p)<|by omega).symm;have E:((s.get!<|p).toNat:Int)<256:=(by have:=(s.get!<|p).toNat_lt;omega);have F:s[p+1]'(by omega)=s.get! (p+1):=(get_eq s (p+1)<|by omega).symm;have G:((s.get!<|p+1).toNat:Int)<256:=(by have:=(s.get!<|p+1).toNat_lt;omega);have M:s[p+2]'(by omega)=s.get! (p+2):=(get_eq s (p+2)<|by omega).symm;have N:((s.get!<|p+2).toNat:Int)<256:=(by have:=(s.get!<|p+2).toNat_lt;omega);have We:s[p+3]'(by omega)=s.get! (p+3):=(get_eq s (p+3)<|by omega).symm;have ac:((s.get!<|p+3).toNat:Int)<256:=(by have:=(s.get!<|p+3).toNat_lt;omega);generalize s.get! (p)=k at*;generalize s.get! (p+1)=Q at*;generalize s.get! (p+2)=c2 at*;generalize s.get! (p+3)=c3 at*;have X:bits .and .i64 (k.toNat:Int) 7=((k.toNat%8:Nat):Int):=Us ⟨k.toNat,k.toNat_lt⟩;go_wp2_with fail;refine o.out.mono ?_;rintro e g ⟨rfl,rfl⟩;clear o;go_wp2;refine dN 4 ?_;rw[bB];go_wp2;rw[bB];go_wp2;rw[bB];go_wp2;rw[bB];go_wp2_with(at_builtin;refine Ct _ rfl _ _ 31 rfl w.1.size 3 I (Y Z 0) 8 underlying31 H u x y rfl (by decide) _ _ _ rfl b _ _ rfl rfl (by omega) (by omega) ?_);intro O P a n;clear b;go_wp2;go_roundw;case rel=>exact⟨p+4,_,by omega,by go_num,A,by rw[B.out];simpa using a,C.trans n⟩
   case measure=>simp[intOf];omega
  go_wp2;go_ret2;exact⟨C,.inr ⟨_,l,q.out.stop c,by omega,rfl,b⟩⟩
def tS:List bc->Nat->Option (Nat×Nat)
 |[],_=>U
 |x::xs,i=>match cK x with
  |none=>V (i,l5 x 0)
  |some _=>tS xs<|i+1
def rM:List aw->Nat->Option Nat
 |[],_=>U
 |x::xs,i=>if 300<x.length then V i else rM xs (i+1)
def dA(l:List bc):List aw:=l.map λx=>(cK x).getD []
def cV(s:bc):Int×Int×Int:=
 if 600<s.size then(1, -1, -1)else match tS (aS s 0 0) 0 with
  |some (i,p)=>(2,(i:Nat),(p:Nat))
  |none=>match rM (dA<|aS s 0 0) 0 with
   |some i=>(1,(i:Nat),0)
   |none=>(0,0,0)
def Av(s:bc):cJ:=df #[Y Z (cV s).1,Y Z (cV s).2.1,Y Z (cV s).2.2]
def yJ(w:cw)(B:Nat)(v:cJ)(a:List aw):Prop:=∃b,w.ownsRow B 31 1 v a.length b/\∀j,j<a.length->w.ownsRow B 3 1 (b.getD j undef) (a.getD j []).length ((a.getD j []).map (Value.int .i64))
def yJ.nil(w:cw)(B:Nat):yJ w B (R U 0 0) []:=⟨[],fh _ _ _ _,λj h=>absurd h<|by simp⟩
def yJ.below {w c:cw}{B:Nat}{v:cJ}{b:List aw}(h:yJ w B v b)(a:cD w.1.size w c):yJ c B v b:=by obtain⟨g,d,e⟩:=h;exact⟨g,jc d a,λj f=>jc (e j f) a⟩
def Hl {a:Type}{l m:List a}{d:a}{i:Nat}(h:i<l.length):(l++m).getD i d=l.getD i d:=by rw[aN,aN,uM h]
def Ij {a:Type}{l:List a}{x d:a}{i:Nat}(h:l.length=i):(l++[x]).getD i d=x:=by subst h;rw[aN];simp
def ahF:(3:TypeId)≠31:=by decide
def XD(s:bc)(a i:Nat):∀x∈aS s a i,x.size<=s.size:=by
 fun_induction aS s a i with
 |case1 a i b c ih=>intro x hx;rcases gI.1 hx with rfl|hx;simp;omega;exact ih x hx
 |case2 a i b c ih=>exact ih
 |case3 a i b=>intro x hx;simp at hx;subst hx;simp;omega
def aff(s:bc)(w:cw):cP prog 77 #[cd s] w λe w'=>cD w.1.size w w'/\∃v,e=bj (de #[v,Av s])/\((cV s).1≠0->v=R U 0 0)/\((cV s).1=0->yJ w' (w.1.size+1) v (dA<|aS s 0 0)):=by
 by_cases hz:600<s.size
 .have av:(s.size:Int)>600:=by omega
  have hL:cV s=(1, -1, -1):=aj hz;unfold Av;rw[hL];simp only;go_enter func77,ntmps77;go_wp2;exact bU (v:=de #[R U 0 0,df #[Y Z 1,Y Z (-1),Y Z (-1)]]) (by simp[results,results77,go_sem]) rfl ⟨(aA _ _).alloc (au _) _,_,rfl,λ_=>rfl,λh=>by cases h⟩
 have av:¬(s.size:Int)>600:=by omega
 obtain⟨iI,gZ,al⟩:∃i,prog.info? 31=V i/\(i.zero,i.size,i.bytes)=(V<|R U 0 0,1,24):=by simpa using Tryz.Xb
 simp only[IQ]at al;obtain⟨ia,ic,ig⟩:=al;have ap:=E5 s 0 0 (by omega);have qB:dd (∀x∈aS s 0 0,x.size<=600):=λx hx=>by have:=XD s 0 0 x hx;omega
 have HL:=agE s (w.alloc<|bi #[Y Z 0,Y Z 0,Y Z 0] 47) (by omega);have HF:dd (cV s=match tS (aS s 0 0) 0 with
  |some (i,p)=>(2,((i:Nat):Int),((p:Nat):Int))
  |none=>match rM (dA<|aS s 0 0) 0 with
   |some i=>(1,((i:Nat):Int),0)
   |none=>(0,0,0)):=ai hz
 obtain⟨F,hF⟩:=ac<|cV s;unfold Av;rw[<-hF]at HF ⊢;clear hF;generalize aS s 0 0=c at*;obtain⟨N,hN⟩:=ac c.length;have HN:=ah hN;rw[<-hN]at ap HL;have cM:dd (cD w.1.size w<|w.alloc<|bi #[Y Z 0,Y Z 0,Y Z 0] 47):=(aA _ _).alloc (au _) _;clear hN hz;go_enter func77,ntmps77;go_wp2_with fail;refine HL.mono ?_;clear HL;rintro ev A ⟨lv,rfl,b,C⟩;obtain⟨la,lc,rfl⟩:=fC b;have CN:dd (A.ownsRow (w.1.size+1) 9 1 (R la N lc) N<|js c):=by show World.ownsRow _ _ _ _ _ _ _;simpa using b
 have aD:=ah<|Ox cM<|C.mono<|Ow cM;have oQ:dd (A.1[w.1.size]? =V (bi #[Y Z 0,Y Z 0,Y Z 0] 47 (0,0))):=aR C<|World.alloc_heap_new _ _;have ak:w.1.size+1<=A.1.size:=by have:=C.size;simpa using this
 clear b C;go_wp2;go_loopg [5,6,7,8] N (λgk ov gD _ _ W=>∃(i:Nat),i<=N/\gk=N - i/\gD=Y Z i/\tS (c.drop i) i=tS c 0/\yJ W A.1.size ov (dA<|c.take i)/\cD A.1.size A W);exact⟨0,by omega,rfl,rfl,rfl,yJ.nil _ _,aA _ _⟩
 rename cw=>wa
 obtain⟨i,hi,rfl,rfl,a,g,hb⟩:=hrel;have HB:=ah hb;have ab:=hb.size;by_cases aq:i<N
 .have n:i<c.length:=(by rw[<-HN.out];exact aq);have b:=jc CN hb;obtain⟨lg,aB,I,az,_,ax⟩:=jy b (by omega);simp only[lY,lq]at I;obtain⟨rfl,rfl⟩:=I;have aC:wa.cell? (S lg i U)=V (cd c[i]):=(by rw[cT b i<|by omega];simp[js,n]);have aI:c[i].size<=600:=qB.out _ (nP n);have CO:=ar8 c[i] wa (by omega);have ad:c.drop i=c[i]::c.drop (i+1):=lV n;rw[ad,tS]at a;have ag:dA (c.take<|i+1)=dA (c.take i)++[(cK c[i]).getD []]:=by rw[pR n,dA,gu];rfl
  generalize c[i]=x at*;have qY:=ah ag;obtain⟨o,ho⟩:=ac<|dA<|c.take i;have t:o.length=i:=(by rw[ho];simp[dA];omega);have HO:=ah ho;rw[<-ho]at g;have an:(i:Int)<(N:Int):=(by omega);clear ad ag b n hb ho;go_wp2_with fail;refine CO.mono ?_;clear CO;rintro ev wr ⟨D,VU⟩;have kA:=ah<|HB.out.trans<|D.mono ab;have QK:=kA.out.size;rcases VU with⟨r,ae,rfl⟩|⟨rv,l,z,aE,rfl,f⟩
  .rw[r]at a;have Vz:F=(2,(i:Int),(l5 x 0:Int)):=(by rw[HF.out,<-a]);obtain⟨p,hp⟩:=ac<|l5 x 0;rw[<-hp]at Vz ⊢;have aH:(p:Int) ≥ 0:=(by omega);have d:=aR (kA.out.mono<|au _) oQ.out;have Q:=cell_of d 0;have T:=cell_of d 1;have X:=cell_of d 2;simp only[jW,mZ,kE]at Q T X;have f0:=mM wr w.1.size 0 _ _ d;have f1:=mM wr w.1.size 1 _ _ d;have f2:=mM wr w.1.size 2 _ _ d;have J:=ah Vz;clear a g D d Vz r ae hp;go_wp2;refine bU (v:=de #[R U 0 0,df #[Y Z 2,Y Z i,Y Z p]]) (by simp[results,results77,go_sem,Q,T,X]) rfl ⟨?_,_,by rw[J.out],λ_=>rfl,λh=>by rw[J.out]at h;cases h⟩;exact(((aD.out.trans<|kA.out.mono<|by omega).setCell (au _) _).setCell (au _) _).setCell (au _) _
  rw[z]at a qY;simp only[uV]at qY;simp only at a;have SC:=ah a;have aw:¬((-1:Int) ≥ 0):=(by omega);obtain⟨H,m,M⟩:=g.below D;rw[t]at m M;obtain⟨oa,oc,rfl⟩:=fC m;have P:=ah M;have K:=ah f;obtain⟨ra,rc,rfl⟩:=fC f;have aa:dd (H.length=i):=(by show _=_;have:=m.1;omega);clear a M D g z f;go_wp2_with(at_builtin;refine rT _ rfl _ _ 127 rfl A.1.size 31 iI (R U 0 0) 24 underlying127 gZ ia ic ig rfl (by decide) _ _ _ rfl m _ _ rfl rfl (by omega) QK ?_);intro v2 w2 u E;have aG:dd (cD A.1.size A w2):=kA.out.grown E QK (λy hy=>(m.lt y hy).1);have gG:dd (yJ w2 A.1.size v2<|dA<|c.take<|i+1):=by show yJ _ _ _ _;rw[qY.out,<-HO.out];refine⟨H++[R ra l.length rc],by rw[bG,t];exact u,λj hj=> ?_⟩;rw[bG,t]at hj;by_cases G:j<i;have e1:(H++[Value.slice ra l.length rc]).getD j undef=H.getD j undef:=Hl (by rw[aa.out];exact G);have e2:(o++[l]).getD j []=o.getD j []:=Hl (by rw[t];exact G);rw[e1,e2];exact(P j G).kept E (mP (P j G) m ahF);obtain rfl:j=i:=(by simp at hj;omega);have e1:(H++[Value.slice ra l.length rc]).getD j undef=R ra l.length rc:=Ij aa;have e2:(o++[l]).getD j []=l:=Ij t;rw[e1,e2];exact ur (K.out.kept E<|mP K m ahF) ab
  clear m u E;go_wp2;go_roundg (N - (i+1));exact⟨i+1,by omega,rfl,by go_num,SC,gG,aG⟩;omega
 obtain rfl:i=N:=(by omega);have an:¬(i:Int)<(i:Int):=(by omega);rw[tC<|by rw[HN.out];exact au _,tS]at a;rw[jY<|by rw[HN.out];exact au _]at g;have fG:dd (F=match rM (dA c) 0 with
  |some i=>(1,((i:Nat):Int),0)
  |none=>(0,0,0)):=by show _=_;rw[HF.out,<-a]
 obtain⟨H,m,M⟩:=g;have f:(dA c).length=i:=(by simp[dA,HN.out]);rw[f]at m M;obtain⟨oa,oc,rfl⟩:=fC m;have D8:=ah m;have P:=ah M;have K:=ah f;have d:=aR HB oQ;have O:=ah d;obtain⟨RL,Gp⟩:=ac<|dA c;have Tq:=ah Gp;rw[<-Gp]at fG P K;clear Gp;clear a m M f hb d;go_wp2;go_loopg [9] i (λgk kv W=>∃(k:Nat),k<=i/\gk=i - k/\kv=Y Z k/\rM (RL.drop k) k=rM RL 0/\W=wa);exact⟨0,by omega,rfl,rfl,rfl,rfl⟩;obtain⟨k,hk,rfl,rfl,B,rfl⟩:=hrel;have Q:=cell_of O 0;have T:=cell_of O 1;have X:=cell_of O 2;simp only[jW,mZ,kE]at Q T X;have f0:=mM wr w.1.size 0 _ _ O.out;have f1:=mM wr w.1.size 1 _ _ O.out;have f2:=mM wr w.1.size 2 _ _ O.out;by_cases af:k<i
 .obtain⟨og,od,MV,aF,_,ay⟩:=jy D8.out (by omega);simp only[lY,lq]at MV;obtain⟨rfl,rfl⟩:=MV;have JA:k<RL.length:=(by rw[K.out];exact af);have am:wr.cell? (S og k U)=V (H.getD k undef):=by rw[cT D8.out k<|by omega];have aJ:H.length=i:=(by have:=D8.out.1;omega);rw[aK<|by omega,aN,aK<|by omega];rfl
  have L:RL.drop k=RL.getD k []::RL.drop (k+1):=(by rw[lV JA];congr 1;rw[aN,aK JA];rfl);rw[L,rM]at B;obtain⟨xa,xc,WO⟩:=fC<|P.out k af;rw[WO]at am;generalize(RL.getD k []).length=q at*;have ao:(k:Int)<(i:Int):=(by omega);by_cases hq:300<q
  .rw[aj hq]at B;have ar:(q:Int)>300:=(by omega);have J:dd (F=(1,(k:Int),0)):=(by show _=_;rw[fG.out,<-B]);clear B L WO;go_wp2;refine bU (v:=de #[R U 0 0,df #[Y Z 1,Y Z k,Y Z 0]]) (by simp[results,results77,go_sem,Q,T,X]) rfl ⟨?_,_,by rw[J.out],λ_=>rfl,λh=>by rw[J.out]at h;cases h⟩;exact(((aD.out.trans<|HB.out.mono<|by omega).setCell (au _) _).setCell (au _) _).setCell (au _) _
  rw[ai hq]at B;have ar:¬(q:Int)>300:=(by omega);have FL:=ah B;clear B L WO;go_wp2;go_roundg (i - (k+1));exact⟨k+1,by omega,rfl,by go_num,FL,rfl⟩;omega
 obtain rfl:k=i:=(by omega);have ao:¬(k:Int)<(k:Int):=(by omega);rw[tC<|by rw[K.out];exact au _,rM]at B;have J:dd (F=(0,0,0)):=(by show _=_;rw[fG.out,<-B]);clear B;go_wp2;refine bU (v:=de #[R oa k oc,df #[Y Z 0,Y Z 0,Y Z 0]]) (by simp[results,results77,go_sem,Q,T,X]) rfl ⟨?_,_,by rw[J.out],λh=>by rw[J.out]at h;exact absurd rfl h,λ_=> ?_⟩;exact(((aD.out.trans<|HB.out.mono<|by omega).setCell (au _) _).setCell (au _) _).setCell (au _) _;rw[<-Tq.out];refine⟨H,by rw[K.out];exact ur (gA (gA (gA D8 (by simp;omega) _) (by simp;omega) _) (by simp;omega) _) ak,λj hj=> ?_⟩;rw[K.out]at hj;exact ur (gA (gA (gA (P j hj) (by simp;omega) _) (by simp;omega) _) (by simp;omega) _) ak
def l9(s:bc)(a i:Nat):ba:=
 if i<s.size then if bt s i=10 then(i - a)::l9 s (i+1) (i+1)else l9 s a (i+1)else [i - a]
termination_by s.size - i
def XA {s:bc}{a i:Nat}(h:i<s.size)(b:bt s i=10):l9 s a i=(i - a)::l9 s (i+1) (i+1):=by rw[l9,aj h,aj b]
def aeX {s:bc}{a i:Nat}(h:i<s.size)(b:¬bt s i=10):l9 s a i=l9 s a (i+1):=by rw[l9,aj h,ai b]
def aeW {s:bc}{a i:Nat}(h:¬i<s.size):l9 s a i=[i - a]:=by rw[l9,ai h]
def ao5(s:bc)(a i:Nat):∃m b,l9 s a i=m::b/\i - a<=m:=by
 fun_induction l9 s a i with
 |case1 a i c d ih=>exact⟨_,_,rfl,au _⟩
 |case2 a i c d ih=>obtain⟨m,b,h,e⟩:=ih;exact⟨m,b,h,by omega⟩
 |case3 a i c=>exact⟨_,_,rfl,au _⟩
def jn(L:ba)(a p:Nat):List PR->Prop
 |[]=>a<L.length/\p=L.getD a 0/\∀k,a<k->k<L.length->L.getD k 0=0
 |x::xs=>a<=x.line/\x.line<L.length/\(a<x.line->p=L.getD a 0/\∀k,a<k->k<x.line->L.getD k 0=0)/\x.from_=(if a<x.line then 0 else p)/\x.from_<x.dR/\x.dR<=L.getD x.line 0/\jn L x.line x.dR xs
def JR(L:ba)(a e d b c:Nat):Prop:=b<=c/\((a=d/\e=c - b)∨(a<d/\e=L.getD a 0/\(∀k,a<k->k<d->L.getD k 0=0)/\c=b))
def Qd {L:ba}{a m:Nat}{d:ba}(h:L.drop a=m::d):a<L.length/\L.getD a 0=m/\L.drop (a+1)=d:=by
 have c:a<L.length:=by rcases dc a L.length with b|b;exact b;rw[tC b]at h;cases h
 rw[lV c]at h;injection h with b e;exact⟨c,by rw[aN,aK c];exact b,e⟩
def SU {s:bc}{L:ba}{a g d c e p k B E:Nat}{n:List PR}(h:JR L a g d c e)(A:e<=p)(v:L.drop d=l9 s c p)(o:∀b l,JR L b l d c p->jn L b l n):jn L a g (dZ d k c e p B E++n):=by
 obtain⟨w,h⟩:=h;obtain⟨m,C,x,y⟩:=ao5 s c p;obtain⟨t,z,_⟩:=Qd<|v.trans x;unfold dZ;by_cases r:e<p
 .rw[aj r];refine⟨?_,t,?_,?_,?_,?_,o _ _ ⟨by omega,.inl ⟨rfl,rfl⟩⟩⟩;show a<=d;omega;intro j;have q:a<d:=j;rcases h with⟨i,_⟩|⟨_,f,u,_⟩;omega;exact⟨f,u⟩
  .show e - c=if a<d then 0 else g
   rcases h with⟨i,f⟩|⟨i,_,_,f⟩;rw[ai<|by omega,f];rw[aj i];omega
  .show e - c<p - c;omega
  show p - c<=L.getD d 0;omega
 rw[ai r];obtain rfl:e=p:=by omega
 exact o a g ⟨w,h⟩
def JR.feed {s:bc}{L:ba}{a f b c p:Nat}(h:JR L a f b c p)(m:p<s.size)(j:bt s p=10)(e:L.drop b=l9 s c p):JR L a f (b+1) (p+1) (p+1):=by rw[XA m j]at e;obtain⟨q,g,_⟩:=Qd e;obtain⟨o,h⟩:=h;refine⟨au _,.inr ?_⟩;rcases h with⟨rfl,d⟩|⟨r,d,i,t⟩;exact⟨by omega,by omega,λk _ _=>by omega,rfl⟩;refine⟨by omega,d,λk n u=> ?_,rfl⟩;by_cases l:k=b;rw[l,g];omega;exact i k n<|by omega
def YX {s:bc}{L:ba}{k T B E j g o p c D:Nat}{z:List PR}(A:T<=s.size)(h:JR L c D j g o)(C:o<=p)(F:p<=T)(d:L.drop j=l9 s g p) (r:∀a f m l,jR s T j g p=(m,l)->L.drop m=l9 s l T->JR L a f m l T->jn L a f z):jn L c D (lQ s k T B E j g o p++z):=by
 by_cases b:p<T
 .by_cases e:bt s p=10
  .rw[Ht b e,dY];refine SU h C d λa f q=> ?_
   have i:=d;rw[XA (by omega) e]at i;exact YX A (q.feed (by omega) e d) (au _) b (Qd i).2.2 (λw y x n u t v=>r w y x n (by rw[Ji b e];exact u) t v)
  rw[Cj b e];rw[aeX (by omega) e]at d;exact YX A h (by omega) b d λw y x n u t v=>r w y x n (by rw[C8 b e];exact u) t v
 obtain rfl:p=T:=by omega
 rw[Ci b];exact SU h C d λa f q=>r a f j g (Jh b) d q
termination_by T - p
def ZM {s:bc}{p:Nat}(a:p<s.size):(dD s p).T<=s.size:=by unfold dD;split;exact RR (by omega);split;exact NH (by omega);split;rename_i h;have:=sw (s:=s) (i:=p+1) (by rw[h.2];decide);exact td (by omega);simp only;omega
def CC(s:bc):Nat->List Tk->Prop
 |p,[]=>p=s.size
 |p,t::ts=>t.F=p/\t.F<t.T/\t.T<=s.size/\CC s t.T ts
def CC.cons {s:bc}{t:Tk}{c:List Tk}(h:CC s t.T c)(a:t.F<t.T)(b:t.T<=s.size):CC s t.F (lG t c):=by
 unfold lG;split
 .cases c with
  |nil=>exact⟨rfl,a,b,h⟩
  |cons u i=>obtain⟨f,g,d,e⟩:=h;simp only;split;exact⟨rfl,by simp only;omega,d,e⟩;exact⟨rfl,a,b,f,g,d,e⟩
 exact⟨rfl,a,b,h⟩
def Sn(s:bc)(p:Nat)(b:p<=s.size):CC s p (dM s p):=by rw[dM];split;rename_i h;have a:=Sn s (dD s p).T (ZM h);have hF:=ZK s p;have:=CC.cons a (by have:=Cs s p;omega)<|ZM h;rw[hF]at this;exact this;show p=s.size;omega
termination_by s.size - p
decreasing_by have:=Cs s p;omega
def EN {s:bc}{L:ba}:∀(e:List Tk)(p b c a d:Nat),CC s p e->JR L a d b c p->L.drop b=l9 s c p->jn L a d (gw s e b c)
 |[],p,b,c,a,d,hc,h,hL=>by
  have q:p=s.size:=hc;rw[aeW<|by omega]at hL;obtain⟨f,g,i⟩:=Qd hL;have j:L.length=b+1:=by have:=congrArg List.length hL;simp at this;omega
  obtain⟨B,h⟩:=h;rcases h with⟨rfl,m⟩|⟨m,n,o,C⟩;exact⟨f,by omega,λk _ _=>by omega⟩;refine⟨by omega,n,λk x D=> ?_⟩;by_cases w:k=b;rw[w,g];omega;exact o k x<|by omega
 |t::e,p,b,c,a,d,hc,h,hL=>by
  obtain⟨f,g,i,j⟩:=hc;rw[gw];subst f;refine YX i h (au _) (by omega) hL λy A z l u r v=> ?_
  rw[u];exact EN e t.T z l y A j v r
def aeN(s:bc):jn (l9 s 0 0) 0 0 (gw s (dM s 0) 0 0):=
 EN _ 0 0 0 0 0 (Sn s 0<|by omega) ⟨au _,.inl ⟨rfl,rfl⟩⟩ rfl
def Zf(s:bc)(p:Nat)(_h:p<s.size)(l:aQ s p≠0):wd (fK s p)=aQ s p:=by
 unfold fK;rw[Lib.decode_at];unfold aQ at l ⊢;have q:=(s.get! p).toNat_lt;have l1:=(s.get!<|p+1).toNat_lt;have r:=(s.get!<|p+2).toNat_lt;have t:=(s.get!<|p+3).toNat_lt;generalize(s.get! p).toNat=i at*;generalize(s.get!<|p+1).toNat=h at*;generalize(s.get!<|p+2).toNat=j at*;generalize(s.get!<|p+3).toNat=k at*;obtain⟨n,o⟩:=ac<|s.size - p;rw[<-o]at l ⊢;by_cases a:i<128;rw[uA (Gd a)<|by omega,Gd a];unfold wd;rw[aj<|by simp only;omega];by_cases b:i<194;exact absurd (ku<|P6 (by omega) b) l;by_cases c:245<=i;exact absurd (ku<|P7 c<|by omega) l;by_cases d:i<224;by_cases e:n<2∨h<128∨191<h;exact absurd (ku<|PW (by omega) d (by omega) e) l;have m:=L8 (n:=n) (b0:=i) (b1:=h) (b2:=j) (b3:=k) (by omega) d (by omega) (by omega) (by omega);rw[uA m<|by omega,m];unfold wd;rw[ai<|by simp only;omega,aj<|by simp only;omega];by_cases f:i<240
 .by_cases e:n<3∨h<128∨191<h∨j<128∨191<j;exact absurd (ku<|PY (by omega) f (by omega) (by omega) e) l;by_cases g:i%16*4096+h%64*64+j%64<2048∨(55296<=i%16*4096+h%64*64+j%64/\i%16*4096+h%64*64+j%64<=57343)
  .exact absurd (ku<|PZ (by omega) f g) l
  have m:=L9 (n:=n) (b0:=i) (b1:=h) (b2:=j) (b3:=k) (by omega) f (by omega) (by omega) (by omega) (by omega) (by omega) (by omega) (by omega);rw[uA m<|by omega,m];unfold wd;rw[ai<|by simp only;omega,ai<|by simp only;omega,aj<|by simp only;omega]
 by_cases e:n<4∨h<128∨191<h∨j<128∨191<j∨k<128∨191<k;exact absurd (ku<|P4 (by omega) (by omega) (by omega) (by omega) (by omega) e) l;by_cases g:i%8*262144+h%64*4096+j%64*64+k%64<65536∨1114111<i%8*262144+h%64*4096+j%64*64+k%64;exact absurd (ku<|P5 (by omega) (by omega) g) l;have m:=Ma (n:=n) (b0:=i) (b1:=h) (b2:=j) (b3:=k) (by omega) (by omega) (by omega) (by omega) (by omega) (by omega) (by omega) (by omega) (by omega) (by omega) (by omega);rw[uA m<|by omega,m];unfold wd;rw[ai<|by simp only;omega,ai<|by simp only;omega,ai<|by simp only;omega]
def Ko(s:bc)(p:Nat)(h:p<s.size)(c:aQ s p≠0):p+aQ s p<=s.size:=by rcases zk s p h c with⟨a,_⟩|⟨a,b,_⟩|⟨a,b,_⟩|⟨a,b,_⟩<;>omega
def RA(s:bc):Nat->aw->Prop
 |p,[]=>p=s.size
 |p,r::rs=>p<s.size/\aQ s p≠0/\r=fK s p/\RA s (p+aQ s p) rs
def agw(s:bc):∀(f p:Nat)(c:aw),p<=s.size->runesFrom s f p=V c->s.size<=p+f->RA s p c
 |0,p,c,hp,h,hf=>by
  have e:¬p<s.size:=by omega
  rw[Hs s 0 p e]at h;cases h;show p=s.size;omega
 |f+1,p,c,hp,h,hf=>by
  by_cases a:p<s.size
  .by_cases b:aQ s p=0;rw[YP s (f+1) p hf a b]at h;cases h;have d:runesFrom s (f+1) p=(runesFrom s f<|p+aQ s p).map (fK s p::·):=(by simp[runesFrom,a,b]);rw[d]at h;cases hr:runesFrom s f (p+aQ s p)with
   |none=>rw[hr]at h;cases h
   |some l=>rw[hr]at h;simp only[IP,CZ]at h;subst h;exact⟨a,b,rfl,agw s f _ l (Ko s p a b) hr (by omega)⟩
  rw[Hs s (f+1) p a]at h;cases h;show p=s.size;omega
def vG {s:bc}{a:aw}(h:cK s=V a):RA s 0 a:=agw s s.size 0 a (by omega) h<|by omega
def YE {s:bc}:∀{a:aw}{p:Nat},RA s p a->∀j,j<a.length->(dQ p a).getD j 0<s.size
 |[],_,_,j,hj=>by simp at hj
 |r::a,p,h,0,_=>by simpa [dQ]using h.1
 |r::a,p,h,j+1,hj=>by obtain⟨b,c,d,e⟩:=h;have:=YE e j (by simpa using hj);rw[<-Zf s p b c,<-d]at this;simpa [dQ]using this
def zY:Nat->Nat->List PR->Prop
 |a,b,[]=>a=b
 |a,b,x::xs=>x.from_=a/\a<x.dR/\zY x.dR b xs
def Xo {L:ba}:∀{l:List PR}{a p:Nat},jn L a p l->∀x∈l,a<=x.line
 |[],_,_,_,x,hx=>by cases hx
 |y::ys,a,p,h,x,hx=>by obtain⟨b,d,e,f,g,i,c⟩:=h;rcases gI.1 hx with rfl|hx;exact b;exact bM b<|Xo c x hx
def apW {l:List PR}{a:Nat}(h:∀x∈l,a<x.line):iV l a=[]:=by unfold iV;rw[T6];intro x hx;have:=h x hx;simp;omega
def apV(x:PR)(b:List PR)(a:Nat):iV (x::b) a=if x.line=a then x::iV b a else iV b a:=by unfold iV;by_cases h:x.line=a<;>simp[h]
def Xn {L:ba}:∀{l:List PR}{a p:Nat},jn L a p l->∀b,a<=b->b<L.length->zY (if b=a then p else 0) (L.getD b 0) (iV l b)
 |[],a,p,h,b,h1,h2=>by obtain⟨n,j,g⟩:=h;show(if b=a then p else 0)=L.getD b 0;by_cases c:b=a;rw[aj c,c,j];rw[ai c,g b (by omega) h2]
 |x::xs,a,p,h,b,h1,h2=>by obtain⟨n,j,g,k,r,s,i⟩:=h;rw[apV];by_cases d:x.line=b;rw[aj d];have ih:=Xn i b (by omega) h2;rw[aj d.symm]at ih;refine⟨?_,?_,ih⟩;rw[k];by_cases c:b=a;rw[aj c,ai<|by omega];rw[ai c,aj<|by omega];have:x.from_=(if b=a then p else 0):=(by rw[k];by_cases c:b=a;rw[aj c,ai<|by omega];rw[ai c,aj<|by omega]);omega;rw[ai d];by_cases f:b<x.line;obtain⟨o,q⟩:=g (by omega);rw[apW λy m=>by have:=Xo i y m;omega];show(if b=a then p else 0)=L.getD b 0;by_cases c:b=a;rw[aj c,c,o];rw[ai c,q b (by omega) f];have ih:=Xn i b (by omega) h2;rw[ai λe=>d e.symm]at ih;rw[ai<|by omega];exact ih
def Gm {q:Nat}:∀{l:List PR}{a b:Nat},zY a b l->a<=q->q<b->∃k x,(∀c:Nat,pI q l c=((c+k:Nat):Int))/\l[k]? =V x/\x.from_<=q/\q<x.dR
 |[],a,b,h,h1,h2=>by have:a=b:=h;omega
 |x::xs,a,b,h,h1,h2=>by obtain⟨m,n,j⟩:=h;by_cases d:q<x.dR;exact⟨0,x,λc=>by rw[pI,aj ⟨by omega,d⟩];rfl,rfl,by omega,d⟩;obtain⟨k,y,e,f,g,i⟩:=Gm j (by omega) h2;exact⟨k+1,y,λc=>by rw[pI,ai λh=>d h.2,e];congr 1;omega,by simpa using f,g,i⟩
def aeY {s:bc}{a i:Nat}(h:i<=s.size)(d:a<=i):(aS s a i).map (·.size)=l9 s a i:=by
 fun_induction aS s a i with
 |case1 a i b c ih=>rw[XA b c,ni,ih (by omega)<|by omega];congr 1;simp;omega
 |case2 a i b c ih=>rw[aeX b c,ih (by omega)<|by omega]
 |case3 a i b=>rw[aeW b];simp;omega
def eX(s:bc)(i:Nat):List PR:=iV (cO s) i
def ags(s:bc)(f:s.size<=600)(i:Nat)(a:i<(aS s 0 0).length):zY 0 ((aS s 0 0).getD i ⟨#[]⟩).size (eX s i):=by
 have d:jn (l9 s 0 0) 0 0 (cO s):=by unfold cO;rw[aj f];have:=aeN s;rw[<-RI]at this;exact this
 have b:(aS s 0 0).map (·.size)=l9 s 0 0:=aeY (by omega) (by omega);have h:=Xn d i (by omega) (by rw[<-b];simpa using a);have e:(l9 s 0 0).getD i 0=((aS s 0 0).getD i ⟨#[]⟩).size:=by rw[<-b,aN,jC,aN,aK a];rfl
 rw[e]at h;have c:(if i=0 then 0 else 0)=0:=by split<;>rfl
 rw[c]at h;exact h
structure jZ(w:World)(B s:Nat)(v:Value)(l:ba):Prop where
 cell:w.1[s]? =some (.cells #[v] 296 (0,0))
 row:w.ownsRow B 108 1 v l.length<|iv<|nl l
 low:B<=s
structure A5(w w':World)(s:Nat)(v v':Value):Prop where
 os:w'.os=w.os
 tape:w'.tape=w.tape
 output:w'.output=w.output
 size:w.1.size<=w'.1.size
 block:∀k,k<w.1.size->k≠s->v.ownBlock≠some k->w'.1[k]? =w.1[k]?
 own:v'.ownBlock=v.ownBlock∨∀k,v'.ownBlock=some k->w.1.size<=k
def A5.below {w c d:cw}{B s:Nat}{v j:cJ}{l:ba}(h:A5 w c s v j)(b:jZ w B s v l)(g:cD B d w):cD B d c:=
 g.trans ⟨h.os,h.tape,h.output,h.size,λk i=>by have f:=b.low;have a:k<w.1.size:=lW (lW i f)<|gV<|dg b.cell;refine h.block k a (by omega) ?_;intro e;have:=wJ b.row k e;omega⟩
def jZ.ne {w:cw}{B s:Nat}{v:cJ}{l:ba}(h:jZ w B s v l):v.ownBlock≠V s:=by rcases h.row.2 with⟨rfl,_⟩|⟨g,c,b,rfl,_,a,_⟩;simp[Value.ownBlock];simp only[Value.ownBlock];intro e;obtain rfl:=aI e;rw[h.cell]at a;simp at a
def jZ.grow {w d:cw}{B s:Nat}{v b:cJ}{l q:ba}{m:Nat}(h:jZ w B s v l)(c:d.ownsRow B 108 1 b m<|iv<|nl q)(f:w.grownBy d v.ownBlock)(a:b.ownBlock=v.ownBlock∨b.ownBlock=V (w.1.size+1)):jZ (d.setCell (S s 0 U) b) B s b q/\A5 w (d.setCell (S s 0 U) b) s v b/\d.cell? (S s 0 U)=V v/\d.frozen? (S s 0 U)=da:=by
 have n:=dg h.cell;have p:d.1[s]? =V (bi #[v] 296 (0,0)):=by rw[f.block s n h.ne.symm];exact h.cell
 have o:b.ownBlock≠V s:=by rcases a with a|a;rw[a];exact h.ne;rw[a];intro e;have:=aI e;omega
 have r:m=q.length:=by have:=c.1;rw[oC,iz]at this;omega
 subst r;refine⟨⟨by rw[fe p];rfl,kT c o 0 b,h.low⟩,⟨f.os,f.tape,f.output,?_,?_,?_⟩,az p 0,cB p 0⟩;have:=f.size;simpa using this;intro k g i j;rw[iX];exact f.block k g (λe=>j e.symm);exact i;rcases a with a|a;exact .inl a;exact .inr λk g=>by rw[a]at g;have:=aI g;omega
def ao3(w:cw)(B s:Nat)(v:cJ)(l:ba)(h:jZ w B s v l):cP prog 260 #[.pointer<|V<|S s 0 U] w λe b=>e=bj (Y Z l.length)/\b=w:=by obtain⟨a,c,rfl⟩:=eV h.row;have d:w.cell? (S s 0 U)=V (R a l.length c):=az h.cell 0;clear h;go_enter func260,ntmps260;go_wp2;go_ret;exact⟨rfl,rfl⟩
def akd(w:cw)(B s:Nat)(v:cJ)(l:ba)(i:Nat)(h:jZ w B s v l)(a:i<l.length):cP prog 275 #[.pointer<|V<|S s 0 U,Y Z i] w λe f=>e=bj (de #[Y Z (l.getD i 0:Nat),ce db])/\f=w:=by
 obtain⟨g,c,rfl,_,_,_⟩:=iq h.row (by omega);have j:w.cell? (S s 0 U)=V (.slice (V<|S g 0 U) l.length c):=az h.cell 0;have b:=jx h.row i (by rw[iz];exact a);rw[pH _ _ a]at b;generalize l.getD i 0=x at*;generalize l.length=n at*;have d:((i:Int)<(n:Int)):=by omega
 have k:decide ((i:Int)<0)=da:=by simp
 clear h;go_enter func275,ntmps275;go_wp2;go_ret2;exact⟨rfl,rfl⟩
def ake(w:cw)(s:Nat)(i:Int)(b:i<0):cP prog 275 #[.pointer<|V<|S s 0 U,Y Z i] w λe a=>e=bj (de #[Y Z 0,ce da])/\a=w:=by go_enter func275,ntmps275;go_wp2;go_ret2;exact⟨rfl,rfl⟩
def agu(w:cw)(B s:Nat)(v:cJ)(l:ba)(i:Nat)(h:jZ w B s v l)(x:l.length<=1000000):cP prog 258 #[.pointer<|V<|S s 0 U,Y Z i] w λe o=>e=bj (de #[])/\∃n,jZ o B s n (l++[i])/\A5 w o s v n:=by obtain⟨y,u,z,A,C⟩:=fP Tryz.JQ;have r:w.cell? (S s 0 U)=V v:=az h.cell 0;have f0:w.frozen? (S s 0 U)=da:=cB h.cell 0;have b:=h.row;have f:B<=w.1.size:=bM h.low<|gV<|dg h.cell;have q:=ah h;obtain⟨a,c,rfl⟩:=eV b;clear h;go_enter func258,ntmps258;go_wp2_with(at_builtin;refine AW _ rfl _ _ 139 rfl B 108 y (Y Z 0) 8 underlying139 u z A C rfl (by decide) _ _ _ rfl b _ _ _ rfl rfl rfl x f ?_);intro G H d j k;obtain⟨E,D,rfl⟩:=eV d;obtain⟨m,g,F,f5⟩:=q.out.grow (by rw[G0,Rv]at d;exact d) j k;have t:=ah m;have p:=ah g;clear m g d j k b r f0;go_wp2;go_end0;exact⟨rfl,_,t,p⟩
def jZ.cut {w:cw}{B s g c n:Nat}{l:ba}{vs:List cJ}(h:jZ w B s (.slice (V<|S g 0 U) l.length c) l)(t:n<l.length):jZ ((w.setCells g n vs).setCell (S s 0 U) (.slice (V<|S g 0 U) n c)) B s (.slice (V<|S g 0 U) n c) (l.take n)/\A5 w ((w.setCells g n vs).setCell (S s 0 U) (.slice (V<|S g 0 U) n c)) s (.slice (V<|S g 0 U) l.length c) (.slice (V<|S g 0 U) n c)/\(w.setCells g n vs).cell? (S s 0 U)=V (.slice (V<|S g 0 U) l.length c)/\(w.setCells g n vs).frozen? (S s 0 U)=da:=by
 have f:=dg h.cell;have i:=h.ne;have o:g≠s:=by simpa [Value.ownBlock]using i
 obtain⟨u,p,a,q⟩:=RF vs n w _ h.row;have j:(w.setCells g n vs).1[s]? =V (bi #[.slice (V<|S g 0 U) l.length c] 296 (0,0)):=by rw[a.block s f<|by simpa using o.symm];exact h.cell
 have m:=RG p n (by omega);rw[LC,Zi _ _ n q,<-LC n,Xk,LC]at m;refine⟨⟨by rw[fe j];rfl,?_,h.low⟩,⟨a.os,a.tape,a.output,by have:=a.size;simpa using this,?_,.inl rfl⟩,az j 0,cB j 0⟩;have:=kT m (s:=s) (by simpa [Value.ownBlock]using o) 0 (.slice (V<|S g 0 U) n c);simpa [kG<|gV t]using this;intro k r b d;rw[iX];exact a.block k r (λe=>d<|by rw[e];rfl);exact b
def alv(w:cw)(B s:Nat)(v:cJ)(l:ba)(n:Nat)(h:jZ w B s v l)(q:n<l.length)(z:l.length<=1000000):cP prog 276 #[.pointer<|V<|S s 0 U,Y Z n] w λe f=>e=bj (de #[])/\∃d,jZ f B s d (l.take n)/\A5 w f s v d:=by
 obtain⟨g,c,rfl,b,A,p⟩:=iq h.row (by omega);have u:w.cell? (S s 0 U)=V (.slice (V<|S g 0 U) l.length c):=az h.cell 0;have f0:w.frozen? (S s 0 U)=da:=cB h.cell 0;have o:=ai2 (P:=prog) w 139 108 0 (Y Z 0) underlying139 Tryz.zeroValue108 rfl rfl g n (l.length - n) (c - n) (by omega) (λj y=>by rw[jx h.row (n+j)<|by rw[iz];omega];rfl) (λj _=>Em h.row<|n+j);have m:n<=c:=by omega
 have r:((n:Int)<(l.length:Int)):=by omega
 obtain⟨a,hF,x,f5⟩:=h.cut (vs:=List.replicate (l.length - n)<|Y Z 0) q;have k:=ah a;have i:=ah hF;clear h a hF;generalize w.setCells g n (List.replicate (l.length - n)<|Y Z 0)=t at*;generalize l.length=L at*;go_enter func276,ntmps276;go_wp2;go_end0;exact⟨rfl,_,k,i⟩
def agn(w:cw)(B s:Nat)(v:cJ)(l:ba)(x:Nat)(h:jZ w B s v<|l++[x])(q:l.length<=100000):cP prog 259 #[.pointer<|V<|S s 0 U] w λe d=>e=bj (de #[Y Z x,ce db])/\∃f,jZ d B s f l/\A5 w d s v f:=by
 have b:(l++[x]).length=l.length+1:=by simp
 obtain⟨a,c,rfl⟩:=eV h.row;have p:w.cell? (S s 0 U)=V (R a (l.length+1) c):=by have:=az h.cell 0;rw[b]at this;exact this
 have o:dd (cP prog 275 #[.pointer<|V<|S s 0 U,Y Z l.length] w λe d=>e=bj (de #[Y Z x,ce db])/\d=w):=by
  have:=akd w B s _ (l++[x]) l.length h (by omega);have hx:(l++[x]).getD l.length 0=x:=by simp
  rw[hx]at this;exact this
 have j:dd (cP prog 276 #[.pointer<|V<|S s 0 U,Y Z l.length] w λe d=>e=bj (de #[])/\∃f,jZ d B s f l/\A5 w d s (.slice a (l++[x]).length c) f):=by
  have:=alv w B s _ (l++[x]) l.length h (by omega) (by omega);have hx:(l++[x]).take l.length=l:=by simp
  rw[hx]at this;exact this
 clear h b;generalize l.length=L at*;go_enter func259,ntmps259;go_wp2_with fail;refine o.out.mono ?_;rintro n t ⟨rfl,hx⟩;have g:=hx.symm;subst g;go_wp2_with fail;refine j.out.mono ?_;rintro n r ⟨rfl,f,i,hF⟩;have m:=ah i;have k:=ah hF;clear i hF;go_wp2;go_ret2;exact⟨rfl,_,m,k⟩
def aqW(w:cw)(B s:Nat)(v:cJ)(h:jZ w B s v []):cP prog 259 #[.pointer<|V<|S s 0 U] w λe d=>e=bj (de #[Y Z 0,ce da])/\d=w:=by obtain⟨a,c,rfl⟩:=eV h.row;have f:w.cell? (S s 0 U)=V (R a 0 c):=az h.cell 0;clear h;go_enter func259,ntmps259;go_wp2_with fail;refine(ake w s (-1)<|by omega).mono ?_;rintro g i ⟨rfl,hx⟩;have b:=hx.symm;subst b;go_wp2;go_ret2;exact⟨rfl,rfl⟩
def Sp(w:cw):Prop:=∃t a,w.1[4]? =V (bi AP t a)
def Sp.below {w a:cw}(h:Sp w)(c:cD w.1.size w a):Sp a:=by obtain⟨t,b,h⟩:=h;exact⟨t,b,aR c h⟩
def Sp.cls {w:cw}(h:Sp w)(r:Int):cP prog 66 #[Y .i32 r] w λe c=>e=bj (Y Z<|cls r)/\cD w.1.size w c:=by obtain⟨t,b,a⟩:=h;exact U0 r w t b a
def Af {w:cw}{aL b a:Addr}(h:Env w aL b a)(r:Int):cP prog 66 #[Y .i32 r] w λe c=>e=bj (Y Z<|cls r)/\cD w.1.size w c:=Sp.cls h.Hx r
def kz(c:Int):Bool:=decide (13<=c)&&decide (c<=21)
def ahW(c:Int)(w:cw):cP prog 223 #[Y Z c] w λe h=>e=bj (ce<|kz c)/\h=w:=by
 obtain⟨q,f⟩:=ac<|kz c;rw[<-f];have b:=ah f;clear f;by_cases a:13<=c
 .have d:c ≥ 13:=a;by_cases g:c<=21
  .go_enter func223,ntmps223;go_wp2;go_ret;exact⟨iA<|by rw[b.out,kz];simp[a,g],rfl⟩
  go_enter func223,ntmps223;go_wp2;go_ret;exact⟨iA<|by rw[b.out,kz];simp[a,g],rfl⟩
 have d:¬c ≥ 13:=a;go_enter func223,ntmps223;go_wp2;go_ret;exact⟨iA<|by rw[b.out,kz,sB<|by omega];rfl,rfl⟩
def Xg(r:Int)(w:cw)(b:Sp w):cP prog 172 #[Y .i32 r] w λe i=>e=bj (ce<|kz<|cls r)/\cD w.1.size w i:=by have f:=ah<|b.cls r;clear b;go_enter func172,ntmps172;go_wp2_with fail;refine f.out.mono ?_;rintro g j ⟨rfl,c⟩;have d:=ah c;clear c;go_wp2_with fail;refine(ahW (cls r) j).mono ?_;rintro g k ⟨rfl,a⟩;have h:=a.symm;subst h;clear a;go_wp2;go_ret;exact⟨rfl,d⟩
def aoG(r:Int)(w:cw)(aL b a:Addr)(c:Env w aL b a):cP prog 172 #[Y .i32 r] w λe d=>e=bj (ce<|kz<|cls r)/\cD w.1.size w d:=Xg r w c.Hx
def aqu(s:bc)(l:aw)(w:cw)(aL p o:Addr)(t:s.size<=600)(f:cK s=V l)(k:Env w aL p o):cP prog 108 #[cd s] w λe b=>e=bj (Y Z<|found<|l.map cls)/\cD w.1.size w b:=by
 have h:∀g,gT g 2=found g:=λg=>by unfold gT;simp
 have i:dd (cP prog 84 #[cd s,Y Z 2] w λe b=>∃c,e=bj (.pointer<|V<|S c 0 U)/\b.cell? (S c 5 U)=V (Y Z<|found<|l.map cls)/\cD w.1.size w b):=by by_cases j:s.size=0;obtain rfl:=ag4 f j;refine(aft s 2 w j).mono ?_;rintro e b ⟨c,v,x,y,rfl,d,_,a⟩;rw[h]at d;exact⟨c,rfl,(LB.c5 d).1,a⟩;refine(afu s l 2 w t f (ag3 f<|by omega) λr W q=>Af (k.below q) r).mono ?_;rintro e b ⟨L,rfl,d,_,_,_,n,_,a⟩;refine⟨L.lb,rfl,?_,a⟩;rw[<-h,<-n];exact az d.cell 5
 clear k f h;go_enter func108,ntmps108;go_wp2_with fail;refine i.out.mono ?_;rintro u A ⟨c,rfl,z,a⟩;have m:=ah a;clear a i;go_wp2;go_ret;exact⟨rfl,m⟩
def tU:aw->ba->Bool
 |[],st=>st.isEmpty
 |r::rs,st=>
  if nC (cls r)=db then tU rs (st++[17])
  else if aU (cls r)=db then tU rs (st++[21])
  else if kz (cls r)=db then
   match st.getLast? with
   |none=>da
   |some x=>if(x:Int)=cls r then tU rs st.dropLast else da
  else tU rs st
def jZ.keep {w b:cw}{B s:Nat}{v:cJ}{l:ba}(h:jZ w B s v l)(a:∀k o,w.1[k]? =V o->(k=s∨v.ownBlock=V k)->b.1[k]? =V o):jZ b B s v l:=
 ⟨a s _ h.cell (.inl rfl),kS h.row λk o d c=>a k o c (.inr d),h.low⟩
def jZ.below {w a:cw}{B s:Nat}{v:cJ}{l:ba}(h:jZ w B s v l)(b:cD w.1.size w a):jZ a B s v l:=h.keep λ_ _ c _=>aR b c
def A5.iter {w a:cw}{B s K p:Nat}{v c:cJ}{l:ba}{t:bc}(b:A5 w a s v c)(h:jZ w B s v l)(hit:w.1[K]? =V (.stringIter t p)):a.1[K]? =V (.stringIter t p):=by rw[b.block K (bO hit) ?_<|zh h.row hit];exact hit;rintro rfl;rw[h.cell]at hit;cases hit
def arn(w:cw):cP prog 49 #[R U 0 0] w λe a=>e=bj (R U 0 0)/\a=w:=by go_enter func49,ntmps49;go_wp2;refine dN 1 ?_;rw[bB];go_wp2;refine dN 1 ?_;rw[bB];go_wp2;go_ret;exact⟨rfl,rfl⟩
def arl(a:aw)(v:cJ)(w:cw)(m:a.length<=1000)(o:dF w v a)(g:∀l∈a,0<=l/\l<=126):cP prog 49 #[v] w λe d=>∃c,e=bj c/\d.ownsRow w.1.size 3 1 c (kY a).length (iv<|kY a)/\cD w.1.size w d:=by rcases o with⟨rfl,rfl⟩|⟨b,h,f,rfl,j⟩;refine(arn w).mono ?_;rintro e d ⟨rfl,rfl⟩;exact⟨_,rfl,fh _ _ _ _,aA _ _⟩;refine(agF a b h f a.length w rfl m j (λl k=>by have:=g l k;omega)).mono ?_;rintro e d ⟨c,rfl,n,i⟩;exact⟨c,rfl,by rw[NY];exact n,i⟩
def Cr:Int->aw->Bool
 |_,[]=>db
 |a,k::ks=>if k<a then da else Cr k ks
def Y3(a:aw)(b:List PR):aw:=(kY<|fQ a (a.map cls) 0).map λj=>pI ((dQ 0 a).getD j.toNat 0) b 0
def Dy(b:aw)(a:List PR):Bool:=Cr (-1)<|Y3 b a
def XB(a:aw):∀x∈fQ a (a.map cls) 0,0<=x/\x<=126:=by
 have b:gT (a.map cls) 0=0:=by unfold gT;simp
 intro x hx;have:=Xq (cs:=a.map cls) (λc d=>by obtain⟨r,_,rfl⟩:=jX.1 d;exact Gc r) a 0 (by rw[b];omega) x hx;rw[b]at this;exact this
def NG(a:aw):(fQ a (a.map cls) 0).length=a.length:=by rw[aeZ,jh]
def Yd(a:aw):∀j∈kY (fQ a (a.map cls) 0),0<=j/\j<a.length:=by intro j c;have b:=(aqa<|fQ a (a.map cls) 0).mem_iff.1 c;rw[NG]at b;unfold eO at b;simp at b;omega
def aqf(a:aw)(m:List PR)(G J:cJ)(w:cw)(I:a.length<=1000)(Q:m.length<=600)(y:dF w G a)(F:oM w J m):cP prog 131 #[G,J] w λe p=>e=bj (ce<|Dy a m)/\cD w.1.size w p:=by
 have pQ:=Yw a G w I y;have qX:dd (∀W,cD w.1.size w W->cP prog 48 #[G,Y Z 0] W λz p=>∃g c,z=bj (.slice (V<|S g 0 U) a.length c)/\p.ownsRow W.1.size 3 1 (.slice (V<|S g 0 U) a.length c) a.length (iv<|fQ a (a.map cls) 0)/\cD W.1.size W p):=λW M=>WQ a 0 G W I<|y.below M
 have HOr:dd (∀W v,dF W v (fQ a (a.map cls) 0)->cP prog 49 #[v] W λe p=>∃v',e=bj v'/\p.ownsRow W.1.size 3 1 v' (kY<|fQ a (a.map cls) 0).length (iv<|kY<|fQ a (a.map cls) 0)/\cD W.1.size W p):=λW v h=>arl _ v W (by rw[NG];exact I) h (XB a)
 have CK:dd (∀(q:Nat) W,cD w.1.size w W->cP prog 194 #[J,Y Z q] W λe p=>e=bj (Y Z<|pI q m 0)/\p=W):=λq W M=>af5 m J q W Q<|F.below M
 have u:(kY<|fQ a (a.map cls) 0).length=a.length:=by rw[NY,NG]
 have K9:=ah<|Yd a;have zN:dd (Dy a m=Cr (-1) ((kY<|fQ a (a.map cls) 0).map λj=>pI ((dQ 0 a).getD j.toNat 0) m 0)):=rfl;generalize fQ a (a.map cls) 0=LV at*;generalize kY LV=r at*;rw[u]at HOr;obtain⟨n,H⟩:=ac a.length;have HN:=ah H;have pP:dd (r.length=n):=by show _=_;rw[u,H]
 rw[<-H]at I pQ qX HOr K9;obtain⟨aa,hR⟩:=ac<|Dy a m;rw[<-hR]at zN ⊢;clear u H hR y F;go_enter func131,ntmps131;go_wp2_with fail;refine pQ.mono ?_;clear pQ;rintro z W1 ⟨va,rfl,L,s⟩;obtain⟨ga,ca,rfl,ag,_,ab⟩:=jy L (by omega);have HA:=ah L;have aD:=ah s;have R:=s.size;clear L s;go_wp2_with fail;refine(qX _ aD.out).mono ?_;clear qX;rintro z W2 ⟨gl,cl,rfl,E,t⟩;have bL:=ah<|dF.uo E;have aG:=ah t;have T:=t.size;clear E t;go_wp2_with fail;refine(HOr _ _ bL.out).mono ?_;clear HOr bL;rintro z W3 ⟨vo,rfl,x,B⟩;obtain⟨oa,oc,rfl⟩:=fC x;have nM:=ah x;have K:=ah<|aG.out.trans<|B.mono T;have am:=K.out.size;have kV:=ah<|aD.out.trans<|K.out.mono R;clear x B;go_wp2;go_loopg [8,9,10] n (λgk lv gD _ W=>∃(i:Nat)(b:Int),i<=n/\gk=n - i/\gD=Y Z i/\lv=Y Z b/\Cr b ((r.drop i).map λj=>pI ((dQ 0 a).getD j.toNat 0) m 0)=aa/\W=W3);exact⟨0, -1,by omega,rfl,rfl,rfl,zN.out.symm,rfl⟩;obtain⟨i,b,hi,rfl,rfl,rfl,f,rfl⟩:=hrel;by_cases O:i<n
 .have o:i<r.length:=by rw[pP.out];exact O
  obtain⟨og,od,MV,al,_,ad⟩:=jy nM.out (by omega);simp only[lY,lq]at MV;obtain⟨rfl,rfl⟩:=MV;obtain⟨Xl,Xm⟩:=K9.out r[i] (nP o);have Jt:wr.cell? (S og i U)=V (Y Z r[i]):=by rw[cT nM.out i<|by omega];simp[iv,o]
  rw[lV o,ni,Cr]at f;obtain⟨l,C⟩:∃l:Nat,r[i]=(l:Int):=⟨r[i].toNat,by omega⟩
  rw[C]at Jt f Xm;have ae:wr.cell? (S ga l U)=V (Y Z ((dQ 0 a).getD l 0:Nat)):=by rw[cT (jc HA.out K.out) l<|by omega];have P:=Yt 0 a;have:l<(dQ 0 a).length:=(by rw[P,<-HN.out];omega);rw[nv,jC,aK this,IP,aN,aK this];rfl
  simp only[Bg]at f;have A:=CK.out ((dQ 0 a).getD l 0) wr kV;generalize(dQ 0 a).getD l 0=q at*;generalize pI q m 0=k at*;have N:(i:Int)<(n:Int):=by omega
  have ak:l<n+1:=by omega
  have af:(l:Int)<(n:Int)+1:=by omega
  have tu:dd _:=A;clear A C o Xl;by_cases D:k<b
  .rw[aj D]at f;subst f;go_wp2_with fail;refine jV tu ?_;rintro z wx ⟨rfl,d⟩;have X:=d.symm;subst X;clear d;go_wp2;go_ret;exact⟨rfl,kV⟩
  rw[ai D]at f;have HJ:=ah f;clear f;go_wp2_with fail;refine jV tu ?_;rintro z wx ⟨rfl,d⟩;have X:=d.symm;subst X;clear d;go_wp2;go_roundg (n - (i+1));exact⟨i+1,k,by omega,rfl,by go_num,rfl,HJ,rfl⟩;omega
 obtain rfl:i=n:=by omega
 have N:¬(i:Int)<(i:Int):=by omega
 rw[tC<|by rw[pP.out];exact au _,Eb,Cr]at f;subst f;go_wp2;go_ret;exact⟨rfl,kV⟩
def ko(a:List PR):aw->Nat->aw->Int->Bool
 |[],_,st,_=>st.isEmpty
 |r::rs,p,st,now=>
  if pI p a 0≠now/\st≠[]then da
  else if cls r<13 then ko a rs (p+wd r) st (pI p a 0)
  else match a[(pI p a 0).toNat]? with
   |none=>da
   |some x=>
    if x.kind=0∨p<x.body∨x.end_<=p then da
    else if cls r<17 then ko a rs (p+wd r) (st++[17]) (pI p a 0)
    else if 17<cls r/\cls r<21 then ko a rs (p+wd r) (st++[21]) (pI p a 0)
    else if st.getLast? =V (cls r)then ko a rs (p+wd r) st.dropLast (pI p a 0)else da
def GC(a:List PR)(r:Int)(d:aw)(p:Nat)(b:aw)(c:Int)(k:Nat)(x:PR)(e:pI p a 0=(k:Int))(hx:a[k]? =V x):ko a (r::d) p b c=if(k:Int)≠c/\b≠[]then da else if cls r<13 then ko a d (p+wd r) b (k:Int) else if x.kind=0∨p<x.body∨x.end_<=p then da else if cls r<17 then ko a d (p+wd r) (b++[17]) (k:Int) else if 17<cls r/\cls r<21 then ko a d (p+wd r) (b++[21]) (k:Int) else if b.getLast? =V (cls r)then ko a d (p+wd r) b.dropLast (k:Int)else da:=by rw[ko,e];simp only[Bg,hx]
def Yu:∀(a:aw)(q i:Nat),i<a.length->(dQ q a).getD (i+1) 0=(dQ q a).getD i 0+wd (a.getD i 0)
 |[],_,_,h=>by simp at h
 |r::a,q,0,_=>by cases a<;>simp[dQ]
 |r::a,q,i+1,h=>by have:=Yu a (q+wd r) i (by simpa using h);simpa [dQ]using this
def Fg {w:cw}{B:Nat}{e:TypeId}{z n:Nat}{v:cJ}{a:List cJ}(h:w.ownsRow B e z v n a)(k:Nat):(w.drewN k).ownsRow B e z v n a:=h
def alf(g:aw)(z:List PR)(v1 v2:cJ)(w:cw)(hn:g.length<=1000)(az:z.length<=600)(N:dF w v1 g)(aB:oM w v2 z) (MI:∀i,i<g.length->∃k x,pI ((dQ 0 g).getD i 0) z 0=((k:Nat):Int)/\z[k]? =V x):cP prog 132 #[v1,v2] w λe w'=>e=bj (ce<|ko z g 0 [] (-1))/\cD w.1.size w w':=by
 obtain⟨iI,gZ,ia,ic,ig⟩:=fP Tryz.Dp;have pQ:=Yw g v1 w hn N;have TL:=ah N;have aH:=ah aB;have aE:=ah MI;obtain⟨x1,c1,rfl,I⟩:=N.form;have mX:=ah I;obtain⟨x2,c2,rfl,J⟩:=aB;have jg:=ah J;obtain⟨n,hN⟩:=ac g.length;have HN:=ah hN;rw[<-hN]at hn pQ mX ⊢;obtain⟨m2,Q⟩:=ac z.length;have CG:=ah Q;rw[<-Q]at az jg ⊢;obtain⟨aa,hR⟩:=ac<|ko z g 0 [] (-1);have HR:=ah hR.symm;rw[<-hR];clear MI I J hN Q hR N;go_enter func132,ntmps132;go_wp2_with fail;refine pQ.mono ?_;clear pQ;rintro ev A ⟨va,rfl,dI,X⟩;obtain⟨ga,ca,rfl,aY,_,aV⟩:=jy dI (by omega);have HA:=ah dI;have D:=ah X;have j:=X.size;clear dI X;go_wp2;go_loopg [6,7,8,9,10,11] n (λgk sv NR gD _ _ _ W=>∃(i:Nat)(q:aw)(s:Int),i<=n/\gk=n - i/\gD=Y Z i/\NR=Y Z s/\q.length<=i/\ko z (g.drop i) ((dQ 0 g).getD i 0) q s=aa/\W.ownsRow A.1.size 3 1 sv q.length (q.map<|Value.int .i64)/\cD A.1.size A W);exact⟨0,[], -1,by omega,rfl,rfl,rfl,by simp,by rw[<-HR.out];cases g<;>rfl,fh _ _ _ _,aA _ _⟩
 rename cw=>wa
 obtain⟨i,q,s,hi,rfl,rfl,rfl,H,f,l,T⟩:=hrel;obtain⟨sa,sc,rfl⟩:=fC l;by_cases aR:i<n
 .have B:i<g.length:=by rw[<-HN.out];exact aR
  obtain⟨b,a1,rfl,hD⟩:=mX.out (by omega);have jT:cD w.1.size w wa:=D.out.trans<|T.mono j;have ar:=(hD.below jT) i B;have av:g.drop i=g.getD i 0::g.drop (i+1):=by rw[lV B];congr 1;rw[aN,aK B];rfl
  obtain⟨k,x,hk,hx⟩:=aE.out i B;have yD:=ah<|Yu g 0 i B;rw[av,GC z _ _ _ _ _ k x hk hx]at f;have ay:k<m2:=by rw[CG.out];exact(tJ.1 hx).1
  obtain⟨g2,rfl,ap,Mq⟩:=jg.out (by omega);have ae:(nv<|dQ 0 g)[i]? =V (Y Z ((dQ 0 g).getD i 0:Nat)):=by have a0:=Yt 0 g;rw[nv,jC,aK<|by omega,IP,aN,aK<|by omega];rfl
  have qw:dd (∀W,cP prog 69 #[Y Z<|g.getD i 0] W λe w'=>e=bj (Y Z<|cls<|g.getD i 0)/\cD W.1.size W w'):=λW=>PT _ W
  have CK:dd (∀W,cD w.1.size w W->cP prog 194 #[.slice (V<|S g2 0 U) m2 c2,Y Z ((dQ 0 g).getD i 0:Nat)] W λe w'=>e=bj (Y Z (k:Nat))/\w'=W):=λW hW=>by have:=af5 z (.slice (V<|S g2 0 U) m2 c2) ((dQ 0 g).getD i 0) W (by rw[<-CG.out];exact az) (by rw[CG.out];exact aH.out.below hW);rw[hk]at this;exact this
  have aF:=ah Mq;have aI:=ah hx;obtain⟨p,hp⟩:=ac<|(dQ 0 g).getD i 0;rw[<-hp]at f ae CK yD;obtain⟨r,hr⟩:=ac<|g.getD i 0;rw[<-hr]at f ar qw yD;obtain⟨c,aq⟩:=ac<|cls r;rw[<-aq]at f qw;have tu:=ah ae;have pN:=ah T;have ag:=T.size;have aQ:(i:Int)<(n:Int):=by omega
  have aW:i<n+1:=by omega
  have Jw:(i:Int)<(n:Int)+1:=by omega
  have af:=ah l;clear av hk hx ae hp hr aq hD Mq B T jT l;go_wp2_with fail;refine(qw _).mono ?_;rintro ev wr ⟨rfl,ab⟩;have t:=ah<|pN.out.trans<|ab.mono ag;have a:=jc af ab;have M:=t.out.size;have aZ:wr.cell? (S ga i U)=V (Y Z (p:Nat)):=by rw[cT (jc HA.out t.out) i<|by omega];exact tu.out
  have jT:cD w.1.size w wr:=D.out.trans<|t.out.mono j;obtain⟨d0,d1,d2,d3,d4,d5⟩:=(aF.out.below jT) k (by rw[<-CG.out];exact ay);have ax:z[k]'(by rw[<-CG.out];exact ay)=x:=(tJ.1 aI).2;rw[ax]at d0 d1 d2 d3 d4 d5;obtain⟨xl,xk,xf,xt,xb,xe⟩:=x;simp only at d0 d1 d2 d3 d4 d5 f;have kV:=ah jT;clear ab jT ax af pN ag ar;go_wp2_with fail;refine(CK _ kV.out).mono ?_;rintro ev wx ⟨rfl,aC⟩;have jr:=aC.symm;subst jr;clear aC;obtain⟨b,ao⟩:=ac<|(((k:Int) !=s)&&decide ((q.length:Int)>0));have oP:=ah ao;clear ao
  go_upto_region 9 with fail
  go_cut [38] (λv wc=>v=ce b/\wc=wr)
  case first=>
   by_cases F:(k:Int)=s
   .have q2:((k:Int) !=s)=da:=(by simpa using F);have P:dd (b=da):=(by show b=da;rw[oP.out,q2];rfl);subst F;clear f a;go_wp2_with fail;go_meet;case rel=>exact⟨by rw[P.out],rfl⟩
   .have aX:((k:Int)==s)=da:=(by simpa using F);have q2:((k:Int) !=s)=db:=(by simpa using F);have P:dd (b=decide ((q.length:Int)>0)):=(by show _=_;rw[oP.out,q2];rfl);clear f a F;by_cases hs:(q.length:Int)>0;all_goals
     go_wp2_with fail;go_meet;case rel=>exact⟨by rw[P.out];simp,rfl⟩
  case rest=>
   obtain⟨rfl,ap⟩:=hcut;have vU:=ap.symm;subst vU;cases b
   rotate_left
   .have h1:(k:Int)≠s/\q≠[]:=(by have h:=oP.out.symm;simp at h;exact⟨h.1,λe=>by simp[e]at h⟩);rw[aj h1]at f;subst f;clear a H h1;go_wp2;go_ret;exact⟨rfl,D.out.trans<|t.out.mono j⟩
   have h1:¬((k:Int)≠s/\q≠[]):=λh=>by have h2:=oP.out.symm;simp[h.1]at h2;exact h.2 h2
   rw[ai h1]at f;clear h1 oP;by_cases ak:c<13
   .rw[aj ak]at f;have L:dd (ko z (g.drop<|i+1) ((dQ 0 g).getD (i+1) 0) q (k:Int)=aa):=(by show _=_;rw[yD.out];exact f);have HO:=ah a;clear f a;go_wp2;go_roundg (n - (i+1));exact⟨i+1,q,(k:Int),by omega,rfl,by go_num,rfl,by first|omega|simp,L,HO,t⟩;omega
   rw[ai ak]at f;by_cases O:xk=0
   .rw[aj (.inl O)]at f;subst O;subst f;go_wp2_with fail;go_quiet(fail);go_wp2;go_ret;exact⟨rfl,D.out.trans<|(gY t _).mono j⟩
   have aU:((xk:Int)==0)=da:=(by simpa using O);by_cases I:p<xb
   .rw[aj (.inr (.inl I))]at f;have aM:(p:Int)<(xb:Int):=(by omega);subst f;go_wp2_with fail;go_quiet(fail);go_wp2;go_ret;exact⟨rfl,D.out.trans<|(gY t _).mono j⟩
   have aM:¬(p:Int)<(xb:Int):=(by omega);by_cases J:xe<=p
   .rw[aj (.inr (.inr J))]at f;have aO:(p:Int) ≥ (xe:Int):=(by omega);subst f;go_wp2_with fail;go_quiet(fail);go_wp2;go_ret;exact⟨rfl,D.out.trans<|(gY t _).mono j⟩
   have aO:¬(p:Int) ≥ (xe:Int):=(by omega);rw[ai λh=>by rcases h with h|h|h;exact O h;exact I h;exact J h]at f;by_cases al:c<17
   .rw[aj al]at f;have L:dd (ko z (g.drop<|i+1) ((dQ 0 g).getD (i+1) 0) (q++[17]) (k:Int)=aa):=(by show _=_;rw[yD.out];exact f);clear f;go_wp2_with fail;go_quiet(fail);go_wp2_with(at_builtin;refine rT _ rfl _ _ 31 rfl A.1.size 3 iI (Y Z 0) 8 underlying31 gZ ia ic ig rfl (by decide) _ _ _ rfl (Fg a _) _ _ rfl rfl (by omega) (by simpa using M) ?_);intro v2 w2 o E;have P:dd (cD A.1.size A w2):=(gY t _).grown E (by simpa using M) (λy hy=>(a.lt y hy).1);have bP:dd (w2.ownsRow A.1.size 3 1 v2 (q.length+1)<|(q++[(17:Int)]).map (Value.int .i64)):=(by show World.ownsRow _ _ _ _ _ _ _;rw[gu];exact o);clear a o E;go_wp2;go_roundg (n - (i+1));exact⟨i+1,q++[17],(k:Int),by omega,rfl,by go_num,rfl,by simp<;>omega,L.out,by simpa using bP.out,P.out⟩;omega
   rw[ai al]at f;by_cases MF:17<c
   .by_cases an:c<21
    .rw[aj ⟨MF,an⟩]at f;have am:c>17:=MF;have L:dd (ko z (g.drop<|i+1) ((dQ 0 g).getD (i+1) 0) (q++[21]) (k:Int)=aa):=(by show _=_;rw[yD.out];exact f);clear f;go_wp2_with fail;go_quiet(fail);go_wp2_with(at_builtin;refine rT _ rfl _ _ 31 rfl A.1.size 3 iI (Y Z 0) 8 underlying31 gZ ia ic ig rfl (by decide) _ _ _ rfl (Fg a _) _ _ rfl rfl (by omega) (by simpa using M) ?_);intro v2 w2 o E;have P:dd (cD A.1.size A w2):=(gY t _).grown E (by simpa using M) (λy hy=>(a.lt y hy).1);have bP:dd (w2.ownsRow A.1.size 3 1 v2 (q.length+1)<|(q++[(21:Int)]).map (Value.int .i64)):=(by show World.ownsRow _ _ _ _ _ _ _;rw[gu];exact o);clear a o E;go_wp2;go_roundg (n - (i+1));exact⟨i+1,q++[21],(k:Int),by omega,rfl,by go_num,rfl,by simp<;>omega,L.out,by simpa using bP.out,P.out⟩;omega
    rw[ai λh=>an h.2]at f;have am:c>17:=MF;rcases Bh q with rfl|⟨d,u,rfl⟩
    .rw[ai<|by simp]at f;simp only[kW];subst f;go_wp2_with fail;go_quiet(fail);go_wp2;go_ret;exact⟨rfl,D.out.trans<|(gY t _).mono j⟩
    rw[CX]at*;have C:(d++[u]).length=d.length+1:=(by simp);rw[C]at a H ⊢;obtain⟨sg,sd,rJ,WI,aS,aT⟩:=jy a (by omega);simp only[lY,lq]at rJ;obtain⟨rfl,rfl⟩:=rJ;have VZ:wr.cell? (S sg d.length U)=V (Y Z u):=(by rw[cT a d.length<|by omega];simp);have M0:wr.ownsRow A.1.size 3 1 (.slice (V<|S sg 0 U) d.length sc) d.length (d.map<|Value.int .i64):=mU (last:=[Y Z u]) (by simp) (by rw[gu]at a;exact a);have Th:=ah M0;clear M0 a;obtain⟨m,G⟩:=ac d.length;have HM:=ah G;rw[<-G]at VZ H WI ⊢;have Ti:dd (wr.ownsRow A.1.size 3 1 (.slice (V<|S sg 0 U) m sc) m<|d.map<|Value.int .i64):=(by show World.ownsRow _ _ _ _ _ _ _;rw[G];exact Th.out);have aP:¬sc=0:=(by omega);by_cases K:u=c
    .subst K;rw[aj<|by simp]at f;have L:dd (ko z (g.drop<|i+1) ((dQ 0 g).getD (i+1) 0) d (k:Int)=aa):=(by show _=_;rw[yD.out,<-f];simp);clear f G;go_wp2_with fail;go_quiet(fail);go_wp2;go_roundg (n - (i+1));exact⟨i+1,d,(k:Int),by omega,rfl,by go_num,rfl,by rw[<-HM.out];omega,L.out,by rw[<-HM.out];exact Fg Ti _,gY t _⟩;omega
    rw[ai<|by simpa using K]at f;have aJ:(u==c)=da:=(by simpa using K);have aL:(u !=c)=db:=(by simpa using K);subst f;clear G;go_wp2_with fail;go_quiet(fail);go_wp2;go_ret;exact⟨rfl,D.out.trans<|(gY t _).mono j⟩
   rw[ai λh=>MF h.1]at f;have am:¬c>17:=MF;rcases Bh q with rfl|⟨d,u,rfl⟩
   .rw[ai<|by simp]at f;simp only[kW];subst f;go_wp2_with fail;go_quiet(fail);go_wp2;go_ret;exact⟨rfl,D.out.trans<|(gY t _).mono j⟩
   rw[CX]at*;have C:(d++[u]).length=d.length+1:=(by simp);rw[C]at a H ⊢;obtain⟨sg,sd,rJ,WI,aS,aT⟩:=jy a (by omega);simp only[lY,lq]at rJ;obtain⟨rfl,rfl⟩:=rJ;have VZ:wr.cell? (S sg d.length U)=V (Y Z u):=(by rw[cT a d.length<|by omega];simp);have M0:wr.ownsRow A.1.size 3 1 (.slice (V<|S sg 0 U) d.length sc) d.length (d.map<|Value.int .i64):=mU (last:=[Y Z u]) (by simp) (by rw[gu]at a;exact a);have Th:=ah M0;clear M0 a;obtain⟨m,G⟩:=ac d.length;have HM:=ah G;rw[<-G]at VZ H WI ⊢;have Ti:dd (wr.ownsRow A.1.size 3 1 (.slice (V<|S sg 0 U) m sc) m<|d.map<|Value.int .i64):=(by show World.ownsRow _ _ _ _ _ _ _;rw[G];exact Th.out);have aP:¬sc=0:=(by omega);by_cases K:u=c
   .subst K;rw[aj<|by simp]at f;have L:dd (ko z (g.drop<|i+1) ((dQ 0 g).getD (i+1) 0) d (k:Int)=aa):=(by show _=_;rw[yD.out,<-f];simp);clear f G;go_wp2_with fail;go_quiet(fail);go_wp2;go_roundg (n - (i+1));exact⟨i+1,d,(k:Int),by omega,rfl,by go_num,rfl,by rw[<-HM.out];omega,L.out,by rw[<-HM.out];exact Fg Ti _,gY t _⟩;omega
   rw[ai<|by simpa using K]at f;have aJ:(u==c)=da:=(by simpa using K);have aL:(u !=c)=db:=(by simpa using K);subst f;clear G;go_wp2_with fail;go_quiet(fail);go_wp2;go_ret;exact⟨rfl,D.out.trans<|(gY t _).mono j⟩
 obtain rfl:i=n:=by omega
 have aQ:¬(i:Int)<(i:Int):=by omega
 rw[tC<|by rw[HN.out];exact au _,ko]at f;have t:=ah T;rcases Bh q with rfl|⟨d,u,rfl⟩
 .have ad:db=aa:=f;subst ad;simp only[kW];clear T l;go_wp2;go_ret;exact⟨rfl,D.out.trans<|t.out.mono j⟩
 have ad:da=aa:=(by rw[<-f];simp);subst ad;have C:(List.concat d u).length=d.length+1:=(by simp);rw[C];have h0:(((d.length:Nat):Int)+1==0)=da:=(by simp;omega);clear T l f C;go_wp2;go_ret;exact⟨by first|rfl|simp;omega,D.out.trans<|t.out.mono j⟩
def amI(a:aw)(v:cJ)(w:cw)(i:a.length<=1000000)(j:dF w v a):cP prog 70 #[v] w λe f=>e=bj (Y Z<|found a)/\f=w:=by
 rcases j with⟨rfl,rfl⟩|⟨b,d,c,rfl,g⟩;exact(OV w).mono λe f ⟨h,k⟩=>⟨by rw[h];rfl,k⟩
 exact Vq a b d c a.length w rfl i g
def wO(a:aw)(b:List PR):Bool:=(found (a.map cls)==0)&&Dy a b&&ko b a 0 [] (-1)
def ahb(a:aw)(b:List PR)(m o:cJ)(w:cw)(C:a.length<=1000)(r:b.length<=600)(c:dF w m a)(l:oM w o b) (H:∀i,i<a.length->∃k x,pI ((dQ 0 a).getD i 0) b 0=((k:Nat):Int)/\b[k]? =V x):cP prog 78 #[m,o] w λe n=>e=bj (ce<|wO a b)/\cD w.1.size w n:=by
 have G:=GY a m w C c;have L:dd (∀W,cD w.1.size w W->cP prog 131 #[m,o] W λe n=>e=bj (ce<|Dy a b)/\cD W.1.size W n):=λW q=>aqf a b m o W C r (c.below q)<|l.below q
 have K:dd (∀W,cD w.1.size w W->cP prog 132 #[m,o] W λe n=>e=bj (ce<|ko b a 0 [] (-1))/\cD W.1.size W n):=λW q=>alf a b m o W C r (c.below q) (l.below q) H
 have t:dd (∀W v,dF W v (a.map cls)->cP prog 70 #[v] W λe n=>e=bj (Y Z<|found<|a.map cls)/\n=W):=λW v h=>amI _ v W (by simp;omega) h
 have M:dd (wO a b=((found (a.map cls)==0)&&Dy a b&&ko b a 0 [] (-1))):=rfl;generalize wO a b=U at*;generalize Dy a b=A at*;generalize ko b a 0 [] (-1)=B at*;generalize found (a.map cls)=F at*;clear c l H;go_enter func78,ntmps78;go_wp2_with fail;refine G.mono ?_;clear G;rintro y R ⟨X,rfl,d,f⟩;have O:=ah<|dF.uo d;have I:=ah f;have D:=f.size;clear d f;go_wp2_with fail;refine(L _ I.out).mono ?_;rintro y S ⟨rfl,g⟩;have u:=ah<|I.out.trans<|g.mono D;have N:=ah<|O.out.below g;have E:=u.out.size;clear g;go_wp2_with fail;refine(K _ u.out).mono ?_;rintro y T ⟨rfl,j⟩;have J:=ah<|u.out.trans<|j.mono E;have P:=ah<|N.out.below j;clear j;go_wp2_with fail;refine(t _ _ P.out).mono ?_;rintro y wx ⟨rfl,s⟩;have Q:=s.symm;subst Q;clear s;have p:=M.out;by_cases hF:F=0
 .subst hF;cases A<;>cases B<;>(simp at p;subst p;go_wp2;go_ret;exact⟨rfl,J⟩)
 have z:=ae hF;rw[z]at p;simp at p;subst p;go_wp2;go_ret;exact⟨rfl,J⟩
def eu(s:bc):List Bool:=(List.range (aS s 0 0).length).map λi=>wO ((dA<|aS s 0 0).getD i [])<|eX s i
