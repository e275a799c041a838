import Derived.Test.YtkbinfhclaafhaaGreatDoorP01
import Derived.Deep.LoopGhost
import Derived.Deep.OwnRows
namespace Go.Proofs.YtkbinfhclaafhaaGreatDoor
open Go.RowKit
open Go.Proofs.Tryz
set_option maxRecDepth 100000
set_option maxHeartbeats 32000000
set_option linter.all false
def dh.drew {w:World}{B s:Nat}{v:Value}{d:List aV}{a b c:Int}(h:dh w B s v d a b c):dh w.drew B s v d a b c:=⟨h.cell,h.row,h.low⟩
def Fr.drew {B s:Nat}{a w:World}(h:Fr B s a w):Fr B s a w.drew:=⟨h.below.drew,h.zV⟩
def dh.shape {w:World}{B s:Nat}{v:Value}{f:List aV}{e:aV}{a b c:Int}(h:dh w B s v (f++[e]) a b c):∃g d,v= .slice (some ⟨g,0,none⟩) (f.length+1) d/\f.length+1<=d:=by
 rcases h.row.2 with⟨_,k⟩|⟨g,i,j,rfl,_,_,l,_⟩
 .simp at k
 .exact⟨g,i,by simp,by simpa using l⟩
def dh.WI {w:World}{B s g d:Nat}{f:List aV}{e:aV}{a b c:Int}(h:dh w B s (.slice (some ⟨g,0,none⟩) (f.length+1) d) (f++[e]) a b c):
  dh (w.setCell ⟨s,0,none⟩ (.slice (some ⟨g,0,none⟩) f.length d)) B s (.slice (some ⟨g,0,none⟩) f.length d) f a b c:=by
 have k:=h.row;rw[Oz]at k;have j:w.ownsRow B 181 3 (.slice (some ⟨g,0,none⟩) (f.length+1) d) (f.length+1) (jS f++e.cells):=by simpa using k
 have l:=gP (KF f) j;have i:(Value.slice (some ⟨g,0,none⟩) f.length d).ownBlock≠some s:=h.ne;exact⟨by rw[eW h.cell];rfl,jW l i _ _,h.low⟩
def iz(a:List aV):List aV:=((a.reverse.dropWhile λe=> !e.i).drop 1).reverse
def Qa(a:List aV)(e:aV)(h:e.i=true):iz (a++[e])=a:=by simp[iz,h]
def Qb(a:List aV)(e:aV)(h:e.i=false):iz (a++[e])=iz a:=by simp[iz,h]
def jd(x:XS):XS:=
 if 0<x.aK then{x with aK:=x.aK - 1}
 else if x.valid=0 then x
 else{x with aN:=0,st:=iz x.st,valid:=x.valid - 1}
def ko(x:XS):XS:=
 if 0<x.aK then x
 else if 0<x.aN then{x with aN:=x.aN - 1}
 else if(aS x.st).i=false/\1<x.st.length then{x with st:=x.st.dropLast}else x
def akv(w:World)(B s:Nat)(v:Value)(x:XS)(h:dh w B s v x.st x.aK x.aN x.valid)(P:x.st.length<=1000)(O:x.aK=0)(Y:1<=x.valid/\x.valid<=100000)(hex:∃e∈x.st,e.i=true):
  Calls prog 116 #[.pointer<|some ⟨s,0,none⟩] w λr A=>r= .returned (.tuple #[])/\Fr B s w A/\∃u,dh A B s u (iz x.st) x.aK 0 (x.valid - 1):=by
 obtain⟨t,aK,U,b⟩:=x;simp only at h P O Y hex ⊢;subst O;have T:=ah h;have z:=ah hex;have V:w.cell? ⟨s,1,none⟩=some (.int .i64 0):=az h.cell 1;have W:w.cell? ⟨s,2,none⟩=some (.int .i64 U):=az h.cell 2;have N:w.cell? ⟨s,3,none⟩=some (.int .i64 b):=az h.cell 3;have f2:w.frozen? ⟨s,2,none⟩=false:=cB h.cell 2;have Z:(b==0)=false:=by simp;omega
 have R:=ah<|h.Bz 0;have p:Hid (Fr B s w<|w.setCell ⟨s,2,none⟩ (.int .i64 0)):=Fr.set h.low _ _;clear h hex;go_enter func116,ntmps116;go_wp2;clear V W N f2;go_loopg [22] (t.length+1) (λgk _ wr=>∃(u:Value)(c:List aV),dh wr B s u c 0 0 b/\Fr B s w wr/\iz c=iz t/\(∃e∈c,e.i=true)/\c.length<gk/\c.length<=1000);exact⟨v,t,R.out,p.out,rfl,z.out,by omega,P⟩;obtain⟨u,c,F,hF,Q,hex,G,I⟩:=hrel;clear R p T z;have n:c≠[]:=by rintro rfl;simp at hex
 obtain⟨a,e,rfl⟩:∃a e,c=a++[e]:=⟨c.dropLast,c.getLast n,(E6 n).symm⟩
 simp only[bH,eJ,jZ]at G I;have y:Hid (Calls prog 117 #[.pointer<|some ⟨s,0,none⟩] wr λr A=>r= .returned (.agg #[.int .i64 e.l,.int .i64 e.o,.bool e.i])/\Below wr.heap.size wr A):=Qs wr B s u a e 0 0 b F (by omega);have o:=ah F;have L:=ah hF;have M:=ah Q;have z:=ah hex;have fI:=Tryz.GG;clear F hF Q hex n;obtain⟨el,eo,X⟩:=e;cases X
 .have K:Hid (iz a=iz t):=by have:=M.out;rw[Qb _ _ rfl]at this;exact this
  have S:Hid (∃E∈a,E.i=true):=by
   obtain⟨E,g,H⟩:=z.out;rcases jL.1 g with g|g
   .exact⟨E,g,H⟩
   .rw[qX.1 g]at H;cases H
  go_wp2_with fail;refine y.out.mono ?_;rintro r i ⟨rfl,d⟩;have f:=o.out.below d;have p:=ah<|L.out.trans<|Fr.of_below (bP o.out.low<|gF o.out.lt) d;obtain⟨l,k,rfl,J⟩:=f.shape;have D:i.cell? ⟨s,0,none⟩=some (.slice (some ⟨l,0,none⟩) (a.length+1) k):=az f.cell 0;have f0:i.frozen? ⟨s,0,none⟩=false:=cB f.cell 0;have j:=ah f.WI;have q:Hid (Fr B s w<|i.setCell ⟨s,0,none⟩ (.slice (some ⟨l,0,none⟩) a.length k)):=p.out.trans<|Fr.set f.low _ _;obtain⟨m,g⟩:=ac a.length;have C:=ah g;rw[<-g]at D j q J G I;clear f d y g;go_wp2;go_region;go_wp2;go_roundg (m+1);exact⟨_,a,j.out.drew,q.out.drew,K.out,S.out,by rw[C.out];omega,by rw[<-C.out];omega⟩;omega
 .have K:Hid (a=iz t):=by have:=M.out;rw[Qa _ _ rfl]at this;exact this
  go_wp2_with fail;refine y.out.mono ?_;rintro r i ⟨rfl,d⟩;have f:=o.out.below d;have p:=ah<|L.out.trans<|Fr.of_below (bP o.out.low<|gF o.out.lt) d;obtain⟨l,k,rfl,J⟩:=f.shape;have D:i.cell? ⟨s,0,none⟩=some (.slice (some ⟨l,0,none⟩) (a.length+1) k):=az f.cell 0;have f0:i.frozen? ⟨s,0,none⟩=false:=cB f.cell 0;have j:=ah f.WI;have q:Hid (Fr B s w<|i.setCell ⟨s,0,none⟩ (.slice (some ⟨l,0,none⟩) a.length k)):=p.out.trans<|Fr.set f.low _ _;obtain⟨m,g⟩:=ac a.length;have C:=ah g;rw[<-g]at D j q J G I;clear f d y g;go_wp2;go_region;have N:((i.setCell ⟨s,0,none⟩ (.slice (some ⟨l,0,none⟩) m k))).drew.cell? ⟨s,3,none⟩=some (.int .i64 b):=az j.out.drew.cell 3;have f3:((i.setCell ⟨s,0,none⟩ (.slice (some ⟨l,0,none⟩) m k))).drew.frozen? ⟨s,3,none⟩=false:=cB j.out.drew.cell 3;go_wp2;go_end0;exact⟨rfl,q.out.drew.trans<|Fr.set j.out.low _ _,_,K.out▸j.out.drew.MO _⟩
def SJ(x:XS):Prop:=0<=x.aK/\x.aK<=100000/\0<=x.aN/\x.aN<=100000/\0<=x.valid/\x.valid<=100000
def aku(w:World)(B s:Nat)(v:Value)(x:XS)(h:dh w B s v x.st x.aK x.aN x.valid)(l:x.st.length<=1000)(c:SJ x)(hex:1<=x.valid->∃e∈x.st,e.i=true):
  Calls prog 116 #[.pointer<|some ⟨s,0,none⟩] w λq o=>q= .returned (.tuple #[])/\Fr B s w o/\∃t,dh o B s t (jd x).st (jd x).aK (jd x).aN (jd x).valid:=by
 obtain⟨k,d,y,u,f,a⟩:=c;by_cases b:0<x.aK
 .have j:Hid (jd x=⟨x.st,x.aK - 1,x.aN,x.valid⟩):=by unfold jd;rw[aj b];rfl
  obtain⟨st,n,aN,valid⟩:=x;simp only at h l b d f a ⊢;have p:w.cell? ⟨s,1,none⟩=some (.int .i64 n):=az h.cell 1;have f1:w.frozen? ⟨s,1,none⟩=false:=cB h.cell 1;have g:=ah h;clear h hex;go_enter func116,ntmps116;go_wp2
  (try simp only[Exit.inBlock,Exit.then]);refine cI (Bu rfl _ _ _) rfl ?_
  rw[j.out];exact⟨rfl,Fr.set g.out.low _ _,v,g.out.MN _⟩
 .have m:x.aK=0:=by omega
  by_cases i:x.valid=0
  .have j:Hid (jd x=x):=(by show jd x=x;unfold jd;rw[ai b,aj i]);obtain⟨st,n,aN,valid⟩:=x;simp only at h l m i;subst m i;have p:w.cell? ⟨s,1,none⟩=some (.int .i64 0):=az h.cell 1;have z:w.cell? ⟨s,3,none⟩=some (.int .i64 0):=az h.cell 3;have g:=ah h;clear h hex b k d f a;go_enter func116,ntmps116;go_wp2
   (try simp only[Exit.inBlock,Exit.then]);refine cI (Bu rfl _ _ _) rfl ?_
   rw[j.out];exact⟨rfl,Fr.refl _ _ _,v,g.out⟩
  .have r:jd x={x with aN:=0,st:=iz x.st,valid:=x.valid - 1}:=(by unfold jd;rw[ai b,ai i]);rw[r];exact akv w B s v x h l m ⟨by omega,a⟩<|hex<|by omega
def apd(w:World)(B s:Nat)(v:Value)(x:XS)(h:dh w B s v x.st x.aK x.aN x.valid)(f:x.st≠[])(I:x.st.length<=1000)(u:SJ x):
  Calls prog 120 #[.pointer<|some ⟨s,0,none⟩] w λq K=>q= .returned (.tuple #[])/\Fr B s w K/\∃W,dh K B s W (ko x).st (ko x).aK (ko x).aN (ko x).valid:=by
 obtain⟨l,k,M,L,T,U⟩:=u;by_cases o:0<x.aK
 .have g:Hid (ko x=x):=by show ko x=x;unfold ko;rw[aj o]
  obtain⟨st,r,aN,a⟩:=x;simp only at h I o k;have t:w.cell? ⟨s,1,none⟩=some (.int .i64 r):=az h.cell 1;have d:=ah h;clear h f;go_enter func120,ntmps120;go_wp2;go_end0;rw[g.out];exact⟨rfl,Fr.refl _ _ _,v,d.out⟩
 .by_cases z:0<x.aN
  .have g:Hid (ko x={x with aN:=x.aN - 1}):=(by show ko x=_;unfold ko;rw[ai o,aj z]);obtain⟨st,r,aN,a⟩:=x;simp only at h I o l k z L g ⊢;obtain rfl:r=0:=(by omega);have t:w.cell? ⟨s,1,none⟩=some (.int .i64 0):=az h.cell 1;have F:w.cell? ⟨s,2,none⟩=some (.int .i64 aN):=az h.cell 2;have f2:w.frozen? ⟨s,2,none⟩=false:=cB h.cell 2;have d:=ah h;clear h f o l k;go_enter func120,ntmps120;go_wp2;go_end0;rw[g.out];exact⟨rfl,Fr.set d.out.low _ _,v,d.out.Bz _⟩
  .have J:ko x=if(aS x.st).i=false/\1<x.st.length then{x with st:=x.st.dropLast}else x:=by unfold ko;rw[ai o,ai z]
   obtain⟨st,r,aN,a⟩:=x;simp only at h I o l k z M L J f ⊢;obtain rfl:r=0:=(by omega);obtain rfl:aN=0:=(by omega);obtain⟨b,e,rfl⟩:∃b e,st=b++[e]:=⟨st.dropLast,st.getLast f,(E6 f).symm⟩
   simp only[Gi,GL,bH,eJ,jZ]at J I;have p:Hid (Calls prog 117 #[.pointer<|some ⟨s,0,none⟩] w λq K=>q= .returned (.agg #[.int .i64 e.l,.int .i64 e.o,.bool e.i])/\Below w.heap.size w K):=Qs w B s v b e 0 0 a h (by omega);have t:w.cell? ⟨s,1,none⟩=some (.int .i64 0):=az h.cell 1;have F:w.cell? ⟨s,2,none⟩=some (.int .i64 0):=az h.cell 2;have d:=ah h;have g:=ah J;have X:=Tryz.GG;obtain⟨y,C⟩:=ac<|ko ⟨b++[e],0,0,a⟩;rw[<-C]at g ⊢;clear h f o l k z M L J C;obtain⟨N,O,R⟩:=e;cases R
   .by_cases S:0<b.length
    .have E:Hid (y=⟨b,0,0,a⟩):=(by have:=g.out;rw[aj ⟨rfl,by omega⟩]at this;exact this);go_enter func120,ntmps120;go_wp2_with fail;refine p.out.mono ?_;rintro q n ⟨rfl,c⟩;have j:=d.out.below c;have D:Hid (Fr B s w n):=Fr.of_below (bP d.out.low<|gF d.out.lt) c;obtain⟨H,G,rfl,V⟩:=j.shape;have d0:n.cell? ⟨s,0,none⟩=some (.slice (some ⟨H,0,none⟩) (b.length+1) G):=az j.cell 0;have Y:n.frozen? ⟨s,0,none⟩=false:=cB j.cell 0;have P:=ah j.WI;have Q:Hid (Fr B s w<|n.setCell ⟨s,0,none⟩ (.slice (some ⟨H,0,none⟩) b.length G)):=D.out.trans<|Fr.set j.low _ _;generalize b.length=m at*;clear j c p t F g;go_wp2;go_region;go_wp2;go_end0;rw[E.out];exact⟨rfl,Q.out.drew,_,P.out.drew⟩
    .have E:Hid (y=⟨b++[⟨N,O,false⟩],0,0,a⟩):=(by have:=g.out;rw[ai<|by omega]at this;exact this);have A:b.length=0:=(by omega);go_enter func120,ntmps120;go_wp2_with fail;refine p.out.mono ?_;rintro q n ⟨rfl,c⟩;have j:Hid _:=d.out.below c;have D:Hid (Fr B s w n):=Fr.of_below (bP d.out.low<|gF d.out.lt) c;obtain⟨H,G,rfl,V⟩:=j.out.shape;have d0:n.cell? ⟨s,0,none⟩=some (.slice (some ⟨H,0,none⟩) (0+1) G):=(by have:=az j.out.cell 0;rw[A]at this;exact this);clear c p t F g S A;go_wp2;go_end0;rw[E.out];exact⟨rfl,D.out,_,j.out⟩
   .have E:Hid (y=⟨b++[⟨N,O,true⟩],0,0,a⟩):=(by have:=g.out;rw[ai<|by simp]at this;exact this);go_enter func120,ntmps120;go_wp2_with fail;refine p.out.mono ?_;rintro q n ⟨rfl,c⟩;have j:Hid _:=d.out.below c;have D:Hid (Fr B s w n):=Fr.of_below (bP d.out.low<|gF d.out.lt) c;clear c p t F g;go_wp2;go_end0;rw[E.out];exact⟨rfl,D.out,_,j.out⟩
def bV(c:Int):Bool:=c !=9&&(decide (c<13)||decide (17<c))
def dZ(x:XS)(c:Int):XS:=if c=21 then jd x else x
def sL(a:List Int)(i:Nat):Int:=found<|(a.take<|mt a i).drop (i+1)
def fA(a:List Int)(i:Nat)(x:XS)(c:Int):XS:=
 if c=13∨c=14∨c=15∨c=16 then jF x c else if c=18 then jr x 0 else if c=19 then jr x 1
 else if c=20 then jr x (sL a i)else if c=17 then ko x else x
def eP(b:List Int)(a:Int):Nat->XS
 |0=>⟨[⟨a, -1,false⟩],0,0,0⟩
 |i+1=>fA b i (dZ (eP b a i)<|b.getD i 0)<|b.getD i 0
def iq(b:List Int)(a:Int)(i:Nat):aV:=aS (dZ (eP b a i)<|b.getD i 0).st
def bh(b:List Int)(a:Int):List Int:=(List.range b.length).map λi=>(iq b a i).l
def kindOf(c:Int)(e:aV):Int:=if bV c=true/\0<=e.o then e.o else c
def iN(b:List Int)(a:Int):List Int:=(List.range b.length).map λi=>kindOf (b.getD i 0)<|iq b a i
def aQ(a:List Int):List Bool:=a.map bV
structure dU(m:Int)(x:XS):Prop where
 ne:x.st≠[]
 ax:∀(j:Nat)(e:aV),x.st[j]? =some e->(j:Int)<=e.l/\e.l<=125
 hd:∀e,x.st[0]? =some e->e.i=false
 cnt:x.valid=(x.st.filter (·.i)).length
 aK:0<=x.aK/\x.aK<=m
 aN:0<=x.aN/\x.aN<=m
def dU.len {m:Int}{x:XS}(h:dU m x):x.st.length<=126:=by
 have a:=h.ne;have b:x.st.length - 1<x.st.length:=by have:=jK.2 a;omega
 have:=h.ax (x.st.length - 1) _ (aM b);omega
def dU.top {m:Int}{x:XS}(h:dU m x):((x.st.length:Int) - 1<=(aS x.st).l)/\0<=(aS x.st).l/\(aS x.st).l<=125:=by
 have a:=h.ne;have c:=jK.2 a;have b:x.st.length - 1<x.st.length:=by omega
 have d:=h.ax (x.st.length - 1) _ (aM b);have e:aS x.st=x.st[x.st.length - 1]:=by
  unfold aS;rw[r8,GN,aM b];rfl
 rw[e];omega
def dU.big {m:Int}{x:XS}(h:dU m x)(f:m<=100000):SJ x:=by
 have a:=h.aK;have b:=h.aN;have c:=h.cnt;have d:=h.len;have e:=Ay (·.i) x.st;refine⟨a.1,by omega,b.1,by omega,by omega,by omega⟩
def dU.Ty {m:Int}{x:XS}(h:dU m x)(c:1<=x.valid):∃e∈x.st,e.i=true:=by
 have b:=h.cnt;have:0<(x.st.filter (·.i)).length:=by omega
 obtain⟨e,a⟩:=List.exists_mem_of_length_pos this;exact⟨e,(tQ.1 a).1,(tQ.1 a).2⟩
def dU.start(a:Int)(h:0<=a/\a<=125):dU 0 ⟨[⟨a, -1,false⟩],0,0,0⟩:=
 ⟨by simp,λj e b=>by
  match j,b with
  |0,b=>simp at b;subst b;exact⟨by simp;omega,h.2⟩,λe b=>by simp at b;subst b;rfl,by simp,by simp,by simp⟩
def dU.mono {m m':Int}{x:XS}(h:dU m x)(a:m<=m'):dU m' x:=
 ⟨h.ne,h.ax,h.hd,h.cnt,⟨h.aK.1,by have:=h.aK.2;omega⟩,⟨h.aN.1,by have:=h.aN.2;omega⟩⟩
def dU.push {m:Int}{x:XS}(h:dU m x)(e:aV)(g:(aS x.st).l<e.l)(f:e.l<=125):dU m ⟨x.st++[e],x.aK,x.aN,x.valid+(if e.i=true then 1 else 0)⟩:=by
 refine⟨by simp,λj b a=> ?_,λb a=> ?_,?_,h.aK,h.aN⟩
 .simp only at a;rcases cP j x.st.length with c|c
  .rw[tP c]at a;exact h.ax j b a
  .rw[rY c]at a;have:j - x.st.length=0:=by
    rcases GU (j - x.st.length)with d|d
    .exact d
    .rw[rZ<|by simp;omega]at a;cases a
   rw[this]at a;simp at a;subst a;have:=h.top.1;omega
 .simp only at a;rw[tP<|jK.2 h.ne]at a;exact h.hd b a
 .simp only[rW,bH];have:=h.cnt;rw[rX,GM];cases e.i<;>simp<;>omega
def V4(l a:Int):l<gz l a:=by unfold gz;split<;>omega
def dU.Tu {m:Int}{x:XS}(h:dU m x)(c:Int):dU (m+1) (jF x c):=by
 unfold jF;simp only;generalize(if c=15 then(0:Int)else if c=16 then 1 else -1)=o;generalize d:gz (aS x.st).l _=n;have a:(aS x.st).l<n:=by rw[<-d];exact V4 _ _
 split
 .rename_i b;unfold kf at b;simp at b;have:=(h.push ⟨n,o,false⟩ a<|by simp;omega).mono (m':=m+1) (by omega);simpa using this
 .split
  .exact⟨h.ne,h.ax,h.hd,h.cnt,⟨h.aK.1,by have:=h.aK.2;simp only;omega⟩,⟨by have:=h.aN.1;simp only;omega,by have:=h.aN.2;simp only;omega⟩⟩
  .exact h.mono (by omega)
def dU.begin {m:Int}{x:XS}(h:dU m x)(c:Int):dU (m+1) (jr x c):=by
 unfold jr;simp only;generalize d:gz (aS x.st).l _=n;have a:(aS x.st).l<n:=by rw[<-d];exact V4 _ _
 split
 .rename_i b;unfold kf at b;simp at b;have:=(h.push ⟨n, -1,true⟩ a<|by simp;omega).mono (m':=m+1) (by omega);simpa using this
 .exact⟨h.ne,h.ax,h.hd,h.cnt,⟨by have:=h.aK.1;simp only;omega,by have:=h.aK.2;simp only;omega⟩,⟨h.aN.1,by have:=h.aN.2;simp only;omega⟩⟩
def dU.pop {m:Int}{x:XS}(h:dU m x):dU m (ko x):=by
 unfold ko;split
 .exact h
 .split
  .exact⟨h.ne,h.ax,h.hd,h.cnt,h.aK,⟨by simp only;omega,by have:=h.aN.2;simp only;omega⟩⟩
  .split
   .rename_i l;obtain⟨i,k⟩:=l;obtain⟨f,o,p,g⟩:=x;obtain⟨a,e,rfl⟩:∃a e,f=a++[e]:=⟨f.dropLast,f.getLast h.ne,(E6 h.ne).symm⟩
    simp only[Gi,bH,eJ,jZ]at i k;have c:a≠[]:=(by rintro rfl;simp at k);refine⟨by simpa using c,λj d b=> ?_,λd b=> ?_,?_,h.aK,h.aN⟩
    .simp only[GL]at b;refine h.ax j d ?_;have n:j<a.length:=(r7.1 b).1;simp only;rw[tP n];exact b
    .simp only[GL]at b;refine h.hd d ?_;simp only;rw[tP<|jK.2 c];exact b
    .have:=h.cnt;simp only[rW,bH,GL]at this ⊢;simpa [i]using this
   .exact h
def afl:∀(r:List aV),(∃e∈r,e.i=true)->∃a e b,r=a++e::b/\e.i=true/\(∀y∈a,y.i=false)/\(r.dropWhile λe=> !e.i)=e::b
 |[],h=>by simp at h
 |e::r,h=>by
  cases hi:e.i with
  |true=>exact⟨[],e,r,rfl,hi,by simp,by simp[hi]⟩
  |false=>
   have:∃y∈r,y.i=true:=by
    obtain⟨y,c,d⟩:=h;rcases fW.1 c with rfl|c
    .rw[hi]at d;cases d
    .exact⟨y,c,d⟩
   obtain⟨a,f,b,g,i,j,k⟩:=afl r this;refine⟨e::a,f,b,by rw[g];rfl,i,?_,?_⟩
   .intro y c;rcases fW.1 c with rfl|c
    .exact hi
    .exact j y c
   .rw[List.dropWhile_cons,hi];simpa using k
def apb(c:List aV)(h:∃e∈c,e.i=true):∃e a,c=iz c++e::a/\e.i=true/\∀y∈a,y.i=false:=by
 obtain⟨a,e,b,d,f,g,i⟩:=afl c.reverse (by simpa using h);refine⟨e,a.reverse,?_,f,by simpa using g⟩;have j:iz c=b.reverse:=by unfold iz;rw[i];rfl
 have:c=(a++e::b).reverse:=by rw[<-d,List.reverse_reverse]
 rw[j];rw[this];simp
def dU.end {m:Int}{x:XS}(h:dU m x):dU m (jd x):=by
 unfold jd;split
 .exact⟨h.ne,h.ax,h.hd,h.cnt,⟨by simp only;omega,by have:=h.aK.2;simp only;omega⟩,h.aN⟩
 .split
  .exact h
  .rename_i t w;have k:1<=x.valid:=(by have:=h.cnt;omega);obtain⟨e,a,g,l,o⟩:=apb x.st<|h.Ty k;have f:iz x.st≠[]:=by
    intro r;rw[r]at g;have:=h.hd e (by rw[g];rfl);rw[l]at this;cases this
   have n:=jK.2 f;have c:∀(j:Nat)(b:aV),(iz x.st)[j]? =some b->x.st[j]? =some b:=by
    intro j b d;have q:j<(iz x.st).length:=(r7.1 d).1;rw[g,tP q];exact d
   refine⟨f,λj b d=>h.ax j b<|c j b d,λb d=>h.hd b<|c 0 b d,?_,h.aK,⟨by simp,by have:=h.aN;simp only;omega⟩⟩;have u:=h.cnt;have v:(x.st.filter (·.i)).length=((iz x.st).filter (·.i)).length+1:=by
    have p:a.filter (·.i)=[]:=Sj.2<|by intro y s;simp[o y s]
    conv=>lhs;rw[g]
    rw[rW,bH,rX,aj l,p];rfl
   simp only;omega
def dU.pre {m:Int}{x:XS}(h:dU m x)(c:Int):dU m (dZ x c):=by unfold dZ;split;exact h.end;exact h
def dU.post {m:Int}{x:XS}(h:dU m x)(a:List Int)(i:Nat)(c:Int):dU (m+1) (fA a i x c):=by
 unfold fA;split
 .exact h.Tu c
 .split
  .exact h.begin 0
  .split
   .exact h.begin 1
   .split
    .exact h.begin _
    .split
     .exact h.pop.mono (by omega)
     .exact h.mono (by omega)
def yT(b:List Int)(a:Int)(h:0<=a/\a<=125):∀i:Nat,dU i<|eP b a i
 |0=>dU.start a h
 |i+1=>by
  have:=((yT b a h i).pre (b.getD i 0)).post b i (b.getD i 0);exact this
def iv(l:List Int):List Value:=l.map (.int .i64 ·)
def bv(l:List Bool):List Value:=l.map .bool
def Iz(l:List Int)(k:Nat)(a:Int):(iv l).set k (.int .i64 a)=iv (l.set k a):=by simp[iv,List.map_set]
def S5(l:List Bool)(k:Nat)(a:Bool):(bv l).set k (.bool a)=bv (l.set k a):=by simp[bv,List.map_set]
def upto {a:Type}(l:List a)(z:a)(k:Nat):List a:=l.take k++List.replicate (l.length - k) z
def XV {a:Type}(l:List a)(z:a):upto l z 0=List.replicate l.length z:=by simp[upto]
def XT {a:Type}(l:List a)(z:a)(k:Nat)(h:k=l.length):upto l z k=l:=by simp[upto,h]
def XU {a:Type}(l:List a)(z:a)(k:Nat)(h:k<=l.length):(upto l z k).length=l.length:=by simp[upto];omega
def Ja {c:Type}(l:List c)(z a:c)(k:Nat)(h:l[k]? =some a):(upto l z k).set k a=upto l z (k+1):=by
 obtain⟨b,rfl⟩:=r7.1 h;clear h;unfold upto;rw[xR _ _ (by simp;omega)];simp only[r9,jN<|gF b,oK];rw[show l.length - k=(l.length - (k+1))+1 by omega,GS,aie,pG b,dO];rfl
def WT {w b:World}{B s n:Nat}{v:Value}{e:TypeId}{d:List Value}(h:w.ownsRow B e 1 v n d)(q:Lib.OthersKept 181 (some s) w b)(p:e≠181)(r:v.ownBlock≠some s):b.ownsRow B e 1 v n d:=by
 rcases h.2 with⟨rfl,j⟩|⟨g,f,a,rfl,k,l,m⟩
 .exact⟨h.1,.inl ⟨rfl,j⟩⟩
 .refine⟨h.1,.inr ⟨g,f,a,rfl,k,q g _ l (by simpa [Value.ownBlock]using r) ?_,m⟩⟩;intro c t o;injection o with _ i _
  exact p i
def Tryz.rL:(prog.info? 3).map (λi=>(i.zero,i.size,i.bytes))=some (some (.int .i64 0),1,8):=by kernel_rfl
def Tryz.Md:(prog.info? 4).map (λi=>(i.zero,i.size,i.bytes))=some (some (.bool false),1,1):=by kernel_rfl
def aY(w:World)(B:Nat)(e:TypeId)(g n:Nat)(a:List Value):Prop:=w.ownsRow B e 1 (.slice (some ⟨g,0,none⟩) n n) n a
def aY.set {w:World}{B g n:Nat}{e:TypeId}{a:List Value}(h:aY w B e g n a)(k:Nat)(u:Value):aY (w.setCell ⟨g,k,none⟩ u) B e g n (a.set k u):=(h.stored k u).1
def aY.setOther {w:World}{B g n:Nat}{e:TypeId}{c:List Value}(h:aY w B e g n c)(b k:Nat)(u:Value)(a:g≠b):aY (w.setCell ⟨b,k,none⟩ u) B e g n c:=jW h (by simp[Value.ownBlock,a]) k u
def aY.alloc {w:World}{B g n:Nat}{e:TypeId}{a:List Value}(h:aY w B e g n a)(o:Obj):aY (w.alloc o) B e g n a:=kT h o
def aY.frozen {w:World}{B g n:Nat}{e:TypeId}{a:List Value}(h:aY w B e g n a)(k:Nat):w.frozen? ⟨g,k,none⟩=false:=Dx h k
def aY.cell {w:World}{B g n:Nat}{e:TypeId}{a:List Value}(h:aY w B e g n a)(k:Nat)(b:k<n):w.cell? ⟨g,k,none⟩=a[k]? :=di h k<|by omega
def aY.ge {w:World}{B g n:Nat}{e:TypeId}{a:List Value}(h:aY w B e g n a):B<=g/\g<w.heap.size:=AJ h g rfl
def aY.made {w:World}{B n:Nat}{e:TypeId}{z:Value}(a:B<=w.heap.size)(b:n<=1000000):aY (w.alloc (.cells (madeCells #[z] n) e)) B e w.heap.size n (List.replicate n z):=by
 refine⟨by simp,.inr ⟨w.heap.size,n,madeCells #[z] n,rfl,a,?_,au _,by unfold maxLen;omega,by simp[size_madeCells],?_⟩⟩
 .exact UA w _
 .rw[jb];simp
def bu(w:World)(B g n a:Nat)(t:List Int):Prop:=w.ownsRow B 3 1 (.slice (some ⟨g,0,none⟩) n a) n<|iv t
def bu.len {w:World}{B g n a:Nat}{t:List Int}(h:bu w B g n a t):t.length=n:=by have:=h.1;simpa [iv]using this
def bu.set {w:World}{B g n b:Nat}{t:List Int}(h:bu w B g n b t)(k:Nat)(a:Int):bu (w.setCell ⟨g,k,none⟩ (.int .i64 a)) B g n b (t.set k a):=by
 have:=(Ck h k (.int .i64 a)).1;rw[Iz]at this;exact this
def bu.grown {w:World}{B g n b:Nat}{t:List Int}(h:bu w B g n b t)(k:Nat)(a:Int):w.grownBy (w.setCell ⟨g,k,none⟩ (.int .i64 a)) (some g):=(Ck h k (.int .i64 a)).2
def bu.frozen {w:World}{B g n a:Nat}{t:List Int}(h:bu w B g n a t)(k:Nat):w.frozen? ⟨g,k,none⟩=false:=Dx h k
def bu.cell {w:World}{B g n a:Nat}{t:List Int}(h:bu w B g n a t)(k:Nat)(b:k<n):w.cell? ⟨g,k,none⟩=some (.int .i64<|t.getD k 0):=by
 rw[di h k<|by omega];have c:=h.len;simp[iv,aO,aM (show k<t.length by omega)]
def lO(a b:Int):Int->List Int->List Int
 |_,[]=>[]
 |last,c::r=>(if c=3/\(if c=0∨c=1∨c=2 then c else last)=a then b else c)::lO a b (if c=0∨c=1∨c=2 then c else last) r
def su(c d e:Int)(t:List Int)(k:Nat)(b:Int)(f:List Int):Prop:=∃a,a.length=k/\f=a++t.drop k/\lO c d e t=a++lO c d b (t.drop k)
def su.start(b c a:Int)(t:List Int):su b c a t 0 a t:=⟨[],rfl,by simp,by simp⟩
def su.stop {e g b a:Int}{t f:List Int}{k:Nat}(h:su e g b t k a f)(j:¬k<t.length):f=lO e g b t:=by
 obtain⟨i,_,c,d⟩:=h;rw[kr<|by omega]at c d;rw[c,d];rfl
def su.at {g j c a:Int}{t b:List Int}{k:Nat}(h:su g j c t k a b)(f:k<t.length):b.getD k 0=t.getD k 0:=by
 obtain⟨i,d,e,_⟩:=h;rw[e,aO,rY<|by omega,d,oK,drop_at f];rfl
def su.step {c e f b:Int}{t j:List Int}{k:Nat}(h:su c e f t k b j)(i:k<t.length)(a v:Int)(n:a=if t.getD k 0=0∨t.getD k 0=1∨t.getD k 0=2 then t.getD k 0 else b)(o:v=if t.getD k 0=3/\a=c then e else t.getD k 0):su c e f t (k+1) a (j.set k v):=by
 obtain⟨d,g,l,m⟩:=h;refine⟨d++[v],by simp[g],?_,?_⟩
 .rw[l,drop_at i,xR _ _ (by omega),g,oK];simp
 .rw[m,drop_at i,lO,<-n,<-o];simp
def su.same {g j c a:Int}{t b:List Int}{k:Nat}(h:su g j c t k a b)(f:k<t.length):b.set k (t.getD k 0)=b:=by
 obtain⟨i,d,e,_⟩:=h;rw[e,drop_at f,xR _ _ (by omega),d,oK];rfl
def afx(t:List Int)(s f p:Int)(B g n j:Nat)(w:World)(G:bu w B g n j t)(Q:n<=100000):
  Calls prog 190 #[.slice (some ⟨g,0,none⟩) n j,.int .i64 s,.int .i64 f,.int .i64 p] w λe K=>e= .returned (.tuple #[])/\bu K B g n j (lO f p s t)/\w.grownBy K (some g):=by
 have M:=ah G;have I:=ah G.len;clear G;go_enter func190,ntmps190;go_wp2;go_loopg [8,9] n (λgk O i wr=>∃(k:Nat)(l:Int)(z:List Int),k<=n/\gk=n - k/\O= .int .i64 l/\i= .int .i64 k/\bu wr B g n j z/\w.grownBy wr (some g)/\su f p s t k l z);exact⟨0,s,t,by omega,rfl,rfl,rfl,M.out,jO _ _,su.start _ _ _ _⟩;obtain⟨k,l,z,P,rfl,rfl,rfl,A,F,o⟩:=hrel;have m:=ah A;have r:=ah F;have J:=ah o;by_cases x:k<n
 .have a:k<t.length:=by rw[I.out];exact x
  have d:=A.cell k x;rw[o.at a]at d;have N:=A.frozen k;obtain⟨c,hx⟩:=ac<|t.getD k 0;rw[<-hx]at d;have key:∀C:Int,(C=if c=0∨c=1∨c=2 then c else l)->¬(c=3/\C=f)->Hid (su f p s t (k+1) C z):=by
   intro C u v;have:=o.step a C c (by rw[<-hx];exact u) (by rw[<-hx,ai v]);rw[hx,o.same a]at this;exact this
  have q:c=3->l=f->Hid (su f p s t (k+1) l<|z.set k p):=by
   intro u v;exact o.step a l p (by rw[<-hx,ai<|by omega])<|by rw[<-hx,aj ⟨u,v⟩]
  clear A F o hx a J;by_cases E:c=0
  .subst E;have b:=key 0 rfl (by omega);clear key q;go_wp2;go_roundg (n - (k+1));exact⟨k+1,0,_,by omega,rfl,rfl,by simp,m.out,r.out,b.out⟩;omega
  by_cases u:c=1
  .subst u;have b:=key 1 rfl (by omega);clear key q;go_wp2;go_roundg (n - (k+1));exact⟨k+1,1,_,by omega,rfl,rfl,by simp,m.out,r.out,b.out⟩;omega
  by_cases v:c=2
  .subst v;have b:=key 2 rfl (by omega);clear key q;go_wp2;go_roundg (n - (k+1));exact⟨k+1,2,_,by omega,rfl,rfl,by simp,m.out,r.out,b.out⟩;omega
  by_cases D:c=3
  .subst D;by_cases y:l=f
   .have b:=q rfl y;have H:(l==f)=true:=(by simpa using y);clear key q y;go_wp2;go_roundg (n - (k+1));exact⟨k+1,l,_,by omega,rfl,rfl,by simp,m.out.set k _,r.out.trans<|m.out.grown k _,b.out⟩;omega
   .have b:=key l (by rw[ai<|by omega]) (λh=>y h.2);have H:(l==f)=false:=(by simpa using y);clear key q y;go_wp2;go_roundg (n - (k+1));exact⟨k+1,l,_,by omega,rfl,rfl,by simp,m.out,r.out,b.out⟩;omega
  have b:=key l (by rw[ai<|by omega]) (λh=>D h.1);have R:=ae E;have S:=ae u;have T:=ae v;have U:=ae D;clear key q E u v D;go_wp2;go_roundg (n - (k+1));exact⟨k+1,l,_,by omega,rfl,rfl,by simp,m.out,r.out,b.out⟩;omega
 .have L:Hid (z=lO f p s t):=o.stop (by rw[I.out];exact x);clear A F o J;go_wp2;go_end0;exact⟨rfl,L.out▸m.out,r.out⟩
def pass {a:Type}(f:a->Int->List Int->Int)(g:a->Int->List Int->a):a->List Int->List Int
 |_,[]=>[]
 |s,c::r=>f s c r::pass f g (g s c r) r
def aZ {b:Type}(f:b->Int->List Int->Int)(g:b->Int->List Int->b)(c:b)(t:List Int)(k:Nat)(s:b)(d:List Int):Prop:=
 ∃a,a.length=k/\d=a++t.drop k/\pass f g c t=a++pass f g s (t.drop k)
section
variable{σ:Type}{f:σ->Int->List Int->Int}{g:σ->Int->List Int->σ}{s0 s:σ}{t t':List Int}{k:Nat}
def UC:∀(t:List Int)(s:σ),(pass f g s t).length=t.length
 |[],_=>rfl
 |c::r,s=>by simp[pass,UC r]
def aZ.start(f:σ->Int->List Int->Int)(g:σ->Int->List Int->σ)(a:σ)(t:List Int):aZ f g a t 0 a t:=⟨[],rfl,by simp,by simp⟩
def aZ.stop(h:aZ f g s0 t k s t')(d:¬k<t.length):t'=pass f g s0 t:=by
 obtain⟨c,_,a,b⟩:=h;rw[kr<|by omega]at a b;rw[a,b];rfl
def aZ.at(h:aZ f g s0 t k s t')(j:Nat)(d:k<=j):t'.getD j 0=t.getD j 0:=by
 obtain⟨c,a,b,_⟩:=h;rw[b,aO,rY<|by omega,a,zj,show k+(j - k)=j by omega,aO]
def aZ.step(h:aZ f g s0 t k s t')(c:k<t.length)(v:Int)(d:σ)(l:v=f s (t.getD k 0) (t.drop<|k+1))(j:d=g s (t.getD k 0) (t.drop<|k+1)):aZ f g s0 t (k+1) d (t'.set k v):=by
 obtain⟨a,b,e,i⟩:=h;refine⟨a++[v],by simp[b],?_,?_⟩
 .rw[e,drop_at c,xR _ _ (by omega),b,oK];simp
 .rw[i,drop_at c,pass,<-l,<-j];simp
def aZ.same(h:aZ f g s0 t k s t')(c:k<t.length):t'.set k (t.getD k 0)=t':=by
 obtain⟨d,a,b,_⟩:=h;rw[b,drop_at c,xR _ _ (by omega),a,oK];rfl
def aZ.stay(h:aZ f g s0 t k s t')(b:k<t.length)(a:σ)(d:t.getD k 0=f s (t.getD k 0) (t.drop<|k+1))(c:a=g s (t.getD k 0) (t.drop<|k+1)):aZ f g s0 t (k+1) a t':=by
 have:=h.step b (t.getD k 0) a d c;rwa [h.same b]at this
def aZ.length(h:aZ f g s0 t k s t')(d:k<=t.length):t'.length=t.length:=by
 obtain⟨c,a,b,_⟩:=h;rw[b];simp[a];omega
def aZ.prev(h:aZ f g s0 t k s t')(a:k<t.length)(v:Int):(t'.set k v).getD k 0=v:=by
 have:=h.length (by omega);rw[aO,ZL<|by omega];rfl
end
def jo(a:List Int)(k:Nat)(s:Option Int):Prop:=(k=0/\s=none)∨(0<k/\s=some (a.getD (k - 1) 0))
def f1(a:Int)(s:Option Int)(c:Int)(_r:List Int):Int:=if c=8 then(match s with|none=>a|some p=>if aU p=true∨p=21 then 12 else p)else c
def g1(a:Int)(s:Option Int)(c:Int)(r:List Int):Option Int:=some (f1 a s c r)
def f3(_:Unit)(c:Int)(_:List Int):Int:=if c=2 then 1 else c
def g3(_:Unit)(_:Int)(_:List Int):Unit:=()
def f4(s:Option Int)(c:Int)(r:List Int):Int:=match s,r with
 |some a,d::_=>if a=d/\((c=4/\a=3)∨(c=7/\(a=3∨a=6)))then a else c
 |_,_=>c
def g4(s:Option Int)(c:Int)(r:List Int):Option Int:=some (f4 s c r)
def pK:List Int->Bool
 |[]=>false
 |c::r=>if c=5 then pK r else c==3
def f5(s:Option Int)(c:Int)(r:List Int):Int:=if c=5/\(s=some 3∨pK r=true)then 3 else c
def g5(s:Option Int)(c:Int)(r:List Int):Option Int:=some (f5 s c r)
def f6(_:Unit)(c:Int)(_:List Int):Int:=if c=4∨c=5∨c=7 then 12 else c
def OE {a c:Int}{s:Option Int}{r:List Int}(h:¬c=8):f1 a s c r=c:=by unfold f1;rw[ai h]
def DT {c:Int}{r:List Int}(h:¬c=2):f3 () c r=c:=by unfold f3;rw[ai h]
def akR {c:Int}{r:List Int}(h:c=4∨c=5∨c=7):f6 () c r=12:=by unfold f6;rw[aj h]
def DX {c:Int}{r:List Int}(h:¬(c=4∨c=5∨c=7)):f6 () c r=c:=by unfold f6;rw[ai h]
def DU {c:Int}{r:List Int}:f4 none c r=c:=by unfold f4;rfl
def akQ {s:Option Int}{c:Int}:f4 s c []=c:=by unfold f4;cases s<;>rfl
def TA {a d c:Int}{r:List Int}:f4 (some a) c (d::r)=if a=d/\((c=4/\a=3)∨(c=7/\(a=3∨a=6)))then a else c:=rfl
def Uk {t:List Int}(h:0<t.length):aZ f4 g4 none t 1 (some (t.getD 0 0)) t:=by
 have:=(aZ.start f4 g4 none t).stay h (some (t.getD 0 0)) DU.symm (by rw[g4,DU]);exact this
def Ul {t b:List Int}{k:Nat}{s:Option Int}(h:aZ f4 g4 none t k s b)(d:¬k+1<t.length):b=pass f4 g4 none t:=by
 by_cases a:k<t.length
 .have c:t.drop (k+1)=[]:=kr (by omega);exact(h.stay a (g4 s (t.getD k 0)<|t.drop<|k+1) (by rw[c,akQ]) rfl).stop (by omega)
 .exact h.stop a
def uD(a:Int)(t:List Int):List Int:=
 lO 0 0 a (pass f6 g3 ()<|pass f5 g5 none (pass f4 g4 none (pass f3 g3 ()<|lO 2 6 a<|pass (f1 a) (g1 a) none t)))
def jo.start(a:List Int):jo a 0 none:= .inl ⟨rfl,rfl⟩
def jo.set {a:List Int}{k:Nat}(v:Int)(h:k<a.length):jo (a.set k v) (k+1) (some v):= .inr ⟨by omega,by
 rw[lJ,aO,ZL h];rfl⟩
def jo.stay {t':List Int}{k:Nat}:jo t' (k+1) (some (t'.getD k 0)):= .inr ⟨by omega,by rw[lJ]⟩
def qj(t:List Int)(k:Nat):Nat->List Int
 |0=>t
 |m+1=>(qj t k m).set (k+m) 3
def D3(t:List Int)(k:Nat):∀m,(qj t k m).length=t.length
 |0=>rfl
 |m+1=>by simp[qj,D3 t k m]
def Tx {b:List Int}{j:Nat}(d:j<=b.length):∀m a,a+m=j->(∀q,a<=q->q<j->b.getD q 0=5)->pK (b.drop a)=pK (b.drop j)
 |0,a,h,_=>by rw[<-h];rfl
 |m+1,a,h,hr=>by
  rw[drop_at (show a<b.length by omega),pK,aj<|hr a (au _)<|by omega];exact Tx d m (a+1) (by omega) λq e c=>hr q (by omega) c
def afC {b n:List Int}{k j:Nat}{s:Option Int}(h:aZ f5 g5 none b k s n)(a:∀q,k<=q->q<j->b.getD q 0=5)(l:j<=b.length)(c:s=some 3∨pK (b.drop j)=true):
  ∀m,k+m<=j->∃d,aZ f5 g5 none b (k+m) d (qj n k m)/\(m=0->d=s)/\(0<m->d=some 3)
 |0,_=>⟨s,h,λ_=>rfl,λh=>by omega⟩
 |m+1,hm=>by
  obtain⟨d,g,f,o⟩:=afC h a l c m (by omega);have p:d=some 3∨pK (b.drop<|k+m+1)=true:=by
   rcases c with c|c
   .left;rcases GU m with e|e
    .rw[f e,c]
    .exact o e
   .right;rw[Tx l (j - (k+m+1)) (k+m+1) (by omega) λq g f=>a q (by omega) f];exact c
  have i:f5 d (b.getD (k+m) 0) (b.drop<|k+m+1)=3:=by
   unfold f5;exact aj ⟨a (k+m) (by omega)<|by omega,p⟩
  exact⟨some 3,g.step (by omega) 3 (some 3) i.symm<|by rw[g5,i],λh=>by omega,λ_=>rfl⟩
def MK {c d:List Int}{k j:Nat}{s:Option Int}(h:aZ f5 g5 none c k s d)(b:∀q,k<=q->q<j->c.getD q 0=5)(i:j<=c.length)(l:k<j)(g:s=some 3∨pK (c.drop j)=true):
  aZ f5 g5 none c j (some 3) (qj d k<|j - k)/\jo (qj d k<|j - k) j (some 3):=by
 obtain⟨o,e,_,f⟩:=afC h b i g (j - k) (by omega);rw[f<|by omega,show k+(j - k)=j by omega]at e;refine⟨e,?_⟩;have a:=h.length (by omega);obtain⟨m,n⟩:∃m,j - k=m+1:=⟨j - k - 1,by omega⟩
 rw[n,qj,show j=k+m+1 by omega];exact jo.set 3<|by rw[D3,a];omega
def afD {b r:List Int}{k j:Nat}{s:Option Int}(h:aZ f5 g5 none b k s r)(a:∀q,k<=q->q<j->b.getD q 0=5)(o:j<=b.length)(p:¬s=some 3)(l:pK (b.drop j)=false):
  ∀m,k+m<=j->∃c,aZ f5 g5 none b (k+m) c r/\(m=0->c=s)/\(0<m->c=some 5)
 |0,_=>⟨s,h,λ_=>rfl,λh=>by omega⟩
 |m+1,hm=>by
  obtain⟨c,g,e,t⟩:=afD h a o p l m (by omega);have f:¬c=some 3:=by
   rcases GU m with d|d
   .rw[e d];exact p
   .rw[t d];simp
  have i:=a (k+m) (by omega) (by omega);have n:f5 c (b.getD (k+m) 0) (b.drop<|k+m+1)=5:=by
   unfold f5;rw[Tx o (j - (k+m+1)) (k+m+1) (by omega) λq g e=>a q (by omega) e,l,ai<|by rintro⟨_,h|h⟩;exact f h;cases h];exact i
  exact⟨some 5,g.stay (by omega) (some 5) (by rw[n];exact i)<|by rw[g5,n],λh=>by omega,λ_=>rfl⟩
def ML {b c:List Int}{k j:Nat}{s:Option Int}(h:aZ f5 g5 none b k s c)(a:∀q,k<=q->q<j->b.getD q 0=5)(g:j<=b.length)(i:k<j)(l:¬s=some 3)(f:pK (b.drop j)=false):
  aZ f5 g5 none b j (some 5) c/\jo c j (some 5):=by
 obtain⟨m,d,_,e⟩:=afD h a g l f (j - k) (by omega);rw[e<|by omega,show k+(j - k)=j by omega]at d;refine⟨d,.inr ⟨by omega,?_⟩⟩;rw[h.at (j - 1)<|by omega,a (j - 1) (by omega)<|by omega]
def CI {a:List Int}{j:Nat}(c:j<a.length)(b:¬a.getD j 0=5):pK (a.drop j)=(a.getD j 0==3):=by rw[drop_at c,pK,ai b]
def Dc {a:List Int}{j:Nat}(b:¬j<a.length):pK (a.drop j)=false:=by rw[kr<|by omega];rfl
def WU {a b:List Int}{k:Nat}{s:Option Int}(h:aZ f5 g5 none a k s b)(e:k<a.length)(d:¬a.getD k 0=5):aZ f5 g5 none a (k+1) (some (a.getD k 0)) b/\jo b (k+1) (some (a.getD k 0)):=by
 have c:f5 s (a.getD k 0) (a.drop<|k+1)=a.getD k 0:=by unfold f5;rw[ai λh=>d h.1]
 refine⟨h.stay e _ c.symm (by rw[g5,c]),?_⟩;rw[<-h.at k (au _)];exact jo.stay
def mL(a:List Int)(r:Int)(b:List Nat):Nat->Option Nat
 |0=>none
 |m+1=>if(dV<|a.getD (b.getD m 0) 0).2=r then some m else mL a r b m
def o6(t a:List Int)(i:Nat)(x:List Nat×List (Nat×Nat)):Option (List Nat×List (Nat×Nat)):=
 if t.getD i 0=12 then
  if(dV<|a.getD i 0).1=1 then(if x.1.length=63 then none else some (x.1++[i],x.2))
  else if(dV<|a.getD i 0).1=2 then(match mL a (dV<|a.getD i 0).2 x.1 x.1.length with
   |some m=>some (x.1.take m,x.2++[(x.1.getD m 0,i)])
   |none=>some x)
  else some x
 else some x
def dL(t a:List Int):Nat->Nat->List Nat×List (Nat×Nat)->Option (List<|Nat×Nat)
 |0,_,x=>some x.2
 |n+1,i,x=>match o6 t a i x with
  |some y=>dL t a n (i+1) y
  |none=>none
def lH(t e:List Int)(d:List<|Nat×Nat):Prop:=match dL t e t.length 0 ([],[])with
 |none=>d=[]
 |some c=>d.Perm c/\d.Pairwise (λa b=>a.1<=b.1)
def af7(a:List Int)(r:Int)(b:List Nat):∀m k,mL a r b m=some k->k<m
 |0,k,h=>by simp[mL]at h
 |m+1,k,h=>by
  rw[mL]at h;split at h
  .simp at h;omega
  .have:=af7 a r b m k h;omega
structure kR(i:Nat)(x:List Nat×List (Nat×Nat)):Prop where
 len:x.1.length<=63
 few:x.2.length<=i
 st:∀a∈x.1,a<i
 out:∀p∈x.2,p.1<p.2/\p.2<i
 ur:(x.1++x.2.map Prod.fst).Nodup
def kR.start:kR 0 ([],[]):=⟨by simp,by simp,by simp,by simp,by simp⟩
def kR.more {i:Nat}{x:List Nat×List (Nat×Nat)}(h:kR i x):kR (i+1) x:=
 ⟨h.len,Nat.le_succ_of_le h.few,λa c=>J9<|h.st a c,λp b=>⟨(h.out p b).1,J9 (h.out p b).2⟩,h.ur⟩
def kR.push {i:Nat}{x:List Nat×List (Nat×Nat)}(h:kR i x)(m:¬x.1.length=63):kR (i+1) (x.1++[i],x.2):=by
 obtain⟨k,l,f,e,g⟩:=h;refine⟨by simp;omega,by simp;omega,?_,λp d=>⟨(e p d).1,J9 (e p d).2⟩,?_⟩
 .intro a c;simp at c;rcases c with c|rfl
  .exact J9 (f a c)
  .exact ZW _
 .show((x.1++[i])++x.2.map Prod.fst).Nodup;have d:((x.1++[i])++x.2.map Prod.fst).Perm (i::(x.1++x.2.map Prod.fst)):=by
   rw[dO];exact ah9
  rw[d.nodup_iff,Dr];refine⟨?_,g⟩;intro b;rcases jL.1 b with b|b
  .exact Nat.lt_irrefl _ (f i b)
  .obtain⟨p,j,rfl⟩:=jM.1 b;have:=e p j;omega
def kR.pop {i m:Nat}{x:List Nat×List (Nat×Nat)}(h:kR i x)(e:m<x.1.length):kR (i+1) (x.1.take m,x.2++[(x.1.getD m 0,i)]):=by
 obtain⟨o,q,f,g,j⟩:=h;have b:x.1.getD m 0=x.1[m]:=by simp[aO,aM e]
 have c:x.1.getD m 0∈x.1:=by rw[b];exact pF e
 refine⟨by simp;omega,by simp;omega,λa k=>J9<|f a<|NM k,?_,?_⟩
 .intro p d;simp at d;rcases d with d|rfl
  .exact⟨(g p d).1,J9 (g p d).2⟩
  .exact⟨by have:=f _ c;simpa [aO]using this,ZW _⟩
 .have n:(x.1.take m++[x.1.getD m 0]).Sublist x.1:=by
   have:x.1.take m++[x.1.getD m 0]=x.1.take (m+1):=(by rw[b,pG e]);rw[this];exact aih _ _
  have l:=j.sublist<|n.append<|ahS<|x.2.map Prod.fst;refine(ahR ?_).1 l;simp only[fB,mP,Dq];rw[dO];refine(Sh _).append ?_;exact ah8
def kR.step {t c:List Int}{i:Nat}{x y:List Nat×List (Nat×Nat)}(h:kR i x)(a:o6 t c i x=some y):kR (i+1) y:=by
 unfold o6 at a;split at a
 .split at a
  .split at a
   .cases a
   .obtain rfl:=aJ a;exact h.push ‹_›
  .split at a
   .split at a
    .rename_i m b;obtain rfl:=aJ a;exact h.pop<|af7 _ _ _ _ _ b
    .obtain rfl:=aJ a;exact h.more
   .obtain rfl:=aJ a;exact h.more
 .obtain rfl:=aJ a;exact h.more
def Wp {t d:List Int}:∀n i x a,kR i x->dL t d n i x=some a->(∀p∈a,p.1<p.2/\p.2<i+n)/\(a.map Prod.fst).Nodup
 |0,i,x,a,h,hf=>by
  rw[dL]at hf;obtain rfl:=aJ hf;exact⟨h.out,(GR.1 h.ur).2.1⟩
 |n+1,i,x,a,h,hf=>by
  rw[dL]at hf;split at hf
  .rename_i y c;have:=Wp n (i+1) y a (h.step c) hf;exact⟨λp b=>⟨(this.1 p b).1,by have:=(this.1 p b).2;omega⟩,this.2⟩
  .cases hf
def agc:∀(a b:List<|Nat×Nat),a.Perm b->(a.map Prod.fst).Nodup->a.Pairwise (λp q=>p.1<=q.1)->b.Pairwise (λp q=>p.1<=q.1)->a=b
 |[],b,h,_,_,_=>h.nil_eq
 |p::a,[],h,_,_,_=>by simpa using h.length_eq
 |p::a,q::b,h,hn,ha,hb=>by
  have e:p=q:=by
   have d:p∈q::b:=h.subset (by simp);have c:q∈p::a:=h.symm.subset (by simp);rcases fW.1 d with d|d
   .exact d
   .rcases fW.1 c with c|c
    .exact c.symm
    .have f:=(Ds.1 hb).1 p d;have g:=(Ds.1 ha).1 q c;have i:p.1=q.1:=Nat.le_antisymm g f;have:=(Dr.1 hn).1;exact absurd (jM.2 ⟨q,c,i.symm⟩) this
  subst e;rw[agc a b (List.Perm.cons_inv h) (Dr.1 hn).2 (Ds.1 ha).2 (Ds.1 hb).2]
def lH.one {t c:List Int}{a b:List (Nat×Nat)}(h:lH t c a)(k:lH t c b):a=b:=by
 unfold lH at h k;cases hp:dL t c t.length 0 ([],[])with
 |none=>rw[hp]at h k;simp only at h k;rw[h,k]
 |some e=>
  rw[hp]at h k;have d:=(Wp _ _ _ _ kR.start hp).2;exact agc a b (h.1.trans k.1.symm) ((ahR<|h.1.map Prod.fst).2 d) h.2 k.2
def lH.ok {t c:List Int}{b:List (Nat×Nat)}(h:lH t c b):∀p∈b,p.1<p.2/\p.2<t.length:=by
 unfold lH at h;cases hp:dL t c t.length 0 ([],[])with
 |none=>rw[hp]at h;simp only at h;rw[h];simp
 |some d=>
  rw[hp]at h;intro p a;have:=(Wp _ _ _ _ kR.start hp).1 p (h.1.subset a);simpa using this
def aeV {t c:List Int}:∀n i x a,kR i x->dL t c n i x=some a->a.length<=i+n
 |0,i,x,a,h,hf=>by
  rw[dL]at hf;obtain rfl:=aJ hf;exact h.few
 |n+1,i,x,a,h,hf=>by
  rw[dL]at hf;split at hf
  .rename_i y b;have:=aeV n (i+1) y a (h.step b) hf;omega
  .cases hf
def swp(l:List<|Nat×Nat)(k:Nat):List (Nat×Nat):=(l.set k<|l.getD (k - 1) (0,0)).set (k - 1) (l.getD k (0,0))
def aro(l:List<|Nat×Nat)(k:Nat):(swp l k).length=l.length:=by simp[swp]
def arn(l:List<|Nat×Nat)(k j:Nat)(d:0<k)(c:k<l.length):(swp l k).getD j (0,0)=if j=k then l.getD (k - 1) (0,0)else if j=k - 1 then l.getD k (0,0)else l.getD j (0,0):=by
 unfold swp;rw[aO,NB,NB];by_cases a:j=k
 .subst a;rw[ai<|by omega,aj rfl,aj c,aj rfl];rfl
 .rw[ai a];by_cases b:j=k - 1
  .subst b;rw[aj rfl,aj<|by simp;omega,aj rfl];rfl
  .rw[ai<|by omega,ai<|by omega,ai b,aO]
def arp(l:List<|Nat×Nat)(k:Nat)(i:0<k)(e:k<l.length):(swp l k).Perm l:=by
 obtain⟨j,rfl⟩:∃j,k=j+1:=⟨k - 1,by omega⟩
 have d:l=l.take j++(l.getD j (0,0)::l.getD (j+1) (0,0)::l.drop (j+2)):=by
  have f:l.drop j=l.getD j (0,0)::l.drop (j+1):=by
   rw[kO (show j<l.length by omega)];simp[aO,aM (show j<l.length by omega)]
  have g:l.drop (j+1)=l.getD (j+1) (0,0)::l.drop (j+2):=by
   rw[kO e];simp[aO,aM e]
  rw[<-g,<-f,Sy]
 have c:(l.take j).length=j:=by simp;omega
 have h:swp l (j+1)=l.take j++(l.getD (j+1) (0,0)::l.getD j (0,0)::l.drop (j+2)):=by
  unfold swp;rw[lJ];generalize l.getD j (0,0)=a at*;generalize l.getD (j+1) (0,0)=b at*;generalize l.take j=u at*;generalize l.drop (j+2)=v at*;rw[d,xR _ _ (by omega),xR _ _ (by omega),c];simp
 rw[h]
 conv=>rhs;rw[d]
 exact(Sh _).append (List.Perm.swap _ _ _)
def key(l:List<|Nat×Nat)(j:Nat):Nat:=(l.getD j (0,0)).1
def AH(c l:List<|Nat×Nat)(i:Nat):Prop:=l.Perm c/\∀a b,a<b->b<i->key l a<=key l b
def Dw(c l:List<|Nat×Nat)(i k:Nat):Prop:=l.Perm c/\k<=i/\(∀a b,a<b->b<=i->a≠k->b≠k->key l a<=key l b)/\∀b,k<b->b<=i->key l k<=key l b
def AH.sink {c l:List (Nat×Nat)}{i:Nat}(h:AH c l i):Dw c l i i:=⟨h.1,au _,λa b d e f g=>h.2 a b d<|by omega,λb d e=>by omega⟩
def Dw.swp {d l:List (Nat×Nat)}{i k:Nat}(h:Dw d l i k)(n:0<k)(w:i<l.length)(s:key l k<key l (k - 1)):Dw d (swp l k) i (k - 1):=by
 obtain⟨p,v,g,q⟩:=h;have e:∀j,key (Go.Proofs.YtkbinfhclaafhaaGreatDoor.swp l k) j=if j=k then key l (k - 1)else if j=k - 1 then key l k else key l j:=by
  intro j;unfold key;rw[arn l k j n<|by omega];split
  .rfl
  .split<;>rfl
 refine⟨(arp l k n<|by omega).trans p,by omega,?_,?_⟩
 .intro a b r m t u;rw[e,e,ai t,ai u];by_cases f:a=k
  .rw[aj f];rw[ai<|by omega];exact g (k - 1) b (by omega) m (by omega)<|by omega
  .rw[ai f];by_cases c:b=k
   .rw[aj c];exact g a (k - 1) (by omega) (by omega) f<|by omega
   .rw[ai c];exact g a b r m f c
 .intro b m o;rw[e,e,ai<|by omega,aj rfl,ai (by omega:¬b=k - 1)];by_cases c:b=k
  .rw[aj c];omega
  .rw[ai c];exact q b (by omega) o
def Dw.done {d l:List (Nat×Nat)}{i k:Nat}(h:Dw d l i k)(f:k=0∨¬key l k<key l (k - 1)):AH d l (i+1):=by
 obtain⟨m,o,g,n⟩:=h;refine⟨m,λa b j p=> ?_⟩;by_cases c:b=k
 .subst c;rcases f with f|f
  .omega
  .by_cases e:a=b - 1
   .subst e;omega
   .have:=g a (b - 1) (by omega) (by omega) (by omega) (by omega);omega
 .by_cases e:a=k
  .subst e;exact n b j<|by omega
  .exact g a b j (by omega) e c
def AH.done {c l:List (Nat×Nat)}{i:Nat}(h:AH c l i)(g:l.length<=i):l.Perm c/\l.Pairwise (λa b=>a.1<=b.1):=by
 refine⟨h.1,?_⟩;rw[ah7];intro a b e f d;have:=h.2 a b d (by omega);simpa [key,aO,aM e,aM f]using this
def bM(t:List Int)(k:Nat)(v:Int):Nat->List Int
 |0=>t
 |m+1=>(bM t k v m).set (k+m) v
def OG(t:List Int)(k:Nat)(v:Int):∀m,(bM t k v m).length=t.length
 |0=>rfl
 |m+1=>by simp[bM,OG t k v m]
def D6(t:List Int)(k:Nat)(v:Int)(j:Nat):∀m,k+m<=t.length->(bM t k v m).getD j 0=if k<=j/\j<k+m then v else t.getD j 0
 |0,_=>by rw[bM,ai<|by omega]
 |m+1,h=>by
  rw[bM,aO,NB];by_cases b:k+m=j
  .rw[aj b,aj<|by rw[OG];omega,aj<|by omega];rfl
  .rw[ai b,<-aO,D6 t k v j m<|by omega];by_cases a:k<=j/\j<k+m
   .rw[aj a,aj<|by omega]
   .rw[ai a,ai<|by omega]
def sZ(a:Int):List Int->Int
 |[]=>a
 |c::r=>if bD c<0 then sZ a r else bD c
def fN(a e:Int)(s c:Int)(r:List Int):Int:=if bD c<0 then(if s=sZ a r then s else e)else c
def gN(s c:Int)(_:List Int):Int:=if bD c<0 then s else bD c
def Eb(a b e:Int)(t:List Int):List Int:=pass (fN b e) gN a t
def Wi {c:Int}{b:List Int}{j:Nat}(e:j<=b.length):∀m a,a+m=j->(∀q,a<=q->q<j->bD (b.getD q 0)<0)->sZ c (b.drop a)=sZ c (b.drop j)
 |0,a,h,_=>by rw[<-h];rfl
 |m+1,a,h,hr=>by
  rw[drop_at (show a<b.length by omega),sZ,aj<|hr a (au _)<|by omega];exact Wi e m (a+1) (by omega) λq f d=>hr q (by omega) d
def CX {c e f d:Int}{b o:List Int}{k j:Nat}{s:Int}(h:aZ (fN c e) gN f b k s o)(a:∀q,k<=q->q<j->bD (b.getD q 0)<0)(l:j<=b.length)(i:d=if s=sZ c (b.drop j)then s else e):
  ∀m,k+m<=j->aZ (fN c e) gN f b (k+m) s (bM o k d m)
 |0,_=>h
 |m+1,hm=>by
  have g:=CX h a l i m (by omega);have n:=a (k+m) (by omega) (by omega);refine g.step (by omega) d s ?_ ?_
  .rw[fN,aj n,Wi l (j - (k+m+1)) (k+m+1) (by omega) λq g p=>a q (by omega) p,i]
  .rw[gN,aj n]
def apW {c e b:Int}{a f:List Int}{k:Nat}{s:Int}(h:aZ (fN c e) gN b a k s f)(g:k<a.length)(d:¬bD (a.getD k 0)<0):aZ (fN c e) gN b a (k+1) (bD<|a.getD k 0) f:=
 h.stay g _ (by rw[fN,ai d]) (by rw[gN,ai d])
def an9 {b:Int}{a:List Int}{j:Nat}(c:j<a.length)(d:¬bD (a.getD j 0)<0):sZ b (a.drop j)=bD (a.getD j 0):=by rw[drop_at c,sZ,ai d]
def aoa {a:Int}{b:List Int}{j:Nat}(c:¬j<b.length):sZ a (b.drop j)=a:=by rw[kr<|by omega];rfl
def Ah(a c:List Int)(b:Int)(k:Nat)(s:Int):Prop:=(k=0/\s=b)∨(0<k/\s=bD (c.getD (k - 1) 0))∨(k<a.length->¬bD (a.getD k 0)<0)
def lK(p:Int->Bool)(t:List Int)(a:Nat):Nat->Bool
 |0=>false
 |m+1=>lK p t a m||p (t.getD (a+m) 0)
def kG(a:Int)(t:List Int):Nat->Int
 |0=>a
 |m+1=>if bD (t.getD m 0)<0 then kG a t m else bD (t.getD m 0)
def rM:List Int->Nat
 |[]=>0
 |c::r=>if c=8 then rM r+1 else 0
def o8(a:List Int)(d:Int)(k:Nat)(t:List Int):List Int:=bM t k d (1+rM (a.drop<|k+1))
def Ev(e:Int)(c:Int):Bool:=bD c==e
def yC(e:Int)(c:Int):Bool:=decide (0<=bD c)&&bD c !=e
def zX(t:List Int)(p:Nat×Nat)(e a:Int):Int:=if lK (Ev e) t (p.1+1) (p.2 - (p.1+1))=true then e else kG a t p.1
def s9(t a:List Int)(p:Nat×Nat)(e b:Int):List Int:=
 if lK (Ev e) t (p.1+1) (p.2 - (p.1+1))=false/\lK (yC e) t (p.1+1) (p.2 - (p.1+1))=false then t
 else o8 a (zX t p e b) p.2 (o8 a (zX t p e b) p.1 t)
def Wa {l:List Int}{m:Nat}(a:m<l.length):rM (l.drop m)=if l.getD m 0=8 then rM (l.drop<|m+1)+1 else 0:=by rw[drop_at a,rM]
def V8 {l:List Int}{m:Nat}(a:¬m<l.length):rM (l.drop m)=0:=by rw[kr<|by omega];rfl
def af3(a:List Int)(d:Int)(k:Nat)(t:List Int):(o8 a d k t).length=t.length:=OG _ _ _ _
def aoE(t a:List Int)(p:Nat×Nat)(e b:Int):(s9 t a p e b).length=t.length:=by
 unfold s9;split
 .rfl
 .rw[af3,af3]
