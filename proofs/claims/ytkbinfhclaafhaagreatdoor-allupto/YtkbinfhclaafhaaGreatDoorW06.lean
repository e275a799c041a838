import Derived.Test.YtkbinfhclaafhaaGreatDoorW05
namespace Go.Proofs.YtkbinfhclaafhaaGreatDoor
open Go.RowKit
open Go.Proofs.Tryz
set_option maxRecDepth 100000
set_option maxHeartbeats 32000000
set_option linter.all false
open Go.Value renaming int->Y,slice->R,bool->ce,tuple->de,agg->df
open Go.IntKind renaming i64->Z
open Option renaming none->U,some->V
open Go.Addr renaming mk->S
open Go.Obj renaming cells->bi
open Go.Ending renaming returned->bj
open Go renaming World->cw,Value->cJ,Calls->cP
open Go.RowKit renaming Below->cD,Hid->dd
open Bool renaming false->da,true->db
def XM(a:aw)(k:Nat)(h:k<a.length)(b:aU (a.getD k 0)=db):k<mt a k:=by
 have i:=nj.start a k (by omega);have g:a.getD k 0≠21:=by intro e;rw[e,NB]at b;cases b
 have f:=i.plain h g;have:mt a k=a.length∨∃d,dx (a.drop<|k+1) (if aU (a.getD k 0)=db then(0:Int)+1 else 0)=V d/\mt a k=k+(d+(k+1 - k)):=by
  unfold mt;rw[f.2.2];cases hm:dx (a.drop<|k+1) (if aU (a.getD k 0)=db then(0:Int)+1 else 0)with
  |none=>exact .inl rfl
  |some d=>exact .inr ⟨d,rfl,rfl⟩
 rcases this with c|⟨d,_,c⟩<;>omega
def bJ.sub {w:cw}{b c:Nat}{d:aw}(h:bJ w b c d)(m a:Nat)(f:m<=d.length):bJ w b (c+a) ((d.take m).drop a):=by intro i e;simp at e;have:=h (a+i) (by omega);rw[show c+a+i=c+(a+i)by omega,this];simp[aN,zS,Ph];rw[aj<|by omega]
def bJ.keep {w d:cw}{B b a:Nat}{l:aw}(h:bJ w b a l)(e:cD B w d)(c:b<B):bJ d b a l:=λi f=>by rw[e.cell (p:=(S b (a+i) U)) c];exact h i f
def JW {c a:Int}(e:aY)(hx:c=a)(b:bX c=db)(d:0<=e.o):e.o=kindOf a e:=by subst hx;rw[kindOf,aj ⟨b,d⟩]
def JX {c a:Int}(e:aY)(hx:c=a)(b:e.o<0):c=kindOf a e:=by subst hx;rw[kindOf,ai λh=>by omega]
def Xr {c a:Int}{e:aY}(hx:c=a)(b:bX c=da):c=kindOf a e:=by subst hx;rw[kindOf,ai λh=>by rw[b]at h;cases h.1]
def left_at {c a:Int}{q:Bool}(hx:c=a)(b:bX c=q):q=bX a:=by rw[<-hx,b]
def amn(f:aw)(a:Int)(b C aa d:Nat)(w:cw)(hl:f.length=d)(hn:d<=100000)(ad:d<=aa)(hc:bJ w b C f)(hb:b<w.1.size)(hp:0<=a/\a<=125):cP prog 71 #[.slice (V<|S b C U) d aa,Y Z a] w λe w'=>∃g1 g2 g3,e=bj (de #[.slice (V<|S g1 0 U) d d,.slice (V<|S g2 0 U) d d,.slice (V<|S g3 0 U) d d])/\cD w.1.size w w'/\aW w' w.1.size 3 g1 d (iv<|bf f a)/\aW w' w.1.size 3 g2 d (iv<|je f a)/\aW w' w.1.size 4 g3 d (bv<|aO f):=by
 have Ws:=run_make_row' (P:=prog) 31 3 (Y Z 0) 8 underlying31 Tryz.sQ rfl .i64 .i64 d (by omega) (by omega);have JE:=run_make_row' (P:=prog) 36 4 (ce da) 1 underlying36 Tryz.JP rfl .i64 .i64 d (by omega) (by omega);have HC:=ah hc;have O:=ah hl;have HP:=ah hp;have aq:=ah ad;clear hc hl hp ad;go_enter func71,ntmps71;go_wp2;have cM:=jD.start f a w d O hn;have j:dd (Gs w.1.size (w.1.size+1) (w.1.size+1+1) (w.1.size+1+1+1)<|w.1.size+1+1+1+1):=⟨rfl,rfl,rfl,rfl⟩
 generalize w.1.size+1+1+1+1=g4 at j ⊢;generalize w.1.size+1+1+1=g3 at j ⊢;generalize w.1.size+1+1=g2 at j ⊢;generalize w.1.size+1=s at j ⊢;have HB:dd _:=cM;clear cM;go_loopg [11] d (λgk i wr=>∃k:Nat,k<=d/\gk=d - k/\i=Y Z k/\jD f a w wr w.1.size d (fE f a k) k);case atStart=>
  exact⟨0,by omega,rfl,rfl,HB⟩
 case round=>
  obtain⟨k,hk,rfl,rfl,hR⟩:=hrel;clear Ws JE HB;have G:=ah hR;clear hR;by_cases I:k<d
  .have N:dd (k<f.length):=(by show k<f.length;rw[O.out];exact I);have af:wr.cell? (S b (C+k) U)=V (Y Z<|f.getD k 0):=(by rw[G.out.be.cell (p:=(S b (C+k) U)) hb];exact HC.out k N);have K:=ah<|zF f a HP k;have J:dd (fE f a (k+1)=gi f k (eP (fE f a k)<|f.getD k 0) (f.getD k 0)):=rfl;have M:dd (iM f a k=bq (eP (fE f a k)<|f.getD k 0).st):=rfl;obtain⟨c,hx⟩:=ac<|f.getD k 0;have A:=ah hx;rw[<-hx]at af J M;clear hx;generalize Dn:fE f a k=x at G K J M;clear Dn;by_cases ak:c=21
   .subst ak;have z:dd (bX 21=db):=rfl;go_wp2_with fail;refine(al6 j.out.s G K<|by omega).mono ?_;rintro F wy ⟨rfl,ap⟩;have r:=ah ap;have q:=ah K.out.end;have o:dd (iM f a k=bq (jE x).st):=M.out;have t:dd (fE f a (k+1)=jE x):=J.out;clear ap G K M af J;generalize jE x=y at r q o t;go_wp2_with fail;refine(DL j.out.s r q).mono ?_;rintro F w1 ⟨rfl,D⟩;have u:=ah D;clear D r;obtain⟨e,E⟩:=ac<|bq y.st;rw[<-E]at o ⊢;clear E;obtain⟨l,g,n⟩:=e;obtain⟨⟨⟨u2,l2⟩,⟨u3,l3⟩,⟨u4,l4⟩,f2,f3,f4⟩,t0,t1,⟨n1,n2,n3,n4,n5,n6⟩,n7,n8,n9,Q,R,T⟩:=u.out.ready j.out O.out hk I (Y Z l) (Y Z g)<|ce n;by_cases L:0<=g
    .go_wp2;go_roundg (d - (k+1));exact⟨k+1,by omega,rfl,by simp,t.out▸u.out.Kn j N ⟨l,g,n⟩ o.out.symm _ _ _ _ _ rfl (JW ⟨l,g,n⟩ A.out z L) (left_at A z)⟩;omega
    go_wp2;go_roundg (d - (k+1));exact⟨k+1,by omega,rfl,by simp,t.out▸u.out.stored j N ⟨l,g,n⟩ o.out.symm _ _ _ _ rfl (JX ⟨l,g,n⟩ A.out L) (left_at A z)⟩;omega
   by_cases h1:c=13∨c=14∨c=15∨c=16
   .rcases h1 with h|h|h|h;all_goals
     have z:dd (bX c=da):=(by show _=_;rw[h];rfl);have r:=ah G.out;have q:=ah K.out;have o:dd (iM f a k=bq x.st):=(by have:=M.out;rw[eP,ai<|by omega]at this;exact this);have t:dd (fE f a (k+1)=lH x c):=(by have:=J.out;rw[eP,ai<|by omega]at this;rw[this];show gi f k x _=_;rw[h];simp[gi]<;>omega);subst h;clear G K M J;generalize x=y at r q o t;go_wp2_with fail;refine(DL j.out.s r q).mono ?_;rintro F w1 ⟨rfl,D⟩;have u:=ah D;clear D r;obtain⟨e,E⟩:=ac<|bq y.st;rw[<-E]at o ⊢;clear E;obtain⟨l,g,n⟩:=e;obtain⟨⟨⟨u2,l2⟩,⟨u3,l3⟩,⟨u4,l4⟩,f2,f3,f4⟩,t0,t1,⟨n1,n2,n3,n4,n5,n6⟩,n7,n8,n9,Q,R,T⟩:=u.out.ready j.out O.out hk I (Y Z l) (Y Z g)<|ce n;go_wp2_with fail;refine(al0 _ j.out.s (u.out.stored j N ⟨l,g,n⟩ o.out.symm _ _ _ _ rfl (Xr A z) (left_at A z)) q.out (by omega) (by omega)).mono ?_;rintro F w2 ⟨rfl,B⟩;have H:=ah B;clear B;go_wp2;go_roundg (d - (k+1));exact⟨k+1,by omega,rfl,by simp,t.out▸H.out⟩;omega
   obtain⟨al,am,an,ao⟩:¬c=13/\¬c=14/\¬c=15/\¬c=16:=(by omega);clear h1;by_cases BH:c=17
   .subst BH;have z:dd (bX 17=da):=rfl;have r:=ah G.out;have q:=ah K.out;have o:dd (iM f a k=bq x.st):=(by have:=M.out;rw[eP,ai<|by omega]at this;exact this);have t:dd (fE f a (k+1)=kZ x):=(by have:=J.out;rw[eP,ai<|by omega]at this;rw[this];show gi f k x _=_;simp[gi]<;>omega);clear G K M J;generalize x=y at r q o t;go_wp2_with fail;refine(DL j.out.s r q).mono ?_;rintro F w1 ⟨rfl,D⟩;have u:=ah D;clear D r;obtain⟨e,E⟩:=ac<|bq y.st;rw[<-E]at o ⊢;clear E;obtain⟨l,g,n⟩:=e;obtain⟨⟨⟨u2,l2⟩,⟨u3,l3⟩,⟨u4,l4⟩,f2,f3,f4⟩,t0,t1,⟨n1,n2,n3,n4,n5,n6⟩,n7,n8,n9,Q,R,T⟩:=u.out.ready j.out O.out hk I (Y Z l) (Y Z g)<|ce n;go_wp2_with fail;refine(aq4 j.out.s (u.out.stored j N ⟨l,g,n⟩ o.out.symm _ _ _ _ rfl (Xr A z) (left_at A z)) q.out<|by omega).mono ?_;rintro F w2 ⟨rfl,B⟩;have H:=ah B;clear B;go_wp2;go_roundg (d - (k+1));exact⟨k+1,by omega,rfl,by simp,t.out▸H.out⟩;omega
   by_cases Vw:c=18
   .subst Vw;have z:dd (bX 18=db):=rfl;have r:=ah G.out;have q:=ah K.out;have o:dd (iM f a k=bq x.st):=(by have:=M.out;rw[eP,ai<|by omega]at this;exact this);have t:dd (fE f a (k+1)=jP x 0):=(by have:=J.out;rw[eP,ai<|by omega]at this;rw[this];show gi f k x _=_;simp[gi]<;>omega);clear G K M J;generalize x=y at r q o t;go_wp2_with fail;refine(DL j.out.s r q).mono ?_;rintro F w1 ⟨rfl,D⟩;have u:=ah D;clear D r;obtain⟨e,E⟩:=ac<|bq y.st;rw[<-E]at o ⊢;clear E;obtain⟨l,g,n⟩:=e;obtain⟨⟨⟨u2,l2⟩,⟨u3,l3⟩,⟨u4,l4⟩,f2,f3,f4⟩,t0,t1,⟨n1,n2,n3,n4,n5,n6⟩,n7,n8,n9,Q,R,T⟩:=u.out.ready j.out O.out hk I (Y Z l) (Y Z g)<|ce n;by_cases L:0<=g
    .go_wp2_with fail;refine(Ep 0 j.out.s (u.out.Kn j N ⟨l,g,n⟩ o.out.symm _ _ _ _ _ rfl (JW ⟨l,g,n⟩ A.out z L) (left_at A z)) q.out<|by omega).mono ?_;rintro F w2 ⟨rfl,B⟩;have H:=ah B;clear B;go_wp2;go_roundg (d - (k+1));exact⟨k+1,by omega,rfl,by simp,t.out▸H.out⟩;omega
    go_wp2_with fail;refine(Ep 0 j.out.s (u.out.stored j N ⟨l,g,n⟩ o.out.symm _ _ _ _ rfl (JX ⟨l,g,n⟩ A.out L) (left_at A z)) q.out<|by omega).mono ?_;rintro F w2 ⟨rfl,B⟩;have H:=ah B;clear B;go_wp2;go_roundg (d - (k+1));exact⟨k+1,by omega,rfl,by simp,t.out▸H.out⟩;omega
   by_cases ag:c=19
   .subst ag;have z:dd (bX 19=db):=rfl;have r:=ah G.out;have q:=ah K.out;have o:dd (iM f a k=bq x.st):=(by have:=M.out;rw[eP,ai<|by omega]at this;exact this);have t:dd (fE f a (k+1)=jP x 1):=(by have:=J.out;rw[eP,ai<|by omega]at this;rw[this];show gi f k x _=_;simp[gi]<;>omega);clear G K M J;generalize x=y at r q o t;go_wp2_with fail;refine(DL j.out.s r q).mono ?_;rintro F w1 ⟨rfl,D⟩;have u:=ah D;clear D r;obtain⟨e,E⟩:=ac<|bq y.st;rw[<-E]at o ⊢;clear E;obtain⟨l,g,n⟩:=e;obtain⟨⟨⟨u2,l2⟩,⟨u3,l3⟩,⟨u4,l4⟩,f2,f3,f4⟩,t0,t1,⟨n1,n2,n3,n4,n5,n6⟩,n7,n8,n9,Q,R,T⟩:=u.out.ready j.out O.out hk I (Y Z l) (Y Z g)<|ce n;by_cases L:0<=g
    .go_wp2_with fail;refine(Ep 1 j.out.s (u.out.Kn j N ⟨l,g,n⟩ o.out.symm _ _ _ _ _ rfl (JW ⟨l,g,n⟩ A.out z L) (left_at A z)) q.out<|by omega).mono ?_;rintro F w2 ⟨rfl,B⟩;have H:=ah B;clear B;go_wp2;go_roundg (d - (k+1));exact⟨k+1,by omega,rfl,by simp,t.out▸H.out⟩;omega
    go_wp2_with fail;refine(Ep 1 j.out.s (u.out.stored j N ⟨l,g,n⟩ o.out.symm _ _ _ _ rfl (JX ⟨l,g,n⟩ A.out L) (left_at A z)) q.out<|by omega).mono ?_;rintro F w2 ⟨rfl,B⟩;have H:=ah B;clear B;go_wp2;go_roundg (d - (k+1));exact⟨k+1,by omega,rfl,by simp,t.out▸H.out⟩;omega
   by_cases aj:c=20
   .subst aj;have z:dd (bX 20=db):=rfl;have r:=ah G.out;have q:=ah K.out;have o:dd (iM f a k=bq x.st):=(by have:=M.out;rw[eP,ai<|by omega]at this;exact this);have t:dd (fE f a (k+1)=jP x (tX f k)):=(by have:=J.out;rw[eP,ai<|by omega]at this;rw[this];show gi f k x _=_;simp[gi]<;>omega);clear G K M J;generalize x=y at r q o t;have nZ:k<mt f k:=XM f k N (by rw[<-A.out];rfl);have ax:mt f k<=d:=(by have:=(vz f k<|by have:=N.out;omega).2;rw[O.out]at this;exact this);have ad:=aq.out;have CH:dd (∀W,bJ W b C f->cP prog 115 #[.slice (V<|S b C U) d aa,Y Z k] W λe w'=>e=bj (Y Z<|mt f k)/\w'=W):=λW h=>NM f k b C aa d W O (by omega) hk h
    have qW:dd (∀X ab W,(X=C+(k+1)∨mt f k=k+1)->bJ W b C f->cP prog 70 #[.slice (V<|S b X U) (mt f k - (k+1)) ab] W λe w'=>e=bj (Y Z<|tX f k)/\w'=W):=by intro X ab W L h;refine Vq ((f.take<|mt f k).drop (k+1)) b X ab (mt f k - (k+1)) W (by simp;have:=O.out;omega) (by omega) ?_;rcases L with rfl|L;exact h.sub _ _ (by have:=O.out;omega);intro i hi;simp at hi;omega
    generalize mt f k=m at nZ ax CH qW;generalize tX f k=bw at t qW;go_wp2_with fail;refine(DL j.out.s r q).mono ?_;rintro F w1 ⟨rfl,D⟩;have u:=ah D;clear D r;obtain⟨e,E⟩:=ac<|bq y.st;rw[<-E]at o ⊢;clear E;obtain⟨l,g,n⟩:=e;obtain⟨⟨⟨u2,l2⟩,⟨u3,l3⟩,⟨u4,l4⟩,f2,f3,f4⟩,t0,t1,⟨n1,n2,n3,n4,n5,n6⟩,n7,n8,n9,Q,R,T⟩:=u.out.ready j.out O.out hk I (Y Z l) (Y Z g)<|ce n;by_cases L:0<=g
    .go_wp2_with fail;have H:dd (jD f a w (((((w1.alloc<|bi #[Y Z l,Y Z g,ce n] 181).setCell (S g2 k U) (Y Z l)).setCell (S g3 k U) (Y Z 20)).setCell (S g4 k U) (ce db)).setCell (S g3 k U) (Y Z g)) w.1.size d y<|k+1):=u.out.Kn j N ⟨l,g,n⟩ o.out.symm _ _ _ _ _ rfl (JW ⟨l,g,n⟩ A.out z L) (left_at A z);refine(CH _ (HC.out.keep H.out.be hb)).mono ?_;rintro F _ ⟨rfl,rfl⟩;go_wp2_with fail
     .refine(qW C 0 _ (.inr<|by omega) (HC.out.keep H.out.be hb)).mono ?_;have HE:=ah h;clear h;rintro F _ ⟨rfl,rfl⟩;go_wp2_with fail;refine(Ep bw j.out.s H q<|by omega).mono ?_;rintro F w2 ⟨rfl,B⟩;have oU:=ah B;clear B;go_wp2;rw[<-HE.out];go_roundg (d - (k+1));exact⟨k+1,by omega,rfl,by simp,t.out▸oU.out⟩;omega
     refine(qW (C+(k+1)) (aa - (k+1)) _ (.inl rfl) (HC.out.keep H.out.be hb)).mono ?_;rintro F _ ⟨rfl,rfl⟩;go_wp2_with fail;refine(Ep bw j.out.s H q<|by omega).mono ?_;rintro F w2 ⟨rfl,B⟩;have oU:=ah B;clear B;go_wp2;go_roundg (d - (k+1));exact⟨k+1,by omega,rfl,by simp,t.out▸oU.out⟩;omega
    go_wp2_with fail;have H:dd (jD f a w ((((w1.alloc<|bi #[Y Z l,Y Z g,ce n] 181).setCell (S g2 k U) (Y Z l)).setCell (S g3 k U) (Y Z 20)).setCell (S g4 k U) (ce db)) w.1.size d y<|k+1):=u.out.stored j N ⟨l,g,n⟩ o.out.symm _ _ _ _ rfl (JX ⟨l,g,n⟩ A.out L) (left_at A z);refine(CH _ (HC.out.keep H.out.be hb)).mono ?_;rintro F _ ⟨rfl,rfl⟩;go_wp2_with fail
    .refine(qW C 0 _ (.inr<|by omega) (HC.out.keep H.out.be hb)).mono ?_;have HE:=ah h;clear h;rintro F _ ⟨rfl,rfl⟩;go_wp2_with fail;refine(Ep bw j.out.s H q<|by omega).mono ?_;rintro F w2 ⟨rfl,B⟩;have oU:=ah B;clear B;go_wp2;rw[<-HE.out];go_roundg (d - (k+1));exact⟨k+1,by omega,rfl,by simp,t.out▸oU.out⟩;omega
    refine(qW (C+(k+1)) (aa - (k+1)) _ (.inl rfl) (HC.out.keep H.out.be hb)).mono ?_;rintro F _ ⟨rfl,rfl⟩;go_wp2_with fail;refine(Ep bw j.out.s H q<|by omega).mono ?_;rintro F w2 ⟨rfl,B⟩;have oU:=ah B;clear B;go_wp2;go_roundg (d - (k+1));exact⟨k+1,by omega,rfl,by simp,t.out▸oU.out⟩;omega
   by_cases h9:c=9
   .subst h9;have z:dd (bX 9=da):=rfl;have r:=ah G.out;have q:=ah K.out;have o:dd (iM f a k=bq x.st):=(by have:=M.out;rw[eP,ai<|by omega]at this;exact this);have t:dd (fE f a (k+1)=x):=(by have:=J.out;rw[eP,ai<|by omega]at this;rw[this];show gi f k x _=_;simp[gi]<;>omega);clear G K M J;generalize x=y at r q o t;go_wp2_with fail;refine(DL j.out.s r q).mono ?_;rintro F w1 ⟨rfl,D⟩;have u:=ah D;clear D r;obtain⟨e,E⟩:=ac<|bq y.st;rw[<-E]at o ⊢;clear E;obtain⟨l,g,n⟩:=e;obtain⟨⟨⟨u2,l2⟩,⟨u3,l3⟩,⟨u4,l4⟩,f2,f3,f4⟩,t0,t1,⟨n1,n2,n3,n4,n5,n6⟩,n7,n8,n9,Q,R,T⟩:=u.out.ready j.out O.out hk I (Y Z l) (Y Z g)<|ce n;go_wp2;go_roundg (d - (k+1));exact⟨k+1,by omega,rfl,by simp,t.out▸u.out.stored j N ⟨l,g,n⟩ o.out.symm _ _ _ _ rfl (Xr A z) (left_at A z)⟩;omega
   by_cases av:c<13
   .have z:dd (bX c=db):=(by show bX c=db;rw[bX,show(c !=9)=db by simpa using h9,nB av];rfl);have q9:=ae h9;have aG:(c !=9)=db:=(by simpa using h9);have ay:(c==13)=da:=(by simpa using al);have az:(c==14)=da:=(by simpa using am);have aA:(c==15)=da:=(by simpa using an);have aB:(c==16)=da:=(by simpa using ao);have aC:=ae BH;have aD:=ae Vw;have aE:=ae ag;have aF:=ae aj;have DA:=ae ak;have r:=ah G.out;have q:=ah K.out;have o:dd (iM f a k=bq x.st):=(by have:=M.out;rw[eP,ai<|by omega]at this;exact this);have t:dd (fE f a (k+1)=x):=(by have:=J.out;rw[eP,ai<|by omega]at this;rw[this];show gi f k x _=_;rw[gi,ai<|by omega,ai<|by omega,ai<|by omega,ai<|by omega,ai<|by omega]);clear G K M J;generalize x=y at r q o t;go_wp2_with fail;refine(DL j.out.s r q).mono ?_;rintro F w1 ⟨rfl,D⟩;have u:=ah D;clear D r;obtain⟨e,E⟩:=ac<|bq y.st;rw[<-E]at o ⊢;clear E;obtain⟨l,g,n⟩:=e;obtain⟨⟨⟨u2,l2⟩,⟨u3,l3⟩,⟨u4,l4⟩,f2,f3,f4⟩,t0,t1,⟨n1,n2,n3,n4,n5,n6⟩,n7,n8,n9,Q,R,T⟩:=u.out.ready j.out O.out hk I (Y Z l) (Y Z g)<|ce n;by_cases L:0<=g
    .go_wp2;go_roundg (d - (k+1));exact⟨k+1,by omega,rfl,by simp,t.out▸u.out.Kn j N ⟨l,g,n⟩ o.out.symm _ _ _ _ _ rfl (JW ⟨l,g,n⟩ A.out z L) (left_at A z)⟩;omega
    go_wp2;go_roundg (d - (k+1));exact⟨k+1,by omega,rfl,by simp,t.out▸u.out.stored j N ⟨l,g,n⟩ o.out.symm _ _ _ _ rfl (JX ⟨l,g,n⟩ A.out L) (left_at A z)⟩;omega
   have ar:17<c:=(by omega);have z:dd (bX c=db):=(by show bX c=db;rw[bX,show(c !=9)=db by simpa using h9,nB ar,Bool.or_true];rfl);have q9:=ae h9;have aG:(c !=9)=db:=(by simpa using h9);have ay:(c==13)=da:=(by simpa using al);have az:(c==14)=da:=(by simpa using am);have aA:(c==15)=da:=(by simpa using an);have aB:(c==16)=da:=(by simpa using ao);have aC:=ae BH;have aD:=ae Vw;have aE:=ae ag;have aF:=ae aj;have DA:=ae ak;have r:=ah G.out;have q:=ah K.out;have o:dd (iM f a k=bq x.st):=(by have:=M.out;rw[eP,ai<|by omega]at this;exact this);have t:dd (fE f a (k+1)=x):=(by have:=J.out;rw[eP,ai<|by omega]at this;rw[this];show gi f k x _=_;rw[gi,ai<|by omega,ai<|by omega,ai<|by omega,ai<|by omega,ai<|by omega]);clear G K M J;generalize x=y at r q o t;go_wp2_with fail;refine(DL j.out.s r q).mono ?_;rintro F w1 ⟨rfl,D⟩;have u:=ah D;clear D r;obtain⟨e,E⟩:=ac<|bq y.st;rw[<-E]at o ⊢;clear E;obtain⟨l,g,n⟩:=e;obtain⟨⟨⟨u2,l2⟩,⟨u3,l3⟩,⟨u4,l4⟩,f2,f3,f4⟩,t0,t1,⟨n1,n2,n3,n4,n5,n6⟩,n7,n8,n9,Q,R,T⟩:=u.out.ready j.out O.out hk I (Y Z l) (Y Z g)<|ce n;by_cases L:0<=g
   .go_wp2;go_roundg (d - (k+1));exact⟨k+1,by omega,rfl,by simp,t.out▸u.out.Kn j N ⟨l,g,n⟩ o.out.symm _ _ _ _ _ rfl (JW ⟨l,g,n⟩ A.out z L) (left_at A z)⟩;omega
   go_wp2;go_roundg (d - (k+1));exact⟨k+1,by omega,rfl,by simp,t.out▸u.out.stored j N ⟨l,g,n⟩ o.out.symm _ _ _ _ rfl (JX ⟨l,g,n⟩ A.out L) (left_at A z)⟩;omega
  have au:k=d:=(by omega);subst au;have h1:=G.out.lv;have h2:=G.out.kd;have h3:=G.out.lf;rw[ZC _ _ _ (by simp[bf];exact O.out.symm)]at h1;rw[ZC _ _ _ (by simp[je];exact O.out.symm)]at h2;rw[ZC _ _ _ (by simp[aO];exact O.out.symm)]at h3;rw[<-j.out.g2]at h1;rw[<-j.out.g3]at h2;rw[<-j.out.g4]at h3;have H1:=ah h1;have H2:=ah h2;have H3:=ah h3;clear h1 h2 h3;go_wp2;refine bU (v:=de #[.slice (V<|S g2 0 U) k k,.slice (V<|S g3 0 U) k k,.slice (V<|S g4 0 U) k k]) (by simp[results,results71,go_sem]) rfl ?_;exact⟨g2,g3,g4,rfl,G.out.be,H1,H2,H3⟩
def Tryz.aor:(prog.info? 120).map (λi=>(i.zero,i.size,i.bytes))=V (V<|df #[R U 0 0,Y Z 0,Y Z 0,Y Z 0],4,48):=by kernel_rfl
def afW {w:cw}{B g n c:Nat}{l:aw}(h:w.ownsRow B 3 1 (.slice (V<|S g 0 U) n c) n<|iv l):bJ w g 0 l:=λk a=>by rw[fV];exact jx h k a
def aez:∀(r:ba),r.Pairwise (·<·)->r≠[]->r.length+r.headD 0<=r.getLastD 0+1
 |[],_,h=>absurd rfl h
 |[a],_,_=>by simp;omega
 |a::b::l,hp,_=>by have ih:=aez (b::l) (Ef.1 hp).2 (by simp);have c:=(Ef.1 hp).1 b (by simp);simp only[eU,List.headD_cons,List.getLastD_cons]at ih ⊢;omega
def YO {b:aw}{a:List Bool}{r:ba}(c:r∈dB b a):r.length+r.headD 0<=r.getLastD 0+1:=by
 refine aez r ?_<|(AJ b a).2.1 r c;have d:(dB b a).flatten.Pairwise (·<·):=by rw[(AJ b a).1];exact ki _ List.pairwise_lt_range
 exact d.sublist<|iY c
def YQ(a:aw)(b:List Bool):nt a.length (dB a b):=⟨(AJ a b).2.1,λ_ d _ c=>(RU d c).1,ag7 a b⟩
def vH(b e:aw)(d:List Bool)(a:Int)(c:List ba)(n k:Nat):List Sq:=((c.take k).filter (iG b)).map λr=>tW b e d a<|cE b c n r
def Y8(c e:aw)(d:List Bool)(a:Int)(b:List ba)(n k:Nat)(f:k<b.length):vH c e d a b n (k+1)=if iG c (b.getD k [])=db then vH c e d a b n k++[tW c e d a<|cE c b n<|b.getD k []]else vH c e d a b n k:=by
 unfold vH;have g:b.getD k []=b[k]:=by simp[aN,aK f]
 rw[pR f,tD,g,tG,IA];cases iG c b[k]<;>simp
def ahq(b e:aw)(d:List Bool)(a:Int)(c:List ba)(n k:Nat):(vH b e d a c n k).length<=k:=by unfold vH;rw[jh];have:=Bk (iG b)<|c.take k;rw[tM]at this;omega
def X8:Option Nat->Int
 |none=> -1
 |some j=>(j:Int)
def apL(a:List ba)(m k:Nat):vB a m (k+1)=if(a.getD k []).headD 0=m then V k else vB a m k:=rfl
def Xw {a b:ba}(h:b≠[]):(a++b).getLastD 0=b.getLastD 0:=by rw[tK,Pk,ID h,tK,ID h];rfl
def arT {w:cw}{B k n:Nat}{i:List cJ}{b:List ba}{j:Nat}(h:w.ownsRow B 31 1 (.slice (V<|S k 0 U) b.length n) b.length i)(g:w.ownsRow B 3 1 (i.getD j .nilFunc) (b.getD j []).length (iv<|nl<|b.getD j []))(o:j<b.length)(d:b.getD j []≠[]):∃c e,w.cell? (S k j U)=V (.slice (V<|S c 0 U) (b.getD j []).length e)/\w.cell? (S c 0 U)=V (Y Z ((b.getD j []).headD 0:Nat))/\0<(b.getD j []).length/\w.ownsRow B 3 1 (.slice (V<|S c 0 U) (b.getD j []).length e) (b.getD j []).length (iv<|nl<|b.getD j []):=by
 have f:=kF.2 d;obtain⟨c,e,m,_,_,_⟩:=iq g f;rw[m]at g;refine⟨c,e,?_,?_,f,g⟩;rw[cT h j<|by have:=h.1;omega,<-m,aN,aK (show j<i.length by have:=h.1;omega)];rfl;have:=jx g 0 (by rw[iz];exact f);rw[pH _ _ f]at this;rw[this];cases hh:b.getD j []with
 |nil=>exact absurd hh d
 |cons a l=>rfl
def asr(m o:aw)(s:List Bool)(d:Int)(n X oc cc gl ol cl gf P cf:Nat)(w:cw)(hc:m.length=n)(hl:o.length=n)(hf:s.length=n)(hn:n<=100000)(aR:∀l∈o,0<=l/\l<=1000)(hp:0<=d/\d<=1000) (aJ:bJ w X oc m) (BR:bJ w gl ol o) (af:AZ w gf P s) (kR:X<w.1.size) (ag:gl<w.1.size) (vW:gf<w.1.size):cP prog 72 #[.slice (V<|S X oc U) n cc,.slice (V<|S gl ol U) n cl,.slice (V<|S gf P U) n cf,Y Z d] w λev w'=>∃(v:cJ)(F:List cJ),ev=bj v/\cD w.1.size w w'/\w'.ownsRow w.1.size 120 4 v (iL m o s d).length (wP F<|iL m o s d)/\F.length=(iL m o s d).length/\∀i,i<(iL m o s d).length->w'.ownsRow w.1.size 3 1 (F.getD i .nilFunc) ((iL m o s d).getD i ⟨[],0,0,0⟩).at'.length (iv<|nl ((iL m o s d).getD i ⟨[],0,0,0⟩).at'):=by
 obtain⟨iI,gZ,ia,ic,ig⟩:=fP Tryz.sQ;obtain⟨iQ,aO,aC,aD,aE⟩:=fP Tryz.aor;have lU:=ah<|ag8 o s n gl ol cl gf P cf w hl hf hn BR af ag vW;have OZ:dd (iL m o s d=vH m o s d (dB o s) n (dB o s).length):=by show _=_;unfold iL vH;rw[Pt,hc]
 have Lc:dd (nt n<|dB o s):=by have:=YQ o s;rw[hl]at this;exact this
 have ax:dd (∀r∈dB o s,r.length+r.headD 0<=r.getLastD 0+1):=λr hr=>YO hr
 have vN:dd ((dB o s).length<=n):=by
  have h1:=congrArg List.length (AJ o s).1;have h2:=Bk (l8 s)<|List.range o.length;rw[Pn]at h2;have h3:∀l:List ba,(∀r∈l,r≠[])->l.length<=l.flatten.length:=by
   intro l
   induction l with
   |nil=>intro _;simp
   |cons a l ih=>intro aQ;have:=ih (λr hr=>aQ r<|by simp[hr]);have:=kF.2 (aQ a<|by simp);simp only[eU,Bj,bG];omega
  have h4:=h3 _ (AJ o s).2.1;show _<=_;omega
 have G:dd (m.length=n/\o.length=n/\s.length=n):=⟨hc,hl,hf⟩
 have qX:=ah aR;have HP:=ah hp;have A9:=ah aJ;have DY:=ah BR;have CB:=ah af;have C:dd (X<w.1.size/\gl<w.1.size/\gf<w.1.size):=⟨kR,ag,vW⟩
 rw[OZ.out];generalize dB o s=c at*;clear hc hl hf aR hp aJ BR af kR ag vW;go_enter func72,ntmps72;go_wp2_with fail;refine lU.out.mono ?_;rintro ev w1 ⟨oG,vs,rfl,ad,al,x⟩;obtain⟨ra,rc,rfl⟩:=eV al;obtain⟨oG,aB⟩:∃oG:cJ,oG=R ra c.length rc:=⟨_,rfl⟩
 have ap:dd (o7 w w1 w.1.size (R ra c.length rc) (R U 0 0) (R U 0 0) vs [] c [] []):=
  ⟨ad,ad.size,al,x,⟨rfl,.inl ⟨rfl,rfl⟩⟩,rfl,λi h=>by simp at h,⟨rfl,.inl ⟨rfl,rfl⟩⟩,λ_ _ k _ hk=>(by cases hk),λ_ _ k _ hk=>(by cases hk)⟩
 have Tv:=ah aB;clear ad al x lU aB;go_wp2;go_loopg [10,11] c.length (λgh ov gD W=>∃(k:Nat)(F:List cJ)(y:List Sq),k<=c.length/\gh=c.length - k/\gD=Y Z k/\o7 w W w.1.size oG ov (R U 0 0) vs F c y []/\y=vH m o s d c n k);exact⟨0,[],[],by omega,rfl,rfl,by rw[Tv.out];exact ap.out,rfl⟩;clear ap;obtain⟨k,F,y,hk,rfl,rfl,K,Mz⟩:=hrel;obtain⟨E9,Cb,rfl⟩:=eV K.out;by_cases H:k<c.length
 .have SV:=ah H;have zP:=ah Mz;have ar:dd (y.length<=n):=by have:=ahq m o s d c n k;have h2:=vN.out;show _<=_;rw[Mz];omega
  have M9:c.getD k []∈c:=dP H;have Q:=Lc.out.ne _ M9;have M8:=Lc.out.lt _ M9;have WH:=ax.out _ M9;obtain⟨g,cg,am,VW,vX,_⟩:=iq (K.old k H)<|kF.2 Q;have x:=K.old k H;rw[am]at x;obtain⟨g',a2,ac,a1,bk,_⟩:=iq K.DC (by omega);have Nc:=K.DC;rw[ac]at Nc;have cR:wr.cell? (S g' k U)=V (.slice (V<|S g 0 U) (c.getD k []).length cg):=by rw[cT Nc k<|by have:=Nc.1;omega,<-am,aN,aK (show k<vs.length by have:=Nc.1;omega)];rfl
  have cF:wr.cell? (S g 0 U)=V (Y Z ((c.getD k []).headD 0:Nat)):=by
   have:=jx x 0 (by rw[iz];exact kF.2 Q);rw[pH _ _ (kF.2 Q)]at this;rw[this];cases hh:c.getD k []with
   |nil=>exact absurd hh Q
   |cons a l=>rfl
  have aH:(c.getD k []).headD 0<n:=M8 _ (head_mem Q);have cC:=(A9.out.stay K.below C.out.1) ((c.getD k []).headD 0)<|by rw[G.out.1];exact aH
  have T:=ah K;have rW:dd (cP prog 122 #[.slice (V<|S X oc U) n cc,Y Z ((c.getD k []).headD 0:Nat)] wr λe w'=>e=bj (Y Z<|opener m<|(c.getD k []).headD 0)/\w'=wr):=ap7 m _ X oc cc n wr G.out.1 (by omega) (by omega) (A9.out.stay K.below C.out.1);have B:iG m (c.getD k [])= !(m.getD ((c.getD k []).headD 0) 0==21&&decide (0<=opener m ((c.getD k []).headD 0))):=rfl;have HR:dd (∃r,r=c.getD k []):=⟨_,rfl⟩
  obtain⟨r,hr⟩:=HR.out;rw[<-hr]at cR cF cC aH Q M8 WH x B rW;have bb:dd (r∈c):=by rw[hr];exact M9
  have HR:=ah hr.symm;have ay:=ah x;have bo:k<c.length:=H;have bq:=vN.out;rw[Tv.out]at ac;obtain⟨a8,a9⟩:ra=V (S g' 0 U)/\rc=a2:=by simpa using ac
  subst a8;subst a9;have be:r.length<=n:=by have:=M8 _ (Ar Q);omega
  have CM:dd (r≠[]/\(∀p∈r,p<n)/\r.length+r.headD 0<=r.getLastD 0+1):=⟨Q,M8,WH⟩
  have Dj:0<r.length:=kF.2 Q;have bd:((0:Int)<(r.length:Int)):=by omega
  clear K Nc am x M9 Q M8 WH hr ac Mz VW a1;generalize bh:r.headD 0=fi at*;generalize m.getD fi 0=c0 at*;generalize opener m fi=op at*;cases hbb:iG m r
  .have OM:dd (vH m o s d c n (k+1)=y):=(by show _=_;rw[Y8 _ _ _ _ _ _ _ SV.out,HR.out,hbb,ai<|by decide,zP.out]);rw[hbb]at B;obtain⟨h1,h2⟩:c0=21/\0<=op:=(by simpa using B.symm);subst h1;clear B hbb;go_wp2_with fail;refine rW.out.mono ?_;rintro ev wx ⟨rfl,hx⟩;have t:=hx.symm;subst t;go_wp2;go_roundg (c.length - (k+1));exact⟨k+1,F,y,by omega,rfl,by simp,T,OM.out.symm⟩;omega
  have av:dd (iG m (c.getD k [])=db):=(by rw[HR.out];exact hbb);rw[hbb]at B;have Q5:¬(c0=21/\0<=op):=by intro h;rw[h.1,nB h.2]at B;cases B
  clear B hbb
  go_upto_if 40 with fail
  go_cut [] (λwc=>wc=wr)
  case first=>
   by_cases aG:c0=21
   .subst aG;have bp:op<0:=(by omega);go_wp2_with fail;refine rW.out.mono ?_;rintro ev wx ⟨rfl,hx⟩;have t:=hx.symm;subst t;go_wp2_with fail;go_meet;case rel=>rfl
   .have DA:=ae aG;go_wp2_with fail;go_meet;case rel=>rfl
  case rest=>
   have t:=hcut.symm;subst t;clear Q5 rW cC;have aa:=T.out.base;have D:=T.out.cur';go_wp2_with(at_builtin;refine ah8 _ rfl _ _ 31 rfl w.1.size 3 iI (Y Z 0) 8 underlying31 gZ ia ic ig rfl (by decide) _ _ _ rfl D g r.length cg (iv<|nl r) rfl (by rw[oC,iz]) (λj u hj=>by rw[cT ay.out j<|by have h1:=tJ.1 hj;obtain⟨h1,_⟩:=h1;rw[oC,iz]at h1;omega];exact hj) (λu hu=>by simp only[iv,jX]at hu;obtain⟨q,_,rfl⟩:=hu;rfl) (by simp) (by omega) aa ?_);intro v3 w3 GM aM aS;have Im:dd (o7 w w3 w.1.size oG (R E9 y.length Cb) v3 vs F c y r):=(by have:=T.out.app (r:=r) (by simpa using GM) aM aS;exact this);clear GM aM aS D aa T cR cF ay;go_wp2;go_loopg [14] n (λgh cv W=>∃(f:Nat)(b:ba),f=gh/\o7 w W w.1.size oG (R E9 y.length Cb) cv vs F c y b/\(b≠[]/\(∀p∈b,p<n)/\b.length<=b.getLastD 0+1)/\n<=f+b.getLastD 0/\cE m c n r=cE m c f b);exact⟨n,r,rfl,Im,⟨CM.out.1,CM.out.2.1,by have:=CM.out.2.2;omega⟩,by omega,rfl⟩;clear Im;obtain⟨f,b,hf,EE,D,a5,aI⟩:=hrel;subst hf;have SG:=ah aI;have FC:dd (b≠[]/\(∀p∈b,p<n)/\b.length<=n):=⟨D.1,D.2.1,by have:=D.2.1 _ (Ar D.1);have:=D.2.2;omega⟩
   have QX:b.getLastD 0<n:=D.2.1 _ (Ar D.1);have aW:=ah D.2.2;obtain⟨L,hL⟩:∃L,b.length=L+1:=⟨b.length - 1,by have:=kF.2 D.1;omega⟩
   obtain⟨gx,cx,a4,bg,az,_⟩:=iq EE.cur' (by omega);subst a4;have A:=ah EE;have cX:wr.cell? (S gx L U)=V (Y Z (b.getLastD 0:Nat)):=(by rw[jx EE.cur' L<|by rw[iz];omega,pH _ _ (by omega),tK,IC,hL,pS,aN]);have cY:=(A9.out.stay EE.below C.out.1) (b.getLastD 0)<|by rw[G.out.1];exact QX
   have CH:dd (cP prog 115 #[.slice (V<|S X oc U) n cc,Y Z (b.getLastD 0:Nat)] wr λe w2=>e=bj (Y Z<|mt m<|b.getLastD 0)/\w2=wr):=NM m _ X oc cc n wr G.out.1 (by omega) (by omega) (A9.out.stay EE.below C.out.1);have MU:iK m c (b.getLastD 0)=if aU (m.getD (b.getLastD 0) 0)=db then vB c (mt m<|b.getLastD 0) c.length else U:=rfl
   have Wp:aU (m.getD (b.getLastD 0) 0)=db->b.getLastD 0<mt m (b.getLastD 0):=λh=>XM m _ (by rw[G.out.1];exact QX) h
   have Wu:mt m (b.getLastD 0)<=n:=(by have:=(vz m (b.getLastD 0)<|by rw[G.out.1];omega).2;rw[G.out.1]at this;exact this);have aq:dd (∀j,j<c.length->∃gj cj,wr.cell? (S g' j U)=V (.slice (V<|S gj 0 U) (c.getD j []).length cj)/\wr.cell? (S gj 0 U)=V (Y Z ((c.getD j []).headD 0:Nat))/\0<(c.getD j []).length/\wr.ownsRow w.1.size 3 1 (.slice (V<|S gj 0 U) (c.getD j []).length cj) (c.getD j []).length (iv<|nl<|c.getD j [])):=λj hj=>by have:=EE.DC;rw[Tv.out]at this;exact arT this (EE.old j hj) hj<|Lc.out.ne _ (dP hj)
   have bn:L<=100000:=(by have:=FC.out.2.2;omega);have bf:c.length<=100000:=(by omega);rw[hL];have DZ:=ah hL;rw[hL]at A;clear EE D aI hL;generalize ak:b.getLastD 0=la at*;generalize m.getD la 0=aF at*;generalize mt m la=z at*;go_wp2_with fail;refine(Dq aF _).mono ?_;rintro ev wx ⟨rfl,hx⟩;have t:=hx.symm;subst t;go_wp2_with fail;refine CH.out.mono ?_;rintro ev wx ⟨rfl,hx⟩;have t:=hx.symm;subst t;clear CH;cases bK:aU aF
   .have S9:dd (iK m c (b.getLastD 0)=U):=(by show _=_;rw[ak,MU,bK,ai<|by decide]);clear MU Wp bK;go_wp2;go_loopg [18,19] 0 (λgh nv kv W=>gh=0/\nv=Y Z (-1)/\kv=Y Z 0/\W=wr);exact⟨rfl,rfl,rfl,rfl⟩;obtain⟨rfl,rfl,rfl,hW⟩:=hrel;have t:=hW.symm;subst t;have KB:dd (cE m c n r=b):=by
     show _=_;rw[SG.out];obtain⟨J,E⟩:∃J,f=J+1:=⟨f - 1,by omega⟩
     rw[E,cE,S9.out]
    have SP:dd (vH m o s d c n (k+1)=y++[tW m o s d b]):=(by show _=_;rw[Y8 _ _ _ _ _ _ _ SV.out,aj av.out,HR.out,KB.out,<-zP.out]);go_wp2_with fail;refine(TV m o s d b n (L+1) X oc cc gl ol cl gf P cf gx 0 cx wr G.out.1 G.out.2.1 G.out.2.2 hn DZ (by omega) (by have:=FC.out.2.2;have:=DZ.out;omega) FC.out.2.1 qX.out HP.out (A9.out.stay A.out.below C.out.1) (DY.out.stay A.out.below C.out.2.1) (CB.out.stay A.out.below C.out.2.2) (by have:=A.out.cur';rw[DZ.out]at this;exact afW this) (lW C.out.1 A.out.base) (lW C.out.2.1 A.out.base) (lW C.out.2.2 A.out.base) az).mono ?_;rintro ev w4 ⟨rfl,M⟩;have My:=A.out.call M;have TA:dd ((tW m o s d b).at'=b):=rfl;generalize tW m o s d b=sq at*;obtain⟨an,Kl,Km,Kj⟩:=sq;have CL:dd (o7 w (w4.alloc<|bi #[.slice (V<|S gx 0 U) (L+1) cx,Y Z Kl,Y Z Km,Y Z Kj] 120) w.1.size oG (R E9 y.length Cb) (.slice (V<|S gx 0 U) (L+1) cx) vs F c y b):=My.call<|(aA _ _).alloc (au _) _;have y9:=CL.out.out;have VS:=CL.out.base;have aY:y.length<=100000:=(by have:=ar.out;omega);clear M My;simp only;go_wp2_with(at_builtin;refine aic _ rfl _ _ 117 rfl w.1.size 120 iQ (df #[R U 0 0,Y Z 0,Y Z 0,Y Z 0]) 48 underlying117 aO aC aD aE rfl (by decide) _ _ _ rfl y9 _ _ _ _ _ _ rfl (by simp) rfl rfl rfl rfl (by omega) VS ?_);intro v5 w5 cG bQ;have Tj:dd (o7 w w5 w.1.size oG v5 (R U 0 0) vs (F++[.slice (V<|S gx 0 U) (L+1) cx]) c (y++[⟨an,Kl,Km,Kj⟩]) []):=CL.out.push TA cG bQ;clear cG bQ y9;go_wp2;go_roundg (c.length - (k+1));exact⟨k+1,_,_,by omega,rfl,by simp,Tj,SP.out.symm⟩;omega
   have a7:=Wp bK;rw[bK,aj rfl]at MU;have ao:dd (iK m c (b.getLastD 0)=vB c z c.length):=(by show _=_;rw[ak];exact MU);have aT:dd (n<=f+la/\b.getLastD 0=la/\la<z):=⟨a5,ak,a7⟩
   clear MU Wp bK;go_wp2;go_loopg [18,19] c.length (λgh nv kv W=>∃j:Nat,j<=c.length/\gh=c.length - j/\nv=Y Z (X8<|vB c z j)/\kv=Y Z j/\W=wr);exact⟨0,by omega,rfl,rfl,rfl,rfl⟩;obtain⟨j,hj,rfl,rfl,rfl,hW⟩:=hrel;have t:=hW.symm;subst t;by_cases vZ:j<c.length
   .obtain⟨gj,cj,d0,d1,a6,_⟩:=aq.out j vZ;have bc:((0:Int)<((c.getD j []).length:Int)):=(by omega);have I:=apL c z j;generalize(c.getD j []).headD 0=hd at*;generalize(c.getD j []).length=lj at*;by_cases MJ:hd=z
    .rw[aj MJ]at I;have HS:=ah I;have a':((hd:Int)==(z:Int))=db:=(by simp[MJ]);clear I MJ;go_wp2;go_roundg (c.length - (j+1));exact⟨j+1,by omega,rfl,by rw[HS.out];rfl,by simp,rfl⟩;omega
    rw[ai MJ]at I;have HS:=ah I;have a':((hd:Int)==(z:Int))=da:=(by simp;omega);clear I MJ;go_wp2;go_roundg (c.length - (j+1));exact⟨j+1,by omega,rfl,by rw[HS.out],by simp,rfl⟩;omega
   obtain rfl:j=c.length:=(by omega);clear vZ;cases hnk:vB c z c.length with
   |none=>
    have S9:dd (iK m c (b.getLastD 0)=U):=(by show _=_;rw[ao.out,hnk]);clear hnk;rw[show X8 U= -1 from rfl];have KB:dd (cE m c n r=b):=by
     show _=_;rw[SG.out];obtain⟨J,E⟩:∃J,f=J+1:=⟨f - 1,by omega⟩
     rw[E,cE,S9.out]
    have SP:dd (vH m o s d c n (k+1)=y++[tW m o s d b]):=(by show _=_;rw[Y8 _ _ _ _ _ _ _ SV.out,aj av.out,HR.out,KB.out,<-zP.out]);go_wp2_with fail;refine(TV m o s d b n (L+1) X oc cc gl ol cl gf P cf gx 0 cx wr G.out.1 G.out.2.1 G.out.2.2 hn DZ (by omega) (by have:=FC.out.2.2;have:=DZ.out;omega) FC.out.2.1 qX.out HP.out (A9.out.stay A.out.below C.out.1) (DY.out.stay A.out.below C.out.2.1) (CB.out.stay A.out.below C.out.2.2) (by have:=A.out.cur';rw[DZ.out]at this;exact afW this) (lW C.out.1 A.out.base) (lW C.out.2.1 A.out.base) (lW C.out.2.2 A.out.base) az).mono ?_;rintro ev w4 ⟨rfl,M⟩;have My:=A.out.call M;have TA:dd ((tW m o s d b).at'=b):=rfl;generalize tW m o s d b=sq at*;obtain⟨an,Kl,Km,Kj⟩:=sq;have CL:dd (o7 w (w4.alloc<|bi #[.slice (V<|S gx 0 U) (L+1) cx,Y Z Kl,Y Z Km,Y Z Kj] 120) w.1.size oG (R E9 y.length Cb) (.slice (V<|S gx 0 U) (L+1) cx) vs F c y b):=My.call<|(aA _ _).alloc (au _) _;have y9:=CL.out.out;have VS:=CL.out.base;have aY:y.length<=100000:=(by have:=ar.out;omega);clear M My;simp only;go_wp2_with(at_builtin;refine aic _ rfl _ _ 117 rfl w.1.size 120 iQ (df #[R U 0 0,Y Z 0,Y Z 0,Y Z 0]) 48 underlying117 aO aC aD aE rfl (by decide) _ _ _ rfl y9 _ _ _ _ _ _ rfl (by simp) rfl rfl rfl rfl (by omega) VS ?_);intro v5 w5 cG bQ;have Tj:dd (o7 w w5 w.1.size oG v5 (R U 0 0) vs (F++[.slice (V<|S gx 0 U) (L+1) cx]) c (y++[⟨an,Kl,Km,Kj⟩]) []):=CL.out.push TA cG bQ;clear cG bQ y9;go_wp2;go_roundg (c.length - (k+1));exact⟨k+1,_,_,by omega,rfl,by simp,Tj,SP.out.symm⟩;omega
   |some j2=>
    obtain⟨aP,aL⟩:=G9 _ _ hnk;obtain⟨gj,cj,d0,d1,a6,O⟩:=aq.out j2 aP;have ab:c.getD j2 []∈c:=dP aP;have Wy:=Lc.out.ne _ ab;have N:=Lc.out.lt _ ab;have Jw:=ax.out _ ab;have aZ:=N _ (Ar Wy);obtain⟨J,E⟩:∃J,f=J+1:=⟨f - 1,by omega⟩
    have aV:dd (cE m c n r=cE m c J (b++c.getD j2 [])):=(by show _=_;rw[SG.out,E,cE,ao.out,hnk]);have fG:=ah E;rw[show X8 (V j2)=(j2:Int)from rfl];generalize c.getD j2 []=r2 at*;have aX:=ah O;have gG:dd (r2≠[]/\(∀p∈r2,p<n)/\r2.length+r2.headD 0<=r2.getLastD 0+1/\r2.headD 0=z):=⟨Wy,N,Jw,aL⟩
    have D:=A.out.cur';have aa:=A.out.base;have a3:b.length<=1000000:=(by have:=FC.out.2.2;omega);have a0:r2.length<=1000000:=(by omega);have bl:((0:Int)<=(j2:Int)):=(by omega);clear hnk O ab Wy N Jw aZ aL E d1;go_wp2_with(at_builtin;refine ah8 _ rfl _ _ 31 rfl w.1.size 3 iI (Y Z 0) 8 underlying31 gZ ia ic ig rfl (by decide) _ _ _ rfl D gj r2.length cj (iv<|nl r2) rfl (by rw[oC,iz]) (λj u hj=>by rw[cT aX.out j<|by have h1:=tJ.1 hj;obtain⟨h1,_⟩:=h1;rw[oC,iz]at h1;omega];exact hj) (λu hu=>by simp only[iv,jX]at hu;obtain⟨q,_,rfl⟩:=hu;rfl) a3 a0 aa ?_);intro v6 w6 oh i7 Nj;have Tm:=ah<|A.out.app oh i7 Nj;clear oh i7 Nj D;go_wp2;go_roundg J;case measure=>have:=fG.out;omega
    case rel=>obtain⟨e1,e2,e3,e4⟩:=gG.out;obtain⟨e5,e6,e7⟩:=aT.out;have e8:=fG.out;have e9:=aW.out;have bm:=kF.2 e1;refine⟨J,b++r2,rfl,Tm,⟨by simp[e1],?_,?_⟩,?_,aV⟩;intro p hp;rcases ji.1 hp with hp|hp;exact FC.out.2.1 p hp;exact e2 p hp;rw[Xw e1,bG];omega;rw[Xw e1];omega
 obtain rfl:k=c.length:=by omega
 have T:=ah K;have zP:=ah Mz;clear K Mz H;go_wp2;refine bU (v:=R E9 y.length Cb) (by simp[results,results72,go_sem]) rfl ⟨_,F,rfl,T.out.below,?_,?_,?_⟩;rw[<-zP.out];exact T.out.out;rw[<-zP.out];exact T.out.F9;rw[<-zP.out];exact T.out.done
def o8.call {f w e:cw}{B:Nat}{d b c:cJ}{t o r:aw}(h:o8 f w B d b c t o r)(a:cD w.1.size w e):o8 f e B d b c t o r:=
 ⟨h.below.trans<|a.mono h.base,bM h.base a.size,fS h.ht a,fS h.ho a,fS h.hr a,h.to',h.tr,h.or'⟩
def o8.write {j w b:cw}{B g n c:Nat}{e f:cJ}{t i o r:aw}(h:o8 j w B (.slice (V<|S g 0 U) n c) e f t o r)(d:bI b B g n c i)(a:w.grownBy b<|V g):o8 j b B (.slice (V<|S g 0 U) n c) e f i o r:=by have m:=d.len;refine⟨h.below.grown a h.base λk l=>by have:=wJ h.ht k;exact this l,bM h.base a.size,?_,eW h.ho a h.to'.symm.ne,eW h.hr a h.tr.symm.ne,h.to',h.tr,h.or'⟩;rw[m];exact d
def G3(l:aw)(a:ba)(k:Nat)(b:k<a.length):bz l (a.take<|k+1)=bz l (a.take k)++[l.getD (a.getD k 0) 0]:=by unfold bz;rw[pR b,gu];simp[aN,aK b]
def Qu(l:aw)(a:ba):(bz l a).length=a.length:=by simp[bz]
def J7 {w:cw}{B g n c:Nat}{l:aw}(h:w.ownsRow B 3 1 (.slice (V<|S g 0 U) n c) n<|iv l):bJ w g 0 l:=λk a=>by rw[fV];exact jx h k a
def aty(a:ba)(b:Int)(t:aw)(j:Nat)(c:j<a.length)(d:j<t.length):(jN a b t).take (j+1)=(jN a b t).take j++[(a.getD j 0,b,t.getD j 0)]:=by
 have e:j<(jN a b t).length:=by rw[jN,jh,Uc];omega
 rw[pR e];congr 1;simp[jN,aN,aK c,aK d]
def asL(D b lv:aw)(s:Sq)(n m O oa ca gr aa cr gk ok ck H cl B:Nat)(w:cw)(hm:s.at'.length=m)(aV:0<m)(nZ:m<=100000)(ae:∀p∈s.at',p<n) (af:0<=s.level/\s.level<=1000) (ad:bJ w O oa<|nl s.at') (GF:O<w.1.size) (Dk:bJ w gr aa D) (az:gr<w.1.size) (aC:bJ w gk ok b) (GG:gk<w.1.size) (aD:D.length=n) (i:b.length=n) (ai:bI w B H n cl lv) (ao:O≠H):cP prog 73 #[df #[.slice (V<|S O oa U) m ca,Y Z s.level,Y Z s.aq,Y Z s.ay],.slice (V<|S gr aa U) n cr,.slice (V<|S gk ok U) n ck,.slice (V<|S H 0 U) n cl] w λev w'=>ev=bj (de #[])/\bI w' B H n cl ((rQ D b s).foldl mo lv)/\w.grownBy w' (V H):=by
 obtain⟨iI,gZ,ia,ic,ig⟩:=fP Tryz.sQ;obtain⟨a,v,E,ay⟩:=s;simp only at hm ae af ad ⊢;obtain⟨q,hq⟩:=ac<|(rQ D b ⟨a,v,E,ay⟩).foldl mo lv;rw[<-hq];have HQ:=ah hq;clear hq;have aR:H<w.1.size:=(Bu ai H rfl).2;have HM:dd (a.length=m/\(∀p∈a,p<n)):=⟨hm,ae⟩
 have HL:dd (D.length=n/\b.length=n):=⟨aD,i⟩
 obtain⟨h,hh⟩:=ac w.1.size;have aM:∃c,c=w.alloc (bi #[.slice (V<|S O oa U) m ca,Y Z v,Y Z E,Y Z ay] 120):=⟨_,rfl⟩
 obtain⟨c,Q⟩:=aM;have M:cD w.1.size w c:=by rw[Q];exact(aA _ _).alloc (au _) _
 have aH:h<c.1.size:=by rw[Q,hh];simp
 have di:dd (w.grownBy c (V H)/\h<c.1.size/\h≠H/\O<c.1.size/\O≠H/\gr<c.1.size/\gk<c.1.size/\H<c.1.size):=⟨Vu M,aH,by omega,by omega,ao,by omega,by omega,by omega⟩
 have DW:dd (bJ c O oa (nl a)/\bJ c gr aa D/\bJ c gk ok b/\bI c B H n cl lv):=⟨ad.stay M GF,Dk.stay M az,aC.stay M GG,fS ai M⟩
 have KA:dd (c.cell? (S h 0 U)=V (.slice (V<|S O oa U) m ca)/\c.cell? (S h 1 U)=V (Y Z v)/\c.cell? (S h 2 U)=V (Y Z E)/\c.cell? (S h 3 U)=V (Y Z ay)):=by rw[Q,hh];refine⟨?_,?_,?_,?_⟩<;>simp
 clear ad Dk aC aD i ai GF az GG aR M aH hm ae ao;have HC:dd (∀W,cD c.1.size c W->W.cell? (S h 0 U)=V (.slice (V<|S O oa U) m ca)/\W.cell? (S h 1 U)=V (Y Z v)/\W.cell? (S h 2 U)=V (Y Z E)/\W.cell? (S h 3 U)=V (Y Z ay)):=by intro W hb;have hz:=di.out.2.1;rw[hb.cell (p:=(S h 0 U)) hz,hb.cell (p:=(S h 1 U)) hz,hb.cell (p:=(S h 2 U)) hz,hb.cell (p:=(S h 3 U)) hz];exact KA.out
 go_enter func73,ntmps73;go_wp2;rw[<-Q,<-hh];clear Q hh KA;go_loopg [8,9,10,11] m (λgh tv ov rv iv W=>∃k:Nat,k<=m/\gh=m - k/\iv=Y Z k/\o8 c W c.1.size tv ov rv (bz b<|a.take k) (bz b<|a.take k) (bz D<|a.take k));exact⟨0,by omega,rfl,rfl,o8.start _ _ _ (aA _ _) (au _)⟩;obtain⟨k,hk,rfl,rfl,r⟩:=hrel;by_cases o:k<m
 .have N:=ah r;have i:k<a.length:=by rw[HM.out.1];exact o
  have hp:a.getD k 0<n:=HM.out.2 _ (Vr i);have HG:dd (bz b (a.take<|k+1)=bz b (a.take k)++[b.getD (a.getD k 0) 0]/\bz D (a.take<|k+1)=bz D (a.take k)++[D.getD (a.getD k 0) 0]):=⟨G3 _ _ _ i,G3 _ _ _ i⟩
  have SJ:dd (∀W,cD c.1.size c W->W.cell? (S h 0 U)=V (.slice (V<|S O oa U) m ca)/\W.cell? (S O (oa+k) U)=V (Y Z (a.getD k 0:Nat))/\W.cell? (S gk (ok+a.getD k 0) U)=V (Y Z<|b.getD (a.getD k 0) 0)/\W.cell? (S gr (aa+a.getD k 0) U)=V (Y Z<|D.getD (a.getD k 0) 0)):=by intro W hb;refine⟨(HC W hb).1,?_,?_,?_⟩;have:=(DW.out.1.stay hb di.out.2.2.2.1) k (by rw[iz];exact i);rw[pH _ _ i]at this;exact this;exact(DW.out.2.2.1.stay hb di.out.2.2.2.2.2.2.1) _ (by rw[HL.out.2];exact hp);exact(DW.out.2.1.stay hb di.out.2.2.2.2.2.1) _ (by rw[HL.out.1];exact hp)
  have ag:(bz b<|a.take k).length<=1000000/\(bz D<|a.take k).length<=1000000:=by rw[Qu,Qu,tM];omega
  generalize a.getD k 0=p at*;generalize b.getD p 0=kp at*;generalize D.getD p 0=rp at*;generalize bz b (a.take k)=tk at*;generalize bz D (a.take k)=rk at*;obtain⟨K,L,I,J⟩:=SJ.out wr r.below;have l:=r.ht;have A:=r.base;clear r;go_wp2_with(at_builtin;refine AW _ rfl _ _ 31 rfl c.1.size 3 iI (Y Z 0) 8 underlying31 gZ ia ic ig rfl (by decide) _ _ _ rfl l _ _ _ rfl rfl rfl ag.1 A ?_);intro v1 w1 d C u;have Jo:=N.out.YB d C u;have am:=ah Jo;clear d C u l A K L I J N;obtain⟨K,L,I,J⟩:=SJ.out w1 Jo.below;have l:=Jo.ho;have A:=Jo.base;clear Jo;go_wp2_with(at_builtin;refine AW _ rfl _ _ 31 rfl c.1.size 3 iI (Y Z 0) 8 underlying31 gZ ia ic ig rfl (by decide) _ _ _ rfl l _ _ _ rfl rfl rfl ag.1 A ?_);intro v2 w2 d C u;have rF:=am.out.arb d C u;have CS:=ah rF;clear d C u l A K L I J am;obtain⟨K,L,I,J⟩:=SJ.out w2 rF.below;have l:=rF.hr;have A:=rF.base;clear rF;go_wp2_with(at_builtin;refine AW _ rfl _ _ 31 rfl c.1.size 3 iI (Y Z 0) 8 underlying31 gZ ia ic ig rfl (by decide) _ _ _ rfl l _ _ _ rfl rfl rfl ag.2 A ?_);intro v3 w3 d C u;have MA:=CS.out.N5 d C u;have FU:=ah MA;clear d C u l A K L I J CS MA;go_wp2;go_roundg (m - (k+1));exact⟨k+1,by omega,rfl,by simp,by rw[HG.out.1,HG.out.2];exact FU.out⟩;omega
 obtain rfl:k=m:=by omega
 have aE:a.take k=a:=jY (by rw[HM.out.1];exact au _);rw[aE]at r;clear aE;have BP:(bz b a).length=k/\(bz D a).length=k:=by rw[Qu,Qu,HM.out.1];exact⟨rfl,rfl⟩
 have Be:dd (q=(jN a v<|E7 E ay (v%2)<|B6 (vJ E<|bz b a) (bz b a) (Ce (vJ E<|bz b a)<|bz D a) (v%2) E).foldl mo lv):=HQ.out;clear HQ;generalize bz b a=T0 at*;generalize bz D a=R0 at*;obtain⟨x,ct,e1,aX,aU,ar⟩:=iq r.ht (by omega);obtain⟨go,co,e2,Jt,aS,ap⟩:=iq r.ho (by omega);obtain⟨gq,cq,e3,p8,aT,gQ⟩:=iq r.hr (by omega);subst e1 e2 e3;rw[BP.1,BP.2]at r;rw[BP.1,BP.2];have aF:x≠go:=λe=>r.to' x rfl (by rw[e];rfl)
 have aG:x≠gq:=λe=>r.tr x rfl (by rw[e];rfl)
 have N:=ah r;have y:dd (bI wr c.1.size x k ct T0):=by have:=r.ht;rw[BP.1]at this;exact this
 have HK:=ah BP;have KW:dd (x≠go/\x≠gq/\c.1.size<=x/\c.1.size<=go/\c.1.size<=gq):=⟨aF,aG,ar,ap,gQ⟩
 obtain⟨K,L,I,J⟩:=HC.out wr r.below;clear r BP aF aG aU aS aT ar ap gQ o;go_wp2_with fail;refine(atY T0 E _ c.1.size x k ct wr y nZ aV).mono ?_;rintro ev w2 ⟨rfl,BJ,pz⟩;have rF:=N.out.write BJ pz;have CS:=ah rF;have OJ:=ah BJ.len;clear N y K L I J BJ pz;obtain⟨K,L,I,J⟩:=HC.out w2 rF.below;clear rF;generalize vJ E T0=T1 at*;obtain⟨e,he⟩:=ac<|v%2;obtain⟨F,hF⟩:∃F:List (Nat×Nat)->aw,F=λg=>B6 T1 T0 g e E:=⟨_,rfl⟩
 have HF:dd (∀(g:List<|Nat×Nat)(j:Nat),j<g.length->F (g.take<|j+1)=uu (F<|g.take j) T0 (g.getD j (0,0)) e E):=by intro g j hj;rw[hF];simp only;unfold B6;rw[pR hj,CY];simp[aN,aK hj]
 have al:dd (F []=T1/\∀g,(F g).length=k):=by rw[hF];exact⟨rfl,λg=>by rw[XO];exact OJ.out⟩
 obtain⟨G,hG⟩:∃G:aw->aw,G=λt=>E7 E ay e t:=⟨_,rfl⟩
 have HG:dd (∀t,E7 E ay e t=G t):=by intro t;rw[hG]
 have Im:dd (q=(jN a v<|G<|F<|Ce T1 R0).foldl mo lv):=by have:=Be.out;rw[hG,hF,he];exact this
 have an:e=0∨e=1:=by omega
 have T:(v%2==1)=(e==1):=by rw[he]
 clear hF hG he Be
 go_upto_if 64 with fail
 go_cut [12] (λev wc=>ev=Y Z e/\wc=w2)
 case first=>
  rcases an with rfl|rfl
  .have aL:(v%2==1)=da:=T;go_wp2_with fail;go_meet;case rel=>exact⟨rfl,rfl⟩
  .have aL:(v%2==1)=db:=T;go_wp2_with fail;go_meet;case rel=>exact⟨rfl,rfl⟩
 case rest=>
  obtain⟨aO,aP⟩:=hcut;subst aO;have vU:=aP.symm;subst vU;clear T an;go_wp2_with fail;refine(aqs T1 R0 k x 0 ct gq 0 cq w2 OJ HK.out.2 nZ (J7<|by have:=CS.out.ht;rw[OJ.out]at this;exact this) (J7<|by have:=CS.out.hr;rw[HK.out.2]at this;exact this) (vE CS.out.ht x rfl)<|vE CS.out.hr gq rfl).mono ?_;rintro ev w3 ⟨pv,g,rfl,ak,a0,av,WD⟩;have MA:=CS.out.call av;obtain⟨pa,pc,rfl⟩:=eV WD;have FU:=ah MA;have CJ:=ah WD;have tq:dd (Ce T1 R0=g/\∀p∈g,p.1<p.2/\p.2<k):=⟨ak.is.symm,λp hp=>by have:=ak.ok p hp;rw[OJ.out]at this;exact this⟩
  clear MA av WD ak K L I J CS;go_wp2;go_loopg [14] g.length (λgh iv W=>∃(j:Nat)(X:aw),j<=g.length/\gh=g.length - j/\iv=Y Z j/\o8 c W c.1.size (.slice (V<|S x 0 U) k ct) (.slice (V<|S go 0 U) k co) (.slice (V<|S gq 0 U) k cq) X T0 R0/\W.ownsRow w2.1.size 194 2 (R pa g.length pc) g.length (gK g)/\X=F (g.take j));exact⟨0,T1,by omega,rfl,rfl,FU,CJ,al.out.1.symm⟩;clear FU CJ;obtain⟨j,X,hj,rfl,rfl,r,Jn,P⟩:=hrel;have N:=ah r;have CJ:=ah Jn;have HE:=ah P;have aJ:dd (X.length=k):=(by rw[P];exact al.out.2 _);have y:dd (bI wr c.1.size x k ct X):=(by have:=r.ht;rw[aJ.out]at this;exact this);obtain⟨K,L,I,J⟩:=HC.out wr r.below;by_cases o:j<g.length
  .obtain⟨gp,cp,hv,pE,aZ,_⟩:=iq Jn (by omega);obtain⟨u,aW⟩:pa=V (S gp 0 U)/\pc=cp:=(by simpa using hv);clear hv;subst u;subst aW;have d0:=Yg Jn j o;have d1:=Yh Jn j o;have ab:g.getD j (0,0)∈g:=dP o;have aj:=tq.out.2 _ ab;have VB:=HF.out g j o;rw[<-P]at VB;have HN:=ah VB;clear VB;generalize g.getD j (0,0)=pr at*;obtain⟨f,z⟩:=pr;simp only at d0 d1 aj;clear r Jn P ab;go_wp2
   go_region_with (go_at_call 126;refine(aqp X T0 f z _ E c.1.size x k ct go 0 co _ ?_ nZ HK.out.1 ?_ ?_ (λe=>KW.out.1 e.symm) aj.1 aj.2).mono ?_;exact y.out;exact(J7<|by have:=N.out.ho;rw[HK.out.1]at this;exact this);exact(vE N.out.ho go rfl);rintro ev w4 ⟨rfl,uZ,Ae⟩)
   all_goals
    have Ae:=C3.trans Ae;have Lf:=ah<|N.out.write uZ Ae;have Te:dd (w4.ownsRow w2.1.size 194 2 (.slice (V<|S gp 0 U) g.length pc) g.length<|gK g):=eW CJ Ae (mP CJ y<|by decide);clear uZ Ae CJ N y;go_wp2;go_roundg (g.length - (j+1));exact⟨j+1,_,by omega,rfl,by simp,Lf,Te,HN.out.symm⟩;omega
  have EP:j=g.length:=(by omega);have eY:dd (X=F g):=(by show _=_;rw[P,EP,Pt]);clear r Jn P o;go_wp2_with fail;refine(apG X E ay _ c.1.size x k ct wr y nZ).mono ?_;rintro ev w4 ⟨rfl,uZ,Ae⟩;rw[HG.out X]at uZ;have ue:=N.out.write uZ Ae;have CL:dd (q=(jN a v<|G X).foldl mo lv):=by show _=_;rw[Im.out,tq.out.1,<-eY.out]
  have qH:=uZ.len;have QF:=ue.ht;rw[qH]at QF;have bV:=ue.below;clear K L I J CJ N y HE eY Ae uZ EP hj ue;generalize G X=T3 at*;have bF:=ah bV;have CT:=ah QF;have Lg:dd (T3.length=k/\x<w4.1.size/\x≠H):=⟨qH,vE QF x rfl,by have:=KW.out.2.2.1;have:=di.out.2.2.2.2.2.2.2;omega⟩
  have CF:=ah<|fS DW.out.2.2.2 bV;clear bV QF qH;go_wp2;go_loopg [15] k (λgh iv W=>∃(j:Nat)(l':aw),j<=k/\gh=k - j/\iv=Y Z j/\bI W B H n cl l'/\w4.grownBy W (V H)/\l'=((jN a v T3).take j).foldl mo lv);exact⟨0,lv,by omega,rfl,rfl,CF,kI _ _,rfl⟩;clear CF;obtain⟨j,l',hj,rfl,rfl,hI,gJ,P⟩:=hrel;have HI:=ah hI;have sZ:=ah gJ;have HE:=ah P;obtain⟨K,L,I,J⟩:=HC.out w4 bF.out;have sP:c.1.size<=w4.1.size:=bF.out.size;have yR:=di.out;rw[<-sH gJ (by omega) yR.2.2.1]at K L;by_cases o:j<k
  .have i:j<a.length:=(by rw[HM.out.1];exact o);have hp:a.getD j 0<n:=HM.out.2 _ (Vr i);have d0:=(DW.out.1.stay bF yR.2.2.2.1) j (by rw[iz];exact i);rw[pH _ _ i,<-sH gJ (by omega) yR.2.2.2.2.1]at d0;have d1:=jx CT j (by rw[Lg.out.1];exact o);rw[<-sH gJ Lg.out.2.1 Lg.out.2.2]at d1;have HN:dd (((jN a v T3).take (j+1)).foldl mo lv=l'.set (a.getD j 0) (pF (T3.getD j 0) v)):=(by show _=_;rw[aty a v T3 j i<|by rw[Lg.out.1];exact o,CY,<-P];rfl);generalize a.getD j 0=p at*;generalize T3.getD j 0=tc at*;have aQ:=hI.cell p hp;have aY:=hI.frozen p;generalize l'.getD p 0=lp at aQ;clear hI gJ P I J yR sP i;generalize aB:pF tc v=im at*;have aI:=ah aB;clear aB;go_wp2
   go_region_with (go_at_call 128;refine(aog tc v _ af.1 af.2).mono ?_;rintro ev _ ⟨rfl,rfl⟩;rw[aI.out])
   all_goals
    go_wp2;go_roundg (k - (j+1));exact⟨j+1,_,by omega,rfl,by simp,HI.out.set p im,(sZ.out.trans<|HI.out.grown p im).trans C3,HN.out.symm⟩;omega
  have EP:j=k:=(by omega);have HV:dd (q=l'):=by show _=_;rw[CL.out,HE.out,EP,jY];rw[jN,jh,Uc,HM.out.1,Lg.out.1];omega
  clear hI gJ P I J yR sP;go_wp2;go_end0;exact⟨rfl,HV.out▸HI.out,(di.out.1.trans<|Vu bF).trans sZ⟩
def Fk:aw->List Bool
 |[]=>[]
 |c::r=>qM c r::Fk r
def mQ(a:aw)(m:Nat):List Bool:=List.replicate m da++Fk (a.drop m)
def arM(a:aw):mQ a a.length=List.replicate a.length da:=by rw[mQ,aja,Fk,mH]
def arL(a:aw)(q:Nat)(d:q<a.length)(b:Bool)(c:b=qM (a.getD q 0) (a.drop<|q+1)):(mQ a<|q+1).set q b=mQ a q:=by unfold mQ;rw[drop_at d,Fk,<-c,Pr,dY,yH _ _ (by simp)];simp
def arK(a:aw)(q:Nat)(c:q<a.length)(b:qM (a.getD q 0) (a.drop<|q+1)=da):mQ a (q+1)=mQ a q:=by unfold mQ;rw[drop_at c,Fk,b,Pr,dY];rfl
def atr(a:aw)(q:Nat)(b:q<a.length):kU (a.drop q)=if a.getD q 0=10 then db else if mj (a.getD q 0)=db then kU (a.drop<|q+1)else da:=by rw[drop_at b,kU]
def oN(a:Int)(d o:aw)(k:Nat)(b:Int)(e:aw):Prop:=(∃c,c.length=k/\e=c++o.drop k/\nS a a d o=c++nS a b (d.drop k) (o.drop k))/\((k=0/\b=a)∨(0<k/\b=e.getD (k - 1) 0))
def oN.start(a:Int)(b o:aw):oN a b o 0 a o:=⟨⟨[],rfl,rfl,rfl⟩,.inl ⟨rfl,rfl⟩⟩
def oN.at {a b:Int}{d o c:aw}{k:Nat}(h:oN a d o k b c)(j:Nat)(i:k<=j):c.getD j 0=o.getD j 0:=by obtain⟨⟨g,e,f,_⟩,_⟩:=h;rw[f,aN,tH<|by omega,e,zS,show k+(j - k)=j by omega,aN]
def oN.len {a b:Int}{d o c:aw}{k:Nat}(h:oN a d o k b c)(i:k<=o.length):c.length=o.length:=by obtain⟨⟨g,e,f,_⟩,_⟩:=h;rw[f];simp[e];omega
def oN.step {a b v:Int}{c o g:aw}{k:Nat}(h:oN a c o k b g)(l:k<c.length)(n:c.length=o.length)(m:v=if qM (c.getD k 0) (c.drop<|k+1)=db then a else if bX (c.getD k 0)=da then b else o.getD k 0):oN a c o (k+1) v (g.set k v):=by have f:=h.len (by omega);obtain⟨⟨d,e,i,j⟩,_⟩:=h;refine⟨⟨d++[v],by simp[e],?_,?_⟩,.inr ⟨by omega,?_⟩⟩;rw[i,drop_at (show k<o.length by omega),yH _ _ (by omega),e,pT];simp;rw[j,drop_at l,drop_at (show k<o.length by omega),nS,<-m];simp;rw[pS,Ac<|by omega]
def oN.same {a b:Int}{d o c:aw}{k:Nat}(h:oN a d o k b c)(g:k<o.length):c.set k (o.getD k 0)=c:=by obtain⟨⟨i,e,f,_⟩,_⟩:=h;rw[f,drop_at g,yH _ _ (by omega),e,pT];rfl
def oN.stop {a b:Int}{c o f:aw}{k:Nat}(h:oN a c o k b f)(j:c.length<=k)(l:c.length=o.length):f=nS a a c o:=by obtain⟨⟨g,i,d,e⟩,_⟩:=h;rw[lu<|by omega]at d e;rw[d,e,lu<|by omega];rfl
def arJ(a:aw)(k:Nat)(b:k<a.length):(bv<|mQ a 0)[k]? =V (ce<|qM (a.getD k 0)<|a.drop<|k+1):=by
 have key:∀(a:aw)(k:Nat),k<a.length->(Fk a)[k]? =V (qM (a.getD k 0)<|a.drop<|k+1):=by
  intro a
  induction a with
  |nil=>intro k h;simp at h
  |cons c r ih=>
   intro k h;cases k with
   |zero=>simp[Fk]
   |succ k=>simpa [Fk]using ih k<|by simpa using h
 simp[bv,mQ,key a k b]
def aij(a:aw)(k:Nat)(b:k<a.length):(aO a).getD k da=bX (a.getD k 0):=by simp[aO,aN,aK b]
def atw(b o:aw)(a:Int)(n gc oc cc gf am cf B l N:Nat)(w:cw)(hc:b.length=n)(hn:n<=100000)(aa:bJ w gc oc b)(ad:AZ w gf am<|aO b)(kR:gc<w.1.size)(vW:gf<w.1.size)(ho:bI w B l n N o)(ag:gc≠l)(ak:gf≠l)(h0:0<n->bX (b.getD 0 0)=da->o.getD 0 0=a):cP prog 74 #[.slice (V<|S gc oc U) n cc,.slice (V<|S l 0 U) n N,.slice (V<|S gf am U) n cf,Y Z a] w λev w'=>ev=bj (.slice (V<|S l 0 U) n N)/\bI w' B l n N (nS a a b o)/\w.grownBy w' (V l):=by
 obtain⟨iB,MO,Nr,Ns,Nt⟩:=fP Tryz.JP;have A9:=ah aa;have CB:=ah ad;have HO:=ah ho;have af:B<=l/\l<w.1.size:=Bu ho l rfl;have t:dd (b.length=n/\gc<w.1.size/\gf<w.1.size/\gc≠l/\gf≠l/\l<w.1.size/\(0<n->bX (b.getD 0 0)=da->o.getD 0 0=a)):=⟨hc,kR,vW,ag,ak,af.2,h0⟩
 clear aa ad ho af kR vW ag ak h0;have ao:=run_make_row' (P:=prog) 36 4 (ce da) 1 underlying36 Tryz.JP rfl .i64 .i64 n (by omega) (by omega);have uK:dd (cD w.1.size w (w.alloc<|bi (madeCells #[ce da] n) 4)/\aW (w.alloc<|bi (madeCells #[ce da] n) 4) w.1.size 4 w.1.size n (bv<|mQ b n)):=by
  refine⟨(aA _ _).alloc (au _) _,?_⟩;have e:bv (mQ b n)=List.replicate n (ce da):=by rw[<-t.out.1,arM];simp[bv]
  rw[e];exact aW.made (au _)<|by omega
 clear Nr Ns Nt MO hc;go_enter func74,ntmps74;go_wp2;generalize w.alloc (bi (madeCells #[ce da] n) 4)=W1 at*;obtain⟨g,hg⟩:=ac w.1.size;have HG:=ah hg;rw[<-hg];clear hg ao;go_loopg [10,11] n (λgh ap iv W=>∃m:Nat,m<=n/\m=gh/\ap=ce (kU<|b.drop m)/\iv=Y Z ((m:Int) - 1)/\cD w.1.size w W/\aW W w.1.size 4 g n (bv<|mQ b m));exact⟨n,au _,rfl,by rw[lu<|by rw[t.out.1];exact au _];rfl,by simp,uK.out.1,by rw[HG.out];exact uK.out.2⟩;clear uK;obtain⟨m,hm,rfl,rfl,rfl,hB,hR⟩:=hrel;have H:=ah hB;have M:=ah hR;cases m with
 |succ q=>
  have hq:q<b.length:=by rw[t.out.1];omega
  have aq:=A9.out.stay hB t.out.2.1 q hq;have z:=atr b q hq;have C:=arL b q hq db;have A:=arK b q hq;have al:qM (b.getD q 0) (b.drop<|q+1)=(b.getD q 0==10||(mj (b.getD q 0)&&kU (b.drop<|q+1))):=rfl;have an:=hR.frozen q;have T:wr.cell? (S g q U)=V (ce da):=by rw[hR.cell q<|by omega];unfold mQ bv;rw[gu,uM<|by simp];simp
  rw[al]at C A;generalize b.getD q 0=c at*;generalize kU (b.drop<|q+1)=on at*;rw[show((q+1:Nat):Int) - 1=(q:Int)by omega];have Q9:q<n:=by omega
  clear al hB hR hq;by_cases D:c=10
  .subst D;have J:dd (kU (b.drop q)=db):=(by show _=_;rw[z,aj rfl]);have X:dd ((mQ b<|q+1).set q db=mQ b q):=C rfl;clear z C A;go_wp2_with fail;refine(Rn 10 _).mono ?_;rintro ev _ ⟨rfl,rfl⟩;go_wp2;go_roundg q;exact⟨q,by omega,rfl,by rw[J.out],by simp,H.out.setCell (p:=(S g q U)) (by rw[HG.out];exact au _) _,by rw[<-X.out,<-UN];exact M.out.set q _⟩;omega
  have pK:=ae D;rw[pK,DM]at C A;rw[ai D]at z;obtain⟨lo,Q⟩:=ac<|mj c;rw[<-Q]at z C A;have S0:=ah Q.symm;clear Q D;cases on
  .have J:dd (kU (b.drop q)=da):=(by show _=_;rw[z];split<;>rfl);have X:dd (mQ b (q+1)=mQ b q):=A (by simp);clear z C A;go_wp2_with fail;refine(Rn c _).mono ?_;rintro ev _ ⟨rfl,rfl⟩;rw[S0.out];go_wp2;go_roundg q;exact⟨q,by omega,rfl,by rw[J.out],by simp,H,by rw[<-X.out];exact M.out⟩;omega
  cases lo
  .have J:dd (kU (b.drop q)=da):=(by show _=_;rw[z];rfl);have X:dd (mQ b (q+1)=mQ b q):=A (by simp);clear z C A;go_wp2_with fail;refine(Rn c _).mono ?_;rintro ev _ ⟨rfl,rfl⟩;rw[S0.out];go_wp2;go_roundg q;exact⟨q,by omega,rfl,by rw[J.out],by simp,H,by rw[<-X.out];exact M.out⟩;omega
  have J:dd (kU (b.drop q)=db):=(by show _=_;rw[z];rfl);have X:dd ((mQ b<|q+1).set q db=mQ b q):=C rfl;clear z C A;go_wp2_with fail;refine(Rn c _).mono ?_;rintro ev _ ⟨rfl,rfl⟩;rw[S0.out];go_wp2;go_roundg q;exact⟨q,by omega,rfl,by rw[J.out],by simp,H.out.setCell (p:=(S g q U)) (by rw[HG.out];exact au _) _,by rw[<-X.out,<-UN];exact M.out.set q _⟩;omega
 |zero=>
  have bP:dd (bI wr B l n N o):=fS HO hB;clear hB hR;go_wp2;obtain⟨W2,O⟩:=ac wr;rw[<-O]at H M bP;have Li:=ah O;clear O;go_loopg [13] n (λgh iv W=>∃(k:Nat)(f:Int)(s:aw),k<=n/\gh=n - k/\iv=Y Z k/\bI W B l n N s/\W2.grownBy W (V l)/\oN a b o k f s);exact⟨0,a,o,by omega,rfl,rfl,Li.out▸bP.out,by rw[Li.out];exact kI _ _,oN.start _ _ _⟩;obtain⟨k,f,s,hk,rfl,rfl,E,I,hF⟩:=hrel;have K:=ah E;have sZ:=ah I;by_cases F:k<n
  .have r:k<b.length:=(by rw[t.out.1];exact F);have u:o.length=n:=bP.out.len;have d:=λv=>oN.step (v:=v) hF r<|by rw[t.out.1,u]
   have i:=hF.same (by rw[u];exact F);have G:w.1.size<=W2.1.size:=H.out.size;have T:=M.out.cell k F;rw[show(bv<|mQ b 0)[k]? =V (ce<|qM (b.getD k 0)<|b.drop<|k+1)from arJ b k r]at T;rw[<-sH I (M.out.ge).2 (by have:=HG.out;have:=t.out.2.2.2.2.2.1;omega)]at T;have ab:=CB.out.stay H t.out.2.2.1 k (by rw[aO,jh];exact r);rw[aij b k r,<-sH I (by have:=t.out.2.2.1;omega) t.out.2.2.2.2.1]at ab;have x:=E.cell k F;have an:=E.frozen k;have qJ:s.getD k 0=o.getD k 0:=hF.at k<|au _;have JG:=hF.2;generalize qM (b.getD k 0) (b.drop<|k+1)=rb at*;generalize y:bX (b.getD k 0)=lb at*;cases rb
   .cases lb
    .cases k with
     |zero=>
      have hp:f=a:=(by rcases JG with⟨_,h⟩|⟨h,_⟩;exact h;omega);have R:o.getD 0 0=a:=t.out.2.2.2.2.2.2 (by omega) y;have L:dd (oN a b o 1 a s):=by have:=d a (by simp[hp]);rw[<-R]at this;rw[i]at this;rw[R]at this;exact this
      rw[qE]at ab;clear d i JG hF E I qJ y R hp r u G;go_wp2;go_roundg (n - 1);exact⟨1,_,s,by omega,rfl,rfl,K,sZ,L⟩;omega
     |succ j=>have hp:f=s.getD j 0:=(by rcases JG with⟨h,_⟩|⟨_,h⟩;omega;rw[h,pS]);have De:=E.cell j (by omega);rw[<-hp]at De;have L:dd (oN a b o (j+1+1) f<|s.set (j+1) f):=d f (by simp);generalize s.getD (j+1) 0=Cb at x;clear d i JG hF E I qJ y hp r u G;go_wp2;go_roundg (n - (j+1+1));exact⟨j+1+1,_,_,by omega,rfl,by simp,K.out.set (j+1) f,sZ.out.trans<|K.out.grown (j+1) f,L⟩;omega
    have L:dd (oN a b o (k+1) (o.getD k 0) s):=(by have:=d (o.getD k 0) (by simp);rw[i]at this;exact this);clear d i JG hF E I qJ y r u G;go_wp2;go_roundg (n - (k+1));exact⟨k+1,_,s,by omega,rfl,by simp,K,sZ,L⟩;omega
   have L:dd (oN a b o (k+1) a<|s.set k a):=d a (by simp);generalize s.getD k 0=Cb at x;clear d i JG hF E I qJ y r u G;go_wp2;go_roundg (n - (k+1));exact⟨k+1,_,_,by omega,rfl,by simp,K.out.set k a,sZ.out.trans<|K.out.grown k a,L⟩;omega
  have HV:dd (s=nS a a b o):=hF.stop (by rw[t.out.1];omega) (by rw[t.out.1];have:=bP.out.len;omega);clear E I hF;go_wp2;refine bU (v:= .slice (V<|S l 0 U) n N) (by simp[results,results74,go_sem]) rfl ⟨rfl,HV.out▸K.out,(Vu H).trans sZ⟩
def Vo(a:aw):∀f i,lI a f i=0∨lI a f i=1
 |0,_=> .inl rfl
 |f+1,i=>by rw[lI];split;split;exact .inl rfl;split;exact .inr rfl;split;exact Vo a f _;exact Vo a f _;exact .inl rfl
def Yk(a:aw)(d:Int):gT a d=0∨gT a d=1:=by unfold gT;split;assumption;exact Vo a _ _
def aim(b:aw)(a:Int):(bf b a).length=b.length:=by simp[bf]
def auj(b:aw)(a:Int):(je b a).length=b.length:=by simp[je]
def aik(a:aw):(aO a).length=a.length:=by simp[aO]
def auk(b:aw)(a:Int)(h:0<=a/\a<=125):∀l∈bf b a,0<=l/\l<=125:=by intro l c;unfold bf at c;obtain⟨i,_,rfl⟩:=jX.1 c;exact((zF b a h i).pre (b.getD i 0)).top.2
def aW.heap {w:cw}{B g n:Nat}{e:TypeId}{b:List cJ}(h:aW w B e g n b):w.1[g]? =V (bi b.toArray e (0,0)):=by
 obtain⟨l,f⟩:=h;rcases f with⟨h,_⟩|⟨k,c,a,d,_,i,_,_,m,j⟩;cases h;cases d;rw[i];have:a=b.toArray:=by rw[<-j,jY<|by rw[Ov];omega]
 rw[this]
def aW.Rw {w:cw}{B g n:Nat}{e:TypeId}{a:List cJ}(h:w.1[g]? =V (bi a.toArray e (0,0)))(c:B<=g)(b:a.length=n)(d:n<=1000000):aW w B e g n a:=
 ⟨by omega,.inr ⟨g,n,a.toArray,rfl,c,h,au _,by unfold maxLen;omega,by simp[b],by simp[<-b]⟩⟩
def aW.ints {w:cw}{B g n:Nat}{l:aw}(h:aW w B 3 g n<|iv l):bJ w g 0 l:=λk a=>by rw[fV];exact jx h k a
def aW.bools {w:cw}{B g n:Nat}{l:List Bool}(h:aW w B 4 g n<|bv l):AZ w g 0 l:=λk a=>by
 have b:l.length=n:=by have:=h.1;simp[bv]at this;omega
 rw[fV,h.cell k<|by omega];simp[bv,aN,aK a]
def aW.keep {w b:cw}{B a g n:Nat}{e:TypeId}{c:List cJ}(h:aW w B e g n c)(d:cD a w b)(f:g<a):aW b B e g n c:=
 kS h λk o i j=>by
  have:g=k:=by simpa [Value.ownBlock]using i
  subst this;rw[d.block g f];exact j
def Gz {b:aw}{d:List ba}(h:nt b.length d)(g:∀r∈d,r.length+r.headD 0<=r.getLastD 0+1):∀f a,a≠[]->(∀p∈a,p<b.length)->a.length<=a.getLastD 0+1->(cE b d f a)≠[]/\(cE b d f a).length<=b.length
 |0,a,h1,h2,h3=>by rw[cE];have:=h2 _ (Ar h1);exact⟨h1,by omega⟩
 |f+1,a,h1,h2,h3=>by
  rw[cE];have j:=h2 _ (Ar h1);cases hn:iK b d (a.getLastD 0)with
  |none=>exact⟨h1,by simp only;omega⟩
  |some k=>simp only;unfold iK at hn;split at hn;rename_i m;obtain⟨o,q⟩:=G9 _ _ hn;have l:d.getD k []∈d:=dP o;have c:=h.ne _ l;have n:=XM b _ j m;have s:=g _ l;have t:=kF.2 c;refine Gz h g f _ (λe=>c (List.append_eq_nil_iff.1 e).2) ?_ ?_;intro p i;rcases ji.1 i with i|i;exact h2 p i;exact h.lt _ l p i;rw[Xw c,bG];omega;cases hn
def asp {c e:aw}{f:List Bool}{k:Int}(u:e.length=c.length)(q:∀l∈e,0<=l/\l<=125):∀s∈iL c e f k,0<s.at'.length/\s.at'.length<=c.length/\(∀p∈s.at',p<c.length)/\0<=s.level/\s.level<=125:=by
 intro s w;unfold iL at w;obtain⟨r,d,rfl⟩:=jX.1 w;have d:=(uN.1 d).1;have b:nt c.length (dB e f):=by have:=YQ e f;rw[u]at this;exact this
 have t:=b.ne _ d;have z:=YO d;have a:=Gz b (λr d=>YO d) c.length r t (b.lt _ d) (by omega);have h:∀p∈cE c (dB e f) c.length r,p<c.length:=by
  obtain⟨i,g,x⟩:=mC d;have y:(dB e f).getD i []=r:=by rw[aN,aK g,<-x];rfl
  have n:=PN b c.length [] i g;simp only[r8]at n;rw[y]at n;intro p v;rw[n]at v;obtain⟨j,_,o⟩:=IE.1 v;rcases dc j (dB e f).length with m|m;exact b.lt _ (dP m) p o;rw[aN,tI m]at o;cases o
 refine⟨kF.2 a.1,a.2,h,?_⟩;exact q _ (dP<|by rw[u];exact h _ (head_mem a.1))
def MZ {f:Int}:∀(g o i:aw)(d:Int),o.length=g.length->i.length=g.length->(∀k,k<g.length->bX (g.getD k 0)=db->i.getD k 0=o.getD k 0)->nS f d g i=nS f d g o
 |[],o,i,_,h1,h2,_=>by rw[Lq h1,Lq h2]
 |c::g,[],_,_,h1,_,_=>by simp at h1
 |c::g,_::_,[],_,_,h2,_=>by simp at h2
 |c::g,a::o,b::i,d,h1,h2,h=>by
  have e:(if qM c g=db then f else if bX c=da then d else b)=(if qM c g=db then f else if bX c=da then d else a):=by by_cases j:bX c=da;rw[aj j,aj j];have:=h 0 (by simp) (by simpa using j);simp at this;rw[this]
  rw[nS,nS,e,MZ g o i _ (by simpa using h1) (by simpa using h2) (λk l m=>by have:=h (k+1) (by simpa using l) (by simpa using m);simpa using this)]
