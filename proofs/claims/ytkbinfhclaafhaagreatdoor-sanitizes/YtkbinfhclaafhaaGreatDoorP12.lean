import Derived.Test.YtkbinfhclaafhaaGreatDoorP11
import Derived.Deep.DeepCutAuto
namespace Go.Proofs.YtkbinfhclaafhaaGreatDoor
open Go.RowKit
open Go.Proofs.Tryz
set_option maxRecDepth 100000
set_option maxHeartbeats 32000000
set_option linter.all false
def VX(a:List Int)(k:Nat)(h:k<a.length)(b:aU (a.getD k 0)=true):k<mt a k:=by
 have i:=l7.start a k (by omega);have g:a.getD k 0≠21:=by intro e;rw[e,Me]at b;cases b
 have f:=i.plain h g;have:mt a k=a.length∨∃d,cV (a.drop<|k+1) (if aU (a.getD k 0)=true then(0:Int)+1 else 0)=some d/\mt a k=k+(d+(k+1 - k)):=by
  unfold mt;rw[f.2.2];cases hm:cV (a.drop<|k+1) (if aU (a.getD k 0)=true then(0:Int)+1 else 0)with
  |none=>exact .inl rfl
  |some d=>exact .inr ⟨d,rfl,rfl⟩
 rcases this with c|⟨d,_,c⟩<;>omega
def bI.sub {w:World}{b c:Nat}{d:List Int}(h:bI w b c d)(m a:Nat)(f:m<=d.length):bI w b (c+a) ((d.take m).drop a):=by
 intro i e;simp at e;have:=h (a+i) (by omega);rw[show c+a+i=c+(a+i)by omega,this];simp[aO,zj,NC];rw[aj<|by omega]
def bI.keep {w d:World}{B b a:Nat}{l:List Int}(h:bI w b a l)(e:Below B w d)(c:b<B):bI d b a l:=λi f=>by rw[e.cell (p:=⟨b,a+i,none⟩) c];exact h i f
def IB {c a:Int}(e:aV)(hx:c=a)(b:bV c=true)(d:0<=e.o):e.o=kindOf a e:=by subst hx;rw[kindOf,aj ⟨b,d⟩]
def IC {c a:Int}(e:aV)(hx:c=a)(b:e.o<0):c=kindOf a e:=by subst hx;rw[kindOf,ai λh=>by omega]
def VG {c a:Int}{e:aV}(hx:c=a)(b:bV c=false):c=kindOf a e:=by subst hx;rw[kindOf,ai λh=>by rw[b]at h;cases h.1]
def left_at {c a:Int}{q:Bool}(hx:c=a)(b:bV c=q):q=bV a:=by rw[<-hx,b]
def akN(f:List Int)(a:Int)(b C U d:Nat)(w:World)(hl:f.length=d)(hn:d<=100000)(X:d<=U)(hc:bI w b C f)(hb:b<w.heap.size)(hp:0<=a/\a<=125):
  Calls prog 71 #[.slice (some ⟨b,C,none⟩) d U,.int .i64 a] w λe w'=>∃g1 g2 g3,e= .returned (.tuple #[.slice (some ⟨g1,0,none⟩) d d,.slice (some ⟨g2,0,none⟩) d d,.slice (some ⟨g3,0,none⟩) d d])/\Below w.heap.size w w'/\
   aY w' w.heap.size 3 g1 d (iv<|bh f a)/\aY w' w.heap.size 3 g2 d (iv<|iN f a)/\aY w' w.heap.size 4 g3 d (bv<|aQ f):=by
 have UU:=run_make_row' (P:=prog) 31 3 (.int .i64 0) 8 underlying31 Tryz.rL rfl .i64 .i64 d (by omega) (by omega);have Ik:=run_make_row' (P:=prog) 36 4 (.bool false) 1 underlying36 Tryz.Md rfl .i64 .i64 d (by omega) (by omega);have HC:=ah hc;have O:=ah hl;have HP:=ah hp;have am:=ah X;clear hc hl hp X;go_enter func71,ntmps71;go_wp2;have fG:=jc.start f a w d O.out hn;have j:Hid (Gs w.heap.size (w.heap.size+1) (w.heap.size+1+1) (w.heap.size+1+1+1)<|w.heap.size+1+1+1+1):=⟨rfl,rfl,rfl,rfl⟩
 generalize w.heap.size+1+1+1+1=g4 at j ⊢;generalize w.heap.size+1+1+1=g3 at j ⊢;generalize w.heap.size+1+1=g2 at j ⊢;generalize w.heap.size+1=s at j ⊢;have HB:Hid _:=fG;clear fG;go_loopg [11] d (λgk i wr=>∃k:Nat,k<=d/\gk=d - k/\i= .int .i64 k/\jc f a w wr w.heap.size d (eP f a k) k);case atStart=>
  exact⟨0,by omega,rfl,rfl,HB.out⟩
 case round=>
  obtain⟨k,Z,rfl,rfl,hR⟩:=hrel;clear UU Ik HB;have G:=ah hR;clear hR;by_cases I:k<d
  .have N:Hid (k<f.length):=(by show k<f.length;rw[O.out];exact I);have Y:wr.cell? ⟨b,C+k,none⟩=some (.int .i64<|f.getD k 0):=(by rw[G.out.be.cell (p:=⟨b,C+k,none⟩) hb];exact HC.out k N.out);have K:=ah<|yT f a HP.out k;have J:Hid (eP f a (k+1)=fA f k (dZ (eP f a k)<|f.getD k 0) (f.getD k 0)):=rfl;have M:Hid (iq f a k=aS (dZ (eP f a k)<|f.getD k 0).st):=rfl;obtain⟨c,hx⟩:=ac<|f.getD k 0;have A:=ah hx;rw[<-hx]at Y J M;clear hx;generalize CJ:eP f a k=x at G K J M;clear CJ;by_cases ad:c=21
   .subst ad;have z:Hid (bV 21=true):=rfl;go_wp2_with fail;refine(akw j.out.s G.out K.out<|by omega).mono ?_;rintro F wy ⟨rfl,al⟩;have r:=ah al;have q:=ah K.out.end;have o:Hid (iq f a k=aS (jd x).st):=M.out;have t:Hid (eP f a (k+1)=jd x):=J.out;clear al G K M Y J;generalize jd x=y at r q o t;go_wp2_with fail;refine(C5 j.out.s r.out q.out).mono ?_;rintro F w1 ⟨rfl,D⟩;have u:=ah D;clear D r;obtain⟨e,E⟩:=ac<|aS y.st;rw[<-E]at o ⊢;clear E;obtain⟨l,g,n⟩:=e;obtain⟨⟨⟨u2,l2⟩,⟨u3,l3⟩,⟨u4,l4⟩,f2,f3,f4⟩,t0,t1,⟨n1,n2,n3,n4,n5,n6⟩,n7,n8,n9,Q,R,S⟩:=u.out.ready j.out O.out Z I (.int .i64 l) (.int .i64 g) (.bool n);by_cases L:0<=g
    .go_wp2;go_roundg (d - (k+1));exact⟨k+1,by omega,rfl,by simp,t.out▸u.out.I4 j.out N.out ⟨l,g,n⟩ o.out.symm _ _ _ _ _ rfl (IB ⟨l,g,n⟩ A.out z.out L) (left_at A.out z.out)⟩;omega
    .go_wp2;go_roundg (d - (k+1));exact⟨k+1,by omega,rfl,by simp,t.out▸u.out.stored j.out N.out ⟨l,g,n⟩ o.out.symm _ _ _ _ rfl (IC ⟨l,g,n⟩ A.out L) (left_at A.out z.out)⟩;omega
   by_cases h1:c=13∨c=14∨c=15∨c=16
   .rcases h1 with h|h|h|h
    all_goals
     have z:Hid (bV c=false):=(by show _=_;rw[h];rfl);have r:=ah G.out;have q:=ah K.out;have o:Hid (iq f a k=aS x.st):=(by have:=M.out;rw[dZ,ai<|by omega]at this;exact this);have t:Hid (eP f a (k+1)=jF x c):=by
      have:=J.out;rw[dZ,ai<|by omega]at this;rw[this];show fA f k x _=_;rw[h];simp[fA]<;>omega
     subst h;clear G K M J;generalize x=y at r q o t;go_wp2_with fail;refine(C5 j.out.s r.out q.out).mono ?_;rintro F w1 ⟨rfl,D⟩;have u:=ah D;clear D r;obtain⟨e,E⟩:=ac<|aS y.st;rw[<-E]at o ⊢;clear E;obtain⟨l,g,n⟩:=e;obtain⟨⟨⟨u2,l2⟩,⟨u3,l3⟩,⟨u4,l4⟩,f2,f3,f4⟩,t0,t1,⟨n1,n2,n3,n4,n5,n6⟩,n7,n8,n9,Q,R,S⟩:=u.out.ready j.out O.out Z I (.int .i64 l) (.int .i64 g) (.bool n);go_wp2_with fail;refine(akq _ j.out.s (u.out.stored j.out N.out ⟨l,g,n⟩ o.out.symm _ _ _ _ rfl (VG A.out z.out) (left_at A.out z.out)) q.out (by omega) (by omega)).mono ?_;rintro F w2 ⟨rfl,B⟩;have H:=ah B;clear B;go_wp2;go_roundg (d - (k+1));exact⟨k+1,by omega,rfl,by simp,t.out▸H.out⟩;omega
   obtain⟨af,ag,aj,ak⟩:¬c=13/\¬c=14/\¬c=15/\¬c=16:=(by omega);clear h1;by_cases AZ:c=17
   .subst AZ;have z:Hid (bV 17=false):=rfl;have r:=ah G.out;have q:=ah K.out;have o:Hid (iq f a k=aS x.st):=(by have:=M.out;rw[dZ,ai<|by omega]at this;exact this);have t:Hid (eP f a (k+1)=ko x):=by
     have:=J.out;rw[dZ,ai<|by omega]at this;rw[this];show fA f k x _=_;simp[fA]<;>omega
    clear G K M J;generalize x=y at r q o t;go_wp2_with fail;refine(C5 j.out.s r.out q.out).mono ?_;rintro F w1 ⟨rfl,D⟩;have u:=ah D;clear D r;obtain⟨e,E⟩:=ac<|aS y.st;rw[<-E]at o ⊢;clear E;obtain⟨l,g,n⟩:=e;obtain⟨⟨⟨u2,l2⟩,⟨u3,l3⟩,⟨u4,l4⟩,f2,f3,f4⟩,t0,t1,⟨n1,n2,n3,n4,n5,n6⟩,n7,n8,n9,Q,R,S⟩:=u.out.ready j.out O.out Z I (.int .i64 l) (.int .i64 g) (.bool n);go_wp2_with fail;refine(ape j.out.s (u.out.stored j.out N.out ⟨l,g,n⟩ o.out.symm _ _ _ _ rfl (VG A.out z.out) (left_at A.out z.out)) q.out<|by omega).mono ?_;rintro F w2 ⟨rfl,B⟩;have H:=ah B;clear B;go_wp2;go_roundg (d - (k+1));exact⟨k+1,by omega,rfl,by simp,t.out▸H.out⟩;omega
   by_cases TV:c=18
   .subst TV;have z:Hid (bV 18=true):=rfl;have r:=ah G.out;have q:=ah K.out;have o:Hid (iq f a k=aS x.st):=(by have:=M.out;rw[dZ,ai<|by omega]at this;exact this);have t:Hid (eP f a (k+1)=jr x 0):=by
     have:=J.out;rw[dZ,ai<|by omega]at this;rw[this];show fA f k x _=_;simp[fA]<;>omega
    clear G K M J;generalize x=y at r q o t;go_wp2_with fail;refine(C5 j.out.s r.out q.out).mono ?_;rintro F w1 ⟨rfl,D⟩;have u:=ah D;clear D r;obtain⟨e,E⟩:=ac<|aS y.st;rw[<-E]at o ⊢;clear E;obtain⟨l,g,n⟩:=e;obtain⟨⟨⟨u2,l2⟩,⟨u3,l3⟩,⟨u4,l4⟩,f2,f3,f4⟩,t0,t1,⟨n1,n2,n3,n4,n5,n6⟩,n7,n8,n9,Q,R,S⟩:=u.out.ready j.out O.out Z I (.int .i64 l) (.int .i64 g) (.bool n);by_cases L:0<=g
    .go_wp2_with fail;refine(DB 0 j.out.s (u.out.I4 j.out N.out ⟨l,g,n⟩ o.out.symm _ _ _ _ _ rfl (IB ⟨l,g,n⟩ A.out z.out L) (left_at A.out z.out)) q.out<|by omega).mono ?_;rintro F w2 ⟨rfl,B⟩;have H:=ah B;clear B;go_wp2;go_roundg (d - (k+1));exact⟨k+1,by omega,rfl,by simp,t.out▸H.out⟩;omega
    .go_wp2_with fail;refine(DB 0 j.out.s (u.out.stored j.out N.out ⟨l,g,n⟩ o.out.symm _ _ _ _ rfl (IC ⟨l,g,n⟩ A.out L) (left_at A.out z.out)) q.out<|by omega).mono ?_;rintro F w2 ⟨rfl,B⟩;have H:=ah B;clear B;go_wp2;go_roundg (d - (k+1));exact⟨k+1,by omega,rfl,by simp,t.out▸H.out⟩;omega
   by_cases aa:c=19
   .subst aa;have z:Hid (bV 19=true):=rfl;have r:=ah G.out;have q:=ah K.out;have o:Hid (iq f a k=aS x.st):=(by have:=M.out;rw[dZ,ai<|by omega]at this;exact this);have t:Hid (eP f a (k+1)=jr x 1):=by
     have:=J.out;rw[dZ,ai<|by omega]at this;rw[this];show fA f k x _=_;simp[fA]<;>omega
    clear G K M J;generalize x=y at r q o t;go_wp2_with fail;refine(C5 j.out.s r.out q.out).mono ?_;rintro F w1 ⟨rfl,D⟩;have u:=ah D;clear D r;obtain⟨e,E⟩:=ac<|aS y.st;rw[<-E]at o ⊢;clear E;obtain⟨l,g,n⟩:=e;obtain⟨⟨⟨u2,l2⟩,⟨u3,l3⟩,⟨u4,l4⟩,f2,f3,f4⟩,t0,t1,⟨n1,n2,n3,n4,n5,n6⟩,n7,n8,n9,Q,R,S⟩:=u.out.ready j.out O.out Z I (.int .i64 l) (.int .i64 g) (.bool n);by_cases L:0<=g
    .go_wp2_with fail;refine(DB 1 j.out.s (u.out.I4 j.out N.out ⟨l,g,n⟩ o.out.symm _ _ _ _ _ rfl (IB ⟨l,g,n⟩ A.out z.out L) (left_at A.out z.out)) q.out<|by omega).mono ?_;rintro F w2 ⟨rfl,B⟩;have H:=ah B;clear B;go_wp2;go_roundg (d - (k+1));exact⟨k+1,by omega,rfl,by simp,t.out▸H.out⟩;omega
    .go_wp2_with fail;refine(DB 1 j.out.s (u.out.stored j.out N.out ⟨l,g,n⟩ o.out.symm _ _ _ _ rfl (IC ⟨l,g,n⟩ A.out L) (left_at A.out z.out)) q.out<|by omega).mono ?_;rintro F w2 ⟨rfl,B⟩;have H:=ah B;clear B;go_wp2;go_roundg (d - (k+1));exact⟨k+1,by omega,rfl,by simp,t.out▸H.out⟩;omega
   by_cases ab:c=20
   .subst ab;have z:Hid (bV 20=true):=rfl;have r:=ah G.out;have q:=ah K.out;have o:Hid (iq f a k=aS x.st):=(by have:=M.out;rw[dZ,ai<|by omega]at this;exact this);have t:Hid (eP f a (k+1)=jr x (sL f k)):=by
     have:=J.out;rw[dZ,ai<|by omega]at this;rw[this];show fA f k x _=_;simp[fA]<;>omega
    clear G K M J;generalize x=y at r q o t;have nj:k<mt f k:=VX f k N.out (by rw[<-A.out];rfl);have aq:mt f k<=d:=(by have:=(um f k<|by have:=N.out;omega).2;rw[O.out]at this;exact this);have X:=am.out;have BQ:Hid (∀W,bI W b C f->Calls prog 115 #[.slice (some ⟨b,C,none⟩) d U,.int .i64 k] W λe w'=>e= .returned (.int .i64<|mt f k)/\w'=W):=λW h=>Mp f k b C U d W O.out (by omega) Z h
    have pX:Hid (∀T V W,(T=C+(k+1)∨mt f k=k+1)->bI W b C f->Calls prog 70 #[.slice (some ⟨b,T,none⟩) (mt f k - (k+1)) V] W λe w'=>e= .returned (.int .i64<|sL f k)/\w'=W):=by
     intro T V W L h;refine TP ((f.take<|mt f k).drop (k+1)) b T V (mt f k - (k+1)) W (by simp;have:=O.out;omega) (by omega) ?_;rcases L with rfl|L
     .exact h.sub _ _ (by have:=O.out;omega)
     .intro i hi;simp at hi;omega
    generalize mt f k=m at nj aq BQ pX;generalize sL f k=bK at t pX;go_wp2_with fail;refine(C5 j.out.s r.out q.out).mono ?_;rintro F w1 ⟨rfl,D⟩;have u:=ah D;clear D r;obtain⟨e,E⟩:=ac<|aS y.st;rw[<-E]at o ⊢;clear E;obtain⟨l,g,n⟩:=e;obtain⟨⟨⟨u2,l2⟩,⟨u3,l3⟩,⟨u4,l4⟩,f2,f3,f4⟩,t0,t1,⟨n1,n2,n3,n4,n5,n6⟩,n7,n8,n9,Q,R,S⟩:=u.out.ready j.out O.out Z I (.int .i64 l) (.int .i64 g) (.bool n);by_cases L:0<=g
    .go_wp2_with fail;have H:Hid (jc f a w (((((w1.alloc (.cells #[.int .i64 l,.int .i64 g,.bool n] 181)).setCell ⟨g2,k,none⟩ (.int .i64 l)).setCell ⟨g3,k,none⟩ (.int .i64 20)).setCell ⟨g4,k,none⟩ (.bool true)).setCell ⟨g3,k,none⟩ (.int .i64 g)) w.heap.size d y<|k+1):=u.out.I4 j.out N.out ⟨l,g,n⟩ o.out.symm _ _ _ _ _ rfl (IB ⟨l,g,n⟩ A.out z.out L) (left_at A.out z.out);refine(BQ.out _ (HC.out.keep H.out.be hb)).mono ?_;rintro F _ ⟨rfl,rfl⟩;go_wp2_with fail
     .refine(pX.out C 0 _ (.inr<|by omega) (HC.out.keep H.out.be hb)).mono ?_;have HE:=ah h;clear h;rintro F _ ⟨rfl,rfl⟩;go_wp2_with fail;refine(DB bK j.out.s H.out q.out<|by omega).mono ?_;rintro F w2 ⟨rfl,B⟩;have nO:=ah B;clear B;go_wp2;rw[<-HE.out];go_roundg (d - (k+1));exact⟨k+1,by omega,rfl,by simp,t.out▸nO.out⟩;omega
     .refine(pX.out (C+(k+1)) (U - (k+1)) _ (.inl rfl) (HC.out.keep H.out.be hb)).mono ?_;rintro F _ ⟨rfl,rfl⟩;go_wp2_with fail;refine(DB bK j.out.s H.out q.out<|by omega).mono ?_;rintro F w2 ⟨rfl,B⟩;have nO:=ah B;clear B;go_wp2;go_roundg (d - (k+1));exact⟨k+1,by omega,rfl,by simp,t.out▸nO.out⟩;omega
    .go_wp2_with fail;have H:Hid (jc f a w ((((w1.alloc (.cells #[.int .i64 l,.int .i64 g,.bool n] 181)).setCell ⟨g2,k,none⟩ (.int .i64 l)).setCell ⟨g3,k,none⟩ (.int .i64 20)).setCell ⟨g4,k,none⟩ (.bool true)) w.heap.size d y<|k+1):=u.out.stored j.out N.out ⟨l,g,n⟩ o.out.symm _ _ _ _ rfl (IC ⟨l,g,n⟩ A.out L) (left_at A.out z.out);refine(BQ.out _ (HC.out.keep H.out.be hb)).mono ?_;rintro F _ ⟨rfl,rfl⟩;go_wp2_with fail
     .refine(pX.out C 0 _ (.inr<|by omega) (HC.out.keep H.out.be hb)).mono ?_;have HE:=ah h;clear h;rintro F _ ⟨rfl,rfl⟩;go_wp2_with fail;refine(DB bK j.out.s H.out q.out<|by omega).mono ?_;rintro F w2 ⟨rfl,B⟩;have nO:=ah B;clear B;go_wp2;rw[<-HE.out];go_roundg (d - (k+1));exact⟨k+1,by omega,rfl,by simp,t.out▸nO.out⟩;omega
     .refine(pX.out (C+(k+1)) (U - (k+1)) _ (.inl rfl) (HC.out.keep H.out.be hb)).mono ?_;rintro F _ ⟨rfl,rfl⟩;go_wp2_with fail;refine(DB bK j.out.s H.out q.out<|by omega).mono ?_;rintro F w2 ⟨rfl,B⟩;have nO:=ah B;clear B;go_wp2;go_roundg (d - (k+1));exact⟨k+1,by omega,rfl,by simp,t.out▸nO.out⟩;omega
   by_cases h9:c=9
   .subst h9;have z:Hid (bV 9=false):=rfl;have r:=ah G.out;have q:=ah K.out;have o:Hid (iq f a k=aS x.st):=(by have:=M.out;rw[dZ,ai<|by omega]at this;exact this);have t:Hid (eP f a (k+1)=x):=by
     have:=J.out;rw[dZ,ai<|by omega]at this;rw[this];show fA f k x _=_;simp[fA]<;>omega
    clear G K M J;generalize x=y at r q o t;go_wp2_with fail;refine(C5 j.out.s r.out q.out).mono ?_;rintro F w1 ⟨rfl,D⟩;have u:=ah D;clear D r;obtain⟨e,E⟩:=ac<|aS y.st;rw[<-E]at o ⊢;clear E;obtain⟨l,g,n⟩:=e;obtain⟨⟨⟨u2,l2⟩,⟨u3,l3⟩,⟨u4,l4⟩,f2,f3,f4⟩,t0,t1,⟨n1,n2,n3,n4,n5,n6⟩,n7,n8,n9,Q,R,S⟩:=u.out.ready j.out O.out Z I (.int .i64 l) (.int .i64 g) (.bool n);go_wp2;go_roundg (d - (k+1));exact⟨k+1,by omega,rfl,by simp,t.out▸u.out.stored j.out N.out ⟨l,g,n⟩ o.out.symm _ _ _ _ rfl (VG A.out z.out) (left_at A.out z.out)⟩;omega
   by_cases ap:c<13
   .have z:Hid (bV c=true):=(by show bV c=true;rw[bV,show(c !=9)=true by simpa using h9,mz ap];rfl);have q9:=ae h9;have aB:(c !=9)=true:=(by simpa using h9);have ar:(c==13)=false:=(by simpa using af);have au:(c==14)=false:=(by simpa using ag);have av:(c==15)=false:=(by simpa using aj);have aw:(c==16)=false:=(by simpa using ak);have ax:=ae AZ;have ay:=ae TV;have az:=ae aa;have aA:=ae ab;have CT:=ae ad;have r:=ah G.out;have q:=ah K.out;have o:Hid (iq f a k=aS x.st):=(by have:=M.out;rw[dZ,ai<|by omega]at this;exact this);have t:Hid (eP f a (k+1)=x):=by
     have:=J.out;rw[dZ,ai<|by omega]at this;rw[this];show fA f k x _=_;rw[fA,ai<|by omega,ai<|by omega,ai<|by omega,ai<|by omega,ai<|by omega]
    clear G K M J;generalize x=y at r q o t;go_wp2_with fail;refine(C5 j.out.s r.out q.out).mono ?_;rintro F w1 ⟨rfl,D⟩;have u:=ah D;clear D r;obtain⟨e,E⟩:=ac<|aS y.st;rw[<-E]at o ⊢;clear E;obtain⟨l,g,n⟩:=e;obtain⟨⟨⟨u2,l2⟩,⟨u3,l3⟩,⟨u4,l4⟩,f2,f3,f4⟩,t0,t1,⟨n1,n2,n3,n4,n5,n6⟩,n7,n8,n9,Q,R,S⟩:=u.out.ready j.out O.out Z I (.int .i64 l) (.int .i64 g) (.bool n);by_cases L:0<=g
    .go_wp2;go_roundg (d - (k+1));exact⟨k+1,by omega,rfl,by simp,t.out▸u.out.I4 j.out N.out ⟨l,g,n⟩ o.out.symm _ _ _ _ _ rfl (IB ⟨l,g,n⟩ A.out z.out L) (left_at A.out z.out)⟩;omega
    .go_wp2;go_roundg (d - (k+1));exact⟨k+1,by omega,rfl,by simp,t.out▸u.out.stored j.out N.out ⟨l,g,n⟩ o.out.symm _ _ _ _ rfl (IC ⟨l,g,n⟩ A.out L) (left_at A.out z.out)⟩;omega
   have an:17<c:=(by omega);have z:Hid (bV c=true):=(by show bV c=true;rw[bV,show(c !=9)=true by simpa using h9,mz an,Bool.or_true];rfl);have q9:=ae h9;have aB:(c !=9)=true:=(by simpa using h9);have ar:(c==13)=false:=(by simpa using af);have au:(c==14)=false:=(by simpa using ag);have av:(c==15)=false:=(by simpa using aj);have aw:(c==16)=false:=(by simpa using ak);have ax:=ae AZ;have ay:=ae TV;have az:=ae aa;have aA:=ae ab;have CT:=ae ad;have r:=ah G.out;have q:=ah K.out;have o:Hid (iq f a k=aS x.st):=(by have:=M.out;rw[dZ,ai<|by omega]at this;exact this);have t:Hid (eP f a (k+1)=x):=by
    have:=J.out;rw[dZ,ai<|by omega]at this;rw[this];show fA f k x _=_;rw[fA,ai<|by omega,ai<|by omega,ai<|by omega,ai<|by omega,ai<|by omega]
   clear G K M J;generalize x=y at r q o t;go_wp2_with fail;refine(C5 j.out.s r.out q.out).mono ?_;rintro F w1 ⟨rfl,D⟩;have u:=ah D;clear D r;obtain⟨e,E⟩:=ac<|aS y.st;rw[<-E]at o ⊢;clear E;obtain⟨l,g,n⟩:=e;obtain⟨⟨⟨u2,l2⟩,⟨u3,l3⟩,⟨u4,l4⟩,f2,f3,f4⟩,t0,t1,⟨n1,n2,n3,n4,n5,n6⟩,n7,n8,n9,Q,R,S⟩:=u.out.ready j.out O.out Z I (.int .i64 l) (.int .i64 g) (.bool n);by_cases L:0<=g
   .go_wp2;go_roundg (d - (k+1));exact⟨k+1,by omega,rfl,by simp,t.out▸u.out.I4 j.out N.out ⟨l,g,n⟩ o.out.symm _ _ _ _ _ rfl (IB ⟨l,g,n⟩ A.out z.out L) (left_at A.out z.out)⟩;omega
   .go_wp2;go_roundg (d - (k+1));exact⟨k+1,by omega,rfl,by simp,t.out▸u.out.stored j.out N.out ⟨l,g,n⟩ o.out.symm _ _ _ _ rfl (IC ⟨l,g,n⟩ A.out L) (left_at A.out z.out)⟩;omega
  .have ao:k=d:=(by omega);subst ao;have h1:=G.out.lv;have h2:=G.out.kd;have h3:=G.out.lf;rw[XT _ _ _ (by simp[bh];exact O.out.symm)]at h1;rw[XT _ _ _ (by simp[iN];exact O.out.symm)]at h2;rw[XT _ _ _ (by simp[aQ];exact O.out.symm)]at h3;rw[<-j.out.g2]at h1;rw[<-j.out.g3]at h2;rw[<-j.out.g4]at h3;have H1:=ah h1;have H2:=ah h2;have H3:=ah h3;clear h1 h2 h3;go_wp2;refine cI (v:= .tuple #[.slice (some ⟨g2,0,none⟩) k k,.slice (some ⟨g3,0,none⟩) k k,.slice (some ⟨g4,0,none⟩) k k]) (by simp[results,results71,go_sem]) rfl ?_;exact⟨g2,g3,g4,rfl,G.out.be,H1.out,H2.out,H3.out⟩
def Tryz.amI:(prog.info? 120).map (λi=>(i.zero,i.size,i.bytes))=some (some (.agg #[.slice none 0 0,.int .i64 0,.int .i64 0,.int .i64 0]),4,48):=by kernel_rfl
def aeR {w:World}{B g n c:Nat}{l:List Int}(h:w.ownsRow B 3 1 (.slice (some ⟨g,0,none⟩) n c) n<|iv l):bI w g 0 l:=λk a=>by
 rw[fZ];exact jk h k a
def M9:∀(r:List Nat),r.Pairwise (·<·)->r≠[]->r.length+r.headD 0<=r.getLastD 0+1
 |[],_,h=>absurd rfl h
 |[a],_,_=>by simp;omega
 |a::b::l,hp,_=>by
  have ih:=M9 (b::l) (Ds.1 hp).2 (by simp);have c:=(Ds.1 hp).1 b (by simp);simp only[eJ,List.headD_cons,List.getLastD_cons]at ih ⊢;omega
def WW {b:List Int}{a:List Bool}{r:List Nat}(c:r∈cZ b a):r.length+r.headD 0<=r.getLastD 0+1:=by
 refine M9 r ?_<|(zY b a).2.1 r c;have d:(cZ b a).flatten.Pairwise (·<·):=by rw[(zY b a).1];exact ZG _ List.pairwise_lt_range
 exact d.sublist<|ZT c
def WY(a:List Int)(b:List Bool):l9 a.length (cZ a b):=⟨(zY a b).2.1,λ_ d _ c=>(Qi d c).1,afU a b⟩
def uz(b e:List Int)(d:List Bool)(a:Int)(c:List<|List Nat)(n k:Nat):List Sq:=((c.take k).filter (ia b)).map λr=>sK b e d a<|cE b c n r
def Xq(c e:List Int)(d:List Bool)(a:Int)(b:List<|List Nat)(n k:Nat)(f:k<b.length):uz c e d a b n (k+1)=if ia c (b.getD k [])=true then uz c e d a b n k++[sK c e d a<|cE c b n<|b.getD k []]else uz c e d a b n k:=by
 unfold uz;have g:b.getD k []=b[k]:=by simp[aO,aM f]
 rw[pG f,rW,g,rX,GM];cases ia c b[k]<;>simp
def agd(b e:List Int)(d:List Bool)(a:Int)(c:List<|List Nat)(n k:Nat):(uz b e d a c n k).length<=k:=by
 unfold uz;rw[ja];have:=Ay (ia b)<|c.take k;rw[r9]at this;omega
def Wf:Option Nat->Int
 |none=> -1
 |some j=>(j:Int)
def an2(a:List<|List Nat)(m k:Nat):uq a m (k+1)=if(a.getD k []).headD 0=m then some k else uq a m k:=rfl
def VI {a b:List Nat}(h:b≠[]):(a++b).getLastD 0=b.getLastD 0:=by
 rw[r8,NF,GP h,r8,GP h];rfl
def apZ {w:World}{B k n:Nat}{i:List Value}{b:List (List Nat)}{j:Nat}(h:w.ownsRow B 31 1 (.slice (some ⟨k,0,none⟩) b.length n) b.length i)(g:w.ownsRow B 3 1 (i.getD j .nilFunc) (b.getD j []).length (iv<|nl<|b.getD j []))(o:j<b.length)(d:b.getD j []≠[]):
  ∃c e,w.cell? ⟨k,j,none⟩=some (.slice (some ⟨c,0,none⟩) (b.getD j []).length e)/\w.cell? ⟨c,0,none⟩=some (.int .i64 ((b.getD j []).headD 0:Nat))/\0<(b.getD j []).length/\w.ownsRow B 3 1 (.slice (some ⟨c,0,none⟩) (b.getD j []).length e) (b.getD j []).length (iv<|nl<|b.getD j []):=by
 have f:=jK.2 d;obtain⟨c,e,m,_,_,_⟩:=gI g f;rw[m]at g;refine⟨c,e,?_,?_,f,g⟩
 .rw[di h j<|by have:=h.1;omega,<-m,aO,aM (show j<i.length by have:=h.1;omega)];rfl
 .have:=jk g 0 (by rw[gW];exact f);rw[oh _ _ f]at this;rw[this];cases hh:b.getD j []with
  |nil=>exact absurd hh d
  |cons a l=>rfl
def aqH(m o:List Int)(s:List Bool)(d:Int)(n S oc cc gl ol cl gf P cf:Nat)(w:World)(hc:m.length=n)(hl:o.length=n)(hf:s.length=n)(hn:n<=100000)(aH:∀l∈o,0<=l/\l<=1000)(hp:0<=d/\d<=1000)
  (aB:bI w S oc m) (Bc:bI w gl ol o) (ad:Aj w gf P s) (kY:S<w.heap.size) (af:gl<w.heap.size) (uX:gf<w.heap.size):
  Calls prog 72 #[.slice (some ⟨S,oc,none⟩) n cc,.slice (some ⟨gl,ol,none⟩) n cl,.slice (some ⟨gf,P,none⟩) n cf,.int .i64 d] w λev w'=>∃(v:Value)(F:List Value),ev= .returned v/\Below w.heap.size w w'/\w'.ownsRow w.heap.size 120 4 v (ij m o s d).length (vJ F<|ij m o s d)/\F.length=(ij m o s d).length/\
   ∀i,i<(ij m o s d).length->w'.ownsRow w.heap.size 3 1 (F.getD i .nilFunc) ((ij m o s d).getD i ⟨[],0,0,0⟩).at'.length (iv<|nl ((ij m o s d).getD i ⟨[],0,0,0⟩).at'):=by
 obtain⟨iI,fP,fQ,fR,fS⟩:=gu Tryz.rL;obtain⟨iQ,aE,aq,ar,av⟩:=gu Tryz.amI;have kN:=ah<|afV o s n gl ol cl gf P cf w hl hf hn Bc ad af uX;have Nr:Hid (ij m o s d=uz m o s d (cZ o s) n (cZ o s).length):=by
  show _=_;unfold ij uz;rw[NQ,hc]
 have JI:Hid (l9 n<|cZ o s):=by have:=WY o s;rw[hl]at this;exact this
 have YJ:Hid (∀r∈cZ o s,r.length+r.headD 0<=r.getLastD 0+1):=λr hr=>WW hr
 have uJ:Hid ((cZ o s).length<=n):=by
  have T:=congrArg List.length (zY o s).1;have h2:=Ay (lq s)<|List.range o.length;rw[NH]at h2;have h3:∀l:List<|List Nat,(∀r∈l,r≠[])->l.length<=l.flatten.length:=by
   intro l
   induction l with
   |nil=>intro _;simp
   |cons a l ih=>
    intro aG;have:=ih (λr hr=>aG r<|by simp[hr]);have:=jK.2 (aG a<|by simp);simp only[eJ,Ax,bH];omega
  have h4:=h3 _ (zY o s).2.1;show _<=_;omega
 have G:Hid (m.length=n/\o.length=n/\s.length=n):=⟨hc,hl,hf⟩
 have p5:=ah aH;have HP:=ah hp;have Aq:=ah aB;have Dh:=ah Bc;have BM:=ah ad;have C:Hid (S<w.heap.size/\gl<w.heap.size/\gf<w.heap.size):=⟨kY,af,uX⟩
 rw[Nr.out];generalize cZ o s=c at*;clear hc hl hf aH hp aB Bc ad kY af uX;go_enter func72,ntmps72;go_wp2_with fail;refine kN.out.mono ?_;rintro ev w1 ⟨V,vs,rfl,ac,ak,x⟩;obtain⟨ra,rc,rfl⟩:=eH ak;obtain⟨V,ap⟩:∃V:Value,V= .slice ra c.length rc:=⟨_,rfl⟩
 have Zk:Hid (nR w w1 w.heap.size (.slice ra c.length rc) (.slice none 0 0) (.slice none 0 0) vs [] c [] []):=
  ⟨ac,ac.size,ak,x,⟨rfl,.inl ⟨rfl,rfl⟩⟩,rfl,λi h=>by simp at h,⟨rfl,.inl ⟨rfl,rfl⟩⟩,λ_ _ k _ hk=>(by cases hk),λ_ _ k _ hk=>(by cases hk)⟩
 have Rw:=ah ap;clear ac ak x kN ap;go_wp2;go_loopg [10,11] c.length (λgh ov gw W=>∃(k:Nat)(F:List Value)(y:List Sq),k<=c.length/\gh=c.length - k/\gw= .int .i64 k/\nR w W w.heap.size V ov (.slice none 0 0) vs F c y []/\y=uz m o s d c n k);exact⟨0,[],[],by omega,rfl,rfl,by rw[Rw.out];exact Zk.out,rfl⟩;clear Zk;obtain⟨k,F,y,hk,rfl,rfl,K,KX⟩:=hrel;obtain⟨Ef,Bn,rfl⟩:=eH K.out;by_cases H:k<c.length
 .have Q3:=ah H;have zf:=ah KX;have Zr:Hid (y.length<=n):=by
   have:=agd m o s d c n k;have h2:=uJ.out;show _<=_;rw[KX];omega
  have LL:c.getD k []∈c:=dG H;have Q:=JI.out.ne _ LL;have LK:=JI.out.lt _ LL;have U7:=YJ.out _ LL;obtain⟨g,cg,al,aV,uY,_⟩:=gI (K.old k H)<|jK.2 Q;have x:=K.old k H;rw[al]at x;obtain⟨g',aT,ab,aP,a8,_⟩:=gI K.CW (by omega);have LQ:=K.CW;rw[ab]at LQ;have cR:wr.cell? ⟨g',k,none⟩=some (.slice (some ⟨g,0,none⟩) (c.getD k []).length cg):=by
   rw[di LQ k<|by have:=LQ.1;omega,<-al,aO,aM (show k<vs.length by have:=LQ.1;omega)];rfl
  have cF:wr.cell? ⟨g,0,none⟩=some (.int .i64 ((c.getD k []).headD 0:Nat)):=by
   have:=jk x 0 (by rw[gW];exact jK.2 Q);rw[oh _ _ (jK.2 Q)]at this;rw[this];cases hh:c.getD k []with
   |nil=>exact absurd hh Q
   |cons a l=>rfl
  have ay:(c.getD k []).headD 0<n:=LK _ (head_mem Q);have cC:=(Aq.out.stay K.below C.out.1) ((c.getD k []).headD 0)<|by rw[G.out.1];exact ay
  have R:=ah K;have qO:Hid (Calls prog 122 #[.slice (some ⟨S,oc,none⟩) n cc,.int .i64 ((c.getD k []).headD 0:Nat)] wr λe w'=>e= .returned (.int .i64<|opener m<|(c.getD k []).headD 0)/\w'=wr):=aon m _ S oc cc n wr G.out.1 (by omega) (by omega) (Aq.out.stay K.below C.out.1);have B:ia m (c.getD k [])= !(m.getD ((c.getD k []).headD 0) 0==21&&decide (0<=opener m ((c.getD k []).headD 0))):=rfl;have HR:Hid (∃r,r=c.getD k []):=⟨_,rfl⟩
  obtain⟨r,hr⟩:=HR.out;rw[<-hr]at cR cF cC ay Q LK U7 x B qO;have a4:Hid (r∈c):=by rw[hr];exact LL
  have HR:=ah hr.symm;have Y7:=ah x;have be:k<c.length:=H;have bg:=uJ.out;rw[Rw.out]at ab;obtain⟨a1,a2⟩:ra=some ⟨g',0,none⟩/\rc=aT:=by simpa using ab
  subst a1;subst a2;have ba:r.length<=n:=by have:=LK _ (zQ Q);omega
  have GA:Hid (r≠[]/\(∀p∈r,p<n)/\r.length+r.headD 0<=r.getLastD 0+1):=⟨Q,LK,U7⟩
  have CF:0<r.length:=jK.2 Q;have a':((0:Int)<(r.length:Int)):=by omega
  clear K LQ al x LL Q LK U7 hr ab KX aV aP;generalize a7:r.headD 0=fi at*;generalize m.getD fi 0=c0 at*;generalize opener m fi=op at*;cases hbb:ia m r
  .have Nj:Hid (uz m o s d c n (k+1)=y):=by
    show _=_;rw[Xq _ _ _ _ _ _ _ Q3.out,HR.out,hbb,ai<|by decide,zf.out]
   rw[hbb]at B;obtain⟨T,h2⟩:c0=21/\0<=op:=(by simpa using B.symm);subst T;clear B hbb;go_wp2_with fail;refine qO.out.mono ?_;rintro ev wx ⟨rfl,hx⟩;have t:=hx.symm;subst t;go_wp2;go_roundg (c.length - (k+1));exact⟨k+1,F,y,by omega,rfl,by simp,R.out,Nj.out.symm⟩;omega
  .have Yt:Hid (ia m (c.getD k [])=true):=(by rw[HR.out];exact hbb);rw[hbb]at B;have Pj:¬(c0=21/\0<=op):=by
    intro h;rw[h.1,mz h.2]at B;cases B
   clear B hbb
   go_upto_if 40 with fail
   go_cut [] (λwc=>wc=wr)
   case first=>
    by_cases ax:c0=21
    .subst ax;have bf:op<0:=(by omega);go_wp2_with fail;refine qO.out.mono ?_;rintro ev wx ⟨rfl,hx⟩;have t:=hx.symm;subst t;go_wp2_with fail;go_meet;case rel=>rfl
    .have CT:=ae ax;go_wp2_with fail;go_meet;case rel=>rfl
   case rest=>
    have t:=hcut.symm;subst t;clear Pj qO cC;have Z:=R.out.base;have D:=R.out.cur';go_wp2_with(at_builtin;refine agV _ rfl _ _ 31 rfl w.heap.size 3 iI (.int .i64 0) 8 underlying31 fP fQ fR fS rfl (by decide) _ _ _ rfl D g r.length cg (iv<|nl r) rfl (by rw[nZ,gW]) (λj u U=>by rw[di Y7.out j<|by have T:=r7.1 U;obtain⟨T,_⟩:=T;rw[nZ,gW]at T;omega];exact U) (λu hu=>by simp only[iv,jM]at hu;obtain⟨q,_,rfl⟩:=hu;rfl) (by simp) (by omega) Z ?_);intro v3 w3 an aD aI;have Gy:Hid (nR w w3 w.heap.size V (.slice Ef y.length Bn) v3 vs F c y r):=by
     have:=R.out.app (r:=r) (by simpa using an) aD aI;exact this
    clear an aD aI D Z R cR cF Y7;go_wp2;go_loopg [14] n (λgh cv W=>∃(f:Nat)(b:List Nat),f=gh/\nR w W w.heap.size V (.slice Ef y.length Bn) cv vs F c y b/\(b≠[]/\(∀p∈b,p<n)/\b.length<=b.getLastD 0+1)/\n<=f+b.getLastD 0/\cE m c n r=cE m c f b);exact⟨n,r,rfl,Gy.out,⟨GA.out.1,GA.out.2.1,by have:=GA.out.2.2;omega⟩,by omega,rfl⟩;clear Gy;obtain⟨f,b,hf,DR,D,aY,az⟩:=hrel;subst hf;have QN:=ah az;have EF:Hid (b≠[]/\(∀p∈b,p<n)/\b.length<=n):=⟨D.1,D.2.1,by have:=D.2.1 _ (zQ D.1);have:=D.2.2;omega⟩
    have Pc:b.getLastD 0<n:=D.2.1 _ (zQ D.1);have aK:=ah D.2.2;obtain⟨L,hL⟩:∃L,b.length=L+1:=⟨b.length - 1,by have:=jK.2 D.1;omega⟩
    obtain⟨Y,cx,aX,a6,ao,_⟩:=gI DR.cur' (by omega);subst aX;have A:=ah DR;have cX:wr.cell? ⟨Y,L,none⟩=some (.int .i64 (b.getLastD 0:Nat)):=by
     rw[jk DR.cur' L<|by rw[gW];omega,oh _ _ (by omega),r8,GN,hL,lJ,aO]
    have cY:=(Aq.out.stay DR.below C.out.1) (b.getLastD 0)<|by rw[G.out.1];exact Pc
    have BQ:Hid (Calls prog 115 #[.slice (some ⟨S,oc,none⟩) n cc,.int .i64 (b.getLastD 0:Nat)] wr λe w2=>e= .returned (.int .i64<|mt m<|b.getLastD 0)/\w2=wr):=Mp m _ S oc cc n wr G.out.1 (by omega) (by omega) (Aq.out.stay DR.below C.out.1);have Lu:ig m c (b.getLastD 0)=if aU (m.getD (b.getLastD 0) 0)=true then uq c (mt m<|b.getLastD 0) c.length else none:=rfl
    have UT:aU (m.getD (b.getLastD 0) 0)=true->b.getLastD 0<mt m (b.getLastD 0):=λh=>VX m _ (by rw[G.out.1];exact Pc) h
    have UX:mt m (b.getLastD 0)<=n:=(by have:=(um m (b.getLastD 0)<|by rw[G.out.1];omega).2;rw[G.out.1]at this;exact this);have Zp:Hid (∀j,j<c.length->∃gj cj,wr.cell? ⟨g',j,none⟩=some (.slice (some ⟨gj,0,none⟩) (c.getD j []).length cj)/\wr.cell? ⟨gj,0,none⟩=some (.int .i64 ((c.getD j []).headD 0:Nat))/\0<(c.getD j []).length/\wr.ownsRow w.heap.size 3 1 (.slice (some ⟨gj,0,none⟩) (c.getD j []).length cj) (c.getD j []).length (iv<|nl<|c.getD j [])):=λj U=>by
     have:=DR.CW;rw[Rw.out]at this;exact apZ this (DR.old j U) U<|JI.out.ne _ (dG U)
    have bd:L<=100000:=(by have:=EF.out.2.2;omega);have bb:c.length<=100000:=(by omega);rw[hL];have Di:=ah hL;rw[hL]at A;clear DR D az hL;generalize ag:b.getLastD 0=la at*;generalize m.getD la 0=aw at*;generalize mt m la=z at*;go_wp2_with fail;refine(CK aw _).mono ?_;rintro ev wx ⟨rfl,hx⟩;have t:=hx.symm;subst t;go_wp2_with fail;refine BQ.out.mono ?_;rintro ev wx ⟨rfl,hx⟩;have t:=hx.symm;subst t;clear BQ;cases bJ:aU aw
    .have Re:Hid (ig m c (b.getLastD 0)=none):=(by show _=_;rw[ag,Lu,bJ,ai<|by decide]);clear Lu UT bJ;go_wp2;go_loopg [18,19] 0 (λgh nv kv W=>gh=0/\nv= .int .i64 (-1)/\kv= .int .i64 0/\W=wr);exact⟨rfl,rfl,rfl,rfl⟩;obtain⟨rfl,rfl,rfl,hW⟩:=hrel;have t:=hW.symm;subst t;have Jk:Hid (cE m c n r=b):=by
      show _=_;rw[QN.out];obtain⟨J,E⟩:∃J,f=J+1:=⟨f - 1,by omega⟩
      rw[E,cE,Re.out]
     have QW:Hid (uz m o s d c n (k+1)=y++[sK m o s d b]):=by
      show _=_;rw[Xq _ _ _ _ _ _ _ Q3.out,aj Yt.out,HR.out,Jk.out,<-zf.out]
     go_wp2_with fail;refine(Gv m o s d b n (L+1) S oc cc gl ol cl gf P cf Y 0 cx wr G.out.1 G.out.2.1 G.out.2.2 hn Di.out (by omega) (by have:=EF.out.2.2;have:=Di.out;omega) EF.out.2.1 p5.out HP.out (Aq.out.stay A.out.below C.out.1) (Dh.out.stay A.out.below C.out.2.1) (BM.out.stay A.out.below C.out.2.2) (by have:=A.out.cur';rw[Di.out]at this;exact aeR this) (kQ C.out.1 A.out.base) (kQ C.out.2.1 A.out.base) (kQ C.out.2.2 A.out.base) ao).mono ?_;rintro ev w4 ⟨rfl,M⟩;have KW:=A.out.call M;have RF:Hid ((sK m o s d b).at'=b):=rfl;generalize sK m o s d b=sq at*;obtain⟨am,I1,I3,IZ⟩:=sq;have BW:Hid (nR w (w4.alloc (.cells #[.slice (some ⟨Y,0,none⟩) (L+1) cx,.int .i64 I1,.int .i64 I3,.int .i64 IZ] 120)) w.heap.size V (.slice Ef y.length Bn) (.slice (some ⟨Y,0,none⟩) (L+1) cx) vs F c y b):=KW.call<|(aA _ _).alloc (au _) _;have yw:=BW.out.out;have Uo:=BW.out.base;have aS:y.length<=100000:=(by have:=Zr.out;omega);clear M KW;simp only;go_wp2_with(at_builtin;refine agZ _ rfl _ _ 117 rfl w.heap.size 120 iQ (.agg #[.slice none 0 0,.int .i64 0,.int .i64 0,.int .i64 0]) 48 underlying117 aE aq ar av rfl (by decide) _ _ _ rfl yw _ _ _ _ _ _ rfl (by simp) rfl rfl rfl rfl (by omega) Uo ?_);intro v5 w5 cK bU;have Ro:Hid (nR w w5 w.heap.size V v5 (.slice none 0 0) vs (F++[.slice (some ⟨Y,0,none⟩) (L+1) cx]) c (y++[⟨am,I1,I3,IZ⟩]) []):=BW.out.push RF.out cK bU;clear cK bU yw;go_wp2;go_roundg (c.length - (k+1));exact⟨k+1,_,_,by omega,rfl,by simp,Ro.out,QW.out.symm⟩;omega
    .have a0:=UT bJ;rw[bJ,aj rfl]at Lu;have YZ:Hid (ig m c (b.getLastD 0)=uq c z c.length):=(by show _=_;rw[ag];exact Lu);have aJ:Hid (n<=f+la/\b.getLastD 0=la/\la<z):=⟨aY,ag,a0⟩
     clear Lu UT bJ;go_wp2;go_loopg [18,19] c.length (λgh nv kv W=>∃j:Nat,j<=c.length/\gh=c.length - j/\nv= .int .i64 (Wf<|uq c z j)/\kv= .int .i64 j/\W=wr);exact⟨0,by omega,rfl,rfl,rfl,rfl⟩;obtain⟨j,U,rfl,rfl,rfl,hW⟩:=hrel;have t:=hW.symm;subst t;by_cases ve:j<c.length
     .obtain⟨gj,cj,d0,d1,aZ,_⟩:=Zp.out j ve;have a5:((0:Int)<((c.getD j []).length:Int)):=(by omega);have I:=an2 c z j;generalize(c.getD j []).headD 0=hd at*;generalize(c.getD j []).length=lj at*;by_cases Le:hd=z
      .rw[aj Le]at I;have HS:=ah I;have a3:((hd:Int)==(z:Int))=true:=(by simp[Le]);clear I Le;go_wp2;go_roundg (c.length - (j+1));exact⟨j+1,by omega,rfl,by rw[HS.out];rfl,by simp,rfl⟩;omega
      .rw[ai Le]at I;have HS:=ah I;have a3:((hd:Int)==(z:Int))=false:=(by simp;omega);clear I Le;go_wp2;go_roundg (c.length - (j+1));exact⟨j+1,by omega,rfl,by rw[HS.out],by simp,rfl⟩;omega
     .obtain rfl:j=c.length:=(by omega);clear ve;cases hnk:uq c z c.length with
      |none=>
       have Re:Hid (ig m c (b.getLastD 0)=none):=(by show _=_;rw[YZ.out,hnk]);clear hnk;rw[show Wf none= -1 from rfl];have Jk:Hid (cE m c n r=b):=by
        show _=_;rw[QN.out];obtain⟨J,E⟩:∃J,f=J+1:=⟨f - 1,by omega⟩
        rw[E,cE,Re.out]
       have QW:Hid (uz m o s d c n (k+1)=y++[sK m o s d b]):=by
        show _=_;rw[Xq _ _ _ _ _ _ _ Q3.out,aj Yt.out,HR.out,Jk.out,<-zf.out]
       go_wp2_with fail;refine(Gv m o s d b n (L+1) S oc cc gl ol cl gf P cf Y 0 cx wr G.out.1 G.out.2.1 G.out.2.2 hn Di.out (by omega) (by have:=EF.out.2.2;have:=Di.out;omega) EF.out.2.1 p5.out HP.out (Aq.out.stay A.out.below C.out.1) (Dh.out.stay A.out.below C.out.2.1) (BM.out.stay A.out.below C.out.2.2) (by have:=A.out.cur';rw[Di.out]at this;exact aeR this) (kQ C.out.1 A.out.base) (kQ C.out.2.1 A.out.base) (kQ C.out.2.2 A.out.base) ao).mono ?_;rintro ev w4 ⟨rfl,M⟩;have KW:=A.out.call M;have RF:Hid ((sK m o s d b).at'=b):=rfl;generalize sK m o s d b=sq at*;obtain⟨am,I1,I3,IZ⟩:=sq;have BW:Hid (nR w (w4.alloc (.cells #[.slice (some ⟨Y,0,none⟩) (L+1) cx,.int .i64 I1,.int .i64 I3,.int .i64 IZ] 120)) w.heap.size V (.slice Ef y.length Bn) (.slice (some ⟨Y,0,none⟩) (L+1) cx) vs F c y b):=KW.call<|(aA _ _).alloc (au _) _;have yw:=BW.out.out;have Uo:=BW.out.base;have aS:y.length<=100000:=(by have:=Zr.out;omega);clear M KW;simp only;go_wp2_with(at_builtin;refine agZ _ rfl _ _ 117 rfl w.heap.size 120 iQ (.agg #[.slice none 0 0,.int .i64 0,.int .i64 0,.int .i64 0]) 48 underlying117 aE aq ar av rfl (by decide) _ _ _ rfl yw _ _ _ _ _ _ rfl (by simp) rfl rfl rfl rfl (by omega) Uo ?_);intro v5 w5 cK bU;have Ro:Hid (nR w w5 w.heap.size V v5 (.slice none 0 0) vs (F++[.slice (some ⟨Y,0,none⟩) (L+1) cx]) c (y++[⟨am,I1,I3,IZ⟩]) []):=BW.out.push RF.out cK bU;clear cK bU yw;go_wp2;go_roundg (c.length - (k+1));exact⟨k+1,_,_,by omega,rfl,by simp,Ro.out,QW.out.symm⟩;omega
      |some j2=>
       obtain⟨aF,aC⟩:=FX _ _ hnk;obtain⟨gj,cj,d0,d1,aZ,O⟩:=Zp.out j2 aF;have aa:c.getD j2 []∈c:=dG aF;have U0:=JI.out.ne _ aa;have N:=JI.out.lt _ aa;have Ie:=YJ.out _ aa;have aQ:=N _ (zQ U0);obtain⟨J,E⟩:∃J,f=J+1:=⟨f - 1,by omega⟩
       have aN:Hid (cE m c n r=cE m c J (b++c.getD j2 [])):=by
        show _=_;rw[QN.out,E,cE,YZ.out,hnk]
       have eU:=ah E;rw[show Wf (some j2)=(j2:Int)from rfl];generalize c.getD j2 []=X at*;have aL:=ah O;have gD:Hid (X≠[]/\(∀p∈X,p<n)/\X.length+X.headD 0<=X.getLastD 0+1/\X.headD 0=z):=⟨U0,N,Ie,aC⟩
       have D:=A.out.cur';have Z:=A.out.base;have aW:b.length<=1000000:=(by have:=EF.out.2.2;omega);have aR:X.length<=1000000:=(by omega);have a9:((0:Int)<=(j2:Int)):=(by omega);clear hnk O aa U0 N Ie aQ aC E d1;go_wp2_with(at_builtin;refine agV _ rfl _ _ 31 rfl w.heap.size 3 iI (.int .i64 0) 8 underlying31 fP fQ fR fS rfl (by decide) _ _ _ rfl D gj X.length cj (iv<|nl X) rfl (by rw[nZ,gW]) (λj u U=>by rw[di aL.out j<|by have T:=r7.1 U;obtain⟨T,_⟩:=T;rw[nZ,gW]at T;omega];exact U) (λu hu=>by simp only[iv,jM]at hu;obtain⟨q,_,rfl⟩:=hu;rfl) aW aR Z ?_);intro v6 w6 nk iL LW;have Rp:=ah<|A.out.app nk iL LW;clear nk iL LW D;go_wp2;go_roundg J;case measure=>have:=eU.out;omega
       case rel=>
        obtain⟨e1,e2,e3,e4⟩:=gD.out;obtain⟨e5,e6,e7⟩:=aJ.out;have e8:=eU.out;have e9:=aK.out;have bc:=jK.2 e1;refine⟨J,b++X,rfl,Rp.out,⟨by simp[e1],?_,?_⟩,?_,aN.out⟩
        .intro p hp;rcases jL.1 hp with hp|hp
         .exact EF.out.2.1 p hp
         .exact e2 p hp
        .rw[VI e1,bH];omega
        .rw[VI e1];omega
 .obtain rfl:k=c.length:=by omega
  have R:=ah K;have zf:=ah KX;clear K KX H;go_wp2;refine cI (v:= .slice Ef y.length Bn) (by simp[results,results72,go_sem]) rfl ⟨_,F,rfl,R.out.below,?_,?_,?_⟩
  .rw[<-zf.out];exact R.out.out
  .rw[<-zf.out];exact R.out.E9
  .rw[<-zf.out];exact R.out.done
