import Derived.Test.YtkbinfhclaafhaaGreatDoorP07
namespace Go.Proofs.YtkbinfhclaafhaaGreatDoor
open Go.RowKit
open Go.Proofs.Tryz
set_option maxRecDepth 100000
set_option maxHeartbeats 32000000
set_option linter.all false
structure bf(w:World)(B sb gc n cc:Nat)(pv rv bv:Value)(ax aq ay:Int)(t:List Int):Prop where
 cell:w.heap[sb]? =some (.cells #[pv,rv,.slice (some ⟨gc,0,none⟩) n cc,bv,.int .i64 ax,.int .i64 aq,.int .i64 ay] 220 (0,0))
 row:w.ownsRow B 108 1 (.slice (some ⟨gc,0,none⟩) n cc) n<|iv t
section
variable{w w':World}{B sb gc n cc:Nat}{pv rv bv:Value}{ax aq ay:Int}{t:List Int}
def bf.len(h:bf w B sb gc n cc pv rv bv ax aq ay t):t.length=n:=by have:=h.row.1;simpa [iv]using this
def bf.ne(h:bf w B sb gc n cc pv rv bv ax aq ay t):sb≠gc:=by
 rcases h.row.2 with⟨e,_⟩|⟨g,i,a,e,_,f,_⟩
 .cases e
 .injection e with b
  injection b with c
  injection c with d
  subst d;intro e;have:=h.cell;rw[e,f]at this;simp at this
def bf.at(h:bf w B sb gc n cc pv rv bv ax aq ay t)(k:Nat)(a:k<n):w.cell? ⟨gc,k,none⟩=some (.int .i64<|t.getD k 0):=jk h.row k<|by rw[h.len];exact a
def bf.frozen(h:bf w B sb gc n cc pv rv bv ax aq ay t)(k:Nat):w.frozen? ⟨gc,k,none⟩=false:=Dx h.row k
def bf.f2(h:bf w B sb gc n cc pv rv bv ax aq ay t):w.cell? ⟨sb,2,none⟩=some (.slice (some ⟨gc,0,none⟩) n cc):=az h.cell 2
def bf.f4(h:bf w B sb gc n cc pv rv bv ax aq ay t):w.cell? ⟨sb,4,none⟩=some (.int .i64 ax):=az h.cell 4
def bf.f5(h:bf w B sb gc n cc pv rv bv ax aq ay t):w.cell? ⟨sb,5,none⟩=some (.int .i64 aq):=az h.cell 5
def bf.f6(h:bf w B sb gc n cc pv rv bv ax aq ay t):w.cell? ⟨sb,6,none⟩=some (.int .i64 ay):=az h.cell 6
def bf.set(h:bf w B sb gc n cc pv rv bv ax aq ay t)(k:Nat)(a:Int):bf (w.setCell ⟨gc,k,none⟩ (.int .i64 a)) B sb gc n cc pv rv bv ax aq ay (t.set k a):=
 ⟨by rw[iF _ _ _ _ h.ne];exact h.cell,by rw[<-Iz];exact(Ck h.row k (.int .i64 a)).1⟩
def bf.grown(h:bf w B sb gc n cc pv rv bv ax aq ay t)(k:Nat)(a:Int):w.grownBy (w.setCell ⟨gc,k,none⟩ (.int .i64 a)) (some gc):=(Ck h.row k (.int .i64 a)).2
def bf.below(h:bf w B sb gc n cc pv rv bv ax aq ay t)(a:Below w.heap.size w w'):bf w' B sb gc n cc pv rv bv ax aq ay t:=⟨bq a h.cell,fu h.row a⟩
end
def gG(a b:Int)(t:List Int)(j:Int):Int:=if j<0 then a else if(t.length:Int)<=j then b else t.getD j.toNat 0
def SR(w:World)(B g m n l:Nat)(p q bv:Value)(i a b:Int)(t:List Int)(h:bf w B g m n l p q bv i a b t)(j:Int):
  Calls prog 207 #[.pointer<|some ⟨g,0,none⟩,.int .i64 j] w λe r=>e= .returned (.int .i64<|gG a b t j)/\r=w:=by
 have s:=h.f2;have u:=h.f5;have v:=h.f6;unfold gG;rw[h.len];by_cases d:j<0
 .rw[aj d];clear h;go_enter func207,ntmps207;go_wp2;go_ret;exact⟨rfl,rfl⟩
 .rw[ai d];by_cases f:(n:Int)<=j
  .rw[aj f];clear h;go_enter func207,ntmps207;go_wp2;go_ret;exact⟨rfl,rfl⟩
  .rw[ai f];obtain⟨k,rfl⟩:∃k:Nat,j=k:=⟨j.toNat,by omega⟩
   have o:k<n:=(by omega);have x:=h.at k o;rw[Cg];clear h;generalize t.getD k 0=c at*;go_enter func207,ntmps207;go_wp2;go_ret;exact⟨rfl,rfl⟩
def f2(s c:Int)(_:List Int):Int:=if c=3/\s=2 then 6 else c
def g2(s c:Int)(_:List Int):Int:=if c=0∨c=1∨c=2 then c else s
def Ug:∀(t:List Int)(s:Int),pass f2 g2 s t=lO 2 6 s t
 |[],_=>rfl
 |c::r,s=>by
  rw[pass,lO,Ug r,f2,g2];by_cases h:c=0∨c=1∨c=2
  .rw[aj h,ai<|by omega,ai<|by omega]
  .rw[ai h]
def f7(s c:Int)(_:List Int):Int:=if c=3/\s=0 then 0 else c
def g7(s c:Int)(_:List Int):Int:=if c=0∨c=1 then c else s
def Ux:∀(t:List Int)(s:Int),pass f7 g7 s t=Mt s t
 |[],_=>rfl
 |c::r,s=>by
  rw[pass,Mt,Ux r,f7,g7];by_cases h:c=0∨c=1
  .rw[aj h,aj h,ai<|by omega]
  .rw[ai h,ai h]
def uS(e:Int)(_:Unit)(c:Int)(_:List Int):Int:=Ea e c
def afa(e:Int):∀t:List Int,pass (uS e) g3 () t=t.map (Ea e)
 |[]=>rfl
 |c::r=>by rw[pass,mP,afa e r];rfl
def asb(w:World)(B q l n z:Nat)(C D bv:Value)(x u y:Int)(t:List Int)(h:bf w B q l n z C D bv x u y t)(R:n<=1000):
  Calls prog 146 #[.pointer<|some ⟨q,0,none⟩] w λe M=>e= .returned (.tuple #[])/\bf M B q l n z C D bv x u y (pass f3 g3 () t)/\w.grownBy M (some l):=by
 have L:=ah h;have J:=ah h.len;have K:=h.f2;have N:=h.f5;clear h;go_enter func146,ntmps146;go_wp2;clear K N;go_loopg [9] n (λgk iv wr=>∃(k:Nat)(s:Unit)(j:List Int),k<=n/\gk=n - k/\iv= .int .i64 k/\bf wr B q l n z C D bv x u y j/\w.grownBy wr (some l)/\aZ f3 g3 () t k s j);exact⟨0,(),t,by omega,rfl,rfl,L.out,jO _ _,aZ.start _ _ _ _⟩;clear L;obtain⟨k,s,j,Q,rfl,rfl,b,A,m⟩:=hrel;by_cases i:k<n
 .have d:k<t.length:=by rw[J.out];exact i
  have g:=b.at k i;rw[m.at k<|au _]at g;have O:=b.frozen k;have K:=b.f2;have I:(k:Int)<(n:Int):=by omega
  have o:=ah b;have r:=ah A;have F:∀a,t.getD k 0=f3 s (t.getD k 0) (t.drop<|k+1)->a=g3 s (t.getD k 0) (t.drop<|k+1)->Hid (aZ f3 g3 () t (k+1) a j):=λa H f=>m.stay d a H f
  have G:∀v a,v=f3 s (t.getD k 0) (t.drop<|k+1)->a=g3 s (t.getD k 0) (t.drop<|k+1)->Hid (aZ f3 g3 () t (k+1) a<|j.set k v):=λv a H f=>m.step d v a H f
  have P:j.length=n:=b.len;clear b A m;generalize t.drop (k+1)=rest at*;generalize t.getD k 0=c at*;by_cases f:c=2
  .subst f;have E:=G 1 () rfl rfl;clear F G;go_wp2;go_roundg (n - (k+1));exact⟨k+1,(),_,by omega,rfl,by go_num,o.out.set k 1,r.out.trans<|o.out.grown k 1,E.out⟩;omega
  .have S:=ae f;have E:=F () (DT f).symm rfl;clear F G;go_wp2;go_roundg (n - (k+1));exact⟨k+1,(),_,by omega,rfl,by go_num,o.out,r.out,E.out⟩;omega
 .have p:j=pass f3 g3 () t:=m.stop (by rw[J.out];exact i);have o:Hid (bf wr B q l n z C D bv x u y<|pass f3 g3 () t):=by rw[<-p];exact b
  have r:=ah A;have I:¬(k:Int)<(n:Int):=by omega
  clear b A m p;go_wp2;go_end0;exact⟨rfl,o.out,r.out⟩
def asg(w:World)(B x p n C:Nat)(E F bv:Value)(z y A:Int)(t:List Int)(h:bf w B x p n C E F bv z y A t)(U:n<=1000):
  Calls prog 149 #[.pointer<|some ⟨x,0,none⟩] w λe P=>e= .returned (.tuple #[])/\bf P B x p n C E F bv z y A (pass f6 g3 () t)/\w.grownBy P (some p):=by
 have L:=ah h;have J:=ah h.len;have K:=h.f2;have Q:=h.f5;clear h;go_enter func149,ntmps149;go_wp2;clear K Q;go_loopg [9] n (λgk iv wr=>∃(k:Nat)(s:Unit)(m:List Int),k<=n/\gk=n - k/\iv= .int .i64 k/\bf wr B x p n C E F bv z y A m/\w.grownBy wr (some p)/\aZ f6 g3 () t k s m);exact⟨0,(),t,by omega,rfl,rfl,L.out,jO _ _,aZ.start _ _ _ _⟩;clear L;obtain⟨k,s,m,T,rfl,rfl,d,D,q⟩:=hrel;by_cases l:k<n
 .have f:k<t.length:=by rw[J.out];exact l
  have j:=d.at k l;rw[q.at k<|au _]at j;have R:=d.frozen k;have K:=d.f2;have I:(k:Int)<(n:Int):=by omega
  have a:=ah d;have o:=ah D;have r:∀b,t.getD k 0=f6 s (t.getD k 0) (t.drop<|k+1)->b=g3 s (t.getD k 0) (t.drop<|k+1)->Hid (aZ f6 g3 () t (k+1) b m):=λb G H=>q.stay f b G H
  have i:∀v b,v=f6 s (t.getD k 0) (t.drop<|k+1)->b=g3 s (t.getD k 0) (t.drop<|k+1)->Hid (aZ f6 g3 () t (k+1) b<|m.set k v):=λv b G H=>q.step f v b G H
  have S:m.length=n:=d.len;clear d D q;generalize t.drop (k+1)=rest at*;generalize t.getD k 0=c at*;by_cases M:c=4
  .subst M;have g:=i 12 () rfl rfl;clear r i;go_wp2;go_roundg (n - (k+1));exact⟨k+1,(),_,by omega,rfl,by go_num,a.out.set k 12,o.out.trans<|a.out.grown k 12,g.out⟩;omega
  have V:=ae M;by_cases N:c=5
  .subst N;have g:=i 12 () rfl rfl;clear r i;go_wp2;go_roundg (n - (k+1));exact⟨k+1,(),_,by omega,rfl,by go_num,a.out.set k 12,o.out.trans<|a.out.grown k 12,g.out⟩;omega
  have W:=ae N;by_cases O:c=7
  .subst O;have g:=i 12 () rfl rfl;clear r i;go_wp2;go_roundg (n - (k+1));exact⟨k+1,(),_,by omega,rfl,by go_num,a.out.set k 12,o.out.trans<|a.out.grown k 12,g.out⟩;omega
  have X:=ae O;have g:=r () (DX<|by omega).symm rfl;clear r i;go_wp2;go_roundg (n - (k+1));exact⟨k+1,(),_,by omega,rfl,by go_num,a.out,o.out,g.out⟩;omega
 .have u:m=pass f6 g3 () t:=q.stop (by rw[J.out];exact l);have a:Hid (bf wr B x p n C E F bv z y A<|pass f6 g3 () t):=by rw[<-u];exact d
  have o:=ah D;have I:¬(k:Int)<(n:Int):=by omega
  clear d D q u;go_wp2;go_end0;exact⟨rfl,a.out,o.out⟩
def asa(w:World)(B A r n E:Nat)(G H bv:Value)(C b D:Int)(t:List Int)(h:bf w B A r n E G H bv C b D t)(X:n<=1000):
  Calls prog 145 #[.pointer<|some ⟨A,0,none⟩] w λe Q=>e= .returned (.tuple #[])/\bf Q B A r n E G H bv C b D (pass f2 g2 b t)/\w.grownBy Q (some r):=by
 have L:=ah h;have J:=ah h.len;have K:=h.f2;have R:=h.f5;clear h;go_enter func145,ntmps145;go_wp2;clear K R;go_loopg [2,14] n (λgk V iv wr=>∃(k:Nat)(s:Int)(q:List Int),k<=n/\gk=n - k/\V= .int .i64 s/\iv= .int .i64 k/\bf wr B A r n E G H bv C b D q/\w.grownBy wr (some r)/\aZ f2 g2 b t k s q);exact⟨0,b,t,by omega,rfl,rfl,rfl,L.out,jO _ _,aZ.start _ _ _ _⟩;clear L;obtain⟨k,s,q,W,rfl,rfl,rfl,j,F,y⟩:=hrel;by_cases p:k<n
 .have l:k<t.length:=by rw[J.out];exact p
  have o:=j.at k p;rw[y.at k<|au _]at o;have S:=j.frozen k;have K:=j.f2;have I:(k:Int)<(n:Int):=by omega
  have f:=ah j;have i:=ah F;have d:∀g,t.getD k 0=f2 s (t.getD k 0) (t.drop<|k+1)->g=g2 s (t.getD k 0) (t.drop<|k+1)->Hid (aZ f2 g2 b t (k+1) g q):=λg u x=>y.stay l g u x
  have m:∀v g,v=f2 s (t.getD k 0) (t.drop<|k+1)->g=g2 s (t.getD k 0) (t.drop<|k+1)->Hid (aZ f2 g2 b t (k+1) g<|q.set k v):=λv g u x=>y.step l v g u x
  have U:q.length=n:=j.len;clear j F y;generalize t.drop (k+1)=rest at*;generalize t.getD k 0=c at*;by_cases M:c=0
  .subst M;have a:=d 0 rfl rfl;clear d m;go_wp2;go_roundg (n - (k+1));exact⟨k+1,0,_,by omega,rfl,rfl,by go_num,f.out,i.out,a.out⟩;omega
  have Y:=ae M;by_cases u:c=1
  .subst u;have a:=d 1 rfl rfl;clear d m;go_wp2;go_roundg (n - (k+1));exact⟨k+1,1,_,by omega,rfl,rfl,by go_num,f.out,i.out,a.out⟩;omega
  have Z:=ae u;by_cases x:c=2
  .subst x;have a:=d 2 rfl rfl;clear d m;go_wp2;go_roundg (n - (k+1));exact⟨k+1,2,_,by omega,rfl,rfl,by go_num,f.out,i.out,a.out⟩;omega
  have q2:=ae x;have O:g2 s c rest=s:=by rw[g2,ai<|by omega]
  by_cases N:c=3
  .subst N;by_cases P:s=2
   .subst P;have a:=m 6 2 rfl rfl;clear d m;go_wp2;go_roundg (n - (k+1));exact⟨k+1,2,_,by omega,rfl,rfl,by go_num,f.out.set k 6,i.out.trans<|f.out.grown k 6,a.out⟩;omega
   .have T:=ae P;have a:=d s (by rw[f2,ai<|by omega]) O.symm;clear d m;go_wp2;go_roundg (n - (k+1));exact⟨k+1,s,_,by omega,rfl,rfl,by go_num,f.out,i.out,a.out⟩;omega
  .have q3:=ae N;have a:=d s (by rw[f2,ai<|by omega]) O.symm;clear d m;go_wp2;go_roundg (n - (k+1));exact⟨k+1,s,_,by omega,rfl,rfl,by go_num,f.out,i.out,a.out⟩;omega
 .have z:q=pass f2 g2 b t:=y.stop (by rw[J.out];exact p);have f:Hid (bf wr B A r n E G H bv C b D<|pass f2 g2 b t):=by rw[<-z];exact j
  have i:=ah F;have I:¬(k:Int)<(n:Int):=by omega
  clear j F y z;go_wp2;go_end0;exact⟨rfl,f.out,i.out⟩
def ash(w:World)(B z r n D:Nat)(F G bv:Value)(A a C:Int)(t:List Int)(h:bf w B z r n D F G bv A a C t)(X:n<=1000):
  Calls prog 150 #[.pointer<|some ⟨z,0,none⟩] w λe Q=>e= .returned (.tuple #[])/\bf Q B z r n D F G bv A a C (pass f7 g7 a t)/\w.grownBy Q (some r):=by
 have L:=ah h;have J:=ah h.len;have K:=h.f2;have R:=h.f5;clear h;go_enter func150,ntmps150;go_wp2;clear K R;go_loopg [2,14] n (λgk V iv wr=>∃(k:Nat)(s:Int)(p:List Int),k<=n/\gk=n - k/\V= .int .i64 s/\iv= .int .i64 k/\bf wr B z r n D F G bv A a C p/\w.grownBy wr (some r)/\aZ f7 g7 a t k s p);exact⟨0,a,t,by omega,rfl,rfl,rfl,L.out,jO _ _,aZ.start _ _ _ _⟩;clear L;obtain⟨k,s,p,W,rfl,rfl,rfl,i,E,x⟩:=hrel;by_cases o:k<n
 .have j:k<t.length:=by rw[J.out];exact o
  have m:=i.at k o;rw[x.at k<|au _]at m;have S:=i.frozen k;have K:=i.f2;have I:(k:Int)<(n:Int):=by omega
  have g:=ah i;have l:=ah E;have d:∀f,t.getD k 0=f7 s (t.getD k 0) (t.drop<|k+1)->f=g7 s (t.getD k 0) (t.drop<|k+1)->Hid (aZ f7 g7 a t (k+1) f p):=λf u H=>x.stay j f u H
  have q:∀v f,v=f7 s (t.getD k 0) (t.drop<|k+1)->f=g7 s (t.getD k 0) (t.drop<|k+1)->Hid (aZ f7 g7 a t (k+1) f<|p.set k v):=λv f u H=>x.step j v f u H
  have U:p.length=n:=i.len;clear i E x;generalize t.drop (k+1)=rest at*;generalize t.getD k 0=c at*;by_cases M:c=0
  .subst M;have b:=d 0 rfl rfl;clear d q;go_wp2;go_roundg (n - (k+1));exact⟨k+1,0,_,by omega,rfl,rfl,by go_num,g.out,l.out,b.out⟩;omega
  have Y:=ae M;by_cases u:c=1
  .subst u;have b:=d 1 rfl rfl;clear d q;go_wp2;go_roundg (n - (k+1));exact⟨k+1,1,_,by omega,rfl,rfl,by go_num,g.out,l.out,b.out⟩;omega
  have Z:=ae u;have O:g7 s c rest=s:=by rw[g7,ai<|by omega]
  by_cases N:c=3
  .subst N;by_cases P:s=0
   .subst P;have b:=q 0 0 rfl rfl;clear d q;go_wp2;go_roundg (n - (k+1));exact⟨k+1,0,_,by omega,rfl,rfl,by go_num,g.out.set k 0,l.out.trans<|g.out.grown k 0,b.out⟩;omega
   .have T:=ae P;have b:=d s (by rw[f7,ai<|by omega]) O.symm;clear d q;go_wp2;go_roundg (n - (k+1));exact⟨k+1,s,_,by omega,rfl,rfl,by go_num,g.out,l.out,b.out⟩;omega
  .have q3:=ae N;have b:=d s (by rw[f7,ai<|by omega]) O.symm;clear d q;go_wp2;go_roundg (n - (k+1));exact⟨k+1,s,_,by omega,rfl,rfl,by go_num,g.out,l.out,b.out⟩;omega
 .have y:p=pass f7 g7 a t:=x.stop (by rw[J.out];exact o);have g:Hid (bf wr B z r n D F G bv A a C<|pass f7 g7 a t):=by rw[<-y];exact i
  have l:=ah E;have I:¬(k:Int)<(n:Int):=by omega
  clear i E x y;go_wp2;go_end0;exact⟨rfl,g.out,l.out⟩
def anP(w:World)(B r o n z:Nat)(C D bv:Value)(a x y:Int)(t:List Int)(h:bf w B r o n z C D bv a x y t)(X:n<=1000)(U:0<=a):
  Calls prog 153 #[.pointer<|some ⟨r,0,none⟩] w λe P=>e= .returned (.tuple #[])/\bf P B r o n z C D bv a x y (pass (uS<|a%2) g3 () t)/\w.grownBy P (some o):=by
 have N:=ah h;have L:=ah h.len;have M:=h.f2;have R:=h.f5;clear h;go_enter func153,ntmps153;go_wp2;clear M R;go_loopg [9] n (λgk iv wr=>∃(k:Nat)(s:Unit)(l:List Int),k<=n/\gk=n - k/\iv= .int .i64 k/\bf wr B r o n z C D bv a x y l/\w.grownBy wr (some o)/\aZ (uS<|a%2) g3 () t k s l);exact⟨0,(),t,by omega,rfl,rfl,N.out,jO _ _,aZ.start _ _ _ _⟩;clear N;obtain⟨k,s,l,W,rfl,rfl,d,A,p⟩:=hrel;by_cases i:k<n
 .have f:k<t.length:=by rw[L.out];exact i
  have g:=d.at k i;rw[p.at k<|au _]at g;have S:=d.frozen k;have M:=d.f2;have K:(k:Int)<(n:Int):=by omega
  have m:=ah d;have u:=ah A;have G:∀b,t.getD k 0=(uS<|a%2) s (t.getD k 0) (t.drop<|k+1)->b=g3 s (t.getD k 0) (t.drop<|k+1)->Hid (aZ (uS<|a%2) g3 () t (k+1) b l):=λb I J=>p.stay f b I J
  have H:∀v b,v=(uS<|a%2) s (t.getD k 0) (t.drop<|k+1)->b=g3 s (t.getD k 0) (t.drop<|k+1)->Hid (aZ (uS<|a%2) g3 () t (k+1) b<|l.set k v):=λv b I J=>p.step f v b I J
  have T:l.length=n:=d.len;clear d A p;generalize t.drop (k+1)=rest at*;generalize t.getD k 0=c at*;have V:=m.out.f4;cases hb:o5 c
  .have E:=ah hb;have F:=G () (by rw[uS,Ea,ai<|by rw[hb];decide]) rfl;clear G H hb;go_wp2_with fail;refine(S0 c _).mono ?_;rintro O Q ⟨rfl,hx⟩;have j:=hx.symm;subst j;rw[E.out];go_wp2;go_roundg (n - (k+1));exact⟨k+1,(),_,by omega,rfl,by go_num,m.out,u.out,F.out⟩;omega
  .have E:=ah hb;have F:=H (a%2) () (by rw[uS,Ea,aj hb]) rfl;clear G H hb;go_wp2_with fail;refine(S0 c _).mono ?_;rintro O Q ⟨rfl,hx⟩;have j:=hx.symm;subst j;rw[E.out];go_wp2_with fail
   go_region_with (go_at_call 96;refine(C2 a _ U).mono ?_;rintro O Q ⟨rfl,hx⟩;subst hx)
   all_goals
    go_wp2;go_roundg (n - (k+1));exact⟨k+1,(),_,by omega,rfl,by go_num,(m.out.below (aA _ _).drew).set k (a%2),(u.out.trans Cn).trans ((m.out.below (aA _ _).drew).grown k (a%2)),F.out⟩;omega
 .have q:l=pass (uS<|a%2) g3 () t:=p.stop (by rw[L.out];exact i);have m:Hid (bf wr B r o n z C D bv a x y<|pass (uS<|a%2) g3 () t):=by rw[<-q];exact d
  have u:=ah A;have K:¬(k:Int)<(n:Int):=by omega
  clear d A p q;go_wp2;go_end0;exact⟨rfl,m.out,u.out⟩
def ar9(w:World)(B D z n K:Nat)(P Q bv:Value)(I b G:Int)(t:List Int)(h:bf w B D z n K P Q bv I b G t)(hn:n<=1000)(vk:b=0∨b=1):
  Calls prog 144 #[.pointer<|some ⟨D,0,none⟩] w λe U=>e= .returned (.tuple #[])/\bf U B D z n K P Q bv I b G (pass (f1 b) (g1 b) none t)/\w.grownBy U (some z):=by
 have cO:=ah h;have Z:=ah h.len;have c2:=h.f2;have c5:=h.f5;clear h;go_enter func144,ntmps144;go_wp2;clear c2 c5;go_loopg [10] n (λgk iv wr=>∃(k:Nat)(s:Option Int)(f:List Int),k<=n/\gk=n - k/\iv= .int .i64 k/\bf wr B D z n K P Q bv I b G f/\w.grownBy wr (some z)/\aZ (f1 b) (g1 b) none t k s f/\jo f k s);exact⟨0,none,t,by omega,rfl,rfl,cO.out,jO _ _,aZ.start _ _ _ _,jo.start _⟩;clear cO;obtain⟨k,s,f,hk,rfl,rfl,i,T,A,hA⟩:=hrel;by_cases m:k<n
 .have r:k<t.length:=by rw[Z.out];exact m
  have C:=i.at k m;rw[A.at k<|au _]at C;have aa:=i.frozen k;have c2:=i.f2;have Y:(k:Int)<(n:Int):=by omega
  have j:=ah i;have F:=ah T;have J:∀o,t.getD k 0=(f1 b) s (t.getD k 0) (t.drop<|k+1)->o=(g1 b) s (t.getD k 0) (t.drop<|k+1)->Hid (aZ (f1 b) (g1 b) none t (k+1) o f):=λo W X=>A.stay r o W X
  have y:∀v o,v=(f1 b) s (t.getD k 0) (t.drop<|k+1)->o=(g1 b) s (t.getD k 0) (t.drop<|k+1)->Hid (aZ (f1 b) (g1 b) none t (k+1) o (f.set k v)):=λv o W X=>A.step r v o W X
  have ab:f.length=n:=i.len;have M:gG b G f ((k:Int) - 1)=s.getD b:=by
   rcases hA with⟨rfl,rfl⟩|⟨h0,rfl⟩
   .rfl
   .rw[gG,ai<|by omega,ai<|by rw[i.len];omega,show((k:Int) - 1).toNat=k - 1 by omega];rfl
  have E:∀v,jo (f.set k v) (k+1) (some v):=λv=>jo.set v<|by rw[i.len];exact m
  have H:jo f (k+1) (some (t.getD k 0)):=by have:=jo.stay (t':=f) (k:=k);rw[A.at k<|au _]at this;exact this
  have O:Hid (Calls prog 207 #[.pointer<|some ⟨D,0,none⟩,.int .i64<|(k:Int) - 1] wr λe U=>e= .returned (.int .i64<|s.getD b)/\U=wr):=by rw[<-M];exact SR wr B D z n K P Q bv I b G f i _
  clear M hA;clear i T A;generalize t.drop (k+1)=rest at*;generalize t.getD k 0=c at*;by_cases S:c=8
  .subst S;obtain⟨a,q⟩:=ac<|(s.getD b);rw[<-q]at O;have g:f1 b s 8 rest=if aU a=true∨a=21 then 12 else a:=by
    unfold f1;rw[aj rfl];cases s with
    |none=>rw[Option.getD_none]at q;subst q;rw[ai];rintro(h|h);(rcases vk with rfl|rfl<;>cases h);omega
    |some p=>rw[tW]at q;subst q;rfl
   cases hi:aU a
   .by_cases l:a=21
    .rw[aj (.inr l)]at g;subst l;have x:=y 12 (some 12) g.symm (by rw[g1,g]);have u:Hid _:=E 12;clear J y E H g q hi;go_wp2_with fail;refine O.out.mono ?_;rintro L R ⟨rfl,hx⟩;have d:=hx.symm;subst d;go_wp2_with fail;refine(nY 21 _).mono ?_;rintro L R ⟨rfl,hx⟩;have d:=hx.symm;subst d;rw[show aU 21=false from rfl];go_wp2;go_roundg (n - (k+1));exact⟨k+1,some 12,_,by omega,rfl,by go_num,j.out.set k 12,F.out.trans<|j.out.grown k 12,x.out,u.out⟩;omega
    .rw[ai<|by rw[hi];rintro(h|h);cases h;exact l h]at g;have CT:=ae l;have x:=y a (some a) g.symm (by rw[g1,g]);have u:Hid _:=E a;have V:=ah hi;clear J y E H g q hi;go_wp2_with fail;refine O.out.mono ?_;rintro L R ⟨rfl,hx⟩;have d:=hx.symm;subst d;go_wp2_with fail;refine(nY a _).mono ?_;rintro L R ⟨rfl,hx⟩;have d:=hx.symm;subst d;rw[V.out];go_wp2;go_roundg (n - (k+1));exact⟨k+1,some a,_,by omega,rfl,by go_num,j.out.set k a,F.out.trans<|j.out.grown k a,x.out,u.out⟩;omega
   .rw[aj (.inl hi)]at g;have x:=y 12 (some 12) g.symm (by rw[g1,g]);have u:Hid _:=E 12;have V:=ah hi;clear J y E H g q hi;go_wp2_with fail;refine O.out.mono ?_;rintro L R ⟨rfl,hx⟩;have d:=hx.symm;subst d;go_wp2_with fail;refine(nY a _).mono ?_;rintro L R ⟨rfl,hx⟩;have d:=hx.symm;subst d;rw[V.out];go_wp2;go_roundg (n - (k+1));exact⟨k+1,some 12,_,by omega,rfl,by go_num,j.out.set k 12,F.out.trans<|j.out.grown k 12,x.out,u.out⟩;omega
  .have q8:(c !=8)=true:=(by simpa using S);have x:=J (some c) (OE S).symm (by rw[g1,OE S]);have u:=ah H;clear J y E H O;go_wp2;go_roundg (n - (k+1));exact⟨k+1,some c,_,by omega,rfl,by go_num,j.out,F.out,x.out,u.out⟩;omega
 .have N:f=pass (f1 b) (g1 b) none t:=A.stop (by rw[Z.out];exact m);have j:Hid (bf wr B D z n K P Q bv I b G<|pass (f1 b) (g1 b) none t):=by rw[<-N];exact i
  have F:=ah T;have Y:¬(k:Int)<(n:Int):=by omega
  clear i T A N;go_wp2;go_end0;exact⟨rfl,j.out,F.out⟩
structure Kh(n kb kt:Nat)(cb ct:Array Value){σ:Type}(J:Nat->σ->World->Prop)(AK:σ->Nat->Bool):Prop where
 asks:∀x a W (i:Nat),J a x W->a<=i->i<n->Calls prog kb (#[.int .i64 i]++cb) W λe W'=>e= .returned (.bool<|AK x i)/\J a x W'
 skip:∀x a W,J a x W->a<n->AK x a=false->∃x',J (a+1) x' W
 tell:∀x a b W,J a x W->a<b->b<=n->(∀j,a<=j->j<b->AK x j=true)->(b<n->AK x b=false)->Calls prog kt (#[.int .i64 a,.int .i64 b]++ct) W λe W'=>e= .returned (.tuple #[])/\∃x',J (b+1) x' W'
def Ot(n m z:Nat)(B F:Array Value){D:Type}(J:Nat->D->World->Prop)(o:D->Nat->Bool)(hn:n<=1000)(h:Kh n m z B F J o)(eb:∀args w,(callFunc m args).run prog w= .ok (.enter m args) w)(et:∀args w,(callFunc z args).run prog w= .ok (.enter z args) w)(S:D)(w:World)(P:J 0 S w):
  Calls prog 97 #[.int .i64 n,.func (.func m) #[] B,.func (.func z) #[] F] w λe Y=>e= .returned (.tuple #[])/\∃k x,n<=k/\J k x Y:=by
 have q:=ah h;have l:=ah P;clear h P;go_enter func97,ntmps97;go_wp2;go_loopg [6] (n+1) (λH U W=>∃(a:Nat)(x:D),a<=n+1/\H=n+1 - a/\U= .int .i64 a/\J a x W);exact⟨0,S,by omega,rfl,rfl,l.out⟩;clear l;obtain⟨a,x,ha,rfl,rfl,f⟩:=hrel;have l:=ah f;clear f;by_cases M:a<n
 .have i:(a:Int)<(n:Int):=by omega
  obtain⟨W1,I⟩:=ac wr;subst I;go_wp2;go_loopg [7] (n - a) (λH X W=>∃b:Nat,a<=b/\b<=n/\H=n - b/\X= .int .i64 b/\J a x W/\∀j,a<=j->j<b->o x j=true);exact⟨a,by omega,by omega,rfl,rfl,l.out,λj Q V=>by omega⟩;clear l;obtain⟨b,v,R,rfl,rfl,f,g⟩:=hrel;have E:=ah g;clear g;by_cases y:b<n
  .have K:(b:Int)<(n:Int):=(by omega);cases hq:o x b
   .have p:Hid (Calls prog m (#[.int .i64 b]++B) wr λe t=>e= .returned (.bool false)/\J a x t):=(by have:=q.out.asks x a wr b f v y;rw[hq]at this;exact this);have O:Hid (b<n->o x b=false):=λ_=>hq
    clear f hq;go_wp2_with fail;refine p.out.mono ?_;rintro G N ⟨rfl,d⟩;have C:=ah d;clear d p;by_cases L:a<b
    .have u:(a:Int)<(b:Int):=(by omega);have r:=ah<|q.out.tell x a b N C.out L R E.out O.out;go_wp2_with fail;refine r.out.mono ?_;rintro G Z ⟨rfl,A,c⟩;have s:=ah c;clear c r;go_wp2;go_roundg (n+1 - (b+1));exact⟨b+1,A,by omega,rfl,by go_num,s.out⟩;omega
    .have u:¬(a:Int)<(b:Int):=(by omega);obtain rfl:a=b:=(by omega);obtain⟨A,c⟩:=q.out.skip x a N C.out y<|O.out y;have s:=ah c;clear c;go_wp2;go_roundg (n+1 - (a+1));exact⟨a+1,A,by omega,rfl,by go_num,s.out⟩;omega
   .have p:Hid (Calls prog m (#[.int .i64 b]++B) wr λe t=>e= .returned (.bool true)/\J a x t):=(by have:=q.out.asks x a wr b f v y;rw[hq]at this;exact this);have T:Hid (∀j,a<=j->j<b+1->o x j=true):=λj Q V=>by
     rcases cP j b with h|h
     .exact E.out j Q h
     .rw[show j=b by omega];exact hq
    clear f hq;go_wp2_with fail;refine p.out.mono ?_;rintro G N ⟨rfl,d⟩;have C:=ah d;clear d p;go_wp2;go_roundg (n - (b+1));exact⟨b+1,by omega,by omega,rfl,by go_num,C.out,T.out⟩;omega
  .obtain rfl:b=n:=(by omega);have u:(a:Int)<(b:Int):=i;have K:¬(b:Int)<(b:Int):=(by omega);have r:Hid (Calls prog z (#[.int .i64 a,.int .i64 b]++F) wr λe t=>e= .returned (.tuple #[])/\∃x',J (b+1) x' t):=q.out.tell x a b wr f M R E.out (λh=>absurd h y);clear f;go_wp2_with fail;refine r.out.mono ?_;rintro G Z ⟨rfl,A,c⟩;have s:=ah c;clear c r;go_wp2;go_roundg (b+1 - (b+1));exact⟨b+1,A,by omega,rfl,by go_num,s.out⟩;omega
 .have i:¬(a:Int)<(n:Int):=by omega
  go_wp2;go_end0;exact⟨rfl,a,by omega,x,l.out⟩
def D2(t:List Int)(k:Nat):∀m,qj t k m=bM t k 3 m
 |0=>rfl
 |m+1=>by rw[qj,bM,D2 t k m]
def af6(w:World)(B g f n o:Nat)(r s bv:Value)(k j l:Int)(t:List Int)(h:bf w B g f n o r s bv k j l t)(I:n<=1000)(a b:Nat)(c:Int)(A:a<=b)(G:b<=n):
  Calls prog 210 #[.pointer<|some ⟨g,0,none⟩,.int .i64 a,.int .i64 b,.int .i64 c] w λe y=>e= .returned (.tuple #[])/\bf y B g f n o r s bv k j l (bM t a c<|b - a)/\w.grownBy y (some f):=by
 have x:=ah h;clear h;go_enter func210,ntmps210;go_wp2;go_loopg [8] (b - a) (λgk iv wr=>∃m:Nat,a+m<=b/\gk=b - a - m/\iv= .int .i64 ((a+m:Nat):Int)/\bf wr B g f n o r s bv k j l (bM t a c m)/\w.grownBy wr (some f));exact⟨0,by omega,rfl,rfl,x.out,jO _ _⟩;clear x;obtain⟨m,H,rfl,rfl,d,p⟩:=hrel;by_cases D:a+m<b
 .have v:=d.at (a+m) (by omega);have C:=d.frozen<|a+m;have E:=d.f2;have i:=ah d;have u:=ah p;have z:(a:Int)+(m:Int)<(b:Int):=by omega
  have F:(a:Int)+(m:Int)<(n:Int):=by omega
  clear d p;generalize(bM t a c m).getD (a+m) 0=q at*;go_wp2;go_roundg (b - a - (m+1));exact⟨m+1,by omega,rfl,by go_num,i.out.set (a+m) c,u.out.trans<|i.out.grown (a+m) c⟩;omega
 .have z:¬(a:Int)+(m:Int)<(b:Int):=by omega
  have e:m=b - a:=by omega
  have i:Hid (bf wr B g f n o r s bv k j l<|bM t a c<|b - a):=by rw[<-e];exact d
  have u:=ah p;clear d p;go_wp2;go_end0;exact⟨rfl,i.out,u.out⟩
def bf.boxed {w:World}{B d b n k a:Nat}{r s bv:Value}{i f j:Int}{t:List Int}(h:bf w B d b n k r s bv i f j t)(q:w.heap[a]? =some (.cells #[.pointer<|some ⟨d,0,none⟩] 146 (0,0))):b≠a:=by
 rcases h.row.2 with⟨e,_⟩|⟨g,u,l,e,_,c,_⟩
 .cases e
 .injection e with m
  injection m with o
  injection o with p
  subst p;intro e;rw[e,q]at c;simp at c
def amV(w:World)(B b l n k a:Nat)(p q bv:Value)(g f j:Int)(t:List Int)(h:bf w B b l n k p q bv g f j t)(d:w.heap[a]? =some (.cells #[.pointer<|some ⟨b,0,none⟩] 146 (0,0)))(i:Nat)(m:i<n):
  Calls prog 208 #[.int .i64 i,.pointer<|some ⟨a,0,none⟩] w λe r=>e= .returned (.bool<|t.getD i 0==5)/\r=w:=by
 have s:=h.f2;have v:=h.at i m;have u:w.cell? ⟨a,0,none⟩=some (.pointer<|some ⟨b,0,none⟩):=az d 0;have o:(i:Int)<(n:Int):=by omega
 clear h d;generalize t.getD i 0=c at*;go_enter func208,ntmps208;go_wp2;go_ret;exact⟨rfl,rfl⟩
def arD(w:World)(B g m n r D:Nat)(s u bv:Value)(q d f:Int)(t:List Int)(h:bf w B g m n r s u bv q d f t)(K:n<=1000)(I:w.heap[D]? =some (.cells #[.pointer<|some ⟨g,0,none⟩] 146 (0,0)))(a b:Nat)(E:a<=b)(L:b<=n):
  Calls prog 209 #[.int .i64 a,.int .i64 b,.pointer<|some ⟨D,0,none⟩] w λe i=>e= .returned (.tuple #[])/\bf i B g m n r s u bv q d f (if gG d f t ((a:Int) - 1)=3∨gG d f t b=3 then bM t a 3 (b - a)else t)/\w.grownBy i (some m):=by
 have N:w.cell? ⟨D,0,none⟩=some (.pointer<|some ⟨g,0,none⟩):=az I 0;have A:Hid (∀j:Int,Calls prog 207 #[.pointer<|some ⟨g,0,none⟩,.int .i64 j] w λe i=>e= .returned (.int .i64<|gG d f t j)/\i=w):=λj=>SR w B g m n r s u bv q d f t h j
 have H:=ah<|af6 w B g m n r s u bv q d f t h K a b 3 E L;have J:=ah h;clear h I;have z:Hid (Calls prog 207 #[.pointer<|some ⟨g,0,none⟩,.int .i64<|(a:Int) - 1] w λe i=>e= .returned (.int .i64<|gG d f t<|(a:Int) - 1)/\i=w):=A.out _;have G:Hid (Calls prog 207 #[.pointer<|some ⟨g,0,none⟩,.int .i64 b] w λe i=>e= .returned (.int .i64<|gG d f t b)/\i=w):=A.out _;clear A;generalize gG d f t ((a:Int) - 1)=x at*;generalize gG d f t b=y at*;by_cases hx:x=3
 .rw[aj (.inl hx)];subst hx;go_enter func209,ntmps209;go_wp2_with fail;refine z.out.mono ?_;rintro l v ⟨rfl,hx⟩;have c:=hx.symm;subst c;go_wp2_with fail;refine H.out.mono ?_;rintro l M ⟨rfl,o,p⟩;have C:=ah o;have k:=ah p;clear o p;go_wp2;go_end0;exact⟨rfl,C.out,k.out⟩
 .have O:=ae hx;by_cases F:y=3
  .rw[aj (.inr F)];subst F;go_enter func209,ntmps209;go_wp2_with fail;refine z.out.mono ?_;rintro l v ⟨rfl,hx⟩;have c:=hx.symm;subst c;go_wp2_with fail;refine G.out.mono ?_;rintro l v ⟨rfl,hx⟩;have c:=hx.symm;subst c;go_wp2_with fail;refine H.out.mono ?_;rintro l M ⟨rfl,o,p⟩;have C:=ah o;have k:=ah p;clear o p;go_wp2;go_end0;exact⟨rfl,C.out,k.out⟩
  .rw[ai<|by omega];have P:=ae F;go_enter func209,ntmps209;go_wp2_with fail;refine z.out.mono ?_;rintro l v ⟨rfl,hx⟩;have c:=hx.symm;subst c;go_wp2_with fail;refine G.out.mono ?_;rintro l v ⟨rfl,hx⟩;have c:=hx.symm;subst c;go_wp2;go_end0;exact⟨rfl,J.out,jO _ _⟩
def amR(w:World)(B d m n l a:Nat)(q r bv:Value)(j g k:Int)(t:List Int)(h:bf w B d m n l q r bv j g k t)(f:w.heap[a]? =some (.cells #[.pointer<|some ⟨d,0,none⟩] 146 (0,0)))(i:Nat)(o:i<n):
  Calls prog 214 #[.int .i64 i,.pointer<|some ⟨a,0,none⟩] w λe s=>e= .returned (.bool<|o5<|t.getD i 0)/\s=w:=by
 have u:=h.f2;have x:=h.at i o;have v:w.cell? ⟨a,0,none⟩=some (.pointer<|some ⟨d,0,none⟩):=az f 0;have p:(i:Int)<(n:Int):=by omega
 clear h f;generalize t.getD i 0=c at*;go_enter func214,ntmps214;go_wp2_with fail;refine(S0 c _).mono ?_;rintro y z ⟨rfl,hx⟩;have b:=hx.symm;subst b;go_wp2;go_ret;exact⟨rfl,rfl⟩
def arC(w:World)(B k m n q z:Nat)(r s bv:Value)(p g i:Int)(t:List Int)(h:bf w B k m n q r s bv p g i t)(O:n<=1000)(G:w.heap[z]? =some (.cells #[.pointer<|some ⟨k,0,none⟩] 146 (0,0)))(a b:Nat)(A:a<=b)(P:b<=n):
  Calls prog 216 #[.int .i64 a,.int .i64 b,.pointer<|some ⟨z,0,none⟩] w λe f=>e= .returned (.tuple #[])/\bf f B k m n q r s bv p g i (if bD (gG g i t<|(a:Int) - 1)=bD (gG g i t b)then bM t a (bD<|gG g i t<|(a:Int) - 1) (b - a)else t)/\w.grownBy f (some m):=by
 have Q:w.cell? ⟨z,0,none⟩=some (.pointer<|some ⟨k,0,none⟩):=az G 0;have u:Hid (∀j:Int,Calls prog 207 #[.pointer<|some ⟨k,0,none⟩,.int .i64 j] w λe f=>e= .returned (.int .i64<|gG g i t j)/\f=w):=λj=>SR w B k m n q r s bv p g i t h j
 have M:Hid (∀d:Int,Calls prog 210 #[.pointer<|some ⟨k,0,none⟩,.int .i64 a,.int .i64 b,.int .i64 d] w λe f=>e= .returned (.tuple #[])/\bf f B k m n q r s bv p g i (bM t a d<|b - a)/\w.grownBy f (some m)):=λd=>af6 w B k m n q r s bv p g i t h O a b d A P
 have L:=ah h;clear h G;have C:Hid (Calls prog 207 #[.pointer<|some ⟨k,0,none⟩,.int .i64<|(a:Int) - 1] w λe f=>e= .returned (.int .i64<|gG g i t<|(a:Int) - 1)/\f=w):=u.out _;have D:Hid (Calls prog 207 #[.pointer<|some ⟨k,0,none⟩,.int .i64 b] w λe f=>e= .returned (.int .i64<|gG g i t b)/\f=w):=u.out _;clear u;generalize gG g i t ((a:Int) - 1)=x at*;generalize gG g i t b=y at*;have E:Hid (∀W,Calls prog 217 #[.int .i64 x] W λe f=>e= .returned (.int .i64<|bD x)/\f=W):=λW=>N3 x W
 have F:Hid (∀W,Calls prog 217 #[.int .i64 y] W λe f=>e= .returned (.int .i64<|bD y)/\f=W):=λW=>N3 y W
 generalize bD x=J at*;generalize bD y=K at*;by_cases hx:J=K
 .rw[aj hx];subst hx;go_enter func216,ntmps216;go_wp2_with fail;refine C.out.mono ?_;rintro l o ⟨rfl,hx⟩;have c:=hx.symm;subst c;go_wp2_with fail;refine(E.out _).mono ?_;rintro l o ⟨rfl,hx⟩;have c:=hx.symm;subst c;go_wp2_with fail;refine D.out.mono ?_;rintro l o ⟨rfl,hx⟩;have c:=hx.symm;subst c;go_wp2_with fail;refine(F.out _).mono ?_;rintro l o ⟨rfl,hx⟩;have c:=hx.symm;subst c;go_wp2_with fail;refine(M.out _).mono ?_;rintro l S ⟨rfl,H,I⟩;have N:=ah H;have v:=ah I;clear H I;go_wp2;go_end0;exact⟨rfl,N.out,v.out⟩
 .rw[ai hx];have R:(J==K)=false:=by simpa using hx
  go_enter func216,ntmps216;go_wp2_with fail;refine C.out.mono ?_;rintro l o ⟨rfl,hx⟩;have c:=hx.symm;subst c;go_wp2_with fail;refine(E.out _).mono ?_;rintro l o ⟨rfl,hx⟩;have c:=hx.symm;subst c;go_wp2_with fail;refine D.out.mono ?_;rintro l o ⟨rfl,hx⟩;have c:=hx.symm;subst c;go_wp2_with fail;refine(F.out _).mono ?_;rintro l o ⟨rfl,hx⟩;have c:=hx.symm;subst c;go_wp2;go_end0;exact⟨rfl,L.out,jO _ _⟩
def mq(r:Int):Int:=if r=9001 then 12296 else if r=9002 then 12297 else r
def cG:List Int:=[40,41,91,93,123,125,12296,12297]
def tX:Array Value:=#[.int .i32 40,.int .i32 41,.int .i32 91,.int .i32 93,.int .i32 123,.int .i32 125,.int .i32 12296,.int .i32 12297]
def Vl:∀(k:Nat)(_:k<4)(w:World),(Instr.index 304 (.agg tX) (.int .i64 k)).run prog w= .ok (.agg #[.int .i32<|cG.getD (2*k) 0,.int .i32<|cG.getD (2*k+1) 0]) w
 |0,_,w=>by kernel_rfl
 |1,_,w=>by kernel_rfl
 |2,_,w=>by kernel_rfl
 |3,_,w=>by kernel_rfl
 |k+4,h,_=>by omega
def Tryz.Xm:(prog.info? 304).map (·.size)=some tX.size:=by kernel_rfl
def Tj(r:Int)(w:World):Calls prog 266 #[.int .i32 r] w λe c=>e= .returned (.int .i32<|mq r)/\c=w:=by
 unfold mq;by_cases a:r=9001
 .subst a;rw[aj rfl];go_enter func266,ntmps266;go_wp2;go_ret;exact⟨rfl,rfl⟩
 .rw[ai a];have d:=ae a;by_cases b:r=9002
  .subst b;rw[aj rfl];go_enter func266,ntmps266;go_wp2;go_ret;exact⟨rfl,rfl⟩
  .rw[ai b];have f:=ae b;go_enter func266,ntmps266;go_wp2;go_ret;exact⟨rfl,rfl⟩
def Bg(a:Nat)(r:Int):Bool:=mq r==cG.getD a 0||(mq r==cG.getD (2+a) 0||(mq r==cG.getD (4+a) 0||mq r==cG.getD (6+a) 0))
def amN(r:Int)(w:World)(x:TypeId)(v:Nat×Nat)(l:w.heap[11]? =some (.cells tX x v)):
  Calls prog 265 #[.int .i32 r,.int .i64 0] w λe o=>e= .returned (.bool<|Bg 0 r)/\Below w.heap.size w o:=by
 have s:=ah Vl;have q:=ah l;have u:=Tryz.Xm;clear l;generalize tX=L at s q u;have p:Hid (∀W,Calls prog 266 #[.int .i32 r] W λe o=>e= .returned (.int .i32<|mq r)/\o=W):=λW=>Tj r W
 have t:Hid (Bg 0 r=(mq r==cG.getD 0 0||(mq r==cG.getD (2+0) 0||(mq r==cG.getD (4+0) 0||mq r==cG.getD (6+0) 0)))):=rfl;generalize Bg 0 r=P at*;generalize mq r=c at*;go_enter func265,ntmps265;go_wp2_with(refine X7 rfl 304 _ rfl 11 rfl x _ v _ q.out underlying304 rfl u ?_);go_loopg [8] 4 (λgk iv W=>∃k:Nat,k<=4/\gk=4 - k/\iv= .int .i64 k/\Below w.heap.size w W/\∀i,i<k->¬cG.getD (2*i) 0=c);exact⟨0,by omega,rfl,rfl,aA _ _,λi h=>by omega⟩;obtain⟨k,K,rfl,rfl,d,a⟩:=hrel;have f:=d.size;by_cases g:k<4
 .have j:(k:Int)<4:=by omega
  have I:=λH=>s.out k g H
  have y:=ah a;have m:=ah d;clear a d;by_cases b:cG.getD (2*k) 0=c
  .have n:Hid (P=true):=by
    show _=_;rw[t.out,<-b]
    match k,g with
    |0,_=>rfl
    |1,_=>rfl
    |2,_=>rfl
    |3,_=>rfl
   have G:(cG.getD (2*k) 0==c)=true:=(by simpa using b);clear b;generalize cG.getD (2*k+1) 0=A at*;generalize cG.getD (2*k) 0=z at*;go_wp2_with fail;go_quiet(first|(go_at_call 266;refine BH<|p.out _));go_wp2;go_ret;exact⟨gY n.out.symm,gH (m.out.alloc f _) _⟩
  .have G:(cG.getD (2*k) 0==c)=false:=(by simpa using b);have F:Hid (∀i,i<k+1->¬cG.getD (2*i) 0=c):=λi J=>by
    rcases cP i k with h|h
    .exact y.out i h
    .rw[show i=k by omega];exact b
   clear b;generalize cG.getD (2*k+1) 0=A at*;generalize cG.getD (2*k) 0=z at*;go_wp2_with fail;go_quiet(first|(go_at_call 266;refine BH<|p.out _));go_wp2;go_roundg (4 - (k+1));exact⟨k+1,by omega,rfl,by go_num,gH (m.out.alloc f _) _,F.out⟩;omega
 .have j:¬(k:Int)<4:=by omega
  have n:Hid (P=false):=by
   show _=_;have B:=a 0 (by omega);have C:=a 1 (by omega);have D:=a 2 (by omega);have E:=a 3 (by omega);rw[t.out];simp[cG]at B C D E ⊢;omega
  have m:=ah d;clear a d;go_wp2;go_ret;exact⟨gY n.out.symm,m.out⟩
def amO(r:Int)(w:World)(x:TypeId)(v:Nat×Nat)(l:w.heap[11]? =some (.cells tX x v)):
  Calls prog 265 #[.int .i32 r,.int .i64 1] w λe o=>e= .returned (.bool<|Bg 1 r)/\Below w.heap.size w o:=by
 have s:=ah Vl;have q:=ah l;have u:=Tryz.Xm;clear l;generalize tX=L at s q u;have p:Hid (∀W,Calls prog 266 #[.int .i32 r] W λe o=>e= .returned (.int .i32<|mq r)/\o=W):=λW=>Tj r W
 have t:Hid (Bg 1 r=(mq r==cG.getD 1 0||(mq r==cG.getD (2+1) 0||(mq r==cG.getD (4+1) 0||mq r==cG.getD (6+1) 0)))):=rfl;generalize Bg 1 r=P at*;generalize mq r=c at*;go_enter func265,ntmps265;go_wp2_with(refine X7 rfl 304 _ rfl 11 rfl x _ v _ q.out underlying304 rfl u ?_);go_loopg [8] 4 (λgk iv W=>∃k:Nat,k<=4/\gk=4 - k/\iv= .int .i64 k/\Below w.heap.size w W/\∀i,i<k->¬cG.getD (2*i+1) 0=c);exact⟨0,by omega,rfl,rfl,aA _ _,λi h=>by omega⟩;obtain⟨k,K,rfl,rfl,d,a⟩:=hrel;have f:=d.size;by_cases g:k<4
 .have j:(k:Int)<4:=by omega
  have I:=λH=>s.out k g H
  have y:=ah a;have m:=ah d;clear a d;by_cases b:cG.getD (2*k+1) 0=c
  .have n:Hid (P=true):=by
    show _=_;rw[t.out,<-b]
    match k,g with
    |0,_=>rfl
    |1,_=>rfl
    |2,_=>rfl
    |3,_=>rfl
   have G:(cG.getD (2*k+1) 0==c)=true:=(by simpa using b);clear b;generalize cG.getD (2*k+1) 0=A at*;generalize cG.getD (2*k) 0=z at*;go_wp2_with fail;go_quiet(first|(go_at_call 266;refine BH<|p.out _));go_wp2;go_ret;exact⟨gY n.out.symm,gH (m.out.alloc f _) _⟩
  .have G:(cG.getD (2*k+1) 0==c)=false:=(by simpa using b);have F:Hid (∀i,i<k+1->¬cG.getD (2*i+1) 0=c):=λi J=>by
    rcases cP i k with h|h
    .exact y.out i h
    .rw[show i=k by omega];exact b
   clear b;generalize cG.getD (2*k+1) 0=A at*;generalize cG.getD (2*k) 0=z at*;go_wp2_with fail;go_quiet(first|(go_at_call 266;refine BH<|p.out _));go_wp2;go_roundg (4 - (k+1));exact⟨k+1,by omega,rfl,by go_num,gH (m.out.alloc f _) _,F.out⟩;omega
 .have j:¬(k:Int)<4:=by omega
  have n:Hid (P=false):=by
   show _=_;have B:=a 0 (by omega);have C:=a 1 (by omega);have D:=a 2 (by omega);have E:=a 3 (by omega);rw[t.out];simp[cG]at B C D E ⊢;omega
  have m:=ah d;clear a d;go_wp2;go_ret;exact⟨gY n.out.symm,m.out⟩
def Hl(r:Int):mq r=canon r:=rfl
def amQ(r:Int):Bg 0 r=decide ((dV r).1=1):=by
 unfold Bg dV;rw[Hl];generalize canon r=c;rw[C6];simp only[cG,ZJ,NA,Gn,zx,DD];by_cases h:c=40∨c=91∨c=123∨c=12296
 .rw[aj h];simp;exact h
 .rw[ai h];constructor
  .intro a;exact absurd a h
  .intro a;split at a
   .cases a
   .split at a
    .cases a
    .split at a
     .cases a
     .split at a<;>cases a
def amP(r:Int):Bg 1 r=decide ((dV r).1=2):=by
 unfold Bg dV;rw[Hl];generalize canon r=c;rw[C6];simp only[cG,ZJ,NA,Gn,zx,DD];by_cases h:c=40∨c=91∨c=123∨c=12296
 .rw[aj h];simp;omega
 .rw[ai h];constructor
  .intro a;rcases a with rfl|rfl|rfl|rfl<;>simp
  .intro a;split at a
   .omega
   .split at a
    .omega
    .split at a
     .omega
     .split at a
      .omega
      .cases a
def Yp(r:Int)(w:World)(g:TypeId)(d:Nat×Nat)(a:w.heap[11]? =some (.cells tX g d)):
  Calls prog 243 #[.int .i32 r] w λe c=>e= .returned (.bool<|decide ((dV r).1=1))/\Below w.heap.size w c:=by
 have i:Hid (Calls prog 265 #[.int .i32 r,.int .i64 0] w λe c=>e= .returned (.bool<|decide ((dV r).1=1))/\Below w.heap.size w c):=by rw[<-amQ];exact amN r w g d a
 clear a;generalize decide ((dV r).1=1)=b at*;go_enter func243,ntmps243;go_wp2_with fail;refine i.out.mono ?_;rintro j k ⟨rfl,f⟩;have h:=ah f;clear f;go_wp2;go_ret;exact⟨rfl,h.out⟩
def sy(r:Int)(w:World)(g:TypeId)(d:Nat×Nat)(a:w.heap[11]? =some (.cells tX g d)):
  Calls prog 245 #[.int .i32 r] w λe c=>e= .returned (.bool<|decide ((dV r).1=2))/\Below w.heap.size w c:=by
 have i:Hid (Calls prog 265 #[.int .i32 r,.int .i64 1] w λe c=>e= .returned (.bool<|decide ((dV r).1=2))/\Below w.heap.size w c):=by rw[<-amP];exact amO r w g d a
 clear a;generalize decide ((dV r).1=2)=b at*;go_enter func245,ntmps245;go_wp2_with fail;refine i.out.mono ?_;rintro j k ⟨rfl,f⟩;have h:=ah f;clear f;go_wp2;go_ret;exact⟨rfl,h.out⟩
def Cu(x y:Int):Bool:=(x==40&&y==41)||((x==91&&y==93)||((x==123&&y==125)||(x==12296&&y==12297)))
def ak0 {a r:Int}(b:(dV a).1=1)(c:(dV r).1=2):Cu (canon a) (canon r)=decide ((dV a).2=(dV r).2):=by
 unfold dV at*;generalize canon a=x at*;generalize canon r=y at*;by_cases hx:x=40∨x=91∨x=123∨x=12296
 .rw[aj hx];by_cases d:y=40∨y=91∨y=123∨y=12296
  .rw[aj d]at c;cases c
  .rw[ai d]at c ⊢;by_cases e:y=41
   .subst e;unfold Cu;rcases hx with rfl|rfl|rfl|rfl<;>decide
   .rw[ai e]at c ⊢;by_cases f:y=93
    .subst f;unfold Cu;rcases hx with rfl|rfl|rfl|rfl<;>decide
    .rw[ai f]at c ⊢;by_cases g:y=125
     .subst g;unfold Cu;rcases hx with rfl|rfl|rfl|rfl<;>decide
     .rw[ai g]at c ⊢;by_cases h:y=12297
      .subst h;unfold Cu;rcases hx with rfl|rfl|rfl|rfl<;>decide
      .rw[ai h]at c;cases c
 .rw[ai hx]at b;exfalso;split at b
  .cases b
  .split at b
   .cases b
   .split at b
    .cases b
    .split at b<;>cases b
def E7(b:List Int)(c:List Nat):Prop:=∀a∈c,(dV<|b.getD a 0).1=1
def E7.step {t d:List Int}{i:Nat}{x y:List Nat×List (Nat×Nat)}(h:E7 d x.1)(b:o6 t d i x=some y):E7 d y.1:=by
 unfold o6 at b;split at b
 .split at b
  .split at b
   .cases b
   .obtain rfl:=aJ b;intro a c;simp at c;rcases c with c|rfl
    .exact h a c
    .assumption
  .split at b
   .split at b
    .obtain rfl:=aJ b;exact λa c=>h a<|NM c
    .obtain rfl:=aJ b;exact h
   .obtain rfl:=aJ b;exact h
 .obtain rfl:=aJ b;exact h
def MB {t a:List Int}{n i:Nat}{x y:List Nat×List (Nat×Nat)}(h:o6 t a i x=some y):dL t a (n+1) i x=dL t a n (i+1) y:=by
 rw[dL,h]
def aoz {t a:List Int}{n i:Nat}{x:List Nat×List (Nat×Nat)}(h:o6 t a i x=none):dL t a (n+1) i x=none:=by
 rw[dL,h]
