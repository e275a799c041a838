import Derived.Test.YtkbinfhclaafhaaGreatDoorP23
namespace Go.Proofs.YtkbinfhclaafhaaGreatDoor
open Go.RowKit
open Go.Proofs.Tryz
set_option maxRecDepth 100000
set_option maxHeartbeats 32000000
set_option linter.all false
def KC(l:List PR)(t:PR):jR (l++[t])=jR l++[.int .i64 t.line,.int .i64 t.kind,.int .i64 t.from_,.int .i64 t.dH,.int .i64 t.body,.int .i64 t.end_]:=by simp[jR]
def aj6(s:ByteArray)(a:s.size<=600):(fK s (dD s 0) 0 0).length<=600:=by
 have h:=MF s;unfold fD at h;rw[aj a]at h;rw[<-P9];exact h
def MD(s:ByteArray)(a:s.size<=600):fD s=fK s (dD s 0) 0 0:=by
 unfold fD;rw[aj a];exact P9 s
def Qw {p b a:Nat}(h:b<=a):b<=wi p b a/\wi p b a<=a:=by
 unfold wi;split
 .omega
 .split<;>omega
def TC.drop {s:ByteArray}:∀{l:List Tk}{p:Nat}(i:Nat),TC s p l->∃q,p<=q/\TC s q (l.drop i)
 |l,p,0,h=>⟨p,au _,h⟩
 |[],p,i+1,_=>⟨p,au _,by simp[TC]⟩
 |t::ts,p,i+1,h=>by
  obtain⟨c,d,e,f,g,a⟩:=h;obtain⟨q,j,b⟩:=TC.drop i a;exact⟨q,by omega,b⟩
def Tryz.Na:(prog.info? 83).map (λi=>(i.zero,i.size,i.bytes))=some (some (.agg #[.int .i64 0,.int .i64 0,.int .i64 0,.int .i64 0,.int .i64 0,.int .i64 0]),6,48):=by kernel_rfl
def KB(s:ByteArray):List PR:=if s.size<=600 then fK s (dD s 0) 0 0 else []
def aj7(s:ByteArray):KB s=fD s:=by
 unfold KB;split
 .rename_i h;exact(MD s h).symm
 .rename_i h;unfold fD;rw[ai h]
structure sB(s:ByteArray)(all:List PR)(o:List PR)(t:Tk)(ts:List Tk)(ln bg fr p:Nat):Prop where
 SY:bg<=t.T
 PF:ln<=bg
 go:p<=t.T->bg<=fr/\fr<=p/\o++(lT s t.k t.T t.B t.E ln bg fr p++fK s ts (jt s t.T ln bg p).1 (jt s t.T ln bg p).2)=all
 done:¬p<=t.T->o++fK s ts ln bg=all
section
variable{s:ByteArray}{all o:List PR}{t:Tk}{ts:List Tk}{ln bg fr p:Nat}
def sB.start(h:o++fK s (t::ts) ln bg=all)(a:bg<=t.F)(hF:t.F<t.T)(b:ln<=bg):sB s all o t ts ln bg t.F t.F:=
 ⟨by omega,b,λ_=>⟨a,au _,h⟩,λc=>absurd (gF hF) c⟩
def sB.step(h:sB s all o t ts ln bg fr p)(a:p<t.T)(c:¬bt s p=10):sB s all o t ts ln bg fr (p+1):=by
 obtain⟨d,f,b⟩:=h.go (by omega);rw[Bx a c,Ct a c]at b;exact⟨h.SY,h.PF,λ_=>⟨d,by omega,b⟩,λe=>absurd a e⟩
def sB.feed(h:sB s all o t ts ln bg fr p)(a:p<t.T)(c:bt s p=10):sB s all (o++ey ln t.k bg fr p t.B t.E) t ts (ln+1) (p+1) (p+1) (p+1):=by
 obtain⟨e,f,b⟩:=h.go (by omega);rw[Ge a c,Hs a c]at b;have:=h.PF;exact⟨a,by omega,λ_=>⟨au _,au _,by rw[<-b];simp only[dO]⟩,λd=>absurd a d⟩
def sB.stop(h:sB s all o t ts ln bg fr p)(e:p=t.T):sB s all (o++ey ln t.k bg fr p t.B t.E) t ts ln bg fr (p+1):=by
 obtain⟨b,c,a⟩:=h.go (by omega);rw[Bw<|by omega,Hr<|by omega]at a;exact⟨h.SY,h.PF,λd=>by omega,λ_=>by rw[<-a];simp only[dO]⟩
def sB.len(h:sB s all o t ts ln bg fr p):o.length<=all.length:=by
 by_cases a:p<=t.T
 .rw[<-(h.go a).2.2];simp
 .rw[<-h.done a];simp
end
def FQ {c k b a p B E:Nat}(h:¬a<p):ey c k b a p B E=[]:=ai h
def FK {d k a b p B E:Nat}(h:b<p)(c:k=0):ey d k a b p B E=[⟨d,k,b - a,p - a,0,0⟩]:=by unfold ey;rw[aj h,aj c,aj c]
def F8 {ln k bg a p B E:Nat}(h:a<p)(b:k≠0):ey ln k bg a p B E=[⟨ln,k,a - bg,p - bg,wi B a p - bg,wi E a p - bg⟩]:=by unfold ey;rw[aj h,ai b,ai b]
def arM {w:World}{B g a:Nat}{l:List Tk}{e:TypeId}(h:w.ownsRow B e 5 (.slice (some ⟨g,0,none⟩) l.length a) l.length<|lU l)(i:Nat)(b:i<l.length):w.cell? ⟨g,i*5,none⟩=some (.int .i64 l[i].k)/\w.cell? ⟨g,i*5+1,none⟩=some (.int .i64 l[i].F)/\w.cell? ⟨g,i*5+2,none⟩=some (.int .i64 l[i].T)/\w.cell? ⟨g,i*5+3,none⟩=some (.int .i64 l[i].B)/\w.cell? ⟨g,i*5+4,none⟩=some (.int .i64 l[i].E):=by
 obtain⟨c,d,f,j,m⟩:=XB l i b;exact⟨by rw[di h (i*5)<|by omega];exact c,by rw[di h (i*5+1)<|by omega];exact d,by rw[di h (i*5+2)<|by omega];exact f,by rw[di h (i*5+3)<|by omega];exact j,by rw[di h (i*5+4)<|by omega];exact m⟩
def Qp {W j:World}{B b:Nat}{e:TypeId}{z n:Nat}{v:Value}{r:List Value}{c:Array Value}{T:TypeId}{o:Obj}{f:Nat×Nat}(q:W.ownsRow B e z v n r)(a:W.heap[b]? =some (.cells c T f))(m:T≠e)(p:(W.alloc o).grownBy j v.ownBlock):j.heap[b]? =some (.cells c T f):=by
 have i:b<W.heap.size:=bS a;rw[p.block b (by simp;omega) λh=> ?_]
 .exact(dw _ _ _ i).trans a
 .rcases q.2 with⟨rfl,_⟩|⟨g,k,l,rfl,_,d,_⟩
  .simp[Value.ownBlock]at h
  .simp only[Value.ownBlock,Cj]at h;subst h;rw[a]at d;simp only[Cj,Obj.cells.injEq]at d;exact m d.2.1
def apH(s:ByteArray)(w:World):Calls prog 50 #[.string s] w λe w'=>∃v,e= .returned v/\w'.ownsRow w.heap.size 83 6 v (KB s).length (jR<|KB s)/\Below w.heap.size w w':=by
 unfold KB;by_cases hz:s.size<=600;case neg=>
  rw[ai hz];have ay:(s.size:Int)>600:=by omega
  clear hz;go_enter func50,ntmps50;go_wp2;go_ret;exact⟨_,rfl,gQ _ _ _ _,aA _ _⟩
 case pos=>
  rw[aj hz];have ay:¬(s.size:Int)>600:=by omega
  obtain⟨iT,uZ,zN⟩:∃i,prog.info? 83=some i/\(i.zero,i.size,i.bytes)=(some (.agg #[.int .i64 0,.int .i64 0,.int .i64 0,.int .i64 0,.int .i64 0,.int .i64 0]),6,48):=by simpa using Tryz.Na
  simp only[NT]at zN;obtain⟨vq,vw,vz⟩:=zN;have Q9:=ah<|aj6 s hz;have RO:=ah<|Z4 s 0;have p7:=arG s w (by omega);obtain⟨J,ak⟩:=ac<|dD s 0;rw[<-ak]at Q9 RO p7 ⊢;clear ak;obtain⟨R,h⟩:=ac<|fK s J 0 0;have M6:=ah h.symm;rw[<-h]at Q9 ⊢;clear h;have ax:=RO.out.len;go_enter func50,ntmps50;go_wp2_with fail;refine p7.mono ?_;clear p7;rintro ev r ⟨tv,rfl,m,S⟩;obtain⟨ta,tc,rfl⟩:=iA m;have BX:=ah m;have aD:=ah S;have al:=S.size;clear m S;obtain⟨n,hn⟩:=ac J.length;rw[<-hn]at BX ax ⊢;have HN:=ah hn;clear hn;go_wp2;go_loopg [3,5,6,7,8,9,10,11] n (λgk ov lv bv iv _ _ _ _ W=>∃(i f g:Nat)(o:List PR),i<=n/\gk=n - i/\iv= .int .i64 i/\lv= .int .i64 f/\bv= .int .i64 g/\f<=g/\TC s g (J.drop i)/\o++fK s (J.drop i) f g=R/\W.ownsRow r.heap.size 83 6 ov o.length (jR o)/\Below r.heap.size r W);exact⟨0,0,0,[],by omega,rfl,rfl,rfl,rfl,by omega,RO.out,M6.out,gQ _ _ _ _,aA _ _⟩
  rename World=>wo
  obtain⟨i,f,g,o,hi,rfl,rfl,rfl,rfl,ad,Bf,h,a,G⟩:=hrel;obtain⟨oa,oc,rfl⟩:=iA a;by_cases aw:i<n
  .have T:i<J.length:=(by rw[<-HN.out];exact aw);have m:=iZ BX.out G;obtain⟨tg,aE,ag,aJ,_,aF⟩:=nC m (by omega);simp only[pJ,oC]at ag;obtain⟨rfl,rfl⟩:=ag;have af:=arM (by rw[HN.out]at m;exact m) i T;have ab:J.drop i=J[i]::J.drop (i+1):=kO T;rw[ab]at Bf h;generalize J[i]=t at*;obtain⟨q,tF,A,k,l⟩:=t;simp only at af;obtain⟨r0,r1,r2,r3,r4⟩:=af;obtain⟨h1,h2,h3,h4,h5,h6⟩:=Bf;simp only at h1 h2 h3 h4 h5 h6;have am:=ah h6;obtain⟨XD,Vc⟩:=ac<|J.drop<|i+1;have an:=ah Vc;rw[<-Vc]at h;have HP:=ah<|sB.start h h1 h2 ad;have HB:=ah G;have M:=ah a;have z:=G.size;have av:(i:Int)<(n:Int):=(by omega);clear ab h6 Vc h a G m T;go_wp2;go_loopg [3,5,6,9,10,11] (s.size+1 - tF) (λgk ov lv bv fv pv _ W=>∃(f g d p:Nat)(o:List PR),p<=A+1/\gk=s.size+1 - p/\lv= .int .i64 f/\bv= .int .i64 g/\fv= .int .i64 d/\pv= .int .i64 p/\sB s R o ⟨q,tF,A,k,l⟩ XD f g d p/\d<=A/\W.ownsRow r.heap.size 83 6 ov o.length (jR o)/\Below r.heap.size r W/\W.heap[wo.heap.size]? =some (.cells #[.int .i64 q,.int .i64 tF,.int .i64 A,.int .i64 k,.int .i64 l] 125 (0,0)));exact⟨f,g,tF,tF,o,by omega,rfl,rfl,rfl,rfl,rfl,HP.out,by omega,kT M.out _,HB.out.alloc z _,World.alloc_heap_new _ _⟩
   rename World=>wq
   clear M HB HP r0 r1 r2 r3 r4 ad;obtain⟨f,g,d,p,o,hp,rfl,rfl,rfl,rfl,rfl,O,aK,a,G,K⟩:=hrel;obtain⟨qa,qc,rfl⟩:=iA a;have aL:=O.len;have aH:=Q9.out;have P:=ah O;have N:=ah G;have Q:=ah K;have ar:=O.SY;have ao:=O.PF;have z:=G.size;have aM:wo.heap.size<wq.heap.size:=bS K;have c0:=cell_of K 0;have c1:=cell_of K 1;have c2:=cell_of K 2;have c3:=cell_of K 3;have c4:=cell_of K 4;simp only[lI,p8,l6]at c0 c1 c2 c3 c4;by_cases aa:p<=A
   .obtain⟨C,L,_⟩:=O.go aa;have ap:(p:Int)<=(A:Int):=(by omega);clear O G K;by_cases Pn:p<A
    .have ae:p<s.size:=(by omega);have aq:(p:Int)<(A:Int):=(by omega);have sS:=oM ae;obtain⟨c,hc⟩:∃c,s[p]'ae=c:=⟨_,rfl⟩
     rw[hc]at sS;have aC:(p:Int)<(s.size:Int):=(by omega);by_cases u:bt s p=10
     .have Ep:(c.toNat:Int)=10:=(by rw[<-sS,u]);have Am:=ah u;clear sS u;have u:=Am;by_cases Z:d<p
      .by_cases U:q=0
       .have Lh:(p:Int)>(d:Int):=(by omega);have V:¬(q:Int)>0:=(by omega);have HK:=ah U;clear U;go_wp2_with(at_builtin;refine Ey _ rfl _ _ 80 rfl r.heap.size 83 iT _ 6 48 underlying80 uZ vq vw vz rfl (by decide) (by decide) _ _ _ rfl (kT a _) [_,_,_,_,_,_] _ _ rfl (by simp) rfl (by simp[Value.oneCell']) (by omega) (by simp;omega) ?_);intro v2 H b j;have x:=Qp a Q.out (by decide) j;have D:Hid (Below r.heap.size r H):=(N.out.alloc z _).grown j (by simp;omega) (λy Y=>(a.lt y Y).1);have d2:=cell_of x 2;simp only[lI,p8,l6]at d2;have I:=ah x;have F:Hid (H.ownsRow r.heap.size 83 6 v2 (o++ey f q g d p k l).length (jR<|o++ey f q g d p k l)):=by
         show World.ownsRow _ _ _ _ _ _ _;rw[FK Z HK.out,KC,bH];simp only[zg C,zg<|bP C L,Int.ofNat_zero];exact b
        clear b j x;go_wp2;go_roundg (s.size+1 - (p+1));exact⟨f+1,p+1,p+1,p+1,o++ey f q g d p k l,by omega,rfl,by go_num,by go_num,by go_num,by go_num,P.out.feed Pn Am.out,by omega,F.out,D.out,I.out⟩;omega
       .have Lh:(p:Int)>(d:Int):=(by omega);have V:(q:Int)>0:=(by omega);have RV:Hid _:=Qx k d p;have RY:Hid _:=Qx l d p;have X:=Qw (p:=k) L;have LZ:=Qw (p:=l) L;have Jl:=F8 (ln:=f) (bg:=g) (B:=k) (E:=l) Z U;generalize wi k d p=wb at*;generalize wi l d p=we at*;obtain⟨XY,az⟩:=X;obtain⟨XZ,aB⟩:=LZ;have QY:Hid _:=Jl;clear Jl;go_wp2_with fail;refine(RV.out _).mono ?_;rintro ev wx ⟨rfl,rfl⟩;go_wp2_with fail;refine(RY.out _).mono ?_;rintro ev wx ⟨rfl,rfl⟩;go_wp2_with(at_builtin;refine Ey _ rfl _ _ 80 rfl r.heap.size 83 iT _ 6 48 underlying80 uZ vq vw vz rfl (by decide) (by decide) _ _ _ rfl (kT a _) [_,_,_,_,_,_] _ _ rfl (by simp) rfl (by simp[Value.oneCell']) (by omega) (by simp;omega) ?_);intro v2 H b j;have x:=Qp a Q.out (by decide) j;have D:Hid (Below r.heap.size r H):=(N.out.alloc z _).grown j (by simp;omega) (λy Y=>(a.lt y Y).1);have d2:=cell_of x 2;simp only[lI,p8,l6]at d2;have I:=ah x;have F:Hid (H.ownsRow r.heap.size 83 6 v2 (o++ey f q g d p k l).length (jR<|o++ey f q g d p k l)):=by
         show World.ownsRow _ _ _ _ _ _ _;rw[QY.out,KC,bH];simp only[zg C,zg<|bP C L,zg<|bP C XY,zg<|bP C XZ];exact b
        clear b j x;go_wp2;go_roundg (s.size+1 - (p+1));exact⟨f+1,p+1,p+1,p+1,o++ey f q g d p k l,by omega,rfl,by go_num,by go_num,by go_num,by go_num,P.out.feed Pn Am.out,by omega,F.out,D.out,I.out⟩;omega
      .have Lh:¬(p:Int)>(d:Int):=(by omega);have F:Hid (wq.ownsRow r.heap.size 83 6 (.slice qa o.length qc) (o++ey f q g d p k l).length (jR<|o++ey f q g d p k l)):=by
        show World.ownsRow _ _ _ _ _ _ _;rw[FQ Z,l5];exact a
       have D:Hid _:=N.out;have I:Hid _:=Q.out;clear a;go_wp2;go_roundg (s.size+1 - (p+1));exact⟨f+1,p+1,p+1,p+1,o++ey f q g d p k l,by omega,rfl,by go_num,by go_num,by go_num,by go_num,P.out.feed Pn Am.out,by omega,F.out,D.out,I.out⟩;omega
     .have Ep:((c.toNat:Int)==10)=false:=(by rw[sS]at u;simpa using u);have aG:((c.toNat:Int) !=10)=true:=(by rw[sS]at u;simpa using u);have M:=ah a;have Am:=ah u;clear sS u a;go_wp2;go_roundg (s.size+1 - (p+1));exact⟨f,g,d,p+1,o,by omega,rfl,rfl,rfl,rfl,by go_num,P.out.step Pn Am.out,by omega,M.out,N.out,Q.out⟩;omega
    .have Rl:Hid (p=A):=(by show p=A;omega);have aq:¬(p:Int)<(A:Int):=(by omega);by_cases Z:d<p
     .by_cases U:q=0
      .have Lh:(p:Int)>(d:Int):=(by omega);have V:¬(q:Int)>0:=(by omega);have HK:=ah U;clear U;go_wp2_with(at_builtin;refine Ey _ rfl _ _ 80 rfl r.heap.size 83 iT _ 6 48 underlying80 uZ vq vw vz rfl (by decide) (by decide) _ _ _ rfl (kT a _) [_,_,_,_,_,_] _ _ rfl (by simp) rfl (by simp[Value.oneCell']) (by omega) (by simp;omega) ?_);intro v2 H b j;have x:=Qp a Q.out (by decide) j;have D:Hid (Below r.heap.size r H):=(N.out.alloc z _).grown j (by simp;omega) (λy Y=>(a.lt y Y).1);have d2:=cell_of x 2;simp only[lI,p8,l6]at d2;have I:=ah x;have F:Hid (H.ownsRow r.heap.size 83 6 v2 (o++ey f q g d p k l).length (jR<|o++ey f q g d p k l)):=by
        show World.ownsRow _ _ _ _ _ _ _;rw[FK Z HK.out,KC,bH];simp only[zg C,zg<|bP C L,Int.ofNat_zero];exact b
       clear b j x;go_wp2;go_roundg (s.size+1 - (p+1));exact⟨f,g,d,p+1,o++ey f q g d p k l,by omega,rfl,rfl,rfl,rfl,by go_num,P.out.stop Rl.out,by omega,F.out,D.out,I.out⟩;omega
      .have Lh:(p:Int)>(d:Int):=(by omega);have V:(q:Int)>0:=(by omega);have RV:Hid _:=Qx k d p;have RY:Hid _:=Qx l d p;have X:=Qw (p:=k) L;have LZ:=Qw (p:=l) L;have Jl:=F8 (ln:=f) (bg:=g) (B:=k) (E:=l) Z U;generalize wi k d p=wb at*;generalize wi l d p=we at*;obtain⟨XY,az⟩:=X;obtain⟨XZ,aB⟩:=LZ;have QY:Hid _:=Jl;clear Jl;go_wp2_with fail;refine(RV.out _).mono ?_;rintro ev wx ⟨rfl,rfl⟩;go_wp2_with fail;refine(RY.out _).mono ?_;rintro ev wx ⟨rfl,rfl⟩;go_wp2_with(at_builtin;refine Ey _ rfl _ _ 80 rfl r.heap.size 83 iT _ 6 48 underlying80 uZ vq vw vz rfl (by decide) (by decide) _ _ _ rfl (kT a _) [_,_,_,_,_,_] _ _ rfl (by simp) rfl (by simp[Value.oneCell']) (by omega) (by simp;omega) ?_);intro v2 H b j;have x:=Qp a Q.out (by decide) j;have D:Hid (Below r.heap.size r H):=(N.out.alloc z _).grown j (by simp;omega) (λy Y=>(a.lt y Y).1);have d2:=cell_of x 2;simp only[lI,p8,l6]at d2;have I:=ah x;have F:Hid (H.ownsRow r.heap.size 83 6 v2 (o++ey f q g d p k l).length (jR<|o++ey f q g d p k l)):=by
        show World.ownsRow _ _ _ _ _ _ _;rw[QY.out,KC,bH];simp only[zg C,zg<|bP C L,zg<|bP C XY,zg<|bP C XZ];exact b
       clear b j x;go_wp2;go_roundg (s.size+1 - (p+1));exact⟨f,g,d,p+1,o++ey f q g d p k l,by omega,rfl,rfl,rfl,rfl,by go_num,P.out.stop Rl.out,by omega,F.out,D.out,I.out⟩;omega
     .have Lh:¬(p:Int)>(d:Int):=(by omega);have F:Hid (wq.ownsRow r.heap.size 83 6 (.slice qa o.length qc) (o++ey f q g d p k l).length (jR<|o++ey f q g d p k l)):=by
       show World.ownsRow _ _ _ _ _ _ _;rw[FQ Z,l5];exact a
      have D:Hid _:=N.out;have I:Hid _:=Q.out;clear a;go_wp2;go_roundg (s.size+1 - (p+1));exact⟨f,g,d,p+1,o++ey f q g d p k l,by omega,rfl,rfl,rfl,rfl,by go_num,P.out.stop Rl.out,by omega,F.out,D.out,I.out⟩;omega
   .have ap:¬(p:Int)<=(A:Int):=(by omega);have M:=ah a;have HD:=ah<|O.done aa;clear O G K a c0 c1 c3 c4;go_wp2;go_roundg (n - (i+1));exact⟨i+1,f,g,o,by omega,rfl,by go_num,rfl,rfl,ao,am.out.mono ar,by rw[<-an.out];exact HD.out,M.out,N.out⟩;omega
  .obtain rfl:i=n:=(by omega);have av:¬(i:Int)<(i:Int):=(by omega);have ho:o=R:=(by rw[<-h,rV<|by rw[HN.out];exact au _,fK,l5]);subst ho;have HB:=ah G;have M:=ah a;clear a G Bf h M6;go_wp2;go_ret;exact⟨_,rfl,Ek M.out al,aD.out.trans<|HB.out.mono al⟩
def aj8:∀(l:List PR)(i:Nat)(b:i<l.length),(jR l)[i*6]? =some (.int .i64 l[i].line)/\(jR l)[i*6+1]? =some (.int .i64 l[i].kind)/\(jR l)[i*6+2]? =some (.int .i64 l[i].from_)/\(jR l)[i*6+3]? =some (.int .i64 l[i].dH)/\(jR l)[i*6+4]? =some (.int .i64 l[i].body)/\(jR l)[i*6+5]? =some (.int .i64 l[i].end_):=by
 intro l
 induction l with
 |nil=>intro i b;simp at b
 |cons a l ih=>
  intro i b;have e:jR (a::l)=[.int .i64 a.line,.int .i64 a.kind,.int .i64 a.from_,.int .i64 a.dH,.int .i64 a.body,.int .i64 a.end_]++jR l:=by simp[jR]
  cases i with
  |zero=>rw[e];simp
  |succ i=>
   have:=ih i (by simpa using b);rw[e,show(i+1)*6=i*6+6 by omega];simpa using this
def aoR:∀(l:List PR)(i:Nat)(b:i<l.length),(rN l)[i*5]? =some (.int .i64 l[i].kind)/\(rN l)[i*5+1]? =some (.int .i64 l[i].from_)/\(rN l)[i*5+2]? =some (.int .i64 l[i].dH)/\(rN l)[i*5+3]? =some (.int .i64 l[i].body)/\(rN l)[i*5+4]? =some (.int .i64 l[i].end_):=by
 intro l
 induction l with
 |nil=>intro i b;simp at b
 |cons a l ih=>
  intro i b;have e:rN (a::l)=[.int .i64 a.kind,.int .i64 a.from_,.int .i64 a.dH,.int .i64 a.body,.int .i64 a.end_]++rN l:=by simp[rN,tq]
  cases i with
  |zero=>rw[e];simp
  |succ i=>
   have:=ih i (by simpa using b);rw[e,show(i+1)*5=i*5+5 by omega];simpa using this
def C9(w:World)(g:Nat)(l:List PR):Prop:=∀i (a:i<l.length),w.cell? ⟨g,i*6,none⟩=some (.int .i64 l[i].line)/\w.cell? ⟨g,i*6+1,none⟩=some (.int .i64 l[i].kind)/\w.cell? ⟨g,i*6+2,none⟩=some (.int .i64 l[i].from_)/\w.cell? ⟨g,i*6+3,none⟩=some (.int .i64 l[i].dH)/\w.cell? ⟨g,i*6+4,none⟩=some (.int .i64 l[i].body)/\w.cell? ⟨g,i*6+5,none⟩=some (.int .i64 l[i].end_)
def Kg(w:World)(g:Nat)(l:List PR):Prop:=∀i (a:i<l.length),w.cell? ⟨g,i*5,none⟩=some (.int .i64 l[i].kind)/\w.cell? ⟨g,i*5+1,none⟩=some (.int .i64 l[i].from_)/\w.cell? ⟨g,i*5+2,none⟩=some (.int .i64 l[i].dH)/\w.cell? ⟨g,i*5+3,none⟩=some (.int .i64 l[i].body)/\w.cell? ⟨g,i*5+4,none⟩=some (.int .i64 l[i].end_)
def Sg(w:World)(g:Nat)(l:List PR):Prop:=∀i (a:i<l.length),w.cell? ⟨g,i,none⟩=some (.int .i64 l[i].line)
def aj4 {w:World}{B g a n:Nat}{l:List PR}{e:TypeId}(h:w.ownsRow B e 6 (.slice (some ⟨g,0,none⟩) n a) n<|jR l)(o:n=l.length):C9 w g l:=by
 intro i b;obtain⟨c,d,f,j,k,m⟩:=aj8 l i b;exact⟨by rw[di h (i*6)<|by omega];exact c,by rw[di h (i*6+1)<|by omega];exact d,by rw[di h (i*6+2)<|by omega];exact f,by rw[di h (i*6+3)<|by omega];exact j,by rw[di h (i*6+4)<|by omega];exact k,by rw[di h (i*6+5)<|by omega];exact m⟩
def aoO {w:World}{B g a n:Nat}{l:List PR}{e:TypeId}(h:w.ownsRow B e 5 (.slice (some ⟨g,0,none⟩) n a) n<|rN l)(m:n=l.length):Kg w g l:=by
 intro i b;obtain⟨c,d,f,j,k⟩:=aoR l i b;exact⟨by rw[di h (i*5)<|by omega];exact c,by rw[di h (i*5+1)<|by omega];exact d,by rw[di h (i*5+2)<|by omega];exact f,by rw[di h (i*5+3)<|by omega];exact j,by rw[di h (i*5+4)<|by omega];exact k⟩
def C9.take {w:World}{g:Nat}{l:List PR}(h:C9 w g l)(m:Nat):C9 w g (l.take m):=by
 intro i b;have a:i<l.length:=by simp at b;omega
 have:=h i a;simpa using this
def C9.below {w b:World}{g:Nat}{l:List PR}(h:C9 w g l)(a:Below w.heap.size w b):C9 b g l:=by
 intro i c;obtain⟨d,e,f,j,k,m⟩:=h i c;exact⟨eu a d,eu a e,eu a f,eu a j,eu a k,eu a m⟩
def Kg.below {w b:World}{g:Nat}{l:List PR}(h:Kg w g l)(a:Below w.heap.size w b):Kg b g l:=by
 intro i c;obtain⟨d,e,f,j,k⟩:=h i c;exact⟨eu a d,eu a e,eu a f,eu a j,eu a k⟩
def Sg.below {w a:World}{g:Nat}{l:List PR}(h:Sg w g l)(b:Below w.heap.size w a):Sg a g l:=λi c=>eu b<|h i c
def aR(s:ByteArray)(a i:Nat):List ByteArray:=
 if i<s.size then if bt s i=10 then s.extract a i::aR s (i+1) (i+1)else aR s a (i+1)else [s.extract a i]
termination_by s.size - i
def VQ {s:ByteArray}{a i:Nat}(h:i<s.size)(b:bt s i=10):aR s a i=s.extract a i::aR s (i+1) (i+1):=by rw[aR,aj h,aj b]
def VP {s:ByteArray}{a i:Nat}(h:i<s.size)(b:¬bt s i=10):aR s a i=aR s a (i+1):=by rw[aR,aj h,ai b]
def aee {s:ByteArray}{a i:Nat}(h:¬i<s.size):aR s a i=[s.extract a i]:=by rw[aR,ai h]
def ID(s:ByteArray)(a i:Nat)(h:i<=s.size):(aR s a i).length<=s.size+1 - i:=by
 fun_induction aR s a i with
 |case1 a i b c ih=>have:=ih (by omega);simp only[eJ];omega
 |case2 a i b c ih=>have:=ih (by omega);omega
 |case3 a i b=>simp only[eJ,jZ];omega
def iX(l:List ByteArray):List Value:=l.map λx=> .string x
def aef(l:List ByteArray)(x:ByteArray):iX (l++[x])=iX l++[.string x]:=by simp[iX]
def Tryz.amK:(prog.info? 9).map (λi=>(i.zero,i.size,i.bytes))=some (some (.string ⟨#[]⟩),1,16):=by kernel_rfl
def anA {w:World}{B:Nat}{e:TypeId}{z n:Nat}{v:Value}{d:List Value}(h:w.ownsRow B e z v n d):∃a b,v= .slice a n b:=by
 rcases h.2 with⟨rfl,rfl⟩|⟨g,b,c,rfl,_⟩
 .exact⟨none,0,rfl⟩
 .exact⟨_,b,rfl⟩
def afv(s:ByteArray)(w:World)(hz:s.size<=900000):Calls prog 23 #[.string s] w λe O=>∃v,e= .returned v/\O.ownsRow w.heap.size 9 1 v (aR s 0 0).length (iX<|aR s 0 0)/\Below w.heap.size w O:=by
 obtain⟨J,K,P⟩:∃i,prog.info? 9=some i/\(i.zero,i.size,i.bytes)=(some (.string ⟨#[]⟩),1,16):=by simpa using Tryz.amK
 simp only[NT]at P;obtain⟨L,M,N⟩:=P;obtain⟨R,z⟩:=ac<|aR s 0 0;rw[<-z];have I:=ah z;clear z;go_enter func23,ntmps23;go_wp2;go_loopg [3,4,5] (s.size+1) (λgk Y U Z W=>∃(l:List ByteArray)(j p:Nat),p<=s.size+1/\gk=s.size+1 - p/\l.length<=p/\j<=p/\U= .int .i64 j/\Z= .int .i64 p/\(p<=s.size->l++aR s j p=R)/\(p=s.size+1->l=R)/\W.ownsRow w.heap.size 9 1 Y l.length (iX l)/\Below w.heap.size w W);exact⟨[],0,0,by omega,rfl,by simp,by omega,rfl,rfl,λ_=>I.out.symm,λh=>by omega,gQ _ _ _ _,aA _ _⟩;obtain⟨l,j,p,hp,rfl,Lq,rJ,rfl,rfl,C,B,a,A⟩:=hrel;obtain⟨qa,qc,rfl⟩:=anA a;have o:=ah A;have k:=A.size;clear A;by_cases D:p<=s.size
 .have F:(p:Int)<=(s.size:Int):=by omega
  have r:=ah<|C D;clear C B;by_cases g:p<s.size
  .have X:((p:Int)==(s.size:Int))=false:=(by simp;omega);have T:(p:Int)<(s.size:Int):=(by omega);have m:=oM g;obtain⟨c,V⟩:∃c,s[p]'g=c:=⟨_,rfl⟩
   rw[V]at m;by_cases d:bt s p=10
   .have Q:(c.toNat:Int)=10:=(by rw[<-m,d]);have q:=ah d;clear m d;go_wp2_with(at_builtin;refine qK _ rfl _ _ 42 rfl w.heap.size 9 J (.string ⟨#[]⟩) 16 underlying42 K L M N rfl (by decide) _ _ _ rfl a _ _ rfl rfl (by omega) k ?_);intro H n b f;have u:Hid (Below w.heap.size w n):=o.out.grown f k (λy G=>(a.lt y G).1);have x:Hid (n.ownsRow w.heap.size 9 1 H (l.length+1)<|iX<|l++[s.extract j p]):=by
     show World.ownsRow _ _ _ _ _ _ _;rw[aef];exact b
    clear a b f;go_wp2;go_roundg (s.size+1 - (p+1));exact⟨l++[s.extract j p],p+1,p+1,by omega,rfl,by simp;omega,by omega,by go_num,by go_num,λ_=>by rw[<-r.out,VQ g q.out,dO];rfl,λh=>by omega,by simpa using x.out,u.out⟩;omega
   .have Q:((c.toNat:Int)==10)=false:=(by rw[m]at d;simpa using d);have q:=ah d;have t:=ah a;clear m d a;go_wp2;go_roundg (s.size+1 - (p+1));exact⟨l,j,p+1,by omega,rfl,by omega,by omega,rfl,by go_num,λ_=>by rw[<-VP g q.out];exact r.out,λh=>by omega,t.out,o.out⟩;omega
  .have E:p=s.size:=(by omega);subst E;go_wp2_with(at_builtin;refine qK _ rfl _ _ 42 rfl w.heap.size 9 J (.string ⟨#[]⟩) 16 underlying42 K L M N rfl (by decide) _ _ _ rfl a _ _ rfl rfl (by omega) k ?_);intro H n b f;have u:Hid (Below w.heap.size w n):=o.out.grown f k (λy G=>(a.lt y G).1);have x:Hid (n.ownsRow w.heap.size 9 1 H (l.length+1)<|iX<|l++[s.extract j s.size]):=by
    show World.ownsRow _ _ _ _ _ _ _;rw[aef];exact b
   clear a b f;go_wp2;go_roundg (s.size+1 - (s.size+1));exact⟨l++[s.extract j s.size],s.size+1,s.size+1,by omega,rfl,by simp;omega,by omega,by go_num,by go_num,λh=>by omega,λ_=>by rw[<-r.out,aee g],by simpa using x.out,u.out⟩;omega
 .have F:¬(p:Int)<=(s.size:Int):=by omega
  have S:l=R:=B (by omega);subst S;have t:=ah a;clear a C B I;go_wp2;go_ret;exact⟨_,rfl,t.out,o.out⟩
def qL(w:World)(v:Value)(l:List PR):Prop:=∃x c,v= .slice x l.length c/\(0<l.length->∃g,x=some ⟨g,0,none⟩/\l.length<=c/\C9 w g l)
def qL.below {w a:World}{v:Value}{l:List PR}(h:qL w v l)(d:Below w.heap.size w a):qL a v l:=by
 obtain⟨x,c,rfl,h⟩:=h;exact⟨x,c,rfl,λb=>let⟨g,h1,h2,h3⟩:=h b;⟨g,h1,h2,h3.below d⟩⟩
def E3 {w:World}{B:Nat}{e:TypeId}{v:Value}{l:List PR}(h:w.ownsRow B e 6 v l.length<|jR l):qL w v l:=by
 obtain⟨x,c,rfl⟩:=iA h;refine⟨x,c,rfl,λb=> ?_⟩;obtain⟨g,d,a,f,_⟩:=nC h b;simp only[pJ,oC]at a;obtain⟨rfl,rfl⟩:=a;exact⟨g,rfl,f,aj4 h rfl⟩
def jB.form {w:World}{v:Value}{l:List Int}(h:jB w v l):∃x c,v= .slice x l.length c/\(0<l.length->∃b a,x=some ⟨b,a,none⟩/\bI w b a l):=by
 rcases h with⟨rfl,rfl⟩|⟨b,a,d,rfl,e⟩
 .exact⟨none,0,rfl,λh=>absurd h<|by simp⟩
 .exact⟨_,d,rfl,λ_=>⟨b,a,rfl,e⟩⟩
def iy(l:List PR)(a:Nat):List PR:=l.filter λx=>x.line==a
def aod {l:List PR}{line i:Nat}(a:i<l.length):iy (l.take<|i+1) line=iy (l.take i) line++(if l[i].line=line then [l[i]]else []):=by
 rw[pG a];unfold iy;rw[rW];congr 1;by_cases h:l[i].line=line<;>simp[h]
def Wj(l:List PR)(a:Nat):(iy l a).length<=l.length:=Ay _ _
def aoe(l:List PR)(v:Value)(a:Nat)(w:World)(Q:l.length<=600)(R:qL w v l):
  Calls prog 79 #[v,.int .i64 a] w λe H=>∃G,e= .returned G/\H.ownsRow w.heap.size 83 6 G (iy l a).length (jR<|iy l a)/\Below w.heap.size w H:=by
 obtain⟨T,Y,J⟩:∃i,prog.info? 83=some i/\(i.zero,i.size,i.bytes)=(some (.agg #[.int .i64 0,.int .i64 0,.int .i64 0,.int .i64 0,.int .i64 0,.int .i64 0]),6,48):=by simpa using Tryz.Na
 simp only[NT]at J;obtain⟨vq,vw,vz⟩:=J;obtain⟨x,c,rfl,hx⟩:=R;obtain⟨n,z⟩:=ac l.length;have B:=ah z;rw[<-z]at Q hx ⊢;have L:=ah hx;clear z hx;go_enter func79,ntmps79;go_wp2;go_loopg [5,6] n (λgk U N W=>∃(i:Nat),i<=n/\gk=n - i/\N= .int .i64 i/\W.ownsRow w.heap.size 83 6 U (iy (l.take i) a).length (jR<|iy (l.take i) a)/\Below w.heap.size w W);exact⟨0,by omega,rfl,rfl,gQ _ _ _ _,aA _ _⟩;obtain⟨i,hi,rfl,rfl,b,h⟩:=hrel;obtain⟨V,X,rfl⟩:=iA b;have q:=ah h;have j:=h.size;by_cases u:i<n
 .have f:i<l.length:=by rw[<-B.out];exact u
  obtain⟨g,rfl,P,D⟩:=L.out (by omega);obtain⟨d0,d1,d2,d3,d4,d5⟩:=(D.below h) i f;have m:=aod (line:=a) f;have A:(iy (l.take i) a).length<=600:=bP (Wj _ _) (by simp;omega);generalize l[i]=t at*;obtain⟨p,tk,tf,tt,tb,te⟩:=t;simp only at d0 d1 d2 d3 d4 d5 m;obtain⟨o,F⟩:=ac<|iy (l.take i) a;rw[<-F]at m b A ⊢;have C:=ah m;have s:(i:Int)<(n:Int):=by omega
  clear F m h D f;by_cases E:p=a
  .subst E;go_wp2_with(at_builtin;refine Ey _ rfl _ _ 80 rfl w.heap.size 83 T _ 6 48 underlying80 Y vq vw vz rfl (by decide) (by decide) _ _ _ rfl b [_,_,_,_,_,_] _ _ rfl rfl rfl (by simp[Value.oneCell']) (by omega) j ?_);intro Z I d k;have M:Hid (Below w.heap.size w I):=q.out.grown k j (λy S=>(b.lt y S).1);have r:Hid (I.ownsRow w.heap.size 83 6 Z (iy (l.take<|i+1) p).length (jR<|iy (l.take<|i+1) p)):=by
    show World.ownsRow _ _ _ _ _ _ _;rw[C.out,aj trivial,KC,bH];exact d
   clear b d k;go_wp2;go_roundg (n - (i+1));exact⟨i+1,by omega,rfl,by go_num,r.out,M.out⟩;omega
  .have O:((p:Int)==(a:Int))=false:=(by simp;omega);have r:Hid (wr.ownsRow w.heap.size 83 6 (.slice V o.length X) (iy (l.take<|i+1) a).length (jR<|iy (l.take<|i+1) a)):=by
    show World.ownsRow _ _ _ _ _ _ _;rw[C.out,ai E,l5];exact b
   clear b;go_wp2;go_roundg (n - (i+1));exact⟨i+1,by omega,rfl,by go_num,r.out,q.out⟩;omega
 .obtain rfl:i=n:=by omega
  have s:¬(i:Int)<(i:Int):=by omega
  rw[ku<|by rw[B.out];exact au _]at b ⊢;have K:=ah b;clear b h;go_wp2;go_ret;exact⟨_,rfl,K.out,q.out⟩
def wd(r:Int):Nat:=if r<128 then 1 else if r<2048 then 2 else if r<65536 then 3 else 4
def agU(r:Int)(w:World):Calls prog 135 #[.int .i64 r] w λe d=>e= .returned (.int .i64 (wd r:Nat))/\d=w:=by
 unfold wd;by_cases a:r<128
 .rw[aj a];go_enter func135,ntmps135;go_wp2;go_ret;exact⟨rfl,rfl⟩
 .rw[ai a];by_cases b:r<2048
  .rw[aj b];go_enter func135,ntmps135;go_wp2;go_ret;exact⟨rfl,rfl⟩
  .rw[ai b];by_cases c:r<65536
   .rw[aj c];go_enter func135,ntmps135;go_wp2;go_ret;exact⟨rfl,rfl⟩
   .rw[ai c];go_enter func135,ntmps135;go_wp2;go_ret;exact⟨rfl,rfl⟩
def asi(r:Int):wd r<=4/\1<=wd r:=by
 unfold wd;split
 .omega
 .split
  .omega
  .split<;>omega
def dA:Nat->List Int->List Nat
 |p,[]=>[p]
 |p,r::rs=>p::dA (p+wd r) rs
def nv(l:List Nat):List Value:=l.map λx=> .int .i64 (x:Nat)
def VS(l:List Nat)(x:Nat):nv (l++[x])=nv l++[.int .i64 (x:Nat)]:=by simp[nv]
def WC(p:Nat)(a:List Int):(dA p a).length=a.length+1:=by
 induction a generalizing p with
 |nil=>rfl
 |cons r a ih=>simp[dA,ih]
def WG(f:List Int)(v:Value)(w:World)(hl:f.length<=1000)(T:jB w v f):
  Calls prog 133 #[v] w λe A=>∃V,e= .returned V/\A.ownsRow w.heap.size 3 1 V (f.length+1) (nv<|dA 0 f)/\Below w.heap.size w A:=by
 obtain⟨U,O,P,Q,R⟩:=gu Tryz.FR;obtain⟨x,c,rfl,hx⟩:=T.form;obtain⟨n,G⟩:=ac f.length;have N:=ah G;rw[<-G]at hl hx ⊢;have HX:=ah hx;clear G hx T;go_enter func133,ntmps133;go_wp2;go_loopg [3,4,5] n (λgk ov pv gw W=>∃(i p:Nat)(o:List Nat),i<=n/\gk=n - i/\gw= .int .i64 i/\pv= .int .i64 p/\o.length=i/\p<=4*i/\o++dA p (f.drop i)=dA 0 f/\W.ownsRow w.heap.size 3 1 ov i (nv o)/\Below w.heap.size w W);exact⟨0,0,[],by omega,rfl,rfl,rfl,rfl,by omega,rfl,gQ _ _ _ _,aA _ _⟩;obtain⟨i,p,o,hi,rfl,rfl,rfl,t,ad,g,a,z⟩:=hrel;obtain⟨qa,qc,rfl⟩:=iA a;have M:=ah z;have j:=z.size;have p6:=ah t;clear t;by_cases F:i<n
 .have k:i<f.length:=by rw[<-N.out];exact F
  obtain⟨b,ae,rfl,S⟩:=HX.out (by omega);have X:=ah S;have m:f.drop i=f[i]::f.drop (i+1):=kO k;have s:f.getD i 0=f[i]:=by rw[aO,aM k];rfl
  have Y:=ah k;obtain⟨r,H⟩:=ac<|f.getD i 0;have Z:=ah H;rw[m,<-s,<-H,dA]at g;have K:=ah g;have E:(i:Int)<(n:Int):=by omega
  have HW:Hid (∀W,Calls prog 135 #[.int .i64 r] W λe A=>e= .returned (.int .i64 (wd r:Nat))/\A=W):=λW=>agU r W
  have I:=asi r;clear m s H g S k z;go_wp2_with(at_builtin;refine qK _ rfl _ _ 31 rfl w.heap.size 3 U (.int .i64 0) 8 underlying31 O P Q R rfl (by decide) _ _ _ rfl a _ _ rfl rfl (by omega) j ?_);intro L u d h;have D:Below w.heap.size w u:=M.out.grown h j (λy J=>(a.lt y J).1);have B:=ah D;have l:=(X.out.below D) i Y.out;rw[<-Z.out]at l;have C:Hid (u.ownsRow w.heap.size 3 1 L (i+1)<|nv<|o++[p]):=by
   show World.ownsRow _ _ _ _ _ _ _;rw[VS];exact d
  clear a d h D;generalize wd r=q at*;obtain⟨aa,ab⟩:=I;go_wp2_with fail;refine(HW.out _).mono ?_;rintro ev wx ⟨rfl,rfl⟩;go_wp2;go_roundg (n - (i+1));exact⟨i+1,p+q,o++[p],by omega,rfl,by go_num,by go_num,by simp[p6.out],by omega,by rw[<-K.out];simp,C.out,B.out⟩;omega
 .obtain rfl:i=n:=by omega
  have E:¬(i:Int)<(i:Int):=by omega
  rw[rV<|by rw[N.out];exact au _,dA]at g;have K:=ah g;clear g z;go_wp2_with(at_builtin;refine qK _ rfl _ _ 31 rfl w.heap.size 3 U (.int .i64 0) 8 underlying31 O P Q R rfl (by decide) _ _ _ rfl a _ _ rfl rfl (by omega) j ?_);intro L u d h;have B:Hid (Below w.heap.size w u):=M.out.grown h j (λy J=>(a.lt y J).1);have C:Hid (u.ownsRow w.heap.size 3 1 L (i+1)<|nv<|dA 0 f):=by
   show World.ownsRow _ _ _ _ _ _ _;rw[<-K.out,VS];exact d
  clear a d h;go_wp2;go_ret;exact⟨_,rfl,C.out,B.out⟩
def pI(q:Nat):List PR->Nat->Int
 |[],_=> -1
 |x::xs,k=>if x.from_<=q/\q<x.dH then(k:Int)else pI q xs (k+1)
def SX(l:List PR)(v:Value)(q:Nat)(w:World)(F:l.length<=600)(G:qL w v l):
  Calls prog 194 #[v,.int .i64 q] w λe H=>e= .returned (.int .i64<|pI q l 0)/\H=w:=by
 obtain⟨x,c,rfl,hx⟩:=G;obtain⟨n,r⟩:=ac l.length;have y:=ah r;rw[<-r]at F hx ⊢;have C:=ah hx;clear r hx;obtain⟨R,m⟩:=ac<|pI q l 0;rw[<-m];have B:=ah m.symm;clear m;go_enter func194,ntmps194;go_wp2;go_loopg [5] n (λgk D W=>∃(i:Nat),i<=n/\gk=n - i/\D= .int .i64 i/\pI q (l.drop i) i=R/\W=w);exact⟨0,by omega,rfl,rfl,B.out,rfl⟩;obtain⟨i,I,rfl,rfl,a,rfl⟩:=hrel;by_cases p:i<n
 .have b:i<l.length:=by rw[<-y.out];exact p
  obtain⟨g,rfl,E,d⟩:=C.out (by omega);obtain⟨_,_,d2,d3,_,_⟩:=d i b;rw[kO b,pI]at a;generalize l[i]=t at*;obtain⟨M,L,s,u,J,K⟩:=t;simp only at d2 d3 a;have o:(i:Int)<(n:Int):=by omega
  by_cases z:s<=q
  .have j:(q:Int) ≥ (s:Int):=(by omega);by_cases A:q<u
   .have k:(q:Int)<(u:Int):=(by omega);rw[aj ⟨z,A⟩]at a;subst a;clear d b;go_wp2;go_ret;exact⟨rfl,rfl⟩
   .have k:¬(q:Int)<(u:Int):=(by omega);rw[ai λh=>A h.2]at a;have f:=ah a;clear d b a;go_wp2;go_roundg (n - (i+1));exact⟨i+1,by omega,rfl,by go_num,f.out,rfl⟩;omega
  .have j:¬(q:Int) ≥ (s:Int):=(by omega);rw[ai λh=>z h.1]at a;have f:=ah a;clear d b a;go_wp2;go_roundg (n - (i+1));exact⟨i+1,by omega,rfl,by go_num,f.out,rfl⟩;omega
 .obtain rfl:i=n:=by omega
  have o:¬(i:Int)<(i:Int):=by omega
  rw[rV<|by rw[y.out];exact au _,pI]at a;subst a;go_wp2;go_ret;exact⟨rfl,rfl⟩
def kU(s:ByteArray)(p:Nat):Nat:=if p<s.size then if _h:aW s p=0 then p else kU s (p+aW s p)else p
termination_by s.size - p
def Ox {s:ByteArray}{p:Nat}(h:p<s.size)(a:aW s p=0):kU s p=p:=by rw[kU,aj h,dif_pos a]
def Oy {s:ByteArray}{p:Nat}(h:p<s.size)(a:aW s p≠0):kU s p=kU s (p+aW s p):=by
 conv=>lhs;rw[kU,aj h,dif_neg a]
def Tv {s:ByteArray}{p:Nat}(h:¬p<s.size):kU s p=p:=by rw[kU,ai h]
def sG(s:ByteArray)(p:Nat)(l:List Int):Prop:=uQ s p l/\kU s p=kU s 0
def sG.start(s:ByteArray):sG s 0 []:=⟨uQ.start s,rfl⟩
def sG.stop {s:ByteArray}{p:Nat}{l:List Int}(h:sG s p l)(a:¬p<s.size):eZ s=some l:=h.1.stop a
def sG.bad {s:ByteArray}{p:Nat}{l:List Int}(h:sG s p l)(a:p<s.size)(b:aW s p=0):eZ s=none:=h.1.bad a b
def sG.step {s:ByteArray}{p:Nat}{l:List Int}(h:sG s p l)(a:p<s.size)(b:aW s p≠0):sG s (p+aW s p) (l++[iD s p]):=⟨h.1.step a b,by rw[<-h.2,Oy a b]⟩
def aqd(s:ByteArray)(w:World)(hs:s.size<=1000):
  Calls prog 67 #[.string s] w λe g=>Below w.heap.size w g/\
   ((eZ s=none/\kU s 0<s.size/\e= .returned (.tuple #[.slice none 0 0,.int .i64 (kU s 0:Nat)]))∨
    ∃v l,eZ s=some l/\l.length<=s.size/\e= .returned (.tuple #[v,.int .i64 (-1)])/\g.ownsRow w.heap.size 3 1 v l.length (l.map<|Value.int .i64)):=by
 obtain⟨I,H,u,x,y⟩:=gu Tryz.FR;go_enter func67,ntmps67;go_wp2;go_loopw [4,5] (λv i wr=>∃(p:Nat)(l:List Int),p<=s.size/\i= .int .i64 p/\sG s p l/\wr.ownsRow w.heap.size 3 1 v l.length (l.map<|Value.int .i64)/\Below w.heap.size w wr) (λ_ i _=>s.size - (intOf i).toNat);case atStart=>exact⟨0,[],mQ _,rfl,sG.start s,gQ _ _ _ _,aA _ _⟩
 case round=>
  obtain⟨p,l,hp,rfl,L,b,C⟩:=hrel;have q:=ah L;have aa:=C.size;have ad:l.length<=p:=by obtain⟨f,_,h,_⟩:=L.1;exact h
  clear L;by_cases c:p<s.size
  .have V:(p:Int)<(s.size:Int):=(by omega);have j:=aru s p c;have t:(s.extract p s.size).size=s.size - p:=Xo s p;by_cases z:aW s p=0
   .rw[z]at j;have o:Hid (Calls prog 112 #[.string<|s.extract p s.size] wr λe g=>e= .returned (.int .i64 0)/\g=wr):=by
     have:=MQ (s.extract p s.size) wr (by omega) (by omega);rw[j]at this;exact this
    have J:=ah z;clear j t z;go_wp2_with fail;refine o.out.mono ?_;rintro e g ⟨rfl,rfl⟩;go_wp2;go_ret2;exact⟨C,.inl ⟨q.out.bad c J.out,by rw[<-q.out.2,Ox c J.out];exact c,by rw[<-q.out.2,Ox c J.out];rfl⟩⟩
   rcases Ex s p c z with⟨m,K,r⟩|⟨m,W,K,R,S,T,r⟩|⟨m,W,K,R,S,T,Y,Z,r⟩|⟨m,W,K,R,S,T,Y,Z,h7,h8,r⟩
   .have d:aW s p≠0:=(by omega);have A:Hid (sG s (p+1)<|l++[iD s p]):=m▸q.out.step c d;have B:=ah r;rw[m]at j;have o:Hid (Calls prog 112 #[.string<|s.extract p s.size] wr λe g=>e= .returned (.int .i64 1)/\g=wr):=by
     have:=MQ (s.extract p s.size) wr (by omega) (by omega);rw[j]at this;exact this
    clear j t z d r m q;have D:s[p]'(by omega)=s.get! (p):=(get_eq s (p)<|by omega).symm;have E:((s.get!<|p).toNat:Int)<256:=(by have:=(s.get!<|p).toNat_lt;omega);generalize s.get! (p)=k at*;go_wp2_with fail;refine o.out.mono ?_;rintro e g ⟨rfl,rfl⟩;clear o;go_wp2;refine fV 1 ?_;rw[bN];go_wp2_with(at_builtin;refine Jd _ rfl _ _ 31 rfl w.heap.size 3 I (.int .i64 0) 8 underlying31 H u x y rfl (by decide) _ _ _ rfl b _ _ rfl rfl (by omega) (by omega) ?_);intro O P a n;clear b;go_wp2;go_roundw;case rel=>exact⟨p+1,_,by omega,by go_num,A.out,by rw[B.out];simpa using a,C.trans n⟩
    case measure=>simp[intOf];omega
   .have d:aW s p≠0:=(by omega);have A:Hid (sG s (p+2)<|l++[iD s p]):=m▸q.out.step c d;have B:=ah r;rw[m]at j;have o:Hid (Calls prog 112 #[.string<|s.extract p s.size] wr λe g=>e= .returned (.int .i64 2)/\g=wr):=by
     have:=MQ (s.extract p s.size) wr (by omega) (by omega);rw[j]at this;exact this
    clear j t z d r m q;have D:s[p]'(by omega)=s.get! (p):=(get_eq s (p)<|by omega).symm;have E:((s.get!<|p).toNat:Int)<256:=(by have:=(s.get!<|p).toNat_lt;omega);have F:s[p+1]'(by omega)=s.get! (p+1):=(get_eq s (p+1)<|by omega).symm;have G:((s.get!<|p+1).toNat:Int)<256:=(by have:=(s.get!<|p+1).toNat_lt;omega);generalize s.get! (p)=k at*;generalize s.get! (p+1)=Q at*;have U:bits .and .i64 (k.toNat:Int) 31=((k.toNat%32:Nat):Int):=uT ⟨k.toNat,k.toNat_lt⟩;go_wp2_with fail;refine o.out.mono ?_;rintro e g ⟨rfl,rfl⟩;clear o;go_wp2;refine fV 2 ?_;rw[bN];go_wp2;rw[bN];go_wp2_with(at_builtin;refine Jd _ rfl _ _ 31 rfl w.heap.size 3 I (.int .i64 0) 8 underlying31 H u x y rfl (by decide) _ _ _ rfl b _ _ rfl rfl (by omega) (by omega) ?_);intro O P a n;clear b;go_wp2;go_roundw;case rel=>exact⟨p+2,_,by omega,by go_num,A.out,by rw[B.out];simpa using a,C.trans n⟩
    case measure=>simp[intOf];omega
   .have d:aW s p≠0:=(by omega);have A:Hid (sG s (p+3)<|l++[iD s p]):=m▸q.out.step c d;have B:=ah r;rw[m]at j;have o:Hid (Calls prog 112 #[.string<|s.extract p s.size] wr λe g=>e= .returned (.int .i64 3)/\g=wr):=by
     have:=MQ (s.extract p s.size) wr (by omega) (by omega);rw[j]at this;exact this
    clear j t z d r m q;have D:s[p]'(by omega)=s.get! (p):=(get_eq s (p)<|by omega).symm;have E:((s.get!<|p).toNat:Int)<256:=(by have:=(s.get!<|p).toNat_lt;omega);have F:s[p+1]'(by omega)=s.get! (p+1):=(get_eq s (p+1)<|by omega).symm;have G:((s.get!<|p+1).toNat:Int)<256:=(by have:=(s.get!<|p+1).toNat_lt;omega);have M:s[p+2]'(by omega)=s.get! (p+2):=(get_eq s (p+2)<|by omega).symm;have N:((s.get!<|p+2).toNat:Int)<256:=(by have:=(s.get!<|p+2).toNat_lt;omega);generalize s.get! (p)=k at*;generalize s.get! (p+1)=Q at*;generalize s.get! (p+2)=X at*;have U:bits .and .i64 (k.toNat:Int) 15=((k.toNat%16:Nat):Int):=uF ⟨k.toNat,k.toNat_lt⟩;go_wp2_with fail;refine o.out.mono ?_;rintro e g ⟨rfl,rfl⟩;clear o;go_wp2;refine fV 3 ?_;rw[bN];go_wp2;rw[bN];go_wp2;rw[bN];go_wp2_with(at_builtin;refine Jd _ rfl _ _ 31 rfl w.heap.size 3 I (.int .i64 0) 8 underlying31 H u x y rfl (by decide) _ _ _ rfl b _ _ rfl rfl (by omega) (by omega) ?_);intro O P a n;clear b;go_wp2;go_roundw;case rel=>exact⟨p+3,_,by omega,by go_num,A.out,by rw[B.out];simpa using a,C.trans n⟩
    case measure=>simp[intOf];omega
   .have d:aW s p≠0:=(by omega);have A:Hid (sG s (p+4)<|l++[iD s p]):=m▸q.out.step c d;have B:=ah r;rw[m]at j;have o:Hid (Calls prog 112 #[.string<|s.extract p s.size] wr λe g=>e= .returned (.int .i64 4)/\g=wr):=by
     have:=MQ (s.extract p s.size) wr (by omega) (by omega);rw[j]at this;exact this
    clear j t z d r m q;have D:s[p]'(by omega)=s.get! (p):=(get_eq s (p)<|by omega).symm;have E:((s.get!<|p).toNat:Int)<256:=(by have:=(s.get!<|p).toNat_lt;omega);have F:s[p+1]'(by omega)=s.get! (p+1):=(get_eq s (p+1)<|by omega).symm;have G:((s.get!<|p+1).toNat:Int)<256:=(by have:=(s.get!<|p+1).toNat_lt;omega);have M:s[p+2]'(by omega)=s.get! (p+2):=(get_eq s (p+2)<|by omega).symm;have N:((s.get!<|p+2).toNat:Int)<256:=(by have:=(s.get!<|p+2).toNat_lt;omega);have ab:s[p+3]'(by omega)=s.get! (p+3):=(get_eq s (p+3)<|by omega).symm;have ac:((s.get!<|p+3).toNat:Int)<256:=(by have:=(s.get!<|p+3).toNat_lt;omega);generalize s.get! (p)=k at*;generalize s.get! (p+1)=Q at*;generalize s.get! (p+2)=X at*;generalize s.get! (p+3)=c3 at*;have U:bits .and .i64 (k.toNat:Int) 7=((k.toNat%8:Nat):Int):=uV ⟨k.toNat,k.toNat_lt⟩;go_wp2_with fail;refine o.out.mono ?_;rintro e g ⟨rfl,rfl⟩;clear o;go_wp2;refine fV 4 ?_;rw[bN];go_wp2;rw[bN];go_wp2;rw[bN];go_wp2;rw[bN];go_wp2_with(at_builtin;refine Jd _ rfl _ _ 31 rfl w.heap.size 3 I (.int .i64 0) 8 underlying31 H u x y rfl (by decide) _ _ _ rfl b _ _ rfl rfl (by omega) (by omega) ?_);intro O P a n;clear b;go_wp2;go_roundw;case rel=>exact⟨p+4,_,by omega,by go_num,A.out,by rw[B.out];simpa using a,C.trans n⟩
    case measure=>simp[intOf];omega
  .go_wp2;go_ret2;exact⟨C,.inr ⟨_,l,q.out.stop c,by omega,rfl,b⟩⟩
