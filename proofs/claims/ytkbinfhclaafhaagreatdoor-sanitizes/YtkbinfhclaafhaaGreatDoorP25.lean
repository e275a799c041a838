import Derived.Test.YtkbinfhclaafhaaGreatDoorP24
import Derived.Test.YtkbinfhclaafhaaGreatDoorP20
namespace Go.Proofs.YtkbinfhclaafhaaGreatDoor
open Go.RowKit
open Go.Proofs.Tryz
set_option maxRecDepth 100000
set_option maxHeartbeats 32000000
set_option linter.all false
def sH:List ByteArray->Nat->Option (Nat×Nat)
 |[],_=>none
 |x::xs,i=>match eZ x with
  |none=>some (i,kU x 0)
  |some _=>sH xs<|i+1
def qD:List (List Int)->Nat->Option Nat
 |[],_=>none
 |x::xs,i=>if 300<x.length then some i else qD xs (i+1)
def dY(l:List ByteArray):List (List Int):=l.map λx=>(eZ x).getD []
def gy(s:ByteArray):Int×Int×Int:=
 if 600<s.size then(1, -1, -1)else match sH (aR s 0 0) 0 with
  |some (i,p)=>(2,(i:Nat),(p:Nat))
  |none=>match qD (dY<|aR s 0 0) 0 with
   |some i=>(1,(i:Nat),0)
   |none=>(0,0,0)
def Mn(s:ByteArray):Value:= .agg #[.int .i64 (gy s).1,.int .i64 (gy s).2.1,.int .i64 (gy s).2.2]
def zq(w:World)(B:Nat)(v:Value)(a:List<|List Int):Prop:=∃b,w.ownsRow B 31 1 v a.length b/\∀j,j<a.length->w.ownsRow B 3 1 (b.getD j undef) (a.getD j []).length ((a.getD j []).map (Value.int .i64))
def zq.nil(w:World)(B:Nat):zq w B (.slice none 0 0) []:=⟨[],gQ _ _ _ _,λj h=>absurd h<|by simp⟩
def zq.below {w c:World}{B:Nat}{v:Value}{b:List (List Int)}(h:zq w B v b)(a:Below w.heap.size w c):zq c B v b:=by
 obtain⟨g,d,e⟩:=h;exact⟨g,iZ d a,λj f=>iZ (e j f) a⟩
def Cz {a:Type}{l m:List a}{d:a}{i:Nat}(h:i<l.length):(l++m).getD i d=l.getD i d:=by
 rw[aO,aO,tP h]
def Hq {a:Type}{l:List a}{x d:a}{i:Nat}(h:l.length=i):(l++[x]).getD i d=x:=by
 subst h;rw[aO];simp
def agt:(3:TypeId)≠31:=by decide
def VO(s:ByteArray)(a i:Nat):∀x∈aR s a i,x.size<=s.size:=by
 fun_induction aR s a i with
 |case1 a i b c ih=>
  intro x hx;rcases fW.1 hx with rfl|hx
  .simp;omega
  .exact ih x hx
 |case2 a i b c ih=>exact ih
 |case3 a i b=>intro x hx;simp at hx;subst hx;simp;omega
def anx(s:ByteArray)(w:World):Calls prog 77 #[.string s] w λe w'=>Below w.heap.size w w'/\∃v,e= .returned (.tuple #[v,Mn s])/\((gy s).1≠0->v= .slice none 0 0)/\((gy s).1=0->zq w' (w.heap.size+1) v (dY<|aR s 0 0)):=by
 by_cases hz:600<s.size
 .have am:(s.size:Int)>600:=by omega
  have hL:gy s=(1, -1, -1):=aj hz;unfold Mn;rw[hL];simp only;go_enter func77,ntmps77;go_wp2;exact cI (v:= .tuple #[.slice none 0 0,.agg #[.int .i64 1,.int .i64 (-1),.int .i64 (-1)]]) (by simp[results,results77,go_sem]) rfl ⟨(aA _ _).alloc (au _) _,_,rfl,λ_=>rfl,λh=>by cases h⟩
 .have am:¬(s.size:Int)>600:=by omega
  obtain⟨iI,fP,ab⟩:∃i,prog.info? 31=some i/\(i.zero,i.size,i.bytes)=(some (.slice none 0 0),1,24):=by simpa using Tryz.Vq
  simp only[NT]at ab;obtain⟨fQ,fR,fS⟩:=ab;have ag:=ID s 0 0 (by omega);have pE:Hid (∀x∈aR s 0 0,x.size<=600):=λx hx=>by have:=VO s 0 0 x hx;omega
  have HL:=afv s (w.alloc (.cells #[.int .i64 0,.int .i64 0,.int .i64 0] 47)) (by omega);have HF:Hid (gy s=match sH (aR s 0 0) 0 with
   |some (i,p)=>(2,((i:Nat):Int),((p:Nat):Int))
   |none=>match qD (dY<|aR s 0 0) 0 with
    |some i=>(1,((i:Nat):Int),0)
    |none=>(0,0,0)):=ai hz
  obtain⟨F,hF⟩:=ac<|gy s;unfold Mn;rw[<-hF]at HF ⊢;clear hF;generalize aR s 0 0=c at*;obtain⟨N,hN⟩:=ac c.length;have HN:=ah hN;rw[<-hN]at ag HL;have fG:Hid (Below w.heap.size w<|w.alloc (.cells #[.int .i64 0,.int .i64 0,.int .i64 0] 47)):=(aA _ _).alloc (au _) _;clear hN hz;go_enter func77,ntmps77;go_wp2_with fail;refine HL.mono ?_;clear HL;rintro ev A ⟨lv,rfl,b,C⟩;obtain⟨la,lc,rfl⟩:=iA b;have BX:Hid (A.ownsRow (w.heap.size+1) 9 1 (.slice la N lc) N<|iX c):=by show World.ownsRow _ _ _ _ _ _ _;simpa using b
  have aD:=ah<|Yg fG.out<|C.mono<|Yf fG.out;have pY:Hid (A.heap[w.heap.size]? =some (.cells #[.int .i64 0,.int .i64 0,.int .i64 0] 47 (0,0))):=bq C<|World.alloc_heap_new _ _;have aa:w.heap.size+1<=A.heap.size:=by have:=C.size;simpa using this
  clear b C;go_wp2;go_loopg [5,6,7,8] N (λgk ov gw _ _ W=>∃(i:Nat),i<=N/\gk=N - i/\gw= .int .i64 i/\sH (c.drop i) i=sH c 0/\zq W A.heap.size ov (dY<|c.take i)/\Below A.heap.size A W);exact⟨0,by omega,rfl,rfl,rfl,zq.nil _ _,aA _ _⟩
  rename World=>wa
  obtain⟨i,hi,rfl,rfl,a,g,S⟩:=hrel;have HB:=ah S;have T:=S.size;by_cases ak:i<N
  .have n:i<c.length:=(by rw[<-HN.out];exact ak);have b:=iZ BX.out S;obtain⟨lg,aq,R,ar,_,ap⟩:=nC b (by omega);simp only[pJ,oC]at R;obtain⟨rfl,rfl⟩:=R;have av:wa.cell? ⟨lg,i,none⟩=some (.string c[i]):=(by rw[di b i<|by omega];simp[iX,n]);have az:c[i].size<=600:=pE.out _ (pF n);have BZ:=aqd c[i] wa (by omega);have U:c.drop i=c[i]::c.drop (i+1):=kO n;rw[U,sH]at a;have Z:dY (c.take<|i+1)=dY (c.take i)++[(eZ c[i]).getD []]:=by
    rw[pG n,dY,fB];rfl
   generalize c[i]=x at*;have p7:=ah Z;obtain⟨o,ho⟩:=ac<|dY<|c.take i;have t:o.length=i:=(by rw[ho];simp[dY];omega);have HO:=ah ho;rw[<-ho]at g;have ae:(i:Int)<(N:Int):=(by omega);clear U Z b n S ho;go_wp2_with fail;refine BZ.mono ?_;clear BZ;rintro ev wr ⟨D,Us⟩;have lF:=ah<|HB.out.trans<|D.mono T;have Uq:=lF.out.size;rcases Us with⟨r,V,rfl⟩|⟨rv,l,z,aw,rfl,f⟩
   .rw[r]at a;have TZ:F=(2,(i:Int),(kU x 0:Int)):=(by rw[HF.out,<-a]);obtain⟨p,hp⟩:=ac<|kU x 0;rw[<-hp]at TZ ⊢;have ay:(p:Int) ≥ 0:=(by omega);have d:=bq (lF.out.mono<|au _) pY.out;have O:=cell_of d 0;have P:=cell_of d 1;have Q:=cell_of d 2;simp only[lI,p8,l6]at O P Q;have f0:=qu wr w.heap.size 0 _ _ d;have f1:=qu wr w.heap.size 1 _ _ d;have f2:=qu wr w.heap.size 2 _ _ d;have I:=ah TZ;clear a g D d TZ r V hp;go_wp2;refine cI (v:= .tuple #[.slice none 0 0,.agg #[.int .i64 2,.int .i64 i,.int .i64 p]]) (by simp[results,results77,go_sem,O,P,Q]) rfl ⟨?_,_,by rw[I.out],λ_=>rfl,λh=>by rw[I.out]at h;cases h⟩;exact(((aD.out.trans<|lF.out.mono<|by omega).setCell (au _) _).setCell (au _) _).setCell (au _) _
   .rw[z]at a p7;simp only[tW]at p7;simp only at a;have QM:=ah a;have an:¬((-1:Int) ≥ 0):=(by omega);obtain⟨H,m,K⟩:=g.below D;rw[t]at m K;obtain⟨oa,oc,rfl⟩:=iA m;have L:=ah K;have J:=ah f;obtain⟨ra,rc,rfl⟩:=iA f;have Zz:Hid (H.length=i):=(by show _=_;have:=m.1;omega);clear a K D g z f;go_wp2_with(at_builtin;refine qK _ rfl _ _ 127 rfl A.heap.size 31 iI (.slice none 0 0) 24 underlying127 fP fQ fR fS rfl (by decide) _ _ _ rfl m _ _ rfl rfl (by omega) Uq ?_);intro v2 w2 u E;have aI:Hid (Below A.heap.size A w2):=lF.out.grown E Uq (λy hy=>(m.lt y hy).1);have gD:Hid (zq w2 A.heap.size v2<|dY<|c.take<|i+1):=by
     show zq _ _ _ _;rw[p7.out,<-HO.out];refine⟨H++[.slice ra l.length rc],by rw[bH,t];exact u,λj X=> ?_⟩;rw[bH,t]at X;by_cases G:j<i
     .have e1:(H++[Value.slice ra l.length rc]).getD j undef=H.getD j undef:=Cz (by rw[Zz.out];exact G);have e2:(o++[l]).getD j []=o.getD j []:=Cz (by rw[t];exact G);rw[e1,e2];exact(L.out j G).kept E (lQ (L.out j G) m agt)
     .obtain rfl:j=i:=(by simp at X;omega);have e1:(H++[Value.slice ra l.length rc]).getD j undef= .slice ra l.length rc:=Hq Zz.out;have e2:(o++[l]).getD j []=l:=Hq t;rw[e1,e2];exact Ek (J.out.kept E<|lQ J.out m agt) T
    clear m u E;go_wp2;go_roundg (N - (i+1));exact⟨i+1,by omega,rfl,by go_num,QM.out,gD.out,aI.out⟩;omega
  .obtain rfl:i=N:=(by omega);have ae:¬(i:Int)<(i:Int):=(by omega);rw[rV<|by rw[HN.out];exact au _,sH]at a;rw[ku<|by rw[HN.out];exact au _]at g;have eU:Hid (F=match qD (dY c) 0 with
    |some i=>(1,((i:Nat):Int),0)
    |none=>(0,0,0)):=by show _=_;rw[HF.out,<-a]
   obtain⟨H,m,K⟩:=g;have f:(dY c).length=i:=(by simp[dY,HN.out]);rw[f]at m K;obtain⟨oa,oc,rfl⟩:=iA m;have Dm:=ah m;have L:=ah K;have J:=ah f;have d:=bq HB.out pY.out;have M:=ah d;obtain⟨RL,Fm⟩:=ac<|dY c;have Ru:=ah Fm;rw[<-Fm]at eU L J;clear Fm;clear a m K f S d;go_wp2;go_loopg [9] i (λgk kv W=>∃(k:Nat),k<=i/\gk=i - k/\kv= .int .i64 k/\qD (RL.drop k) k=qD RL 0/\W=wa);exact⟨0,by omega,rfl,rfl,rfl,rfl⟩;obtain⟨k,hk,rfl,rfl,B,rfl⟩:=hrel;have O:=cell_of M.out 0;have P:=cell_of M.out 1;have Q:=cell_of M.out 2;simp only[lI,p8,l6]at O P Q;have f0:=qu wr w.heap.size 0 _ _ M.out;have f1:=qu wr w.heap.size 1 _ _ M.out;have f2:=qu wr w.heap.size 2 _ _ M.out;by_cases Y:k<i
   .obtain⟨og,od,Lv,ax,_,ao⟩:=nC Dm.out (by omega);simp only[pJ,oC]at Lv;obtain⟨rfl,rfl⟩:=Lv;have Ih:k<RL.length:=(by rw[J.out];exact Y);have ad:wr.cell? ⟨og,k,none⟩=some (H.getD k undef):=by
     rw[di Dm.out k<|by omega];have aB:H.length=i:=(by have:=Dm.out.1;omega);rw[aM<|by omega,aO,aM<|by omega];rfl
    have Uy:RL.drop k=RL.getD k []::RL.drop (k+1):=(by rw[kO Ih];congr 1;rw[aO,aM Ih];rfl);rw[Uy,qD]at B;obtain⟨xa,xc,Vf⟩:=iA<|L.out k Y;rw[Vf]at ad;generalize(RL.getD k []).length=q at*;have af:(k:Int)<(i:Int):=(by omega);by_cases hq:300<q
    .rw[aj hq]at B;have al:(q:Int)>300:=(by omega);have I:Hid (F=(1,(k:Int),0)):=(by show _=_;rw[eU.out,<-B]);clear B Uy Vf;go_wp2;refine cI (v:= .tuple #[.slice none 0 0,.agg #[.int .i64 1,.int .i64 k,.int .i64 0]]) (by simp[results,results77,go_sem,O,P,Q]) rfl ⟨?_,_,by rw[I.out],λ_=>rfl,λh=>by rw[I.out]at h;cases h⟩;exact(((aD.out.trans<|HB.out.mono<|by omega).setCell (au _) _).setCell (au _) _).setCell (au _) _
    .rw[ai hq]at B;have al:¬(q:Int)>300:=(by omega);have EO:=ah B;clear B Uy Vf;go_wp2;go_roundg (i - (k+1));exact⟨k+1,by omega,rfl,by go_num,EO.out,rfl⟩;omega
   .obtain rfl:k=i:=(by omega);have af:¬(k:Int)<(k:Int):=(by omega);rw[rV<|by rw[J.out];exact au _,qD]at B;have I:Hid (F=(0,0,0)):=(by show _=_;rw[eU.out,<-B]);clear B;go_wp2;refine cI (v:= .tuple #[.slice oa k oc,.agg #[.int .i64 0,.int .i64 0,.int .i64 0]]) (by simp[results,results77,go_sem,O,P,Q]) rfl ⟨?_,_,by rw[I.out],λh=>by rw[I.out]at h;exact absurd rfl h,λ_=> ?_⟩
    .exact(((aD.out.trans<|HB.out.mono<|by omega).setCell (au _) _).setCell (au _) _).setCell (au _) _
    .rw[<-Ru.out];refine⟨H,by rw[J.out];exact Ek (vD (vD (vD Dm.out (by simp;omega) _) (by simp;omega) _) (by simp;omega) _) aa,λj X=> ?_⟩;rw[J.out]at X;exact Ek (vD (vD (vD (L.out j X) (by simp;omega) _) (by simp;omega) _) (by simp;omega) _) aa
def lu(s:ByteArray)(a i:Nat):List Nat:=
 if i<s.size then if bt s i=10 then(i - a)::lu s (i+1) (i+1)else lu s a (i+1)else [i - a]
termination_by s.size - i
def VM {s:ByteArray}{a i:Nat}(h:i<s.size)(b:bt s i=10):lu s a i=(i - a)::lu s (i+1) (i+1):=by rw[lu,aj h,aj b]
def Jq {s:ByteArray}{a i:Nat}(h:i<s.size)(b:¬bt s i=10):lu s a i=lu s a (i+1):=by rw[lu,aj h,ai b]
def IW {s:ByteArray}{a i:Nat}(h:¬i<s.size):lu s a i=[i - a]:=by rw[lu,ai h]
def ank(s:ByteArray)(a i:Nat):∃m b,lu s a i=m::b/\i - a<=m:=by
 fun_induction lu s a i with
 |case1 a i c d ih=>exact⟨_,_,rfl,au _⟩
 |case2 a i c d ih=>
  obtain⟨m,b,h,e⟩:=ih;exact⟨m,b,h,by omega⟩
 |case3 a i c=>exact⟨_,_,rfl,au _⟩
def jn(L:List Nat)(a p:Nat):List PR->Prop
 |[]=>a<L.length/\p=L.getD a 0/\∀k,a<k->k<L.length->L.getD k 0=0
 |x::xs=>a<=x.line/\x.line<L.length/\(a<x.line->p=L.getD a 0/\∀k,a<k->k<x.line->L.getD k 0=0)/\x.from_=(if a<x.line then 0 else p)/\x.from_<x.dH/\x.dH<=L.getD x.line 0/\jn L x.line x.dH xs
def JR(L:List Nat)(a e d b c:Nat):Prop:=b<=c/\((a=d/\e=c - b)∨(a<d/\e=L.getD a 0/\(∀k,a<k->k<d->L.getD k 0=0)/\c=b))
def Oq {L:List Nat}{a m:Nat}{d:List Nat}(h:L.drop a=m::d):a<L.length/\L.getD a 0=m/\L.drop (a+1)=d:=by
 have c:a<L.length:=by
  rcases cP a L.length with b|b
  .exact b
  .rw[rV b]at h;cases h
 rw[kO c]at h;injection h with b e
 exact⟨c,by rw[aO,aM c];exact b,e⟩
def FN {s:ByteArray}{L:List Nat}{a g d c e p k B E:Nat}{R:List PR}(h:JR L a g d c e)(z:e<=p)(u:L.drop d=lu s c p)(n:∀b l,JR L b l d c p->jn L b l R):jn L a g (ey d k c e p B E++R):=by
 obtain⟨v,h⟩:=h;obtain⟨m,A,w,x⟩:=ank s c p;obtain⟨r,y,_⟩:=Oq<|u.trans w;unfold ey;by_cases q:e<p
 .rw[aj q];refine⟨?_,r,?_,?_,?_,?_,n _ _ ⟨by omega,.inl ⟨rfl,rfl⟩⟩⟩
  .show a<=d;omega
  .intro j;have o:a<d:=j;rcases h with⟨i,_⟩|⟨_,f,t,_⟩
   .omega
   .exact⟨f,t⟩
  .show e - c=if a<d then 0 else g
   rcases h with⟨i,f⟩|⟨i,_,_,f⟩
   .rw[ai<|by omega,f]
   .rw[aj i];omega
  .show e - c<p - c;omega
  .show p - c<=L.getD d 0;omega
 .rw[ai q];obtain rfl:e=p:=by omega
  exact n a g ⟨v,h⟩
def JR.feed {s:ByteArray}{L:List Nat}{a f b c p:Nat}(h:JR L a f b c p)(m:p<s.size)(j:bt s p=10)(e:L.drop b=lu s c p):JR L a f (b+1) (p+1) (p+1):=by
 rw[VM m j]at e;obtain⟨q,g,_⟩:=Oq e;obtain⟨o,h⟩:=h;refine⟨au _,.inr ?_⟩;rcases h with⟨rfl,d⟩|⟨r,d,i,t⟩
 .exact⟨by omega,by omega,λk _ _=>by omega,rfl⟩
 .refine⟨by omega,d,λk n u=> ?_,rfl⟩;by_cases l:k=b
  .rw[l,g];omega
  .exact i k n (by omega)
def Xe {s:ByteArray}{L:List Nat}{k T B E j g o p c C:Nat}{R:List PR}(z:T<=s.size)(h:JR L c C j g o)(A:o<=p)(D:p<=T)(d:L.drop j=lu s g p)
  (r:∀a f m l,jt s T j g p=(m,l)->L.drop m=lu s l T->JR L a f m l T->jn L a f R):jn L c C (lT s k T B E j g o p++R):=by
 by_cases b:p<T
 .by_cases e:bt s p=10
  .rw[Ge b e,dO];refine FN h A d λa f q=> ?_
   have i:=d;rw[VM (by omega) e]at i;exact Xe z (q.feed (by omega) e d) (au _) b (Oq i).2.2 (λw y x n u t v=>r w y x n (by rw[Hs b e];exact u) t v)
  .rw[Bx b e];rw[Jq (by omega) e]at d;exact Xe z h (by omega) b d λw y x n u t v=>r w y x n (by rw[Ct b e];exact u) t v
 .obtain rfl:p=T:=by omega
  rw[Bw b];exact FN h A d λa f q=>r a f j g (Hr b) d q
termination_by T - p
def X5 {s:ByteArray}{p:Nat}(a:p<s.size):(dg s p).T<=s.size:=by
 unfold dg;split
 .exact Qf (by omega)
 .split
  .exact Mk (by omega)
  .split
   .rename_i h;have:=rA (s:=s) (i:=p+1) (by rw[h.2];decide);exact wS<|by omega
   .simp only;omega
def CC(s:ByteArray):Nat->List Tk->Prop
 |p,[]=>p=s.size
 |p,t::ts=>t.F=p/\t.F<t.T/\t.T<=s.size/\CC s t.T ts
def CC.cons {s:ByteArray}{t:Tk}{c:List Tk}(h:CC s t.T c)(a:t.F<t.T)(b:t.T<=s.size):CC s t.F (kB t c):=by
 unfold kB;split
 .cases c with
  |nil=>exact⟨rfl,a,b,h⟩
  |cons u i=>
   obtain⟨f,g,d,e⟩:=h;simp only;split
   .exact⟨rfl,by simp only;omega,d,e⟩
   .exact⟨rfl,a,b,f,g,d,e⟩
 .exact⟨rfl,a,b,h⟩
def QD(s:ByteArray)(p:Nat)(b:p<=s.size):CC s p (dD s p):=by
 rw[dD];split
 .rename_i h;have a:=QD s (dg s p).T (X5 h);have hF:=X0 s p;have:=CC.cons a (by have:=BF s p;omega)<|X5 h;rw[hF]at this;exact this
 .show p=s.size;omega
termination_by s.size - p
decreasing_by have:=BF s p;omega
def E4 {s:ByteArray}{L:List Nat}:∀(e:List Tk)(p b c a d:Nat),CC s p e->JR L a d b c p->L.drop b=lu s c p->jn L a d (fK s e b c)
 |[],p,b,c,a,d,hc,h,hL=>by
  have q:p=s.size:=hc;rw[IW<|by omega]at hL;obtain⟨f,g,i⟩:=Oq hL;have j:L.length=b+1:=by have:=congrArg List.length hL;simp at this;omega
  obtain⟨B,h⟩:=h;rcases h with⟨rfl,m⟩|⟨m,n,o,C⟩
  .exact⟨f,by omega,λk _ _=>by omega⟩
  .refine⟨by omega,n,λk x D=> ?_⟩;by_cases w:k=b
   .rw[w,g];omega
   .exact o k x (by omega)
 |t::e,p,b,c,a,d,hc,h,hL=>by
  obtain⟨f,g,i,j⟩:=hc;rw[fK];subst f;refine Xe i h (au _) (by omega) hL λy A z l u r v=> ?_
  rw[u];exact E4 e t.T z l y A j v r
def Pp(s:ByteArray):jn (lu s 0 0) 0 0 (fK s (dD s 0) 0 0):=
 E4 _ 0 0 0 0 0 (QD s 0<|by omega) ⟨au _,.inl ⟨rfl,rfl⟩⟩ rfl
def Xx(s:ByteArray)(p:Nat)(_h:p<s.size)(l:aW s p≠0):wd (iD s p)=aW s p:=by
 unfold iD;rw[Lib.decode_at];unfold aW at l ⊢;have q:=(s.get! p).toNat_lt;have l1:=(s.get!<|p+1).toNat_lt;have r:=(s.get!<|p+2).toNat_lt;have t:=(s.get!<|p+3).toNat_lt;generalize(s.get! p).toNat=i at*;generalize(s.get!<|p+1).toNat=h at*;generalize(s.get!<|p+2).toNat=j at*;generalize(s.get!<|p+3).toNat=k at*;obtain⟨n,o⟩:=ac<|s.size - p;rw[<-o]at l ⊢;by_cases a:i<128
 .rw[tA (Fe a)<|by omega,Fe a];unfold wd;rw[aj<|by simp only;omega]
 by_cases b:i<194
 .exact absurd (jI<|Oj (by omega) b) l
 by_cases c:245<=i
 .exact absurd (jI<|Ol c<|by omega) l
 by_cases d:i<224
 .by_cases e:n<2∨h<128∨191<h
  .exact absurd (jI<|Od (by omega) d (by omega) e) l
  .have m:=Kw (n:=n) (b0:=i) (b1:=h) (b2:=j) (b3:=k) (by omega) d (by omega) (by omega) (by omega);rw[tA m<|by omega,m];unfold wd;rw[ai<|by simp only;omega,aj<|by simp only;omega]
 by_cases f:i<240
 .by_cases e:n<3∨h<128∨191<h∨j<128∨191<j
  .exact absurd (jI<|Oe (by omega) f (by omega) (by omega) e) l
  .by_cases g:i%16*4096+h%64*64+j%64<2048∨(55296<=i%16*4096+h%64*64+j%64/\i%16*4096+h%64*64+j%64<=57343)
   .exact absurd (jI<|Og (by omega) f g) l
   .have m:=Ky (n:=n) (b0:=i) (b1:=h) (b2:=j) (b3:=k) (by omega) f (by omega) (by omega) (by omega) (by omega) (by omega) (by omega) (by omega);rw[tA m<|by omega,m];unfold wd;rw[ai<|by simp only;omega,ai<|by simp only;omega,aj<|by simp only;omega]
 by_cases e:n<4∨h<128∨191<h∨j<128∨191<j∨k<128∨191<k
 .exact absurd (jI<|Oh (by omega) (by omega) (by omega) (by omega) (by omega) e) l
 .by_cases g:i%8*262144+h%64*4096+j%64*64+k%64<65536∨1114111<i%8*262144+h%64*4096+j%64*64+k%64
  .exact absurd (jI<|Oi (by omega) (by omega) g) l
  .have m:=Kz (n:=n) (b0:=i) (b1:=h) (b2:=j) (b3:=k) (by omega) (by omega) (by omega) (by omega) (by omega) (by omega) (by omega) (by omega) (by omega) (by omega) (by omega);rw[tA m<|by omega,m];unfold wd;rw[ai<|by simp only;omega,ai<|by simp only;omega,ai<|by simp only;omega]
def I6(s:ByteArray)(p:Nat)(h:p<s.size)(c:aW s p≠0):p+aW s p<=s.size:=by
 rcases Ex s p h c with⟨a,_⟩|⟨a,b,_⟩|⟨a,b,_⟩|⟨a,b,_⟩<;>omega
def RA(s:ByteArray):Nat->List Int->Prop
 |p,[]=>p=s.size
 |p,r::rs=>p<s.size/\aW s p≠0/\r=iD s p/\RA s (p+aW s p) rs
def afp(s:ByteArray):∀(f p:Nat)(c:List Int),p<=s.size->runesFrom s f p=some c->s.size<=p+f->RA s p c
 |0,p,c,hp,h,hf=>by
  have e:¬p<s.size:=by omega
  rw[Gd s 0 p e]at h;cases h;show p=s.size;omega
 |f+1,p,c,hp,h,hf=>by
  by_cases a:p<s.size
  .by_cases b:aW s p=0
   .rw[WX s (f+1) p hf a b]at h;cases h
   .have d:runesFrom s (f+1) p=(runesFrom s f<|p+aW s p).map (iD s p::·):=(by simp[runesFrom,a,b]);rw[d]at h;cases hr:runesFrom s f (p+aW s p)with
    |none=>rw[hr]at h;cases h
    |some l=>
     rw[hr]at h;simp only[GX,Cj]at h;subst h;exact⟨a,b,rfl,afp s f _ l (I6 s p a b) hr (by omega)⟩
  .rw[Gd s (f+1) p a]at h;cases h;show p=s.size;omega
def uw {s:ByteArray}{a:List Int}(h:eZ s=some a):RA s 0 a:=afp s s.size 0 a (by omega) h<|by omega
def WN {s:ByteArray}:∀{a:List Int}{p:Nat},RA s p a->∀j,j<a.length->(dA p a).getD j 0<s.size
 |[],_,_,j,hj=>by simp at hj
 |r::a,p,h,0,_=>by simpa [dA]using h.1
 |r::a,p,h,j+1,hj=>by
  obtain⟨b,c,d,e⟩:=h;have:=WN e j (by simpa using hj);rw[<-Xx s p b c,<-d]at this;simpa [dA]using this
def zz:Nat->Nat->List PR->Prop
 |a,b,[]=>a=b
 |a,b,x::xs=>x.from_=a/\a<x.dH/\zz x.dH b xs
def VD {L:List Nat}:∀{l:List PR}{a p:Nat},jn L a p l->∀x∈l,a<=x.line
 |[],_,_,_,x,hx=>by cases hx
 |y::ys,a,p,h,x,hx=>by
  obtain⟨b,d,e,f,g,i,c⟩:=h;rcases fW.1 hx with rfl|hx
  .exact b
  .exact bP b (VD c x hx)
def aoc {l:List PR}{a:Nat}(h:∀x∈l,a<x.line):iy l a=[]:=by
 unfold iy;rw[Sj];intro x hx;have:=h x hx;simp;omega
def aob(x:PR)(b:List PR)(a:Nat):iy (x::b) a=if x.line=a then x::iy b a else iy b a:=by
 unfold iy;by_cases h:x.line=a<;>simp[h]
def VC {L:List Nat}:∀{l:List PR}{a p:Nat},jn L a p l->∀b,a<=b->b<L.length->zz (if b=a then p else 0) (L.getD b 0) (iy l b)
 |[],a,p,h,b,h1,h2=>by
  obtain⟨n,j,g⟩:=h;show(if b=a then p else 0)=L.getD b 0;by_cases c:b=a
  .rw[aj c,c,j]
  .rw[ai c,g b (by omega) h2]
 |x::xs,a,p,h,b,h1,h2=>by
  obtain⟨n,j,g,k,r,s,i⟩:=h;rw[aob];by_cases d:x.line=b
  .rw[aj d];have ih:=VC i b (by omega) h2;rw[aj d.symm]at ih;refine⟨?_,?_,ih⟩
   .rw[k];by_cases c:b=a
    .rw[aj c,ai<|by omega]
    .rw[ai c,aj<|by omega]
   .have:x.from_=(if b=a then p else 0):=by
     rw[k];by_cases c:b=a
     .rw[aj c,ai<|by omega]
     .rw[ai c,aj<|by omega]
    omega
  .rw[ai d];by_cases f:b<x.line
   .obtain⟨o,q⟩:=g (by omega);rw[aoc λy m=>by have:=VD i y m;omega];show(if b=a then p else 0)=L.getD b 0;by_cases c:b=a
    .rw[aj c,c,o]
    .rw[ai c,q b (by omega) f]
   .have ih:=VC i b (by omega) h2;rw[ai λe=>d e.symm]at ih;rw[ai<|by omega];exact ih
def nN {q:Nat}:∀{l:List PR}{a b:Nat},zz a b l->a<=q->q<b->∃k x,(∀c:Nat,pI q l c=((c+k:Nat):Int))/\l[k]? =some x/\x.from_<=q/\q<x.dH
 |[],a,b,h,h1,h2=>by have:a=b:=h;omega
 |x::xs,a,b,h,h1,h2=>by
  obtain⟨m,n,j⟩:=h;by_cases d:q<x.dH
  .exact⟨0,x,λc=>by rw[pI,aj ⟨by omega,d⟩];rfl,rfl,by omega,d⟩
  .obtain⟨k,y,e,f,g,i⟩:=nN j (by omega) h2;exact⟨k+1,y,λc=>by rw[pI,ai λh=>d h.2,e];congr 1;omega,by simpa using f,g,i⟩
def JK {s:ByteArray}{a i:Nat}(h:i<=s.size)(d:a<=i):(aR s a i).map (·.size)=lu s a i:=by
 fun_induction aR s a i with
 |case1 a i b c ih=>rw[VM b c,mP,ih (by omega)<|by omega];congr 1;simp;omega
 |case2 a i b c ih=>rw[Jq b c,ih (by omega)<|by omega]
 |case3 a i b=>rw[IW b];simp;omega
def gA(s:ByteArray)(i:Nat):List PR:=iy (fD s) i
def afm(s:ByteArray)(f:s.size<=600)(i:Nat)(a:i<(aR s 0 0).length):zz 0 ((aR s 0 0).getD i ⟨#[]⟩).size (gA s i):=by
 have d:jn (lu s 0 0) 0 0 (fD s):=by
  unfold fD;rw[aj f];have:=Pp s;rw[<-P9]at this;exact this
 have b:(aR s 0 0).map (·.size)=lu s 0 0:=JK (by omega) (by omega);have h:=VC d i (by omega) (by rw[<-b];simpa using a);have e:(lu s 0 0).getD i 0=((aR s 0 0).getD i ⟨#[]⟩).size:=by
  rw[<-b,aO,jq,aO,aM a];rfl
 rw[e]at h;have c:(if i=0 then 0 else 0)=0:=by split<;>rfl
 rw[c]at h;exact h
structure jC(w:World)(B s:Nat)(v:Value)(l:List Nat):Prop where
 cell:w.heap[s]? =some (.cells #[v] 296 (0,0))
 row:w.ownsRow B 108 1 v l.length<|iv<|nl l
 low:B<=s
structure Al(w w':World)(s:Nat)(v v':Value):Prop where
 os:w'.os=w.os
 tape:w'.tape=w.tape
 output:w'.output=w.output
 size:w.heap.size<=w'.heap.size
 block:∀k,k<w.heap.size->k≠s->v.ownBlock≠some k->w'.heap[k]? =w.heap[k]?
 own:v'.ownBlock=v.ownBlock∨∀k,v'.ownBlock=some k->w.heap.size<=k
def Al.below {w c d:World}{B s:Nat}{v j:Value}{l:List Nat}(h:Al w c s v j)(b:jC w B s v l)(g:Below B d w):Below B d c:=
 g.trans ⟨h.os,h.tape,h.output,h.size,λk i=>by
  have f:=b.low;have a:k<w.heap.size:=kQ (kQ i f)<|gF<|cJ b.cell;refine h.block k a (by omega) ?_;intro e;have:=vC b.row k e;omega⟩
def jC.ne {w:World}{B s:Nat}{v:Value}{l:List Nat}(h:jC w B s v l):v.ownBlock≠some s:=by
 rcases h.row.2 with⟨rfl,_⟩|⟨g,c,b,rfl,_,a,_⟩
 .simp[Value.ownBlock]
 .simp only[Value.ownBlock];intro e;obtain rfl:=aJ e;rw[h.cell]at a;simp at a
def jC.grow {w d:World}{B s:Nat}{v b:Value}{l q:List Nat}{m:Nat}(h:jC w B s v l)(c:d.ownsRow B 108 1 b m<|iv<|nl q)(f:w.grownBy d v.ownBlock)(a:b.ownBlock=v.ownBlock∨b.ownBlock=some (w.heap.size+1)):
  jC (d.setCell ⟨s,0,none⟩ b) B s b q/\Al w (d.setCell ⟨s,0,none⟩ b) s v b/\d.cell? ⟨s,0,none⟩=some v/\d.frozen? ⟨s,0,none⟩=false:=by
 have n:=cJ h.cell;have p:d.heap[s]? =some (.cells #[v] 296 (0,0)):=by rw[f.block s n h.ne.symm];exact h.cell
 have o:b.ownBlock≠some s:=by
  rcases a with a|a
  .rw[a];exact h.ne
  .rw[a];intro e;have:=aJ e;omega
 have r:m=q.length:=by have:=c.1;rw[nZ,gW]at this;omega
 subst r;refine⟨⟨by rw[eW p];rfl,jW c o 0 b,h.low⟩,⟨f.os,f.tape,f.output,?_,?_,?_⟩,az p 0,cB p 0⟩
 .have:=f.size;simpa using this
 .intro k g i j;rw[iF]
  .exact f.block k g (λe=>j e.symm)
  .exact i
 .rcases a with a|a
  .exact .inl a
  .exact .inr λk g=>by rw[a]at g;have:=aJ g;omega
def ani(w:World)(B s:Nat)(v:Value)(l:List Nat)(h:jC w B s v l):Calls prog 260 #[.pointer<|some ⟨s,0,none⟩] w λe b=>e= .returned (.int .i64 l.length)/\b=w:=by
 obtain⟨a,c,rfl⟩:=eH h.row;have d:w.cell? ⟨s,0,none⟩=some (.slice a l.length c):=az h.cell 0;clear h;go_enter func260,ntmps260;go_wp2;go_ret;exact⟨rfl,rfl⟩
def aiD(w:World)(B s:Nat)(v:Value)(l:List Nat)(i:Nat)(h:jC w B s v l)(a:i<l.length):Calls prog 275 #[.pointer<|some ⟨s,0,none⟩,.int .i64 i] w λe f=>e= .returned (.tuple #[.int .i64 (l.getD i 0:Nat),.bool true])/\f=w:=by
 obtain⟨g,c,rfl,_,_,_⟩:=gI h.row (by omega);have j:w.cell? ⟨s,0,none⟩=some (.slice (some ⟨g,0,none⟩) l.length c):=az h.cell 0;have b:=jk h.row i (by rw[gW];exact a);rw[oh _ _ a]at b;generalize l.getD i 0=x at*;generalize l.length=n at*;have d:((i:Int)<(n:Int)):=by omega
 have k:decide ((i:Int)<0)=false:=by simp
 clear h;go_enter func275,ntmps275;go_wp2;go_ret2;exact⟨rfl,rfl⟩
def aiE(w:World)(s:Nat)(i:Int)(b:i<0):Calls prog 275 #[.pointer<|some ⟨s,0,none⟩,.int .i64 i] w λe a=>e= .returned (.tuple #[.int .i64 0,.bool false])/\a=w:=by
 go_enter func275,ntmps275;go_wp2;go_ret2;exact⟨rfl,rfl⟩
def afn(w:World)(B s:Nat)(v:Value)(l:List Nat)(i:Nat)(h:jC w B s v l)(A:l.length<=1000000):Calls prog 258 #[.pointer<|some ⟨s,0,none⟩,.int .i64 i] w λe n=>e= .returned (.tuple #[])/\∃m,jC n B s m (l++[i])/\Al w n s v m:=by
 obtain⟨C,u,x,y,z⟩:=gu Tryz.Iu;have r:w.cell? ⟨s,0,none⟩=some v:=az h.cell 0;have f0:w.frozen? ⟨s,0,none⟩=false:=cB h.cell 0;have b:=h.row;have f:B<=w.heap.size:=bP h.low<|gF<|cJ h.cell;have q:=ah h;obtain⟨a,c,rfl⟩:=eH b;clear h;go_enter func258,ntmps258;go_wp2_with(at_builtin;refine Ag _ rfl _ _ 139 rfl B 108 C (.int .i64 0) 8 underlying139 u x y z rfl (by decide) _ _ _ rfl b _ _ _ rfl rfl rfl A f ?_);intro G H d g j;obtain⟨E,D,rfl⟩:=eH d;obtain⟨k,o,F,f5⟩:=q.out.grow (by rw[FT,PO]at d;exact d) g j;have t:=ah k;have p:=ah o;clear k o d g j b r f0;go_wp2;go_end0;exact⟨rfl,_,t.out,p.out⟩
def jC.cut {w:World}{B s g c n:Nat}{l:List Nat}{vs:List Value}(h:jC w B s (.slice (some ⟨g,0,none⟩) l.length c) l)(t:n<l.length):
  jC ((w.setCells g n vs).setCell ⟨s,0,none⟩ (.slice (some ⟨g,0,none⟩) n c)) B s (.slice (some ⟨g,0,none⟩) n c) (l.take n)/\Al w ((w.setCells g n vs).setCell ⟨s,0,none⟩ (.slice (some ⟨g,0,none⟩) n c)) s (.slice (some ⟨g,0,none⟩) l.length c) (.slice (some ⟨g,0,none⟩) n c)/\(w.setCells g n vs).cell? ⟨s,0,none⟩=some (.slice (some ⟨g,0,none⟩) l.length c)/\(w.setCells g n vs).frozen? ⟨s,0,none⟩=false:=by
 have f:=cJ h.cell;have i:=h.ne;have o:g≠s:=by simpa [Value.ownBlock]using i
 obtain⟨u,p,a,q⟩:=P6 vs n w _ h.row;have j:(w.setCells g n vs).heap[s]? =some (.cells #[.slice (some ⟨g,0,none⟩) l.length c] 296 (0,0)):=by rw[a.block s f<|by simpa using o.symm];exact h.cell
 have m:=P7 p n (by omega);rw[Ka,Xy _ _ n q,<-Ka n,Vz,Ka]at m;refine⟨⟨by rw[eW j];rfl,?_,h.low⟩,⟨a.os,a.tape,a.output,by have:=a.size;simpa using this,?_,.inl rfl⟩,az j 0,cB j 0⟩
 .have:=jW m (s:=s) (by simpa [Value.ownBlock]using o) 0 (.slice (some ⟨g,0,none⟩) n c);simpa [jN<|gF t]using this
 .intro k r b d;rw[iF]
  .exact a.block k r (λe=>d<|by rw[e];rfl)
  .exact b
def ajT(w:World)(B s:Nat)(v:Value)(l:List Nat)(n:Nat)(h:jC w B s v l)(q:n<l.length)(z:l.length<=1000000):Calls prog 276 #[.pointer<|some ⟨s,0,none⟩,.int .i64 n] w λe f=>e= .returned (.tuple #[])/\∃d,jC f B s d (l.take n)/\Al w f s v d:=by
 obtain⟨g,c,rfl,b,A,p⟩:=gI h.row (by omega);have u:w.cell? ⟨s,0,none⟩=some (.slice (some ⟨g,0,none⟩) l.length c):=az h.cell 0;have f0:w.frozen? ⟨s,0,none⟩=false:=cB h.cell 0;have m:=ahP (P:=prog) w 139 108 0 (.int .i64 0) underlying139 Tryz.zeroValue108 rfl rfl g n (l.length - n) (c - n) (by omega) (λj y=>by
   rw[jk h.row (n+j)<|by rw[gW];omega];rfl) (λj _=>Dx h.row<|n+j)
 have o:n<=c:=by omega
 have r:((n:Int)<(l.length:Int)):=by omega
 obtain⟨a,hF,x,f5⟩:=h.cut (vs:=List.replicate (l.length - n) (.int .i64 0)) q;have k:=ah a;have i:=ah hF;clear h a hF;generalize w.setCells g n (List.replicate (l.length - n) (.int .i64 0))=t at*;generalize l.length=L at*;go_enter func276,ntmps276;go_wp2;go_end0;exact⟨rfl,_,k.out,i.out⟩
def afh(w:World)(B s:Nat)(v:Value)(l:List Nat)(x:Nat)(h:jC w B s v<|l++[x])(q:l.length<=100000):Calls prog 259 #[.pointer<|some ⟨s,0,none⟩] w λe d=>e= .returned (.tuple #[.int .i64 x,.bool true])/\∃f,jC d B s f l/\Al w d s v f:=by
 have b:(l++[x]).length=l.length+1:=by simp
 obtain⟨a,c,rfl⟩:=eH h.row;have p:w.cell? ⟨s,0,none⟩=some (.slice a (l.length+1) c):=by have:=az h.cell 0;rw[b]at this;exact this
 have o:Hid (Calls prog 275 #[.pointer<|some ⟨s,0,none⟩,.int .i64 l.length] w λe d=>e= .returned (.tuple #[.int .i64 x,.bool true])/\d=w):=by
  have:=aiD w B s _ (l++[x]) l.length h (by omega);have hx:(l++[x]).getD l.length 0=x:=by simp
  rw[hx]at this;exact this
 have j:Hid (Calls prog 276 #[.pointer<|some ⟨s,0,none⟩,.int .i64 l.length] w λe d=>e= .returned (.tuple #[])/\∃f,jC d B s f l/\Al w d s (.slice a (l++[x]).length c) f):=by
  have:=ajT w B s _ (l++[x]) l.length h (by omega) (by omega);have hx:(l++[x]).take l.length=l:=by simp
  rw[hx]at this;exact this
 clear h b;generalize l.length=L at*;go_enter func259,ntmps259;go_wp2_with fail;refine o.out.mono ?_;rintro n t ⟨rfl,hx⟩;have g:=hx.symm;subst g;go_wp2_with fail;refine j.out.mono ?_;rintro n r ⟨rfl,f,i,hF⟩;have m:=ah i;have k:=ah hF;clear i hF;go_wp2;go_ret2;exact⟨rfl,_,m.out,k.out⟩
def ao6(w:World)(B s:Nat)(v:Value)(h:jC w B s v []):Calls prog 259 #[.pointer<|some ⟨s,0,none⟩] w λe d=>e= .returned (.tuple #[.int .i64 0,.bool false])/\d=w:=by
 obtain⟨a,c,rfl⟩:=eH h.row;have f:w.cell? ⟨s,0,none⟩=some (.slice a 0 c):=az h.cell 0;clear h;go_enter func259,ntmps259;go_wp2_with fail;refine(aiE w s (-1)<|by omega).mono ?_;rintro g i ⟨rfl,hx⟩;have b:=hx.symm;subst b;go_wp2;go_ret2;exact⟨rfl,rfl⟩
def Sp(w:World):Prop:=∃t a,w.heap[4]? =some (.cells Aa t a)
def Sp.below {w a:World}(h:Sp w)(c:Below w.heap.size w a):Sp a:=by
 obtain⟨t,b,h⟩:=h;exact⟨t,b,bq c h⟩
def Sp.cls {w:World}(h:Sp w)(r:Int):Calls prog 66 #[.int .i32 r] w λe c=>e= .returned (.int .i64<|cls r)/\Below w.heap.size w c:=by
 obtain⟨t,b,a⟩:=h;exact rI r w t b a
def sA {w:World}{aL b a:Addr}(h:Env w aL b a)(r:Int):Calls prog 66 #[.int .i32 r] w λe c=>e= .returned (.int .i64<|cls r)/\Below w.heap.size w c:=Sp.cls h.I2 r
def jJ(c:Int):Bool:=decide (13<=c)&&decide (c<=21)
def agK(c:Int)(w:World):Calls prog 223 #[.int .i64 c] w λe h=>e= .returned (.bool<|jJ c)/\h=w:=by
 obtain⟨q,f⟩:=ac<|jJ c;rw[<-f];have b:=ah f;clear f;by_cases a:13<=c
 .have d:c ≥ 13:=a;by_cases g:c<=21
  .go_enter func223,ntmps223;go_wp2;go_ret;exact⟨gY<|by rw[b.out,jJ];simp[a,g],rfl⟩
  .go_enter func223,ntmps223;go_wp2;go_ret;exact⟨gY<|by rw[b.out,jJ];simp[a,g],rfl⟩
 .have d:¬c ≥ 13:=a;go_enter func223,ntmps223;go_wp2;go_ret;exact⟨gY<|by rw[b.out,jJ,rB<|by omega];rfl,rfl⟩
def Vv(r:Int)(w:World)(b:Sp w):Calls prog 172 #[.int .i32 r] w λe i=>e= .returned (.bool<|jJ<|cls r)/\Below w.heap.size w i:=by
 have f:=ah<|b.cls r;clear b;go_enter func172,ntmps172;go_wp2_with fail;refine f.out.mono ?_;rintro g j ⟨rfl,c⟩;have d:=ah c;clear c;go_wp2_with fail;refine(agK (cls r) j).mono ?_;rintro g k ⟨rfl,a⟩;have h:=a.symm;subst h;clear a;go_wp2;go_ret;exact⟨rfl,d.out⟩
def amX(r:Int)(w:World)(aL b a:Addr)(c:Env w aL b a):Calls prog 172 #[.int .i32 r] w λe d=>e= .returned (.bool<|jJ<|cls r)/\Below w.heap.size w d:=Vv r w c.I2
def aoL(s:ByteArray)(l:List Int)(w:World)(aL p o:Addr)(t:s.size<=600)(f:eZ s=some l)(k:Env w aL p o):
  Calls prog 108 #[.string s] w λe b=>e= .returned (.int .i64<|found<|l.map cls)/\Below w.heap.size w b:=by
 have h:∀g,gX g 2=found g:=λg=>by unfold gX;simp
 have i:Hid (Calls prog 84 #[.string s,.int .i64 2] w λe b=>∃c,e= .returned (.pointer<|some ⟨c,0,none⟩)/\b.cell? ⟨c,5,none⟩=some (.int .i64<|found<|l.map cls)/\Below w.heap.size w b):=by
  by_cases j:s.size=0
  .obtain rfl:=afR f j;refine(aeu s 2 w j).mono ?_;rintro e b ⟨c,v,x,y,rfl,d,_,a⟩;rw[h]at d;exact⟨c,rfl,(LB.c5 d).1,a⟩
  .refine(aev s l 2 w t f (afQ f<|by omega) λr W q=>sA (k.below q) r).mono ?_;rintro e b ⟨L,rfl,d,_,_,_,n,_,a⟩;refine⟨L.lb,rfl,?_,a⟩;rw[<-h,<-n];exact az d.cell 5
 clear k f h;go_enter func108,ntmps108;go_wp2_with fail;refine i.out.mono ?_;rintro u A ⟨c,rfl,z,a⟩;have m:=ah a;clear a i;go_wp2;go_ret;exact⟨rfl,m.out⟩
def sI:List Int->List Nat->Bool
 |[],st=>st.isEmpty
 |r::rs,st=>
  if mD (cls r)=true then sI rs (st++[17])
  else if aU (cls r)=true then sI rs (st++[21])
  else if jJ (cls r)=true then
   match st.getLast? with
   |none=>false
   |some x=>if(x:Int)=cls r then sI rs st.dropLast else false
  else sI rs st
def jC.keep {w b:World}{B s:Nat}{v:Value}{l:List Nat}(h:jC w B s v l)(a:∀k o,w.heap[k]? =some o->(k=s∨v.ownBlock=some k)->b.heap[k]? =some o):jC b B s v l:=
 ⟨a s _ h.cell (.inl rfl),nB h.row λk o d c=>a k o c (.inr d),h.low⟩
def jC.below {w a:World}{B s:Nat}{v:Value}{l:List Nat}(h:jC w B s v l)(b:Below w.heap.size w a):jC a B s v l:=h.keep λ_ _ c _=>bq b c
def Al.iter {w a:World}{B s K p:Nat}{v c:Value}{l:List Nat}{t:ByteArray}(b:Al w a s v c)(h:jC w B s v l)(hit:w.heap[K]? =some (.stringIter t p)):a.heap[K]? =some (.stringIter t p):=by
 rw[b.block K (bS hit) ?_<|Bp h.row hit]
 .exact hit
 .rintro rfl;rw[h.cell]at hit;cases hit
def apx(w:World):Calls prog 49 #[.slice none 0 0] w λe a=>e= .returned (.slice none 0 0)/\a=w:=by
 go_enter func49,ntmps49;go_wp2;refine fV 1 ?_;rw[bN];go_wp2;refine fV 1 ?_;rw[bN];go_wp2;go_ret;exact⟨rfl,rfl⟩
def apw(a:List Int)(v:Value)(w:World)(m:a.length<=1000)(o:jB w v a)(g:∀l∈a,0<=l/\l<=126):
  Calls prog 49 #[v] w λe d=>∃c,e= .returned c/\d.ownsRow w.heap.size 3 1 c (nA a).length (iv<|nA a)/\Below w.heap.size w d:=by
 rcases o with⟨rfl,rfl⟩|⟨b,h,f,rfl,j⟩
 .refine(apx w).mono ?_;rintro e d ⟨rfl,rfl⟩;exact⟨_,rfl,gQ _ _ _ _,aA _ _⟩
 .refine(apG a b h f a.length w rfl m j (λl k=>by have:=g l k;omega)).mono ?_;rintro e d ⟨c,rfl,n,i⟩;exact⟨c,rfl,by rw[Wn];exact n,i⟩
def BD:Int->List Int->Bool
 |_,[]=>true
 |a,k::ks=>if k<a then false else BD k ks
def Xk(a:List Int)(b:List PR):List Int:=(nA<|gV a (a.map cls) 0).map λj=>pI ((dA 0 a).getD j.toNat 0) b 0
def CR(b:List Int)(a:List PR):Bool:=BD (-1)<|Xk b a
def VN(a:List Int):∀x∈gV a (a.map cls) 0,0<=x/\x<=126:=by
 have b:gX (a.map cls) 0=0:=by unfold gX;simp
 intro x hx;have:=ann (cs:=a.map cls) (λc d=>by obtain⟨r,_,rfl⟩:=jM.1 d;exact Hh r) a 0 (by rw[b];omega) x hx;rw[b]at this;exact this
def Mj(a:List Int):(gV a (a.map cls) 0).length=a.length:=by rw[anl,ja]
def Wm(a:List Int):∀j∈nA (gV a (a.map cls) 0),0<=j/\j<a.length:=by
 intro j c;have b:=(aop<|gV a (a.map cls) 0).mem_iff.1 c;rw[Mj]at b;unfold dX at b;simp at b;omega
def aov(a:List Int)(m:List PR)(F I:Value)(w:World)(H:a.length<=1000)(P:m.length<=600)(y:jB w F a)(E:qL w I m):
  Calls prog 131 #[F,I] w λe p=>e= .returned (.bool<|CR a m)/\Below w.heap.size w p:=by
 have V:=WG a F w H y;have X:Hid (∀W,Below w.heap.size w W->Calls prog 48 #[F,.int .i64 0] W λz p=>∃g c,z= .returned (.slice (some ⟨g,0,none⟩) a.length c)/\p.ownsRow W.heap.size 3 1 (.slice (some ⟨g,0,none⟩) a.length c) a.length (iv<|gV a (a.map cls) 0)/\Below W.heap.size W p):=λW L=>anm a 0 F W H<|y.below L
 have HOr:Hid (∀W v,jB W v (gV a (a.map cls) 0)->Calls prog 49 #[v] W λe p=>∃v',e= .returned v'/\p.ownsRow W.heap.size 3 1 v' (nA<|gV a (a.map cls) 0).length (iv<|nA<|gV a (a.map cls) 0)/\Below W.heap.size W p):=λW v h=>apw _ v W (by rw[Mj];exact H) h (VN a)
 have BV:Hid (∀(q:Nat) W,Below w.heap.size w W->Calls prog 194 #[I,.int .i64 q] W λe p=>e= .returned (.int .i64<|pI q m 0)/\p=W):=λq W L=>SX m I q W P<|E.below L
 have u:(nA<|gV a (a.map cls) 0).length=a.length:=by rw[Wn,Mj]
 have Y:=ah<|Wm a;have za:Hid (CR a m=BD (-1) ((nA<|gV a (a.map cls) 0).map λj=>pI ((dA 0 a).getD j.toNat 0) m 0)):=rfl;generalize gV a (a.map cls) 0=LV at*;generalize nA LV=r at*;rw[u]at HOr;obtain⟨n,G⟩:=ac a.length;have HN:=ah G;have p6:Hid (r.length=n):=by show _=_;rw[u,G]
 rw[<-G]at H V X HOr Y;obtain⟨R,hR⟩:=ac<|CR a m;rw[<-hR]at za ⊢;clear u G hR y E;go_enter func131,ntmps131;go_wp2_with fail;refine V.mono ?_;clear V;rintro z W1 ⟨va,rfl,K,s⟩;obtain⟨ga,ca,rfl,af,_,aa⟩:=nC K (by omega);have HA:=ah K;have aD:=ah s;have Q:=s.size;clear K s;go_wp2_with fail;refine(X.out _ aD.out).mono ?_;clear X;rintro z W2 ⟨gl,cl,rfl,D,t⟩;have bW:=ah<|jB.Mx D;have aI:=ah t;have S:=t.size;clear D t;go_wp2_with fail;refine(HOr.out _ _ bW.out).mono ?_;clear HOr bW;rintro z W3 ⟨vo,rfl,x,A⟩;obtain⟨oa,oc,rfl⟩:=iA x;have mO:=ah x;have J:=ah<|aI.out.trans<|A.mono S;have al:=J.out.size;have U:=ah<|aD.out.trans<|J.out.mono Q;clear x A;go_wp2;go_loopg [8,9,10] n (λgk lv gw _ W=>∃(i:Nat)(b:Int),i<=n/\gk=n - i/\gw= .int .i64 i/\lv= .int .i64 b/\BD b ((r.drop i).map λj=>pI ((dA 0 a).getD j.toNat 0) m 0)=R/\W=W3);exact⟨0, -1,by omega,rfl,rfl,rfl,za.out.symm,rfl⟩;obtain⟨i,b,hi,rfl,rfl,rfl,f,rfl⟩:=hrel;by_cases N:i<n
 .have o:i<r.length:=by rw[p6.out];exact N
  obtain⟨og,od,Z,ak,_,ab⟩:=nC mO.out (by omega);simp only[pJ,oC]at Z;obtain⟨rfl,rfl⟩:=Z;obtain⟨VA,VB⟩:=Y.out r[i] (pF o);have Ib:wr.cell? ⟨og,i,none⟩=some (.int .i64 r[i]):=by rw[di mO.out i<|by omega];simp[iv,o]
  rw[kO o,mP,BD]at f;obtain⟨l,B⟩:∃l:Nat,r[i]=(l:Int):=⟨r[i].toNat,by omega⟩
  rw[B]at Ib f VB;have ad:wr.cell? ⟨ga,l,none⟩=some (.int .i64 ((dA 0 a).getD l 0:Nat)):=by
   rw[di (iZ HA.out J.out) l<|by omega];have O:=WC 0 a;have:l<(dA 0 a).length:=(by rw[O,<-HN.out];omega);rw[nv,jq,aM this,GX,aO,aM this];rfl
  simp only[Cg]at f;have Zg:=BV.out ((dA 0 a).getD l 0) wr U.out;generalize(dA 0 a).getD l 0=q at*;generalize pI q m 0=k at*;have M:(i:Int)<(n:Int):=by omega
  have ag:l<n+1:=by omega
  have ae:(l:Int)<(n:Int)+1:=by omega
  have xK:Hid _:=Zg;clear Zg B o VA;by_cases C:k<b
  .rw[aj C]at f;subst f;go_wp2_with fail;refine mM xK.out ?_;rintro z wx ⟨rfl,d⟩;have T:=d.symm;subst T;clear d;go_wp2;go_ret;exact⟨rfl,U.out⟩
  .rw[ai C]at f;have HJ:=ah f;clear f;go_wp2_with fail;refine mM xK.out ?_;rintro z wx ⟨rfl,d⟩;have T:=d.symm;subst T;clear d;go_wp2;go_roundg (n - (i+1));exact⟨i+1,k,by omega,rfl,by go_num,rfl,HJ.out,rfl⟩;omega
 .obtain rfl:i=n:=by omega
  have M:¬(i:Int)<(i:Int):=by omega
  rw[rV<|by rw[p6.out];exact au _,Dq,BD]at f;subst f;go_wp2;go_ret;exact⟨rfl,U.out⟩
