import Derived.Test.YtkbinfhclaafhaaGreatDoorP29
import Derived.Maps.OwnIn
import Derived.Sort.LoopGhostIn
import Derived.RangeFuncCalls
import Derived.Shelf.Strings.BuilderK
namespace Go.Proofs.YtkbinfhclaafhaaGreatDoor
open Go.RowKit
open Go.Proofs.Tryz
set_option maxRecDepth 100000
set_option maxHeartbeats 32000000
set_option linter.all false
def VF(s:ByteArray):∀(f p:Nat),p<=s.size->s.size<=p+f->(runesFrom s f p=none↔kU s p<s.size)
 |0,p,hp,hf=>by
  have c:¬p<s.size:=by omega
  rw[Gd s 0 p c,Tv c];simp;omega
 |f+1,p,hp,hf=>by
  by_cases a:p<s.size
  .by_cases b:aW s p=0
   .rw[WX s (f+1) p hf a b,Ox a b];simp[a]
   .have d:runesFrom s (f+1) p=(runesFrom s f<|p+aW s p).map (iD s p::·):=(by simp[runesFrom,a,b]);rw[d,Oy a b,Option.map_eq_none_iff];exact VF s f (p+aW s p) (Xv s p a b)<|by omega
  .rw[Gd s (f+1) p a,Tv a];simp;omega
def aqe(s:ByteArray):eZ s=none↔kU s 0<s.size:=VF s s.size 0 (by omega)<|by omega
def Jf(i:World)(B:Nat)(c:Value)(f:Int×Int×Int)(aL g d:Addr):Prop:=
 (f=(0,0,0)/\c= .nilIface)∨(f=(1, -1, -1)/\c=AX 1 aL g d)∨
 ∃b e h a,c= .iface 92 (.pointer<|some ⟨b,0,none⟩)/\i.heap[b]? =some (.cells #[.int .i64 h,.int .i64 a,AX e aL g d] 96 (0,0))/\B<=b/\f=(e,h,a)/\(e=1∨e=2∨e=3)
def zk(w:World):Prop:=∃m:Int,w.cell? ⟨10,0,none⟩=some (.int .i64 m)
def zk.below {w a:World}(h:zk w)(b:Below w.heap.size w a):zk a:=h.imp λ_ h=>eu b h
def arA {w:World}{aL b a:Addr}(h:Env w aL b a):Lib.Utf8Tabs (Tryz.lays197_ren.g 3) (Tryz.lays197_ren.g 4) w:=h.tabs
def ajy(s:ByteArray)(w:World)(aL G E:Addr)(H:Env w aL G E)(hM:zk w):
  Calls prog 61 #[.string s] w λe I=>∃A,e= .returned A/\Jf I w.heap.size A (gy s) aL G E/\Below w.heap.size w I:=by
 by_cases hz:600<s.size
 .have ag:(s.size:Int)>600:=by omega
  have hL:gy s=(1, -1, -1):=aj hz;have hc:=H.long;have HL:=ah hL;clear H hM hL;go_enter func61,ntmps61;go_wp2;go_ret;exact⟨_,rfl,.inr (.inl ⟨HL.out,rfl⟩),aA _ _⟩
 .have ag:¬(s.size:Int)>600:=by omega
  obtain⟨m,hm⟩:=hM;have aa:=ID s 0 0 (by omega);have pE:Hid (∀x∈aR s 0 0,x.size<=600):=λx hx=>by have:=VO s 0 0 x hx;omega
  have J:=Xp s m w (by omega) hm;have K:Hid (gy s=match sH (aR s 0 0) 0 with
   |some (i,p)=>(2,((i:Nat):Int),((p:Nat):Int))
   |none=>match qD (dY<|aR s 0 0) 0 with
    |some i=>(1,((i:Nat):Int),0)
    |none=>(0,0,0)):=ai hz
  obtain⟨F,hF⟩:=ac<|gy s;rw[<-hF]at K ⊢;have HE:=ah H;clear hF H hm hz;generalize aR s 0 0=d at*;obtain⟨N,Q⟩:=ac d.length;have D:=ah Q;rw[<-Q]at aa J;clear Q;go_enter func61,ntmps61;go_wp2_with fail;refine J.mono ?_;clear J;rintro A l ⟨rfl,o⟩;have B:Below w.heap.size w l:=by rw[o];exact(aA _ _).alloc (au _) _
  have r:l.heap[w.heap.size]? =some (.cells (iX d).toArray 9 (0,0)):=by rw[o];exact World.alloc_heap_new _ _
  have z:=ah B;have pY:Hid (∀W,Below l.heap.size l W->∀i x,d[i]? =some x->W.cell? ⟨w.heap.size,i,none⟩=some (.string x)):=λW R i x hx=>by
   rw[cell_of (bq R r) i];simp[iX,hx]
  have ak:w.heap.size<l.heap.size:=bS r;clear o B r;go_wp2;go_loopg [17,4,5,6] N (λgk gw _ _ _ W=>∃(i:Nat),i<=N/\gk=N - i/\gw= .int .i64 i/\sH (d.drop i) i=sH d 0/\Below l.heap.size l W);exact⟨0,by omega,rfl,rfl,rfl,aA _ _⟩
  rename World=>wa
  obtain⟨i,hi,rfl,rfl,a,v⟩:=hrel;have HB:=ah v;have S:=v.size;by_cases ab:i<N
  .have b:i<d.length:=(by rw[<-D.out];exact ab);obtain⟨x,hx⟩:=ac<|d[i]'b;have V:=pY.out wa v i x (by rw[aM b,hx]);have af:x.size<=600:=(by rw[hx];exact pE.out _ (pF b));have y:Env wa aL G E:=HE.out.below (z.out.trans<|v.mono<|by omega);have Zo:Hid (Calls prog 104 #[.string x] wa λe I=>e= .returned (.int .i64 (kU x 0:Nat))/\Below wa.heap.size wa I):=aqb x wa (by omega) (λW R=>arA<|y.below R);have L:=ah y;rw[kO b,<-hx,sH]at a;have Y0:=ah<|aqe x;have X:(i:Int)<(N:Int):=(by omega);clear hx b v y;go_wp2_with fail;refine Zo.out.mono ?_;clear Zo;rintro A wr ⟨rfl,c⟩;have n:=ah<|HB.out.trans<|c.mono S;have O:=L.out.below c;have U:=O.text;generalize kU x 0=p at*;by_cases hp:p<x.size
   .have ad:(p:Int)<(x.size:Int):=(by omega);rw[Y0.out.2 hp]at a;have C:Hid (F=(2,(i:Int),(p:Int))):=(by show _=_;rw[K.out,<-a]);clear a c O;go_wp2;go_ret;refine⟨_,rfl,.inr (.inr ⟨wr.heap.size,2,i,p,rfl,World.alloc_heap_new _ _,?_,C.out,by omega⟩),?_⟩
    .have:=n.out.size;omega
    .exact(z.out.trans<|n.out.mono<|by omega).alloc (by have:=n.out.size;omega) _
   .have ad:¬(p:Int)<(x.size:Int):=(by omega);obtain⟨u,g⟩:∃u,eZ x=some u:=by
     cases h:eZ x with
     |none=>exact absurd (Y0.out.1 h) hp
     |some u=>exact⟨u,rfl⟩
    rw[g]at a;simp only at a;have QM:=ah a;clear a c O U g;go_wp2;go_roundg (N - (i+1));exact⟨i+1,by omega,rfl,by go_num,QM.out,n.out⟩;omega
  .obtain rfl:i=N:=(by omega);have X:¬(i:Int)<(i:Int):=(by omega);rw[rV<|by rw[D.out];exact au _,sH]at a;have M6:=ah<|SU a.symm;have eU:Hid (F=match qD (dY d) 0 with
    |some i=>(1,((i:Nat):Int),0)
    |none=>(0,0,0)):=by show _=_;rw[K.out,<-a]
   clear a v;go_wp2;go_loopg [37,7,8] i (λgk kv _ _ W=>∃(k:Nat),k<=i/\gk=i - k/\kv= .int .i64 k/\qD ((dY d).drop k) k=qD (dY d) 0/\Below l.heap.size l W);exact⟨0,by omega,rfl,rfl,rfl,HB.out⟩
   rename World=>wk
   obtain⟨k,hk,rfl,rfl,j,f⟩:=hrel;have Ao:=ah f;have P:=f.size;by_cases Z:k<i
   .have b:k<d.length:=(by rw[<-D.out];exact Z);obtain⟨x,hx⟩:=ac<|d[k]'b;have V:=pY.out wk f k x (by rw[aM b,hx]);have af:x.size<=600:=(by rw[hx];exact pE.out _ (pF b));obtain⟨u,g⟩:=M6.out x (by rw[hx];exact pF b);have M:=ajS x wk (by omega);rw[runeCount_eq g]at M;have Yx:Hid _:=M;have y:Env wk aL G E:=HE.out.below (z.out.trans<|f.mono<|by omega);have L:=ah y;have t:k<(dY d).length:=(by simpa [dY]using b);have FC:(dY d)[k]'t=u:=(by simp[dY,<-hx,g]);rw[kO t,FC,qD]at j;have Y:(k:Int)<(i:Int):=(by omega);generalize u.length=q at*;clear hx b f y M g t FC;go_wp2_with fail;refine mM Yx.out ?_;clear Yx;rintro A wr ⟨rfl,c⟩;have n:=ah<|Ao.out.trans<|c.mono P;have T:=(L.out.below c).long;clear c;by_cases hq:300<q
    .rw[aj hq]at j;have ae:(q:Int)>300:=(by omega);have C:Hid (F=(1,(k:Int),0)):=(by show _=_;rw[eU.out,<-j]);clear j;go_wp2;go_ret;refine⟨_,rfl,.inr (.inr ⟨wr.heap.size,1,k,0,rfl,World.alloc_heap_new _ _,?_,C.out,by omega⟩),?_⟩
     .have:=n.out.size;omega
     .exact(z.out.trans<|n.out.mono<|by omega).alloc (by have:=n.out.size;omega) _
    .rw[ai hq]at j;have ae:¬(q:Int)>300:=(by omega);have EO:=ah j;clear j T;go_wp2;go_roundg (i - (k+1));exact⟨k+1,by omega,rfl,by go_num,EO.out,n.out⟩;omega
   .obtain rfl:k=i:=(by omega);have Y:¬(k:Int)<(k:Int):=(by omega);rw[rV<|by simp[dY,D.out],qD]at j;have C:Hid (F=(0,0,0)):=(by show _=_;rw[eU.out,<-j]);clear j f;go_wp2;go_ret;exact⟨_,rfl,.inl ⟨C.out,rfl⟩,z.out.trans<|Ao.out.mono<|by omega⟩
structure SI(B bx rb n:Nat)(pre:List PR)(W:World):Prop where
 box:W.heap[bx]? =some (.cells #[.slice (some ⟨rb,0,none⟩) n n] 103 (0,0))
 rows:∃rows:Array Value,W.heap[rb]? =some (.cells rows 71 (0,0))/\rows.size=n/\(∀i rv,rows[i]? =some rv->W.ownsRow B 75 5 rv (iy pre i).length (rN<|iy pre i))/\(∀(i j:Nat)(rv Et:Value),i≠j->rows[i]? =some rv->rows[j]? =some Et->∀k,rv.ownBlock=some k->Et.ownBlock≠some k)
 sz:B<=W.heap.size
 lb:bx<B
 lr:rb<B
def SI.ry {B d f n:Nat}{a:List PR}{A C:World}(h:SI B d f n a A)(b:kK A C):SI B d f n a C:=by
 obtain⟨rows,j,k,l,m⟩:=h.rows;exact⟨b.block _ _ h.box (λc g e=>by cases e),⟨rows,b.block _ _ j (λc g e=>by cases e),k,λi p o=>P8 (l i p o) b<|by decide,m⟩,bP h.sz b.size,h.lb,h.lr⟩
def SI.put {B b d n:Nat}{a:List PR}{W:World}(h:SI B b d n a W){l:Nat}{o:Obj}(r:B<=l)(p:W.heap[l]? =some o)(k:o.isCells=false)(c:Obj):SI B b d n a (W.putObj l c):=by
 obtain⟨rows,e,f,g,j⟩:=h.rows;have:=h.lb;have:=h.lr;exact⟨(jy<|by omega).trans h.box,⟨rows,(jy<|by omega).trans e,f,λi q m=>IM (g i q m) p k c,j⟩,by simp[World.putObj];exact h.sz,h.lb,h.lr⟩
def WL(l:List PR)(x:PR)(i:Nat):iy (l++[x]) i=if x.line=i then iy l i++[x]else iy l i:=by
 unfold iy;rw[rW];by_cases h:x.line=i<;>simp[h]
def SI.step {B B0 w f n:Nat}{p:List PR}{W r:World}{x:PR}{rows:Array Value}{z v:Value}(h:SI B w f n p W)(E:W.heap[f]? =some (.cells rows 71 (0,0)))(y:rows[x.line]? =some z)
  (g:Gl W B (iy p x.line).length z (rN<|iy p x.line) x r v) (X:B0<=f):SI B w f n (p++[x]) (r.setCell ⟨f,x.line,none⟩ v)/\Kb B0 W (r.setCell ⟨f,x.line,none⟩ v):=by
 obtain⟨t,I,Y,N,J⟩:=h.rows;rw[E]at I;obtain rfl:rows=t:=by injection I with I;injection I
 have hB:=h.sz;have O:=h.lb;have P:=h.lr;have C:=N _ _ y;have A:∀j,z.ownBlock=some j->B<=j/\j<W.heap.size:=λj o=>by
  obtain⟨T,c,G⟩:=pQ C o;exact⟨T,bS G⟩
 have L:r.heap[w]? =some (.cells #[.slice (some ⟨f,0,none⟩) n n] 103 (0,0)):=
  (g.gr.block w (by simp;omega) λe=>by have:=(A _ e.symm).1;omega).trans ((dw W _ w (by omega)).trans h.box)
 have H:r.heap[f]? =some (.cells rows 71 (0,0)):=
  (g.gr.block f (by simp;omega) λe=>by have:=(A _ e.symm).1;omega).trans ((dw W _ f (by omega)).trans E)
 have D:r.grownBy (r.setCell ⟨f,x.line,none⟩ v) (some f):=vI _ _ _ _;have F:=g.gr.size;have Pr:=D.size;have s:x.line<rows.size:=by
  rcases cP x.line rows.size with q|q
  .exact q
  .rw[tD q]at y;cases y
 refine⟨⟨(D.block w (bS L) λe=> ?_).trans L,⟨rows.setIfInBounds x.line v,by rw[eW H],by simpa using Y,?_,?_⟩,by simp at F;omega,O,P⟩,?_⟩
 .obtain rfl:=aJ e;rw[L]at H;cases H
 .intro i u d;by_cases e:x.line=i
  .subst e;rw[Yd s]at d;obtain rfl:=aJ d;rw[WL,aj rfl,aoS,bH];exact P4 g.own D λk a e=>by have:=(pQ g.own a).1;have:=aJ e;omega
  .rw[BG e]at d;rw[WL,ai e];have o1:=(N i u d).alloc (.cells (tq x).toArray 75);have S:=P4 o1 g.gr (λk a V=>J i x.line u z (λq=>e q.symm) d y k a V.symm);exact P4 S D λk a e=>by have:=(pQ S a).1;have:=aJ e;omega
 .intro i j u M l d o k a;have R:∀(m:Nat)(K:Value),rows[m]? =some K->∀k,K.ownBlock=some k->k<W.heap.size:=λm K Z k a=>by
   obtain⟨_,c,G⟩:=pQ (N m K Z) a;exact bS G
  by_cases e:x.line=i
  .subst e;rw[Yd s]at d;obtain rfl:=aJ d;rw[BG l]at o;intro b;rcases g.blk with q|q
   .exact J x.line j z M l y o k (by rw[<-q];exact a) b
   .have:=R j M o k b;rw[q]at a;have:=aJ a;omega
  .rw[BG e]at d;by_cases Q:x.line=j
   .subst Q;rw[Yd s]at o;obtain rfl:=aJ o;intro b;rcases g.blk with q|q
    .exact J i x.line u z l d y k a (by rw[<-q];exact b)
    .have:=R i u d k a;rw[q]at b;have:=aJ b;omega
   .rw[BG Q]at o;exact J i j u M l d o k a
 .have K1:Kb B0 W (W.alloc (.cells (tq x).toArray 75)):=(Kb.refl B0 W).al (by omega) _;have U:Kb B0 W r:=K1.grown g.gr (by simp;omega) (λk a=>by
   obtain⟨T,c,G⟩:=pQ (C.alloc (.cells (tq x).toArray 75)) a;exact⟨by omega,c,_,_,G,.inr (.inr (.inl rfl))⟩)
  exact U.grown D (by simp at F;omega) λk a=>by obtain rfl:=aJ a;exact⟨X,_,_,_,H,.inr (.inr (.inr rfl))⟩
def aoW {s:ByteArray}(b:s.size<=600){x:PR}(hx:x∈fD s):x.line<(aR s 0 0).length:=by
 rw[MD s b]at hx;obtain⟨y,a,_⟩:=Wy s x hx;exact(r7.1 a).1
section
attribute [local go_sem] Oper.semAt_some
def Ei(t:TypeId):Prop:=t=66∨t=37∨t=53
def AE(t:TypeId)(c:Array Value):Prop:=t=244/\c.size=8/\∃s,c[0]? =some (.string s)
structure Ke(B:Nat)(A C:World):Prop where
 below:Below B A C
 keep:∀(k:Nat)(o:Obj),A.heap[k]? =some o->(∀c t fr,o=Obj.cells c t fr->¬Ei t)->C.heap[k]? =some o
def Ke.trans {B:Nat}{A C D:World}(h:Ke B A C)(k:Ke B C D):Ke B A D:=⟨h.below.trans k.below,λi o b a=>k.keep i o (h.keep i o b a) a⟩
def Ke.of {B:Nat}{A C:World}(h:Below A.heap.size A C)(a:B<=A.heap.size):Ke B A C:=⟨h.mono a,λ_ _ b _=>bq h b⟩
def Ke.grown {B:Nat}{A C:World}{r:Option Nat}(d:A.grownBy C r)(i:B<=A.heap.size)(f:∀k,r=some k->B<=k/\∃c t b,A.heap[k]? =some (Obj.cells c t b)/\Ei t):Ke B A C:=by
 refine⟨(aA _ _).grown d i (λk e=>(f k e).1),λk o a j=>(d.block k (bS a) λe=> ?_).trans a⟩;obtain⟨_,c,t,b,g,h⟩:=f k e.symm;rw[g]at a;exact j c t b (aJ a).symm h
def Ke.same {B:Nat}{A C:World}(h:Ke B A C):Same A C:=λk o b a=>h.keep k o b λc t d e=>by subst e;cases a
def Ke.PC {B:Nat}{A C:World}(h:Ke B A C):zh B A C:=⟨h.below,λk c g d=>h.keep k _ d (λf t b e=>by injection e with _ a _;subst a;unfold Ei;decide)⟩
structure EI(n₀:Nat)(W0:World)(z:Nat)(es:List Ed)(W:World):Prop where
 kept:∀k c t fr,W0.heap[k]? =some (.cells c t fr)->(k<n₀∨¬Ei t)->¬AE t c->W.heap[k]? =some (.cells c t fr)
 c4:W.heap[n₀+1]? =some (.cells #[.slice none 0 0] 37 (0,0))
 c5:W.heap[n₀+2]? =some (.cells #[.nilIface] 53 (0,0))
 box:∃u,W.heap[z]? =some (.cells #[u] 37 (0,0))/\W.ownsRow W0.heap.size 66 3 u es.length (bY es)
 sz:W0.heap.size<=W.heap.size
def E8 {A C:World}(h:kK A C){k:Nat}{c:Array Value}{t:TypeId}{a:Nat×Nat}(i:A.heap[k]? =some (.cells c t a))(j:¬AE t c):C.heap[k]? =some (.cells c t a):=
 h.block _ _ i (λl f e g=>by injection e with b d m;subst b;exact j ⟨d,g⟩)
def EI.ry {a z:Nat}{d A C:World}{e:List Ed}(h:EI a d z e A)(b:kK A C):EI a d z e C:=by
 obtain⟨u,i,j⟩:=h.box;exact⟨λk c t g l m f=>E8 b (h.kept k c t g l m f) f,E8 b h.c4<|by unfold AE;simp,E8 b h.c5<|by unfold AE;simp,⟨u,E8 b i<|by unfold AE;simp,P8 j b<|by decide⟩,bP h.sz b.size⟩
def EI.put {a z:Nat}{b W:World}{d:List Ed}(h:EI a b z d W)(v:z<b.heap.size)(s:a+2<b.heap.size){l:Nat}{o:Obj}(r:b.heap.size<=l)(n:W.heap[l]? =some o)(m:o.isCells=false)(f:Obj):EI a b z d (W.putObj l f):=by
 obtain⟨u,i,j⟩:=h.box;exact⟨λk c t g e p q=>(jy<|by have:=bS e;omega).trans (h.kept k c t g e p q),(jy<|by omega).trans h.c4,(jy<|by omega).trans h.c5,⟨u,(jy<|by omega).trans i,IM j n m f⟩,by simp[World.putObj];exact h.sz⟩
structure EX(n₀ B:Nat)(ln at':Int)(ev:Value)(W:World):Prop where
 c4:W.heap[n₀+1]? =some (.cells #[.slice none 0 0] 37 (0,0))
 c5:∃b,W.heap[n₀+2]? =some (.cells #[.iface 92 (.pointer<|some ⟨b,0,none⟩)] 53 (0,0))/\W.heap[b]? =some (.cells #[.int .i64 ln,.int .i64 at',ev] 96 (0,0))/\B<=b
def EX.ry {a B:Nat}{f c:Int}{e:Value}{A C:World}(h:EX a B f c e A)(d:kK A C):EX a B f c e C:=by
 obtain⟨b,g,i,j⟩:=h.c5;exact⟨E8 d h.c4<|by unfold AE;simp,b,E8 d g<|by unfold AE;simp,E8 d i<|by unfold AE;simp,j⟩
def EX.put {a B:Nat}{g c:Int}{d:Value}{W:World}(h:EX a B g c d W)(p:a+2<B){l:Nat}{o:Obj}(n:B<=l)(f:W.heap[l]? =some o)(k:o.isCells=false)(m:Obj):EX a B g c d (W.putObj l m):=by
 obtain⟨b,i,e,j⟩:=h.c5;exact⟨(jy<|by omega).trans h.c4,b,(jy<|by omega).trans i,(jy<|by rintro rfl;rw[e]at f;obtain rfl:=aJ f;cases k).trans e,j⟩
structure EL(n₀ B z:Nat)(W5:World)(v u:Value)(l:List Ed)(Wx:World):Prop where
 ke:Ke n₀ W5 Wx
 c4:Wx.heap[n₀+1]? =some (.cells #[.slice none 0 0] 37 (0,0))
 c5:Wx.heap[n₀+2]? =some (.cells #[.nilIface] 53 (0,0))
 bx:Wx.heap[z]? =some (.cells #[u] 37 (0,0))
 own:Wx.ownsRow B 66 3 u l.length<|bY l
 row:∀k,v.ownBlock=some k->u.ownBlock≠some k/\Wx.heap[k]? =W5.heap[k]? /\B<=k/\k<Wx.heap.size
 sz:B<=Wx.heap.size
def EL.step {b B z:Nat}{D g s f:World}{v u d:Value}{l l':List Ed}(h:EL b B z D v u l g)(J:z<B)(K:b+2<z)(p:Below g.heap.size g s)(w:s.grownBy f u.ownBlock)(E:f.ownsRow B 66 3 d l'.length<|bY l')(t:d.ownBlock=u.ownBlock∨d.ownBlock=some s.heap.size):
  EL b B z D v d l' (f.setCell ⟨z,0,none⟩ d):=by
 have m:∀k,u.ownBlock=some k->B<=k/\∃c,g.heap[k]? =some (.cells c 66 (0,0)):=λk a=>pQ h.own a
 have P:=h.sz;have H:=p.size;have I:=w.size;have y:∀k o,g.heap[k]? =some o->u.ownBlock≠some k->f.heap[k]? =some o:=λk o a r=>(w.block k (by have:=bS a;omega) λe=>r e.symm).trans (bq p a)
 have n:f.grownBy (f.setCell ⟨z,0,none⟩ d) (some z):=vI _ _ _ _;have A:∀k o,g.heap[k]? =some o->u.ownBlock≠some k->k≠z->(f.setCell ⟨z,0,none⟩ d).heap[k]? =some o:=λk o a r x=>(n.block k (bS<|y k o a r) λe=>x<|aJ e).trans (y k o a r)
 have C:∀k,k<B->u.ownBlock≠some k:=λk a e=>by have:=(m k e).1;omega
 have i:=y z _ h.bx (C z J);have Q:=n.size;refine⟨h.ke.trans<|(Ke.of p<|by omega).trans ((Ke.grown w (by omega) λk a=> ?_).trans (Ke.grown n (by omega) λk a=> ?_)),A _ _ h.c4 (C _ (by omega)) (by omega),A _ _ h.c5 (C _ (by omega)) (by omega),?_,?_,?_,by omega⟩
 .obtain⟨R,c,L⟩:=m k a;exact⟨by omega,c,_,_,bq p L,.inl rfl⟩
 .obtain rfl:=aJ a;exact⟨by omega,_,_,_,i,.inr (.inl rfl)⟩
 .rw[eW i];rfl
 .exact P4 E n (λk a e=>by have:=(pQ E a).1;have:=aJ e;omega)
 .intro k a;obtain⟨F,M,N,O⟩:=h.row k a;obtain⟨o,j⟩:∃o,g.heap[k]? =some o:=⟨_,M0 O⟩
  have q:=A k o j F (by omega);refine⟨?_,by rw[q,<-j,M],N,bS q⟩;rcases t with e|e
  .rw[e];exact F
  .rw[e];intro G;have:=aJ G;omega
def EL.bx9 {a B z:Nat}{g b c f:World}{v u:Value}{l:List Ed}(h:EL a B z g v u l b)(j:z<B)(d:Below b.heap.size b c)(i:c.grownBy f u.ownBlock):f.heap[z]? =some (.cells #[u] 37 (0,0)):=by
 have:=d.size;exact(i.block z (by have:=bS h.bx;omega) λe=>by have:=(pQ h.own e.symm).1;omega).trans (bq d h.bx)
def aok {F:Fence}{n l:Nat}{P:Program}{b:Array Oper}{Q:Exit->Act->World->Prop}{K:Act->World->Prop}{i:Nat}{a:Act}{w:World}(e:∀(i:Nat)(o:Oper),b[i]? =some o->∀c,o.op≠.defer c)(h:wpOpIn F n P b Q i K a w):wpOpIn (F.inRound l) n P b Q i K a w:=by
 cases ho:b[i]? with
 |none=>simpa [wpOpIn,ho]using h
 |some o=>
  simp only[wpOpIn,ho]at h ⊢;by_cases d:Region.wanted o (yielded b a.tmps)=true
  .simp only[d,zP]at h ⊢;unfold Oper.wpIn at h ⊢;rw[Oper.semAt_eq _ _ _ (e i o ho)]at h ⊢;exact h
  .simp only[d]at h ⊢;exact h
def SM {F:Fence}{n l:Nat}{P:Program}{f:Region.Mode}{d:Array Oper}{Q:Exit->Act->World->Prop}(e:∀(i:Nat)(o:Oper),d[i]? =some o->∀c,o.op≠.defer c):∀(b:Nat)(L:Array Bool)(a:Act)(w:World),wpAnyIn F n P f d Q b L a w->wpAnyIn (F.inRound l) n P f d Q b L a w
 |0,_,_,_,h=>h
 |b+1,_,_,_,h=>⟨h.1,λi g=>wpOpIn_mono (λa w=>SM e b _ a w)<|aok e<|h.2 i g⟩
def U1 {a:Array Oper}(h:a.all (λo=>match o.op with| .defer _=>false|_=>true)=true)(i:Nat)(o:Oper)(d:a[i]? =some o):∀c,o.op≠.defer c:=by
 intro c e;obtain⟨b,rfl⟩:=M3.1 d;have:=Array.all_eq_true.1 h i b;rw[e]at this;cases this
def Td {w:World}{k i:Nat}{x:Value}(h:w.cell? ⟨k,i,none⟩=some x):∃c t a,w.heap[k]? =some (.cells c t a)/\c[i]? =some x:=by
 unfold World.cell? at h;cases ho:w.heap[k]? with
 |none=>simp[ho]at h
 |some o=>
  cases o with
  |cells c t a=>exact⟨c,t,a,rfl,by simpa [ho]using h⟩
  |_=>simp[ho]at h
def uE(w:World)(a b c:Obj):(((w.alloc a).alloc b).alloc c).heap[w.heap.size]? =some a/\(((w.alloc a).alloc b).alloc c).heap[w.heap.size+1]? =some b/\(((w.alloc a).alloc b).alloc c).heap[w.heap.size+2]? =some c:=by
 obtain⟨d,f,g,_⟩:=uB w a b c c;have e:∀(k:Nat)(o:Obj),k<w.heap.size+3->((((w.alloc a).alloc b).alloc c).alloc c).heap[k]? =some o->(((w.alloc a).alloc b).alloc c).heap[k]? =some o:=λk o i h=>(dw (((w.alloc a).alloc b).alloc c) c k<|by simp;omega).symm.trans h
 exact⟨e _ _ (by omega) d,e _ _ (by omega) f,e _ _ (by omega) g⟩
def ake(a:List Ed)(e:Ed):bY (a++[e])=bY a++[.int .i64 e.a,.int .i64 e.c,.string e.n]:=by simp[bY,KD]
end
section
attribute [local go_sem] Oper.semAt_some
def Tryz.amH:(prog.info? 71).map (λi=>(i.zero,i.size,i.bytes))=some (some (.slice none 0 0),1,24):=by kernel_rfl
def y9(l:List Bool)(i:Nat)(h:i<=l.length):(rz<|l.take i).length=i:=by
 unfold rz;rw[ja,r9];omega
def ai6(l:List Bool)(N:Nat):rz (l.take 0)++List.replicate (N - 0) (Value.bool false)=List.replicate N (Value.bool false):=by
 rw[ZU,Nat.sub_zero];rfl
def ai3(l:List Bool)(N i:Nat)(c:l.length=N)(b:i<N):(rz (l.take i)++List.replicate (N - i) (Value.bool false))[i]? =some (.bool false):=by
 have a:=y9 l i (by omega);rw[rY<|by omega,a,oK,Sm,aj<|by omega]
def ai5(l:List Bool)(N i:Nat)(e:l.length=N)(d:i<N):(rz (l.take i)++List.replicate (N - i) (Value.bool false)).set i (.bool<|l.getD i false)=rz (l.take<|i+1)++List.replicate (N - (i+1)) (Value.bool false):=by
 have a:=y9 l i (by omega);have b:N - i=(N - (i+1))+1:=by omega
 have c:l.take (i+1)=l.take i++[l.getD i false]:=by
  rw[uM,aO,aM<|by omega];rfl
 rw[xR _ _ (by omega),a,oK,b,GS,aie,c];unfold rz;rw[fB,dO];rfl
theorem alk(s:ByteArray)(w:World)(aL aT aC:Addr)(hE:Env w aL aT aC)(hB:Br w)(hM:zk w)(env:mR w)(h20:10<=w.heap.size):
  Calls prog 39 #[.string s] w fun e w'=>∃v ev,e= .returned (.tuple #[v,ev])/\Jf w' w.heap.size ev (gy s) aL aT aC/\((gy s).1≠0->v= .slice none 0 0)/\((gy s).1=0->w'.ownsRow w.heap.size 4 1 v (kI s).length (rz (kI s)))/\Below w.heap.size w w':=by
 refine(Kr (n:=0)).1 (callsIn_of_wp_marks func39 rfl trivial ?_ rfl);simp only[ntmps39,aif,eJ,jZ,Nat.reduceAdd,Nat.reduceSub,ahh,ahi,aia,ahT,si,uL];refine(Qz (n:=0)).2 ?_;have HC:Hid _:=ajy s w aL aT aC hE hM;have HE:=ah hE;have lF:=ah hB;have HM:=ah hM;have HP:=ah env;clear hE hB hM env;go_wp2_with fail;refine mM HC.out ?_;clear HC;rintro ev W1 ⟨er,rfl,pP,hb1⟩;by_cases h0:(gy s).1=0
 .obtain⟨zM,hL0,_⟩:=look_ok h0;have he:er= .nilIface:=by
   rw[hL0]at pP;rcases pP with⟨_,h⟩|⟨h,_⟩|⟨b,e,ln,at',_,_,_,h,h'⟩
   .exact h
   .simp at h
   .simp at h;omega
  subst he;obtain⟨m,hm⟩:=HM.out.below hb1;have GD:Hid _:=Xp s m W1 (by omega) hm;have dS:=ah h0;have Nb:=ah pP;have aD:=ah hb1;have hlen:=ID s 0 0 (by omega);have hmk:=run_make_row' (P:=prog) 103 71 (.slice none 0 0) 24 underlying103 Tryz.amH rfl .i64 .i64 (aR s 0 0).length (by omega) (by omega);clear pP hb1 hm h0 hL0;go_wp2_with fail;refine mM GD.out ?_;clear GD;rintro ev W2 ⟨rfl,rfl⟩;go_wp2_with fail;refine(Il _ s).mono ?_;rintro ev W3 ⟨rfl,rfl⟩;go_wp2;obtain⟨N,hN⟩:∃N,N=(aR s 0 0).length:=⟨_,rfl⟩
  rw[<-hN]at hlen ⊢;have HN:=ah hN;clear hmk hN;obtain⟨q0,q1,q2,q3⟩:=uB W1 (.cells (iX (aR s 0 0)).toArray 9) (.cells (madeCells #[.slice none 0 0] N) 71) (.cells #[.slice (some ⟨W1.heap.size+1,0,none⟩) N N] 103) (.cells #[.string s] 9);have hsz:((((W1.alloc (.cells (iX (aR s 0 0)).toArray 9)).alloc (.cells (madeCells #[.slice none 0 0] N) 71)).alloc (.cells #[.slice (some ⟨W1.heap.size+1,0,none⟩) N N] 103)).alloc (.cells #[.string s] 9)).heap.size=W1.heap.size+4:=by simp
  have ya:Below w.heap.size w ((((W1.alloc (.cells (iX (aR s 0 0)).toArray 9)).alloc (.cells (madeCells #[.slice none 0 0] N) 71)).alloc (.cells #[.slice (some ⟨W1.heap.size+1,0,none⟩) N N] 103)).alloc (.cells #[.string s] 9)):=by
   have h1:=aD.out.size;exact(((aD.out.alloc h1 _).alloc (by simp;omega) _).alloc (by simp;omega) _).alloc (by simp;omega) _
  have hz1:=aD.out.size;generalize((((W1.alloc (.cells (iX (aR s 0 0)).toArray 9)).alloc (.cells (madeCells #[.slice none 0 0] N) 71)).alloc (.cells #[.slice (some ⟨W1.heap.size+1,0,none⟩) N N] 103)).alloc (.cells #[.string s] 9))=W0 at*;generalize W1.heap.size=z at*;have K5:W0.cell? ⟨z+3,0,none⟩=some (.string s):=az q3 0;have KQ:SI (z+4) (z+2) (z+1) N [] W0:=by
   refine⟨q2,⟨_,q1,size_madeCells _ _,?_,?_⟩,by omega,by omega,by omega⟩
   .intro i rv hi;rw[<-ahf,jb]at hi;rw[Sm]at hi;split at hi
    .obtain rfl:=aJ hi;exact gQ _ _ _ _
    .cases hi
   .intro i j rv Et _ hi _ k hk;rw[<-ahf,jb]at hi;rw[Sm]at hi;split at hi
    .obtain rfl:=aJ hi;cases hk
    .cases hi
  have HW0:=ah ya;have KV:mR W0:=HP.out.below h20 ya;clear q1 q2 q3 ya;refine afs (gf:=106) (lb:=#[.pointer (some ⟨z+3,0,none⟩)]) ?_ (Go.Proofs.enters_of func106 (by kernel_rfl) rfl) (n₀:=w.heap.size) (by omega) (Tt W0 w.heap.size (z+3) s K5 KV h20 (by omega)) (fun x=>rfl)
   R3 (fun W l o o' hl ho hc=>Q5 (by omega) ho hc o') (fun A B h=>afY h)
   (fun pre W=>SI (z+4) (z+2) (z+1) N pre W/\W.heap[z]? =some (.cells (iX (aR s 0 0)).toArray 9 (0,0))) (fun c pre W=>False)
   (fun pre A B h ha=>⟨h.1.ry ha,ha.block _ _ h.2 (fun c fr e=>by cases e)⟩) (fun c pre A B h ha=>h)
   (fun pre W l o o' hl ho hc h=>⟨h.1.put (by omega) ho hc o',(jy (by omega)).trans h.2⟩) (fun c pre W l o o' hl ho hc h=>h)
   ?h0 ?round ?done ?stop
  .rfl
  case h0=>exact fun o1 o2=>⟨(KQ.ry (Dy W0 o1)).ry (Dy _ o2),(Dy _ o2).block _ _ ((Dy W0 o1).block _ _ q0 (fun c fr e=>by cases e)) (fun c fr e=>by cases e)⟩
  case stop=>
   rintro D c pre W hD hbW hp h;exact h.elim
  case round=>
   rintro l pre ⟨xl,xk,xf,xt,xb,xe⟩ W hl ⟨Ua,Lm⟩ hx;simp only[Ow]
   gi_wp2
   refine⟨fun k o hk _=>(dw W _ k (bS hk)).trans hk,⟨(aA _ _).alloc (by have:=Ua.sz;omega) _,fun k _ _ hk=>(dw W _ k (bS hk)).trans hk⟩,?_⟩;intro o o' ho yo;have vp:(⟨xl,xk,xf,xt,xb,xe⟩:PR)∈fD s:=hx.subset (by simp);have hxl:xl<N:=by rw[HN.out];exact aoW zM vp
   have hpl:pre.length<=600:=by
    have h1:=hx.length_le;have h2:=MF s;rw[bH]at h1;omega
   have a1:=Dy W (.cells #[.int .i64 xk,.int .i64 xf,.int .i64 xt,.int .i64 xb,.int .i64 xe] 75);have ic:=(Ua.ry a1).put (by omega) ho yo o';have alZ:=(jy (o:=o') (show z≠l by omega)).trans (a1.block _ _ Lm (fun c fr e=>by cases e));have hpt:((W.alloc (.cells #[.int .i64 xk,.int .i64 xf,.int .i64 xt,.int .i64 xb,.int .i64 xe] 75)).putObj l o').heap[W.heap.size]? =some (.cells #[.int .i64 xk,.int .i64 xf,.int .i64 xt,.int .i64 xb,.int .i64 xe] 75 (0,0)):=by
    rw[jy]
    .exact World.alloc_heap_new W _
    .rintro rfl;rw[World.alloc_heap_new]at ho;obtain rfl:=aJ ho;cases yo
   clear Ua Lm a1 ho yo;generalize(W.alloc (.cells #[.int .i64 xk,.int .i64 xf,.int .i64 xt,.int .i64 xb,.int .i64 xe] 75)).putObj l o'=W4 at*;generalize W.heap.size=pb at*;obtain⟨rows,r1,r2,r3,r4⟩:=ic.rows;have iW:rows[xl]? =some rows[xl]:=M0 (by omega);have hol:(iy pre xl).length<=600:=bP (Wj _ _) hpl;refine wpIn_block ?_;refine aql l W4 (z+2) (z+1) pb N xl (z+4) _ rows _ _ ⟨xl,xk,xf,xt,xb,xe⟩ _ _ ic.box r1 hxl iW hpt (r3 _ _ iW) (by omega) ic.sz ?_ ?_ ?_ ?_ ?_
   .simp
   .rfl
   .rfl
   .rfl
   intro a' w8 v hA;have mY:SI (z+4) (z+2) (z+1) N pre W4.drew:=⟨ic.box,ic.rows,ic.sz,ic.lb,ic.lr⟩
   obtain⟨k1,k2⟩:=mY.step (x:=⟨xl,xk,xf,xt,xb,xe⟩) (B0:=w.heap.size) r1 iW hA (by omega);have k3:Kb w.heap.size W4 W4.drew:=⟨(aA _ _).drew,fun _ _ h _=>h⟩
   have k4:=k3.trans k2;exact⟨k4.same,k4.PC,k1,k4.keep _ _ alZ (fun c t fr e=>by injection e with _ e2 _;subst e2;unfold PZ;decide)⟩
  case done=>
   rintro D W hD hbW ⟨hS,Lm⟩ hK;have Ik:=run_make_row' (P:=prog) 36 4 (.bool false) 1 underlying36 Tryz.Md rfl .i64 .i64 N (by omega) (by omega);have HF:Hid (Below w.heap.size w W/\SI (z+4) (z+2) (z+1) N (fD s) W/\W.heap[z]? =some (.cells (iX (aR s 0 0)).toArray 9 (0,0))/\W.heap[D]? =some (.deferred (some []))/\z+4<=D):=⟨HW0.out.trans hbW,hS,Lm,hK,by omega⟩
   have HA:Hid ((W.alloc (.cells (madeCells #[.bool false] N) 4)).ownsRow W.heap.size 4 1 (.slice (some ⟨W.heap.size,0,none⟩) N N) N (rz ((kI s).take 0)++List.replicate (N - 0) (.bool false))):=by
    show World.ownsRow _ _ _ _ _ _ _;rw[ai6];exact aY.made (au _) (by omega)
   clear hbW hS Lm hK K5 KQ KV q0 hsz;simp only;go_wp2;go_loopg [41] N (fun gk gw Wx=>∃i:Nat,i<=N/\gk=N - i/\gw= .int .i64 i/\Below W.heap.size W Wx/\Wx.ownsRow W.heap.size 4 1 (.slice (some ⟨W.heap.size,0,none⟩) N N) N (rz ((kI s).take i)++List.replicate (N - i) (.bool false)));case atStart=>exact⟨0,by omega,rfl,rfl,(aA _ _).alloc (au _) _,HA.out⟩
   case round=>
    rename World=>wa
    obtain⟨i,hi,rfl,rfl,hb,hown⟩:=hrel;have hbz:=hb.size;by_cases hlt:i<N
    .have hlt':(i:Int)<(N:Int):=by omega
     obtain⟨f1,f2,f3,f4,f5⟩:=HF.out;obtain⟨rows,r1,r2,r3,r4⟩:=f2.rows;have iW:rows[i]? =some rows[i]:=M0 (by omega);have hpS:AA wa rows[i] (gA s i):=(aoQ (r3 i _ iW)).below hb;have hcl:wa.cell? ⟨z,i,none⟩=some (.string ((aR s 0 0).getD i ⟨#[]⟩)):=by
      rw[az (bq hb f3) i];have hil:i<(aR s 0 0).length:=by rw[<-HN.out];exact hlt
      simp[iX,hil]
     have hcb:wa.cell? ⟨z+2,0,none⟩=some (.slice (some ⟨z+1,0,none⟩) N N):=az (bq hb f2.box) 0;have hcr:wa.cell? ⟨z+1,i,none⟩=some rows[i]:=(az (bq hb r1) i).trans iW;have jw:Below w.heap.size w wa:=f1.trans (hb.mono f1.size);have HI:Hid _:=amT s dS.out i (by rw[<-HN.out];exact hlt) rows[i] wa aL aT aC (HE.out.below jw) (lF.out.below jw) hpS;have tH:=ah hb;have HO:=ah hown;clear f1 f2 f3 f4 f5 r1 r3 r4 hpS jw hb hown iW;generalize rows[i]=rv at*;generalize(aR s 0 0).getD i ⟨#[]⟩=ln at*;clear r2;go_wp2_with fail;refine mM HI.out ?_;clear HI;rintro ev W5 ⟨rfl,bO⟩;have PY:=fu HO.out bO;have hsl:(kI s).length=N:=by rw[HN.out];simp[kI]
     have c9:W5.cell? ⟨W.heap.size,i,none⟩=some (.bool false):=by
      rw[PY.cellAt i (by omega)];exact ai3 _ _ _ hsl hlt
     have f9:W5.frozen? ⟨W.heap.size,i,none⟩=false:=PY.frozenAt i;have HN5:Hid ((W5.setCell ⟨W.heap.size,i,none⟩ (.bool ((kI s).getD i false))).ownsRow W.heap.size 4 1 (.slice (some ⟨W.heap.size,0,none⟩) N N) N (rz ((kI s).take (i+1))++List.replicate (N - (i+1)) (.bool false))):=by
      have q:=(PY.stored i (.bool ((kI s).getD i false))).1;rw[ai5 _ _ _ hsl hlt]at q;exact q
     have bG:Hid (Below W.heap.size W (W5.setCell ⟨W.heap.size,i,none⟩ (.bool ((kI s).getD i false)))):=(tH.out.trans (bO.mono hbz)).setCell (au _) _;clear PY bO HO tH;generalize(kI s).getD i false=bo at*;go_wp2;go_roundg (N - (i+1));case measure=>omega
     case rel=>exact⟨i+1,by omega,rfl,by simp,bG.out,HN5.out⟩
    .have he:i=N:=by omega
     subst he;have hlt':¬(i:Int)<(i:Int):=by omega
     have tH:=ah hb;have HO:=ah hown;clear hb hown;go_wp2;have hb:=tH.out;obtain⟨f1,f2,f3,f4,f5⟩:=HF.out;have hK:wa.heap[D]? =some (.deferred (some [])):=bq hb f4;refine⟨by simp,.inl ⟨_,_,rfl,run_takeDeferred hK,?_⟩⟩;refine⟨.tuple #[.slice (some ⟨W.heap.size,0,none⟩) i i,.nilIface],by simp[results,results39,go_sem],_,_,rfl,.inl ⟨(look_ok dS.out).2.1,rfl⟩,fun h=>absurd dS.out h,fun _=> ?_,?_⟩
     .have hsl:(kI s).length=i:=by rw[HN.out];simp[kI]
      have q:=HO.out;rw[oK,ku (by omega)]at q;simp only[J8,l5]at q;rw[hsl];exact IM (Ek q f1.size) hK rfl _
     .exact N1 (f1.trans (hb.mono f1.size)) (by omega) _
 .have hne:er≠.nilIface:=by
   intro e;rcases pP with⟨h,_⟩|⟨h,h'⟩|⟨b,e',ln,at',h,_,_,h',_⟩
   .exact h0 (by rw[h])
   .rw[e]at h';unfold AX at h';simp at h'
   .rw[e]at h;cases h
  obtain⟨T,u,rfl⟩:∃T u,er= .iface T u:=by
   rcases pP with⟨_,h⟩|⟨h,h'⟩|⟨b,e',ln,at',h,_,_,h',_⟩
   .exact absurd h hne
   .exact⟨_,_,h'⟩
   .exact⟨_,_,h⟩
  have Nb:=ah pP;have aD:=ah hb1;have HO:=ah h0;clear pP hb1 h0 hne;go_wp2;refine⟨.tuple #[.slice none 0 0,.iface T u],by simp[results,results39,go_sem],_,_,rfl,Nb.out,fun _=>rfl,fun h=>absurd h HO.out,aD.out⟩
end
def apF(s:ByteArray)(b:Option Addr)(a:Nat)(w:World)(d:s.size<=1000000000000000):
  Calls prog 53 #[.string s,.slice b 0 a] w λe c=>e= .returned (.string<|(⟨#[]⟩:ByteArray)++s)/\Below w.heap.size w c:=by
 go_enter func53,ntmps53;go_wp2;refine fV 1 ?_;rw[bN];go_wp2;go_ret;exact⟨rfl,aA _ _⟩
def aog(s:ByteArray)(p:Nat)(e:Ed):CQ s p e=(decide ((p:Int)<=e.a)&&(decide (0<=e.c)&&decide (e.c<=(s.size:Int) - e.a))):=by
 unfold CQ;rw[C6];simp only[ED,DD];omega
def anr(s:ByteArray)(p:Nat)(e:Ed)(w:World)(o:s.size<=1000000000000000)(l:e.a<=9223372036854775807):
  Calls prog 40 #[.agg #[.int .i64 e.a,.int .i64 e.c,.string e.n],.int .i64 p,.int .i64 s.size] w λh m=>h= .returned (.bool<|CQ s p e)/\Below w.heap.size w m:=by
 rw[aog];obtain⟨a,c,n⟩:=e;simp only at l ⊢;generalize s.size=z at*;by_cases d:(p:Int)<=a
 .have q:wrap64 ((z:Int) - a)=(z:Int) - a:=ahO _ (by omega);by_cases f:0<=c
  .by_cases g:c<=(z:Int) - a
   .have b:(decide ((p:Int)<=a)&&(decide (0<=c)&&decide (c<=(z:Int) - a)))=true:=(by simp[d,f,g]);rw[b];clear b;go_enter func40,ntmps40;go_wp2;go_ret;exact⟨rfl,(aA _ _).alloc (au _) _⟩
   .have b:(decide ((p:Int)<=a)&&(decide (0<=c)&&decide (c<=(z:Int) - a)))=false:=(by simp[d,f];omega);have k:decide (c<=(z:Int) - a)=false:=(by simpa using g);rw[b];clear b;go_enter func40,ntmps40;go_wp2;go_ret;exact⟨rfl,(aA _ _).alloc (au _) _⟩
  .have b:(decide ((p:Int)<=a)&&(decide (0<=c)&&decide (c<=(z:Int) - a)))=false:=(by simp;omega);have j:decide (0<=c)=false:=(by simpa using f);rw[b];clear b;go_enter func40,ntmps40;go_wp2;go_ret;exact⟨rfl,(aA _ _).alloc (au _) _⟩
 .have b:(decide ((p:Int)<=a)&&(decide (0<=c)&&decide (c<=(z:Int) - a)))=false:=by simp[d]
  have i:decide ((p:Int)<=a)=false:=by simpa using d
  rw[b];clear b;go_enter func40,ntmps40;go_wp2;go_ret;exact⟨rfl,(aA _ _).alloc (au _) _⟩
section
open Go.Shelf
def Tryz.VJ:Go.Shelf.Ren:=⟨fun|166=>41|169=>42|240=>65|276=>111|n=>n,fun|70=>61|72=>64|37=>62|127=>107|75=>53|80=>70|164=>149|n=>n,fun|n=>n⟩
def Tryz.anc:Go.Proofs.Lays.n166 prog Tryz.VJ:={
 mixed:=by kernel_rfl
 f166:=func41.trans<|congrArg some (by kernel_rfl)
 f240:=func65.trans<|congrArg some (by kernel_rfl)
 f276:=func111.trans<|congrArg some (by kernel_rfl)
 t0:=underlying0,a0:=Tryz.isAgg0,z0:=Tryz.sizeOf0,v0:=Tryz.zeroValue0
 t3:=underlying3,a3:=Tryz.isAgg3,z3:=Tryz.sizeOf3,v3:=Tryz.zeroValue3
 t4:=underlying4,a4:=Tryz.isAgg4,z4:=Tryz.sizeOf4,v4:=Tryz.zeroValue4
 t9:=underlying9,a9:=Tryz.isAgg9,z9:=Tryz.sizeOf9,v9:=Tryz.zeroValue9
 t20:=underlying20,a20:=Tryz.isAgg20,z20:=Tryz.sizeOf20,v20:=Tryz.zeroValue20
 t37:=underlying62,a37:=Tryz.isAgg62,z37:=Tryz.sizeOf62,v37:=Tryz.zeroValue62
 t70:=underlying61,a70:=Tryz.isAgg61,z70:=Tryz.sizeOf61,v70:=Tryz.zeroValue61
 t72:=underlying64,a72:=Tryz.isAgg64,z72:=Tryz.sizeOf64,v72:=Tryz.zeroValue64
 t75:=underlying53,a75:=Tryz.isAgg53,z75:=Tryz.sizeOf53,v75:=Tryz.zeroValue53
 t164:=underlying149,a164:=Tryz.isAgg149,z164:=Tryz.sizeOf149,v164:=Tryz.zeroValue149}
def Tryz.ane:Go.Proofs.Lays.n169 prog Tryz.VJ:={
 mixed:=by kernel_rfl
 f169:=func42.trans<|congrArg some (by kernel_rfl)
 t0:=underlying0,a0:=Tryz.isAgg0,z0:=Tryz.sizeOf0,v0:=Tryz.zeroValue0
 t3:=underlying3,a3:=Tryz.isAgg3,z3:=Tryz.sizeOf3,v3:=Tryz.zeroValue3
 t9:=underlying9,a9:=Tryz.isAgg9,z9:=Tryz.sizeOf9,v9:=Tryz.zeroValue9
 t37:=underlying62,a37:=Tryz.isAgg62,z37:=Tryz.sizeOf62,v37:=Tryz.zeroValue62
 t70:=underlying61,a70:=Tryz.isAgg61,z70:=Tryz.sizeOf61,v70:=Tryz.zeroValue61
 t72:=underlying64,a72:=Tryz.isAgg64,z72:=Tryz.sizeOf64,v72:=Tryz.zeroValue64
 t127:=underlying107,a127:=Tryz.isAgg107,z127:=Tryz.sizeOf107,v127:=Tryz.zeroValue107}
end
section
open Go.RowKit Go.Shelf
def Tryz.anq:liesAt prog prog.depth 64 (2 / prog.cellsOf 64) 0 64 1=true:=by kernel_rfl
def Tryz.bx:Builder.Extra prog Tryz.VJ where
 sizeBuilder:=by kernel_rfl
 liesBuilder:=Tryz.anq
 t5:=underlying5
 a5:=Tryz.isAgg5
 z5:=Tryz.sizeOf5
 v5:=Tryz.zeroValue5
 infoByte:=by kernel_rfl
 cellsByte:=by kernel_rfl
 sizeByte:=by kernel_rfl
 neB5:=by decide
def Ai(w:World)(B b:Nat)(l:List UInt8):Prop:=Lib.IsBuilderF 64 5 B b (Lib.byteCells l) w
theorem QA(B b:Nat)(l:List UInt8)(s:ByteArray)(w:World)(h:Ai w B b l)(hlen:l.length+s.size<=140737488355328)(hBw:B<=w.heap.size):
  Calls prog 41 #[.pointer (some ⟨b,0,none⟩),.string s] w fun e w'=>e= .returned (.tuple #[.int .i64 s.size,.nilIface])/\Ai w' B b (l++s.data.toList)/\Below B w w'/\Lib.OthersKept 5 (some b) w w':=by
 have:=Any.Builder_WriteString_k Tryz.anc Tryz.bx B b (Lib.byteCells l) s w h (by rw[Lib.byteCells_length];exact hlen) hBw;refine mM this ?_;rintro e w' ⟨rfl,h1,h2,h3⟩;refine⟨rfl,?_,h2,h3⟩;have e:Lib.byteCells (l++s.data.toList)=Lib.byteCells l++Lib.strCells s:=by simp[Lib.byteCells,Lib.strCells]
 unfold Ai;rw[e];exact .inr h1
def ago(B b:Nat)(l:List UInt8)(w:World)(h:Ai w B b l)(a:B<=w.heap.size):
  Calls prog 42 #[.pointer<|some ⟨b,0,none⟩] w λe c=>e= .returned (.string ⟨l.toArray⟩)/\Below B w c:=by
 have:=Any.Builder_String_any_k Tryz.ane Tryz.bx B b l w h a;refine mM this ?_;rintro e c ⟨rfl,_,d,_⟩;exact⟨rfl,d⟩
end
section
open Go.RowKit Go.Shelf
def Ai.below {w f:World}{B b:Nat}{l:List UInt8}(h:Ai w B b l)(a:Below w.heap.size w f):Ai f B b l:=by
 have key:∀p,Lib.BuilderAtF 64 5 B b p (Lib.byteCells l) w->Lib.BuilderAtF 64 5 B b p (Lib.byteCells l) f:=by
  intro p h;have d:=h.lt;obtain⟨g,v,j,c,e⟩:=h;exact⟨g,v,(a.block b d).trans j,c.kept (row:=none) ⟨a.os,a.tape,a.output,a.size,λk i _=>a.block k i⟩<|Classical.em _,e⟩
 exact h.elim (λx=> .inl (key _ x)) λx=> .inr (key _ x)
def xJ(w:World):Ai (w.alloc (.cells #[.pointer none,.slice none 0 0] 64)) w.heap.size w.heap.size []:=
 .inl ⟨au _,.slice none 0 0,by show(w.heap.push _)[w.heap.size]? =_;simp,Go.World.ownsRowF_nil _ _ _ _,by simp[Value.ownBlock]⟩
def FD {w d:World}{b k:Nat}{a c:Int}{n:ByteArray}(h:w.heap[k]? =some (.cells #[.int .i64 a,.int .i64 c,.string n] 66 (0,0)))(f:k≠b)(g:Lib.OthersKept 5 (some b) w d):d.heap[k]? =some (.cells #[.int .i64 a,.int .i64 c,.string n] 66 (0,0)):=
 g k _ h (λe=>f<|aJ e) (λc i e=>by simp at e)
def Ov {w:World}{k:Nat}{a c:Int}{n:ByteArray}(h:w.heap[k]? =some (.cells #[.int .i64 a,.int .i64 c,.string n] 66 (0,0))):w.cell? ⟨k,0,none⟩=some (.int .i64 a)/\w.cell? ⟨k,1,none⟩=some (.int .i64 c)/\w.cell? ⟨k,2,none⟩=some (.string n):=
 ⟨by rw[ZF h];rfl,by rw[ZF h];rfl,by rw[ZF h];rfl⟩
def NY(a b:ByteArray):(a++b).data.toList=a.data.toList++b.data.toList:=by simp
end
section
open Go.RowKit Go.Shelf
def alh(s:ByteArray)(c:List Ed)(b E m R:Nat)(w:World)(hl:c.length=m)(hm:m<=1000000000000000)(hc:Gp w b E c)(hN:s.size+jA c<=140737488355328)(hA:∀e∈c,e.a<=9223372036854775807):
  Calls prog 24 #[.string s,.slice (some ⟨b,E,none⟩) m R] w λe w'=>e= .returned (.string<|(c.foldl (mS s) (⟨#[]⟩,0)).1++s.extract (c.foldl (mS s) (⟨#[]⟩,0)).2 s.size)/\Below w.heap.size w w':=by
 have HC:=ah hc;have HL:=ah hl;have HA:=ah hA;have BS:=ah<|xJ w;have aD:Hid (Below w.heap.size w<|w.alloc (.cells #[.pointer none,.slice none 0 0] 64)):=(aA _ _).alloc (au _) _;have hs:s.size<=1000000000000000:=by omega
 clear hc hl hA;go_enter func24,ntmps24;go_wp2;obtain⟨z,hz⟩:=ac w.heap.size;go_loopg [6,11] m (λgk pv iv W=>∃(k p:Nat)(t:ByteArray),k<=m/\gk=m - k/\pv= .int .i64 p/\iv= .int .i64 k/\p<=s.size/\t.size<=p+jA (c.take k)/\Below w.heap.size w W/\Ai W w.heap.size w.heap.size t.data.toList/\w.heap.size<W.heap.size/\(c.take k).foldl (mS s) (⟨#[]⟩,0)=(t,p));exact⟨0,0,⟨#[]⟩,by omega,rfl,rfl,rfl,by omega,mQ _,aD.out,BS.out,by simp,rfl⟩;obtain⟨k,p,t,hk,rfl,rfl,rfl,hp,ht,A,J,ag,B⟩:=hrel;have af:=Qo c k;by_cases V:k<m
 .have g:k<c.length:=by rw[HL.out];exact V
  obtain⟨c0,c1,c2⟩:=(HC.out.below A) k g;have kX:(c.take<|k+1).foldl (mS s) (⟨#[]⟩,0)=mS s (t,p) c[k]:=by
   rw[uM,aM g,Ci,B];rfl
  have U:(k:Int)<(m:Int):=by omega
  have ad:jA (c.take<|k+1)=jA (c.take k)+c[k].n.size:=by rw[uM,aM g,Xr];simp[jA]
  have ae:=Qo c<|k+1;have Ic:=HA.out c[k] (pF g);generalize c[k]=e at*;have fe:=ah kX;have YS:Hid (∀W,Calls prog 40 #[.agg #[.int .i64 e.a,.int .i64 e.c,.string e.n],.int .i64 p,.int .i64 s.size] W λi w'=>i= .returned (.bool<|CQ s p e)/\Below W.heap.size W w'):=λW=>anr s p e W hs Ic
  have l:=ah A;have N:=ah J;have EK:Hid ((wr.alloc (.cells #[.int .i64 e.a,.int .i64 e.c,.string e.n] 66)).heap[wr.heap.size]? =some (.cells #[.int .i64 e.a,.int .i64 e.c,.string e.n] 66 (0,0))):=by show(wr.heap.push _)[wr.heap.size]? =_;simp
  obtain⟨Y,Z,k2⟩:=Ov EK.out;clear kX Ic B A J;have aG:Hid (Below w.heap.size w<|wr.alloc (.cells #[.int .i64 e.a,.int .i64 e.c,.string e.n] 66)):=l.out.alloc l.out.size _;have EZ:Hid (Ai (wr.alloc (.cells #[.int .i64 e.a,.int .i64 e.c,.string e.n] 66)) w.heap.size w.heap.size t.data.toList):=N.out.below<|(aA _ _).alloc (au _) _;have v:(wr.alloc (.cells #[.int .i64 e.a,.int .i64 e.c,.string e.n] 66)).heap.size=wr.heap.size+1:=by simp
  have q:=ah v;clear v;by_cases f:CQ s p e=true
  .have L:Hid (mS s (t,p) e=(t++s.extract p e.a.toNat++e.n,(e.a+e.c).toNat)):=(by show mS s (t,p) e=_;unfold mS;rw[aj f]);have u:=f;unfold CQ at u;simp only[ED,DD]at u;obtain⟨g1,g2,g3,g4⟩:=u;obtain⟨ea,ec,y⟩:=e;simp only at*;obtain⟨d,rfl⟩:∃d:Nat,ea=d:=⟨ea.toNat,by omega⟩
   obtain⟨h,rfl⟩:∃h:Nat,ec=h:=⟨ec.toNat,by omega⟩
   have e1:((d:Int)).toNat=d:=(by omega);have e2:((d:Int)+(h:Int)).toNat=d+h:=(by omega);rw[e1,e2]at L;have hx:(s.extract p d).size=d - p:=(by rw[Ak];omega);have o:=ah hx;clear hx;go_wp2_with fail;refine(YS.out _).mono ?_;rintro i G ⟨rfl,a⟩;rw[f];have P:=ah<|EZ.out.below a;have Jr:Hid (G.heap[wr.heap.size]? =some (.cells #[.int .i64 (d:Int),.int .i64 (h:Int),.string y] 66 (0,0))):=(a.block _ (by rw[q.out];omega)).trans EK.out;have Q:Hid (Below w.heap.size w G):=aG.out.trans (a.mono<|by rw[q.out];omega);obtain⟨Y,Z,k2⟩:=Ov Jr.out;have uj:=a.size;rw[q.out]at uj;clear a;go_wp2_with fail;refine(QA w.heap.size w.heap.size t.data.toList (s.extract p d) G P.out ?_ ?_).mono ?_
   .show t.size+_<=_;rw[o.out];omega
   .omega
   rintro i H ⟨rfl,I,D,ju⟩;have M:=ah I;have x:Hid _:=Q.out.trans D;have YK:Hid (H.heap[wr.heap.size]? =some (.cells #[.int .i64 (d:Int),.int .i64 (h:Int),.string y] 66 (0,0))):=FD Jr.out (by omega) ju;obtain⟨Y,Z,k2⟩:=Ov YK.out;have jg:w.heap.size<=H.heap.size:=x.out.size;clear I D ju;go_wp2_with fail;refine(QA w.heap.size w.heap.size _ y H M.out ?_ jg).mono ?_
   .rw[bH];show t.size+(s.extract p d).size+_<=_;rw[o.out];omega
   rintro i K ⟨rfl,C,F,rH⟩;have O:=ah C;have S:Hid _:=x.out.trans F;have YL:Hid (K.heap[wr.heap.size]? =some (.cells #[.int .i64 (d:Int),.int .i64 (h:Int),.string y] 66 (0,0))):=FD YK.out (by omega) rH;obtain⟨Y,Z,k2⟩:=Ov YL.out;have aa:wr.heap.size<K.heap.size:=by
    rcases cP wr.heap.size K.heap.size with T|T
    .exact T
    .have:=YL.out;simp[tD T]at this
   clear C F rH;go_wp2;go_roundg (m - (k+1));case measure=>omega
   case rel=>
    refine⟨k+1,d+h,t++s.extract p d++y,by omega,rfl,by go_num,by go_num,by omega,?_,S.out,?_,by omega,fe.out.trans L.out⟩
    .rw[C8,C8,o.out];omega
    .rw[NY,NY];exact O.out
  .have L:Hid (mS s (t,p) e=(t,p)):=(by show mS s (t,p) e=_;unfold mS;rw[ai f]);have u:CQ s p e=false:=(by simpa using f);go_wp2_with fail;refine(YS.out _).mono ?_;rintro i G ⟨rfl,a⟩;rw[u];have P:=ah<|EZ.out.below a;have Q:Hid (Below w.heap.size w G):=aG.out.trans (a.mono<|by rw[q.out];omega);have uj:=a.size;rw[q.out]at uj;clear a;go_wp2;go_roundg (m - (k+1));exact⟨k+1,p,t,by omega,rfl,rfl,by go_num,hp,by omega,Q.out,P.out,by omega,fe.out.trans L.out⟩;omega
 .have e:c.take k=c:=ku (by rw[HL.out];omega);rw[e]at B ht;have HE:=ah B;have l:=ah A;have N:=ah J;have U:¬(k:Int)<(m:Int):=by omega
  have ab:(p:Int)<=(s.size:Int):=by omega
  have hx:(s.extract p s.size).size=s.size - p:=by rw[Ak];omega
  have X:t.data.toList.length=t.size:=rfl;clear B A e J;have o:=ah hx;clear hx;go_wp2_with fail;refine(QA w.heap.size w.heap.size t.data.toList (s.extract p s.size) wr N.out ?_ l.out.size).mono ?_
  .rw[o.out,X];omega
  rintro i H ⟨rfl,I,D,_⟩;have M:=ah I;have x:Hid _:=l.out.trans D;clear I D;go_wp2_with fail;refine(ago w.heap.size w.heap.size _ H M.out x.out.size).mono ?_;rintro i K ⟨rfl,F⟩;have S:Hid _:=x.out.trans F;clear F;have hr:(⟨(t.data.toList++(s.extract p s.size).data.toList).toArray⟩:ByteArray)=t++s.extract p s.size:=by rw[<-NY]
  obtain⟨r,j⟩:=ac<|t++s.extract p s.size;have HR:=ah j;rw[hr,<-j];clear hr j;go_wp2;go_ret;refine⟨?_,S.out⟩;rw[HE.out,<-HR.out];rfl
end
def qg(s:ByteArray)(a:List Ed):ByteArray:=(a.foldl (mS s) (⟨#[]⟩,0)).1++s.extract (a.foldl (mS s) (⟨#[]⟩,0)).2 s.size
def fE(s:ByteArray)(Q:List Ed×Int×Int):Int×Int×Int:=if(gy s).1≠0 then gy s else if Q.2.2= -1 then(0,0,0)else(3,Q.2.1,Q.2.2)
def KE {w:World}{B n:Nat}{e:TypeId}{g l:Nat}{d:List Ed}(h:w.ownsRow B e 3 (.slice (some ⟨g,0,none⟩) n l) n<|bY d):Gp w g 0 d:=by
 have m:=h.cells (g:=g) rfl;intro i f;have k:∀(d:List Ed)(i:Nat)(f:i<d.length),(bY d)[i*3]? =some (.int .i64 d[i].a)/\(bY d)[i*3+1]? =some (.int .i64 d[i].c)/\(bY d)[i*3+2]? =some (.string d[i].n):=by
  intro d
  induction d with
  |nil=>intro i f;simp at f
  |cons e d ih=>
   intro i f;cases i with
   |zero=>exact⟨rfl,rfl,rfl⟩
   |succ i=>
    obtain⟨a,b,c⟩:=ih i (by simpa using f);have:bY (e::d)=[.int .i64 e.a,.int .i64 e.c,.string e.n]++bY d:=(by simp[bY,KD]);rw[this,show(i+1)*3=i*3+3 by omega];exact⟨a,b,c⟩
 obtain⟨a,b,c⟩:=k d i f;have r:∀j,(⟨g,0,none⟩:Addr).add j=⟨g,j,none⟩:=λj=>by
  unfold Addr.add;split
  .rename_i h;subst h;rfl
  .simp
 have o:=m _ _ a;have p:=m _ _ b;have q:=m _ _ c;rw[r]at o p q;rw[fZ];exact⟨o,p,q⟩
def alg(s:ByteArray)(n:Option Addr)(b:Nat)(w:World)(q:s.size<=140737488355328):
  Calls prog 24 #[.string s,.slice n 0 b] w λe t=>e= .returned (.string<|(⟨#[]⟩:ByteArray)++s)/\Below w.heap.size w t:=by
 have j:=ah<|xJ w;have d:Hid (Below w.heap.size w<|w.alloc (.cells #[.pointer none,.slice none 0 0] 64)):=(aA _ _).alloc (au _) _;have hx:s.extract 0 s.size=s:=by simp
 have m:=ah hx;have c:(⟨(([]:List UInt8)++s.data.toList).toArray⟩:ByteArray)=(⟨#[]⟩:ByteArray)++s:=by rw[show([]:List UInt8)=(⟨#[]⟩:ByteArray).data.toList from rfl,<-NY]
 obtain⟨r,a⟩:=ac<|(⟨#[]⟩:ByteArray)++s;rw[<-a]at c ⊢;have l:=ah c;clear c a hx;go_enter func24,ntmps24;go_wp2;refine fV 1 ?_;rw[bN];go_wp2_with fail;try rw[m.out]
 refine(QA w.heap.size w.heap.size [] s _ j.out (by simpa using q) d.out.size).mono ?_;rintro p u ⟨rfl,i,g,_⟩;have k:=ah i;have f:Hid _:=d.out.trans g;clear i g;go_wp2_with fail;refine(ago w.heap.size w.heap.size _ u k.out f.out.size).mono ?_;rintro p v ⟨rfl,h⟩;have o:Hid _:=f.out.trans h;clear h;rw[l.out];go_wp2;go_ret;exact⟨rfl,o.out⟩
def aix(s:ByteArray)(a:List Ed)(v:Value)(B n:Nat)(w:World)(c:n=a.length)(h:w.ownsRow B 66 3 v n<|bY a)(l:n<=1000000)(i:s.size+jA a<=140737488355328)(f:∀e∈a,e.a<=9223372036854775807):
  Calls prog 24 #[.string s,v] w λe k=>e= .returned (.string<|qg s a)/\Below w.heap.size w k:=by
 rcases h.2 with⟨rfl,rfl⟩|⟨g,b,d,rfl,_⟩
 .have j:a=[]:=JZ c.symm;subst j;have e:qg s []=(⟨#[]⟩:ByteArray)++s:=by
   unfold qg;rw[show s.extract (([]:List Ed).foldl (mS s) (⟨#[]⟩,0)).2 s.size=s by show s.extract 0 s.size=s;simp];rfl
  rw[e];exact alg s none 0 w (by omega)
 .exact alh s a g 0 n b w c.symm (by omega) (KE h) i f
def alm(s:ByteArray)(w:World)(aL p o:Addr)(Y:Env w aL p o)(X:Br w)(Z:zk w)(q:mR w)(r:10<=w.heap.size)(Q:List Ed×Int×Int)
  (hn:(gy s).1=0->Q.1.length<=1000000/\s.size+jA Q.1<=140737488355328/\∀e∈Q.1,e.a<=9223372036854775807)
  (hT:∀W v,(gy s).1=0->Below w.heap.size w W->W.ownsRow w.heap.size 4 1 v (kI s).length (rz<|kI s)->Calls prog 60 #[.string s,v] W λe l=>∃u c,e= .returned (.tuple #[u,c])/\(Q.2.2= -1->c= .nilIface/\l.ownsRow W.heap.size 66 3 u Q.1.length (bY Q.1))/\(Q.2.2≠ -1->u= .slice none 0 0/\∃b,c= .iface 92 (.pointer<|some ⟨b,0,none⟩)/\l.heap[b]? =some (.cells #[.int .i64 Q.2.1,.int .i64 Q.2.2,AX 3 aL p o] 96 (0,0))/\W.heap.size<=b)/\Below W.heap.size W l):
  Calls prog 38 #[.string s] w λe l=>∃t v c,e= .returned (.tuple #[.string t,v,c])/\Jf l w.heap.size c (fE s Q) aL p o/\((fE s Q).1≠0->t=⟨#[]⟩/\v= .slice none 0 0)/\((fE s Q).1=0->t=qg s Q.1/\l.ownsRow w.heap.size 66 3 v Q.1.length (bY Q.1))/\Below w.heap.size w l:=by
 have S:Hid _:=alk s w aL p o Y X Z q r;have H:=ah hT;have G:=ah hn;clear Y X Z q hT hn r;go_enter func38,ntmps38;go_wp2_with fail;refine mM S.out ?_;clear S;rintro c U ⟨v,L,rfl,n,C,k,f⟩;have I:=ah f;have D:=f.size;clear f;by_cases a:(gy s).1=0
 .have z:=(look_ok a).2.1;have he:L= .nilIface:=by
   rw[z]at n;rcases n with⟨_,h⟩|⟨h,_⟩|⟨b,e,ln,K,_,_,_,h,h'⟩
   .exact h
   .simp at h
   .simp at h;omega
  subst he;have T:=H.out U v a I.out<|k a;obtain⟨n1,n2,n3⟩:=G.out a;have E:fE s Q=if Q.2.2= -1 then(0,0,0)else(3,Q.2.1,Q.2.2):=by unfold fE;rw[ai λh=>h a]
  have F:=ah E;clear n C k a z H G E;go_wp2_with fail;refine T.mono ?_;clear T;rintro c V ⟨u,L,rfl,i,j,A⟩;have J:=ah<|I.out.trans<|A.mono D;clear A;by_cases m:Q.2.2= -1
  .obtain⟨rfl,O⟩:=i m;have d:Hid (fE s Q=(0,0,0)):=(by show _=_;rw[F.out,aj m]);have R:=aix s Q.1 u U.heap.size Q.1.length V rfl O n1 n2 n3;have HO:=ah<|Ej O D;clear i j m O F;go_wp2_with fail;refine R.mono ?_;rintro c W3 ⟨rfl,g⟩;have aG:=ah<|J.out.trans<|g.mono J.out.size;have mO:=ah<|iZ HO.out g;clear g R;go_wp2;refine cI (v:= .tuple #[.string<|qg s Q.1,u,.nilIface]) (by simp[results,results38,go_sem]) rfl ⟨_,_,_,rfl,?_,?_,?_,aG.out⟩
   .rw[d.out];exact .inl ⟨rfl,rfl⟩
   .rw[d.out];intro h;exact absurd rfl h
   .intro _;exact⟨rfl,mO.out⟩
  .obtain⟨rfl,b,rfl,B,M⟩:=j m;have d:Hid (fE s Q=(3,Q.2.1,Q.2.2)):=(by show _=_;rw[F.out,ai m]);have P:Hid (V.heap[b]? =some (.cells #[.int .i64 Q.2.1,.int .i64 Q.2.2,AX 3 aL p o] 96 (0,0))/\w.heap.size<=b):=⟨B,by omega⟩
   clear i j m B M F;go_wp2;refine cI (v:= .tuple #[.string ⟨#[]⟩,.slice none 0 0,.iface 92 (.pointer<|some ⟨b,0,none⟩)]) (by simp[results,results38,go_sem]) rfl ⟨_,_,_,rfl,?_,?_,?_,J.out⟩
   .rw[d.out];exact .inr (.inr ⟨b,3,_,_,rfl,P.out.1,P.out.2,rfl,by omega⟩)
   .intro _;exact⟨rfl,rfl⟩
   .rw[d.out];intro h;simp at h
 .have E:fE s Q=gy s:=by unfold fE;rw[aj a]
  have d:=ah E;have Nb:=ah n;have H0:=ah a;have N:∃x y,L= .iface x y:=by
   rcases n with⟨h,_⟩|⟨_,h⟩|⟨b,e,ln,K,h,_⟩
   .rw[h]at a;exact absurd rfl a
   .exact⟨_,_,h⟩
   .exact⟨_,_,h⟩
  obtain⟨x,y,rfl⟩:=N;clear n C k a E H G;go_wp2;refine cI (v:= .tuple #[.string ⟨#[]⟩,.slice none 0 0,.iface x y]) (by simp[results,results38,go_sem]) rfl ⟨_,_,_,rfl,?_,?_,?_,I.out⟩
  .rw[d.out];exact Nb.out
  .intro _;exact⟨rfl,rfl⟩
  .rw[d.out];intro h;exact absurd h H0.out
