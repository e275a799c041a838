import Derived.Test.YtkbinfhclaafhaaGreatDoorW15
import Derived.Maps.OwnIn
import Derived.Sort.LoopGhostIn
import Derived.RangeFuncCalls
import Derived.Shelf.Strings.BuilderK
namespace Go.Proofs.YtkbinfhclaafhaaGreatDoor
open Go.RowKit
open Go.Proofs.Tryz
set_option maxRecDepth 100000
set_option maxHeartbeats 32000000
set_option linter.all false
open Go.Value renaming int->Y,slice->R,string->cd,bool->ce,tuple->de,agg->df
open Go.IntKind renaming i64->Z
open Option renaming none->U,some->V
open Go.Addr renaming mk->S
open Go.Obj renaming cells->bi
open Go.Ending renaming returned->bj
open Go renaming World->cw,Value->cJ,Calls->cP
open Go.RowKit renaming Below->cD,Hid->dd
open Bool renaming false->da,true->db
section
attribute [local go_sem] Oper.semAt_some
def Fe(t:TypeId):Prop:=t=66∨t=37∨t=53
def Bp(t:TypeId)(c:Array cJ):Prop:=t=244/\c.size=8/\∃s,c[0]? =V (cd s)
structure Ke(B:Nat)(A C:World):Prop where
 below:Below B A C
 keep:∀(k:Nat)(o:Obj),A.1[k]? =some o->(∀c t fr,o=Obj.cells c t fr->¬Fe t)->C.1[k]? =some o
def Ke.trans {B:Nat}{A C D:cw}(h:Ke B A C)(k:Ke B C D):Ke B A D:=⟨h.below.trans k.below,λi o b a=>k.keep i o (h.keep i o b a) a⟩
def Ke.of {B:Nat}{A C:cw}(h:cD A.1.size A C)(a:B<=A.1.size):Ke B A C:=⟨h.mono a,λ_ _ b _=>aR h b⟩
def Ke.grown {B:Nat}{A C:cw}{r:Option Nat}(d:A.grownBy C r)(i:B<=A.1.size)(f:∀k,r=V k->B<=k/\∃c t b,A.1[k]? =V (Obj.cells c t b)/\Fe t):Ke B A C:=by refine⟨(aA _ _).grown d i (λk e=>(f k e).1),λk o a j=>(d.block k (bO a) λe=> ?_).trans a⟩;obtain⟨_,c,t,b,g,h⟩:=f k e.symm;rw[g]at a;exact j c t b (aI a).symm h
def Ke.same {B:Nat}{A C:cw}(h:Ke B A C):Same A C:=λk o b a=>h.keep k o b λc t d e=>by subst e;cases a
def Ke.G5 {B:Nat}{A C:cw}(h:Ke B A C):zR B A C:=⟨h.below,λk c g d=>h.keep k _ d (λf t b e=>by injection e with _ a _;subst a;unfold Fe;decide)⟩
structure EI(n₀:Nat)(W0:World)(z:Nat)(es:List Ed)(W:World):Prop where
 kept:∀k c t fr,W0.1[k]? =some (.cells c t fr)->(k<n₀∨¬Fe t)->¬Bp t c->W.1[k]? =some (.cells c t fr)
 c4:W.1[n₀+1]? =some (.cells #[.slice none 0 0] 37 (0,0))
 c5:W.1[n₀+2]? =some (.cells #[.nilIface] 53 (0,0))
 box:∃u,W.1[z]? =some (.cells #[u] 37 (0,0))/\W.ownsRow W0.1.size 66 3 u es.length (bW es)
 sz:W0.1.size<=W.1.size
def F8 {A C:cw}(h:lT A C){k:Nat}{c:Array cJ}{t:TypeId}{a:Nat×Nat}(i:A.1[k]? =V (bi c t a))(j:¬Bp t c):C.1[k]? =V (bi c t a):=
 h.block _ _ i (λl f e g=>by injection e with b d m;subst b;exact j ⟨d,g⟩)
def EI.nR {a z:Nat}{d A C:cw}{e:List Ed}(h:EI a d z e A)(b:lT A C):EI a d z e C:=by obtain⟨u,i,j⟩:=h.box;exact⟨λk c t g l m f=>F8 b (h.kept k c t g l m f) f,F8 b h.c4<|by unfold Bp;simp,F8 b h.c5<|by unfold Bp;simp,⟨u,F8 b i<|by unfold Bp;simp,J8 j b<|by decide⟩,bM h.sz b.size⟩
def EI.put {a z:Nat}{b W:cw}{d:List Ed}(h:EI a b z d W)(v:z<b.1.size)(s:a+2<b.1.size){l:Nat}{o:Obj}(r:b.1.size<=l)(n:W.1[l]? =V o)(m:o.isCells=da)(f:Obj):EI a b z d (W.putObj l f):=by obtain⟨u,i,j⟩:=h.box;exact⟨λk c t g e p q=>(ja<|by have:=bO e;omega).trans (h.kept k c t g e p q),(ja<|by omega).trans h.c4,(ja<|by omega).trans h.c5,⟨u,(ja<|by omega).trans i,zi j n m f⟩,by simp[World.putObj];exact h.sz⟩
structure EX(n₀ B:Nat)(ln at':Int)(ev:Value)(W:World):Prop where
 c4:W.1[n₀+1]? =some (.cells #[.slice none 0 0] 37 (0,0))
 c5:∃b,W.1[n₀+2]? =some (.cells #[.iface 92 (.pointer<|some ⟨b,0,none⟩)] 53 (0,0))/\W.1[b]? =some (.cells #[.int .i64 ln,.int .i64 at',ev] 96 (0,0))/\B<=b
def EX.nR {a B:Nat}{f c:Int}{e:cJ}{A C:cw}(h:EX a B f c e A)(d:lT A C):EX a B f c e C:=by obtain⟨b,g,i,j⟩:=h.c5;exact⟨F8 d h.c4<|by unfold Bp;simp,b,F8 d g<|by unfold Bp;simp,F8 d i<|by unfold Bp;simp,j⟩
def EX.put {a B:Nat}{g c:Int}{d:cJ}{W:cw}(h:EX a B g c d W)(p:a+2<B){l:Nat}{o:Obj}(n:B<=l)(f:W.1[l]? =V o)(k:o.isCells=da)(m:Obj):EX a B g c d (W.putObj l m):=by obtain⟨b,i,e,j⟩:=h.c5;exact⟨(ja<|by omega).trans h.c4,b,(ja<|by omega).trans i,(ja<|by rintro rfl;rw[e]at f;obtain rfl:=aI f;cases k).trans e,j⟩
structure EL(n₀ B z:Nat)(W5:World)(v u:Value)(l:List Ed)(Wx:World):Prop where
 ke:Ke n₀ W5 Wx
 c4:Wx.1[n₀+1]? =some (.cells #[.slice none 0 0] 37 (0,0))
 c5:Wx.1[n₀+2]? =some (.cells #[.nilIface] 53 (0,0))
 bx:Wx.1[z]? =some (.cells #[u] 37 (0,0))
 own:Wx.ownsRow B 66 3 u l.length<|bW l
 row:∀k,v.ownBlock=some k->u.ownBlock≠some k/\Wx.1[k]? =W5.1[k]? /\B<=k/\k<Wx.1.size
 sz:B<=Wx.1.size
def EL.step {b B z:Nat}{D g s f:cw}{v u d:cJ}{l l':List Ed}(h:EL b B z D v u l g)(J:z<B)(K:b+2<z)(p:cD g.1.size g s)(w:s.grownBy f u.ownBlock)(E:f.ownsRow B 66 3 d l'.length<|bW l')(t:d.ownBlock=u.ownBlock∨d.ownBlock=V s.1.size):EL b B z D v d l' (f.setCell (S z 0 U) d):=by
 have m:∀k,u.ownBlock=V k->B<=k/\∃c,g.1[k]? =V (bi c 66 (0,0)):=λk a=>jL h.own a
 have P:=h.sz;have H:=p.size;have I:=w.size;have y:∀k o,g.1[k]? =V o->u.ownBlock≠V k->f.1[k]? =V o:=λk o a r=>(w.block k (by have:=bO a;omega) λe=>r e.symm).trans (aR p a)
 have n:f.grownBy (f.setCell (S z 0 U) d) (V z):=uw _ _ _ _;have A:∀k o,g.1[k]? =V o->u.ownBlock≠V k->k≠z->(f.setCell (S z 0 U) d).1[k]? =V o:=λk o a r x=>(n.block k (bO<|y k o a r) λe=>x<|aI e).trans (y k o a r)
 have C:∀k,k<B->u.ownBlock≠V k:=λk a e=>by have:=(m k e).1;omega
 have i:=y z _ h.bx (C z J);have Q:=n.size;refine⟨h.ke.trans<|(Ke.of p<|by omega).trans ((Ke.grown w (by omega) λk a=> ?_).trans (Ke.grown n (by omega) λk a=> ?_)),A _ _ h.c4 (C _ (by omega)) (by omega),A _ _ h.c5 (C _ (by omega)) (by omega),?_,?_,?_,by omega⟩;obtain⟨R,c,L⟩:=m k a;exact⟨by omega,c,_,_,aR p L,.inl rfl⟩;obtain rfl:=aI a;exact⟨by omega,_,_,_,i,.inr (.inl rfl)⟩;rw[fe i];rfl;exact Cc E n (λk a e=>by have:=(jL E a).1;have:=aI e;omega);intro k a;obtain⟨F,M,N,O⟩:=h.row k a;obtain⟨o,j⟩:∃o,g.1[k]? =V o:=⟨_,Ot O⟩
 have q:=A k o j F (by omega);refine⟨?_,by rw[q,<-j,M],N,bO q⟩;rcases t with e|e;rw[e];exact F;rw[e];intro G;have:=aI G;omega
def EL.bx9 {a B z:Nat}{g b c f:cw}{v u:cJ}{l:List Ed}(h:EL a B z g v u l b)(j:z<B)(d:cD b.1.size b c)(i:c.grownBy f u.ownBlock):f.1[z]? =V (bi #[u] 37 (0,0)):=by have:=d.size;exact(i.block z (by have:=bO h.bx;omega) λe=>by have:=(jL h.own e.symm).1;omega).trans (aR d h.bx)
def ap2 {F:Fence}{n l:Nat}{P:Program}{b:Array Oper}{Q:Exit->Act->cw->Prop}{K:Act->cw->Prop}{i:Nat}{a:Act}{w:cw}(e:∀(i:Nat)(o:Oper),b[i]? =V o->∀c,o.op≠.defer c)(h:wpOpIn F n P b Q i K a w):wpOpIn (F.inRound l) n P b Q i K a w:=by
 cases ho:b[i]? with
 |none=>simpa [wpOpIn,ho]using h
 |some o=>simp only[wpOpIn,ho]at h ⊢;by_cases d:Region.wanted o (yielded b a.tmps)=db;simp only[d,Aq]at h ⊢;unfold Oper.wpIn at h ⊢;rw[Oper.semAt_eq _ _ _ (e i o ho)]at h ⊢;exact h;simp only[d]at h ⊢;exact h
def Uu {F:Fence}{n l:Nat}{P:Program}{f:Region.Mode}{d:Array Oper}{Q:Exit->Act->cw->Prop}(e:∀(i:Nat)(o:Oper),d[i]? =V o->∀c,o.op≠.defer c):∀(b:Nat)(L:Array Bool)(a:Act)(w:cw),wpAnyIn F n P f d Q b L a w->wpAnyIn (F.inRound l) n P f d Q b L a w
 |0,_,_,_,h=>h
 |b+1,_,_,_,h=>⟨h.1,λi g=>wpOpIn_mono (λa w=>Uu e b _ a w)<|ap2 e<|h.2 i g⟩
def afA {a:Array Oper}(h:a.all (λo=>match o.op with| .defer _=>da|_=>db)=db)(i:Nat)(o:Oper)(d:a[i]? =V o):∀c,o.op≠.defer c:=by intro c e;obtain⟨b,rfl⟩:=Ou.1 d;have:=Array.all_eq_true.1 h i b;rw[e]at this;cases this
def UU {w:cw}{k i:Nat}{x:cJ}(h:w.cell? (S k i U)=V x):∃c t a,w.1[k]? =V (bi c t a)/\c[i]? =V x:=by
 unfold World.cell? at h;cases ho:w.1[k]? with
 |none=>simp[ho]at h
 |some o=>
  cases o with
  |cells c t a=>exact⟨c,t,a,rfl,by simpa [ho]using h⟩
  |_=>simp[ho]at h
def uF(w:cw)(a b c:Obj):(((w.alloc a).alloc b).alloc c).1[w.1.size]? =V a/\(((w.alloc a).alloc b).alloc c).1[w.1.size+1]? =V b/\(((w.alloc a).alloc b).alloc c).1[w.1.size+2]? =V c:=by
 obtain⟨d,f,g,_⟩:=IZ w a b c c;have e:∀(k:Nat)(o:Obj),k<w.1.size+3->((((w.alloc a).alloc b).alloc c).alloc c).1[k]? =V o->(((w.alloc a).alloc b).alloc c).1[k]? =V o:=λk o i h=>(dh (((w.alloc a).alloc b).alloc c) c k<|by simp;omega).symm.trans h
 exact⟨e _ _ (by omega) d,e _ _ (by omega) f,e _ _ (by omega) g⟩
def alR(a:List Ed)(e:Ed):bW (a++[e])=bW a++[Y Z e.a,Y Z e.c,cd e.n]:=by simp[bW,Md]
end
section
attribute [local go_sem] Oper.semAt_some
def Tryz.aoq:(prog.info? 71).map (λi=>(i.zero,i.size,i.bytes))=V (V<|R U 0 0,1,24):=by kernel_rfl
def E3(l:List Bool)(i:Nat)(h:i<=l.length):(kX<|l.take i).length=i:=by unfold kX;rw[jh,tM];omega
def akF(l:List Bool)(N:Nat):kX (l.take 0)++List.replicate (N - 0) (Value.bool da)=List.replicate N (Value.bool da):=by rw[iZ,Nat.sub_zero];rfl
def akC(l:List Bool)(N i:Nat)(c:l.length=N)(b:i<N):(kX (l.take i)++List.replicate (N - i) (Value.bool da))[i]? =V (ce da):=by have a:=E3 l i (by omega);rw[tH<|by omega,a,pT,T9,aj<|by omega]
def akE(l:List Bool)(N i:Nat)(e:l.length=N)(d:i<N):(kX (l.take i)++List.replicate (N - i) (Value.bool da)).set i (ce<|l.getD i da)=kX (l.take<|i+1)++List.replicate (N - (i+1)) (Value.bool da):=by
 have a:=E3 l i (by omega);have b:N - i=(N - (i+1))+1:=by omega
 have c:l.take (i+1)=l.take i++[l.getD i da]:=by rw[uO,aN,aK<|by omega];rfl
 rw[yH _ _ (by omega),a,pT,b,IK,ajt,c];unfold kX;rw[gu,dY];rfl
def Kg(s:bc)(w:cw)(aL aT aC:Addr)(hE:Env w aL aT aC)(hB:Br w)(hM:uQ w)(ab:kH w)(ad:10<=w.1.size):cP prog 39 #[cd s] w λe w'=>∃v ev,e=bj (de #[v,ev])/\Ic w' w.1.size ev (cV s) aL aT aC/\((cV s).1≠0->v=R U 0 0)/\((cV s).1=0->w'.ownsRow w.1.size 4 1 v (eu s).length (kX<|eu s))/\cD w.1.size w w':=by
 refine(Ja (n:=0)).1 (callsIn_of_wp_marks func39 rfl trivial ?_ rfl);simp only[ntmps39,iw,eU,kW,Nat.reduceAdd,Nat.reduceSub,ZW,ZX,gU,lJ,r8,uL];refine(Oo (n:=0)).2 ?_;have HC:dd _:=ala s w aL aT aC hE hM;have HE:=ah hE;have kA:=ah hB;have HM:=ah hM;have HP:=ah ab;clear hE hB hM ab;go_wp2_with fail;refine jV HC ?_;clear HC;rintro ev p ⟨er,rfl,I,r⟩;by_cases h0:(cV s).1=0
 .obtain⟨rI,af,_⟩:=look_ok h0;have he:er= .nilIface:=by rw[af]at I;rcases I with⟨_,h⟩|⟨h,_⟩|⟨b,e,ln,aa,_,_,_,h,G⟩;exact h;simp at h;simp at h;omega
  subst he;obtain⟨m,hm⟩:=HM.out.below r;have Ir:dd _:=Y7 s m p (by omega) hm;have dK:=ah h0;have OG:=ah I;have aD:=ah r;have ag:=E5 s 0 0 (by omega);have aq:=run_make_row' (P:=prog) 103 71 (R U 0 0) 24 underlying103 Tryz.aoq rfl .i64 .i64 (aS s 0 0).length (by omega) (by omega);clear I r hm h0 af;go_wp2_with fail;refine jV Ir ?_;clear Ir;rintro ev W2 ⟨rfl,rfl⟩;go_wp2_with fail;refine(Vv _ s).mono ?_;rintro ev W3 ⟨rfl,rfl⟩;go_wp2;obtain⟨N,hN⟩:=ac<|(aS s 0 0).length;rw[<-hN]at ag ⊢;have HN:=ah hN;clear aq hN;obtain⟨q0,q1,q2,q3⟩:=IZ p (bi (js<|aS s 0 0).toArray 9) (bi (madeCells #[R U 0 0] N) 71) (bi #[.slice (V ⟨p.1.size+1,0,U⟩) N N] 103)<|bi #[cd s] 9;have aw:((((p.alloc<|bi (js<|aS s 0 0).toArray 9).alloc (bi (madeCells #[R U 0 0] N) 71)).alloc (bi #[.slice (V ⟨p.1.size+1,0,U⟩) N N] 103)).alloc (bi #[cd s] 9)).1.size=p.1.size+4:=by simp
  have yS:cD w.1.size w ((((p.alloc<|bi (js<|aS s 0 0).toArray 9).alloc (bi (madeCells #[R U 0 0] N) 71)).alloc (bi #[.slice (V ⟨p.1.size+1,0,U⟩) N N] 103)).alloc (bi #[cd s] 9)):=by have h1:=aD.out.size;exact(((aD.out.alloc h1 _).alloc (by simp;omega) _).alloc (by simp;omega) _).alloc (by simp;omega) _
  have aG:=aD.out.size;generalize((((p.alloc<|bi (js<|aS s 0 0).toArray 9).alloc (bi (madeCells #[R U 0 0] N) 71)).alloc (bi #[.slice (V ⟨p.1.size+1,0,U⟩) N N] 103)).alloc (bi #[cd s] 9))=W0 at*;generalize p.1.size=z at*;have BN:W0.cell? ⟨z+3,0,U⟩=V (cd s):=az q3 0;have ae:SI (z+4) (z+2) (z+1) N [] W0:=by refine⟨q2,⟨_,q1,size_madeCells _ _,?_,?_⟩,by omega,by omega,by omega⟩;intro i rv g;rw[<-ait,oV]at g;rw[T9]at g;split at g;obtain rfl:=aI g;exact fh _ _ _ _;cases g;intro i j rv Fm _ g _ k L;rw[<-ait,oV]at g;rw[T9]at g;split at g;obtain rfl:=aI g;cases L;cases g
  have am:=ah yS;have Mw:kH W0:=HP.out.below ad yS;clear q1 q2 q3 yS;refine YF (gf:=106) (lb:=#[.pointer<|V ⟨z+3,0,U⟩]) ?_ (Go.Proofs.enters_of func106 (by kernel_rfl) rfl) (n₀:=w.1.size) (by omega) (Yn W0 w.1.size (z+3) s BN Mw ad<|by omega) (λx=>rfl)
   Xu (λW l o F hl C hc=>Xt (by omega) C hc F) (λA B h=>YV h)
   (λa W=>SI (z+4) (z+2) (z+1) N a W/\W.1[z]? =V (bi (js<|aS s 0 0).toArray 9 (0,0))) (λc a W=>False)
   (λa A B h ha=>⟨h.1.nR ha,ha.block _ _ h.2 (λc fr e=>by cases e)⟩) (λc a A B h ha=>h)
   (λa W l o F hl C hc h=>⟨h.1.put (by omega) C hc F,(ja<|by omega).trans h.2⟩) (λc a W l o F hl C hc h=>h)
   ?h0 ?round ?done ?stop
  .rfl
  case h0=>exact λo1 o2=>⟨(ae.nR<|yK W0 o1).nR (yK _ o2),(yK _ o2).block _ _ ((yK W0 o1).block _ _ q0 (λc fr e=>by cases e)) (λc fr e=>by cases e)⟩
  case stop=>rintro D c a W hD K hp h;exact h.elim
  case round=>
   rintro l a ⟨J,xk,X,xt,O,Q⟩ W hl ⟨VF,GK⟩ hx;simp only[Mf]
   gi_wp2
   refine⟨λk o L _=>(dh W _ k (bO L)).trans L,⟨(aA _ _).alloc (by have:=VF.sz;omega) _,λk _ _ L=>(dh W _ k (bO L)).trans L⟩,?_⟩;intro o F C qJ;have wz:(⟨J,xk,X,xt,O,Q⟩:PR)∈cO s:=hx.subset (by simp);have ax:J<N:=(by rw[HN.out];exact aqD rI wz);have ar:a.length<=600:=(by have h1:=hx.length_le;have h2:=AH s;rw[bG]at h1;omega);have a1:=yK W<|bi #[Y Z xk,Y Z X,Y Z xt,Y Z O,Y Z Q] 75;have H:=(VF.nR a1).put (by omega) C qJ F;have an:=(ja (o:=F) (show z≠l by omega)).trans (a1.block _ _ GK (λc fr e=>by cases e));have av:((W.alloc<|bi #[Y Z xk,Y Z X,Y Z xt,Y Z O,Y Z Q] 75).putObj l F).1[W.1.size]? =V (bi #[Y Z xk,Y Z X,Y Z xt,Y Z O,Y Z Q] 75 (0,0)):=(by rw[ja];exact World.alloc_heap_new W _;rintro rfl;rw[World.alloc_heap_new]at C;obtain rfl:=aI C;cases qJ);clear VF GK a1 C qJ;generalize(W.alloc<|bi #[Y Z xk,Y Z X,Y Z xt,Y Z O,Y Z Q] 75).putObj l F=W4 at*;generalize W.1.size=pb at*;obtain⟨rows,r1,r2,r3,r4⟩:=H.rows;have M:rows[J]? =V rows[J]:=Ot (by omega);have aF:(iV a J).length<=600:=bM (Ya _ _) ar;refine wpIn_block ?_;refine ash l W4 (z+2) (z+1) pb N J (z+4) _ rows _ _ ⟨J,xk,X,xt,O,Q⟩ _ _ H.box r1 ax M av (r3 _ _ M) (by omega) H.sz ?_ ?_ ?_ ?_ ?_;simp;rfl;rfl;rfl;intro a' w8 v hA;have jo:SI (z+4) (z+2) (z+1) N a W4.drew:=⟨H.box,H.rows,H.sz,H.lb,H.lr⟩
   obtain⟨k1,k2⟩:=jo.step (x:=⟨J,xk,X,xt,O,Q⟩) (B0:=w.1.size) r1 M hA (by omega);have k3:Kb w.1.size W4 W4.drew:=⟨(aA _ _).drew,λ_ _ h _=>h⟩
   have k4:=k3.trans k2;exact⟨k4.same,k4.G5,k1,k4.keep _ _ an (λc t fr e=>by injection e with _ e2 _;subst e2;unfold RB;decide)⟩
  case done=>
   rintro D W hD K ⟨hS,GK⟩ hK;have JE:=run_make_row' (P:=prog) 36 4 (ce da) 1 underlying36 Tryz.JP rfl .i64 .i64 N (by omega) (by omega);have HF:dd (cD w.1.size w W/\SI (z+4) (z+2) (z+1) N (cO s) W/\W.1[z]? =V (bi (js<|aS s 0 0).toArray 9 (0,0))/\W.1[D]? =V (.deferred<|V [])/\z+4<=D):=⟨am.out.trans K,hS,GK,hK,by omega⟩
   have HA:dd ((W.alloc<|bi (madeCells #[ce da] N) 4).ownsRow W.1.size 4 1 (.slice (V<|S W.1.size 0 U) N N) N (kX ((eu s).take 0)++List.replicate (N - 0) (ce da))):=(by show World.ownsRow _ _ _ _ _ _ _;rw[akF];exact aW.made (au _)<|by omega);clear K hS GK hK BN ae Mw q0 aw;simp only;go_wp2;go_loopg [41] N (λgk gD Wx=>∃i:Nat,i<=N/\gk=N - i/\gD=Y Z i/\cD W.1.size W Wx/\Wx.ownsRow W.1.size 4 1 (.slice (V<|S W.1.size 0 U) N N) N (kX ((eu s).take i)++List.replicate (N - i) (ce da)));exact⟨0,by omega,rfl,rfl,(aA _ _).alloc (au _) _,HA⟩
   rename cw=>wa
   obtain⟨i,g,rfl,rfl,f,d⟩:=hrel;have ao:=f.size;by_cases y:i<N
   .have ai:(i:Int)<(N:Int):=(by omega);obtain⟨f1,f2,f3,f4,f5⟩:=HF.out;obtain⟨rows,r1,r2,r3,r4⟩:=f2.rows;have M:rows[i]? =V rows[i]:=Ot (by omega);have ak:Bn wa rows[i] (eX s i):=(aqy<|r3 i _ M).below f;have aB:wa.cell? (S z i U)=V (cd<|(aS s 0 0).getD i ⟨#[]⟩):=(by rw[az (aR f f3) i];have ap:i<(aS s 0 0).length:=(by rw[<-HN.out];exact y);simp[js,ap]);have ay:wa.cell? ⟨z+2,0,U⟩=V (.slice (V ⟨z+1,0,U⟩) N N):=az (aR f f2.box) 0;have aE:wa.cell? ⟨z+1,i,U⟩=V rows[i]:=(az (aR f r1) i).trans M;have jT:cD w.1.size w wa:=f1.trans<|f.mono f1.size;have HI:dd _:=aoC s dK i (by rw[<-HN.out];exact y) rows[i] wa aL aT aC (HE.out.below jT) (kA.out.below jT) ak;have qm:=ah f;have HO:=ah d;clear f1 f2 f3 f4 f5 r1 r3 r4 ak jT f d M;generalize rows[i]=rv at*;generalize(aS s 0 0).getD i ⟨#[]⟩=ln at*;clear r2;go_wp2_with fail;refine jV HI ?_;clear HI;rintro ev W5 ⟨rfl,bV⟩;have Rz:=fS HO bV;have E:(eu s).length=N:=(by rw[HN.out];simp[eu]);have c9:W5.cell? (S W.1.size i U)=V (ce da):=(by rw[Rz.cellAt i<|by omega];exact akC _ _ _ E y);have f9:W5.frozen? (S W.1.size i U)=da:=Rz.frozenAt i;have al:dd ((W5.setCell (S W.1.size i U)<|ce<|(eu s).getD i da).ownsRow W.1.size 4 1 (.slice (V<|S W.1.size 0 U) N N) N (kX ((eu s).take (i+1))++List.replicate (N - (i+1)) (ce da))):=(by have q:=(Rz.stored i<|ce<|(eu s).getD i da).1;rw[akE _ _ _ E y]at q;exact q);have bF:dd (cD W.1.size W<|W5.setCell (S W.1.size i U)<|ce<|(eu s).getD i da):=(qm.out.trans<|bV.mono ao).setCell (au _) _;clear Rz bV HO qm;generalize(eu s).getD i da=bo at*;go_wp2;go_roundg (N - (i+1));exact⟨i+1,by omega,rfl,by simp,bF,al⟩;omega
   have he:i=N:=(by omega);subst he;have ai:¬(i:Int)<(i:Int):=(by omega);have qm:=ah f;have HO:=ah d;clear f d;go_wp2;have f:=qm.out;obtain⟨f1,f2,f3,f4,f5⟩:=HF.out;have hK:wa.1[D]? =V (.deferred<|V []):=aR f f4;refine⟨by simp,.inl ⟨_,_,rfl,run_takeDeferred hK,?_⟩⟩;refine⟨de #[.slice (V<|S W.1.size 0 U) i i,.nilIface],by simp[results,results39,go_sem],_,_,rfl,.inl ⟨(look_ok dK).2.1,rfl⟩,λh=>absurd dK h,λ_=> ?_,?_⟩;have E:(eu s).length=i:=(by rw[HN.out];simp[eu]);have q:=HO.out;rw[pT,jY<|by omega]at q;simp only[Lx,mH]at q;rw[E];exact zi (ur q f1.size) hK rfl _;exact I8 (f1.trans<|f.mono f1.size) (by omega) _
 have aj:er≠.nilIface:=by intro e;rcases I with⟨h,_⟩|⟨h,G⟩|⟨b,e',ln,aa,h,_,_,G,_⟩;exact h0 (by rw[h]);rw[e]at G;unfold jF at G;simp at G;rw[e]at h;cases h
 obtain⟨T,u,rfl⟩:∃T u,er= .iface T u:=by rcases I with⟨_,h⟩|⟨h,G⟩|⟨b,e',ln,aa,h,_,_,G,_⟩;exact absurd h aj;exact⟨_,_,G⟩;exact⟨_,_,h⟩
 have OG:=ah I;have aD:=ah r;have HO:=ah h0;clear I r h0 aj;go_wp2;refine⟨de #[R U 0 0,.iface T u],by simp[results,results39,go_sem],_,_,rfl,OG,λ_=>rfl,λh=>absurd h HO,aD⟩
end
def agC(s:bc)(b:Option Addr)(a:Nat)(w:cw)(d:s.size<=1000000000000000):cP prog 53 #[cd s,R b 0 a] w λe c=>e=bj (cd<|(⟨#[]⟩:bc)++s)/\cD w.1.size w c:=by go_enter func53,ntmps53;go_wp2;refine dN 1 ?_;rw[bB];go_wp2;go_ret;exact⟨rfl,aA _ _⟩
def apZ(s:bc)(p:Nat)(e:Ed):Dx s p e=(decide ((p:Int)<=e.a)&&(decide (0<=e.c)&&decide (e.c<=(s.size:Int) - e.a))):=by unfold Dx;rw[Cv];simp only[Fx,Es];omega
def ao9(s:bc)(p:Nat)(e:Ed)(w:cw)(o:s.size<=1000000000000000)(l:e.a<=9223372036854775807):cP prog 40 #[df #[Y Z e.a,Y Z e.c,cd e.n],Y Z p,Y Z s.size] w λh m=>h=bj (ce<|Dx s p e)/\cD w.1.size w m:=by
 rw[apZ];obtain⟨a,c,n⟩:=e;simp only at l ⊢;generalize s.size=z at*;by_cases d:(p:Int)<=a
 .have q:wrap64 ((z:Int) - a)=(z:Int) - a:=ai1 _ (by omega);by_cases f:0<=c
  .by_cases g:c<=(z:Int) - a
   .have b:(decide ((p:Int)<=a)&&(decide (0<=c)&&decide (c<=(z:Int) - a)))=db:=(by simp[d,f,g]);rw[b];clear b;go_enter func40,ntmps40;go_wp2;go_ret;exact⟨rfl,(aA _ _).alloc (au _) _⟩
   have b:(decide ((p:Int)<=a)&&(decide (0<=c)&&decide (c<=(z:Int) - a)))=da:=(by simp[d,f];omega);have k:decide (c<=(z:Int) - a)=da:=(by simpa using g);rw[b];clear b;go_enter func40,ntmps40;go_wp2;go_ret;exact⟨rfl,(aA _ _).alloc (au _) _⟩
  have b:(decide ((p:Int)<=a)&&(decide (0<=c)&&decide (c<=(z:Int) - a)))=da:=(by simp;omega);have j:decide (0<=c)=da:=(by simpa using f);rw[b];clear b;go_enter func40,ntmps40;go_wp2;go_ret;exact⟨rfl,(aA _ _).alloc (au _) _⟩
 have b:(decide ((p:Int)<=a)&&(decide (0<=c)&&decide (c<=(z:Int) - a)))=da:=by simp[d]
 have i:decide ((p:Int)<=a)=da:=by simpa using d
 rw[b];clear b;go_enter func40,ntmps40;go_wp2;go_ret;exact⟨rfl,(aA _ _).alloc (au _) _⟩
section
open Go.Shelf
def Tryz.Xx:Go.Shelf.Ren:=⟨fun|166=>41|169=>42|240=>65|276=>111|n=>n,fun|70=>61|72=>64|37=>62|127=>107|75=>53|80=>70|164=>149|n=>n,fun|n=>n⟩
def Tryz.aoY:Go.Proofs.Lays.n166 prog Tryz.Xx:={
 mixed:=by kernel_rfl
 f166:=func41.trans<|congrArg V<|by kernel_rfl
 f240:=func65.trans<|congrArg V<|by kernel_rfl
 f276:=func111.trans<|congrArg V<|by kernel_rfl
 t0:=underlying0,a0:=Tryz.isAgg0,z0:=Tryz.sizeOf0,v0:=Tryz.zeroValue0
 t3:=underlying3,a3:=Tryz.isAgg3,z3:=Tryz.sizeOf3,v3:=Tryz.zeroValue3
 t4:=underlying4,a4:=Tryz.isAgg4,z4:=Tryz.sizeOf4,v4:=Tryz.zeroValue4
 t9:=underlying9,a9:=Tryz.isAgg9,z9:=Tryz.sizeOf9,v9:=Tryz.zeroValue9
 t20:=underlying20,a20:=Tryz.isAgg20,z20:=Tryz.sizeOf20,v20:=Tryz.zeroValue20
 t37:=underlying62,a37:=Tryz.isAgg62,z37:=Tryz.sizeOf62,v37:=Tryz.zeroValue62
 t70:=underlying61,a70:=Tryz.isAgg61,z70:=Tryz.sizeOf61,v70:=Tryz.zeroValue61
 t72:=underlying64,a72:=Tryz.isAgg64,z72:=Tryz.sizeOf64,v72:=Tryz.zeroValue64
 t75:=underlying53,a75:=Tryz.isAgg53,z75:=Tryz.sizeOf53,v75:=Tryz.zeroValue53
 t164:=underlying149,a164:=Tryz.isAgg149,z164:=Tryz.sizeOf149,v164:=Tryz.zeroValue149}
def Tryz.aoZ:Go.Proofs.Lays.n169 prog Tryz.Xx:={
 mixed:=by kernel_rfl
 f169:=func42.trans<|congrArg V<|by kernel_rfl
 t0:=underlying0,a0:=Tryz.isAgg0,z0:=Tryz.sizeOf0,v0:=Tryz.zeroValue0
 t3:=underlying3,a3:=Tryz.isAgg3,z3:=Tryz.sizeOf3,v3:=Tryz.zeroValue3
 t9:=underlying9,a9:=Tryz.isAgg9,z9:=Tryz.sizeOf9,v9:=Tryz.zeroValue9
 t37:=underlying62,a37:=Tryz.isAgg62,z37:=Tryz.sizeOf62,v37:=Tryz.zeroValue62
 t70:=underlying61,a70:=Tryz.isAgg61,z70:=Tryz.sizeOf61,v70:=Tryz.zeroValue61
 t72:=underlying64,a72:=Tryz.isAgg64,z72:=Tryz.sizeOf64,v72:=Tryz.zeroValue64
 t127:=underlying107,a127:=Tryz.isAgg107,z127:=Tryz.sizeOf107,v127:=Tryz.zeroValue107}
end
section
open Go.RowKit Go.Shelf
def Tryz.ao8:liesAt prog prog.depth 64 (2 / prog.cellsOf 64) 0 64 1=db:=by kernel_rfl
def Tryz.bx:Builder.Extra prog Tryz.Xx where
 sizeBuilder:=by kernel_rfl
 liesBuilder:=Tryz.ao8
 t5:=underlying5
 a5:=Tryz.isAgg5
 z5:=Tryz.sizeOf5
 v5:=Tryz.zeroValue5
 infoByte:=by kernel_rfl
 cellsByte:=by kernel_rfl
 sizeByte:=by kernel_rfl
 neB5:=by decide
def AY(w:cw)(B b:Nat)(l:List UInt8):Prop:=Lib.IsBuilderF 64 5 B b (Lib.byteCells l) w
def Oq(B b:Nat)(l:List UInt8)(s:bc)(w:cw)(h:AY w B b l)(a:l.length+s.size<=140737488355328)(d:B<=w.1.size):cP prog 41 #[.pointer<|V<|S b 0 U,cd s] w λe c=>e=bj (de #[Y Z s.size,.nilIface])/\AY c B b (l++s.data.toList)/\cD B w c/\Lib.OthersKept 5 (V b) w c:=by
 have:=Any.Builder_WriteString_k Tryz.aoY Tryz.bx B b (Lib.byteCells l) s w h (by rw[Lib.byteCells_length];exact a) d;refine jV this ?_;rintro e c ⟨rfl,f,g,i⟩;refine⟨rfl,?_,g,i⟩;have e:Lib.byteCells (l++s.data.toList)=Lib.byteCells l++Lib.strCells s:=by simp[Lib.byteCells,Lib.strCells]
 unfold AY;rw[e];exact .inr f
def Y9(B b:Nat)(l:List UInt8)(w:cw)(h:AY w B b l)(a:B<=w.1.size):cP prog 42 #[.pointer<|V<|S b 0 U] w λe c=>e=bj (cd ⟨l.toArray⟩)/\cD B w c:=by have:=Any.Builder_String_any_k Tryz.aoZ Tryz.bx B b l w h a;refine jV this ?_;rintro e c ⟨rfl,_,d,_⟩;exact⟨rfl,d⟩
end
section
open Go.RowKit Go.Shelf
def AY.below {w f:cw}{B b:Nat}{l:List UInt8}(h:AY w B b l)(a:cD w.1.size w f):AY f B b l:=by
 have key:∀p,Lib.BuilderAtF 64 5 B b p (Lib.byteCells l) w->Lib.BuilderAtF 64 5 B b p (Lib.byteCells l) f:=by intro p h;have d:=h.lt;obtain⟨g,v,j,c,e⟩:=h;exact⟨g,v,(a.block b d).trans j,c.kept (row:=U) ⟨a.os,a.tape,a.output,a.size,λk i _=>a.block k i⟩<|Classical.em _,e⟩
 exact h.elim (λx=> .inl (key _ x)) λx=> .inr (key _ x)
def UG(w:cw):AY (w.alloc<|bi #[.pointer U,R U 0 0] 64) w.1.size w.1.size []:=
 .inl ⟨au _,R U 0 0,by show(w.heap.push _)[w.1.size]? =_;simp,Go.World.ownsRowF_nil _ _ _ _,by simp[Value.ownBlock]⟩
def yV {w d:cw}{b k:Nat}{a c:Int}{n:bc}(h:w.1[k]? =V (bi #[Y Z a,Y Z c,cd n] 66 (0,0)))(f:k≠b)(g:Lib.OthersKept 5 (V b) w d):d.1[k]? =V (bi #[Y Z a,Y Z c,cd n] 66 (0,0)):=
 g k _ h (λe=>f<|aI e) (λc i e=>by simp at e)
def Qg {w:cw}{k:Nat}{a c:Int}{n:bc}(h:w.1[k]? =V (bi #[Y Z a,Y Z c,cd n] 66 (0,0))):w.cell? (S k 0 U)=V (Y Z a)/\w.cell? (S k 1 U)=V (Y Z c)/\w.cell? (S k 2 U)=V (cd n):=
 ⟨by rw[O9 h];rfl,by rw[O9 h];rfl,by rw[O9 h];rfl⟩
def LH(a b:bc):(a++b).data.toList=a.data.toList++b.data.toList:=by simp
end
section
open Go.RowKit Go.Shelf
def Iw(s:bc)(c:List Ed)(b H m aa:Nat)(w:cw)(hl:c.length=m)(hm:m<=1000000000000000)(hc:vK w b H c)(hN:s.size+iu c<=140737488355328)(hA:∀e∈c,e.a<=9223372036854775807):cP prog 24 #[cd s,.slice (V<|S b H U) m aa] w λe w'=>e=bj (cd<|(c.foldl (kJ s) (⟨#[]⟩,0)).1++s.extract (c.foldl (kJ s) (⟨#[]⟩,0)).2 s.size)/\cD w.1.size w w':=by
 have HC:=ah hc;have HL:=ah hl;have HA:=ah hA;have zL:=ah<|UG w;have aD:dd (cD w.1.size w<|w.alloc<|bi #[.pointer U,R U 0 0] 64):=(aA _ _).alloc (au _) _;have hs:s.size<=1000000000000000:=by omega
 clear hc hl hA;go_enter func24,ntmps24;go_wp2;obtain⟨z,hz⟩:=ac w.1.size;go_loopg [6,11] m (λgk pv iv W=>∃(k p:Nat)(t:bc),k<=m/\gk=m - k/\pv=Y Z p/\iv=Y Z k/\p<=s.size/\t.size<=p+iu (c.take k)/\cD w.1.size w W/\AY W w.1.size w.1.size t.data.toList/\w.1.size<W.1.size/\(c.take k).foldl (kJ s) (⟨#[]⟩,0)=(t,p));exact⟨0,0,⟨#[]⟩,by omega,rfl,rfl,rfl,by omega,lB _,aD,zL,by simp,rfl⟩;obtain⟨k,p,t,hk,rfl,rfl,rfl,hp,ht,D,M,an,E⟩:=hrel;have am:=R7 c k;by_cases ad:k<m
 .have g:k<c.length:=by rw[HL.out];exact ad
  obtain⟨c0,c1,c2⟩:=(HC.out.below D) k g;have l7:(c.take<|k+1).foldl (kJ s) (⟨#[]⟩,0)=kJ s (t,p) c[k]:=by rw[uO,aK g,CY,E];rfl
  have ab:(k:Int)<(m:Int):=by omega
  have ak:iu (c.take<|k+1)=iu (c.take k)+c[k].n.size:=by rw[uO,aK g,R6];simp[iu]
  have al:=R7 c<|k+1;have Ju:=HA.out c[k] (nP g);generalize c[k]=e at*;have eY:=ah l7;have y:dd (∀W,cP prog 40 #[df #[Y Z e.a,Y Z e.c,cd e.n],Y Z p,Y Z s.size] W λi w'=>i=bj (ce<|Dx s p e)/\cD W.1.size W w'):=λW=>ao9 s p e W hs Ju
  have l:=ah D;have Q:=ah M;have FJ:dd ((wr.alloc<|bi #[Y Z e.a,Y Z e.c,cd e.n] 66).1[wr.1.size]? =V (bi #[Y Z e.a,Y Z e.c,cd e.n] 66 (0,0))):=by show(wr.heap.push _)[wr.1.size]? =_;simp
  obtain⟨k0,k1,k2⟩:=Qg FJ.out;clear l7 Ju E D M;have aJ:dd (cD w.1.size w<|wr.alloc<|bi #[Y Z e.a,Y Z e.c,cd e.n] 66):=l.out.alloc l.out.size _;have FU:dd (AY (wr.alloc<|bi #[Y Z e.a,Y Z e.c,cd e.n] 66) w.1.size w.1.size t.data.toList):=Q.out.below<|(aA _ _).alloc (au _) _;have A:(wr.alloc<|bi #[Y Z e.a,Y Z e.c,cd e.n] 66).1.size=wr.1.size+1:=by simp
  have v:=ah A;clear A;by_cases f:Dx s p e=db
  .have O:dd (kJ s (t,p) e=(t++s.extract p e.a.toNat++e.n,(e.a+e.c).toNat)):=(by show kJ s (t,p) e=_;unfold kJ;rw[aj f]);have x:=f;unfold Dx at x;simp only[Fx,Es]at x;obtain⟨g1,g2,g3,g4⟩:=x;obtain⟨ea,ec,C⟩:=e;simp only at*;obtain⟨d,rfl⟩:∃d:Nat,ea=d:=⟨ea.toNat,by omega⟩
   obtain⟨h,rfl⟩:∃h:Nat,ec=h:=⟨ec.toNat,by omega⟩
   have e1:((d:Int)).toNat=d:=(by omega);have e2:((d:Int)+(h:Int)).toNat=d+h:=(by omega);rw[e1,e2]at O;have hx:(s.extract p d).size=d - p:=(by rw[A4];omega);have u:=ah hx;clear hx;go_wp2_with fail;refine(y _).mono ?_;rintro i K ⟨rfl,a⟩;rw[f];have X:=ah<|FU.out.below a;have KN:dd (K.1[wr.1.size]? =V (bi #[Y Z (d:Int),Y Z (h:Int),cd C] 66 (0,0))):=(a.block _ (by rw[v.out];omega)).trans FJ.out;have cW:dd (cD w.1.size w K):=aJ.out.trans (a.mono<|by rw[v.out];omega);obtain⟨k0,k1,k2⟩:=Qg KN.out;have sP:=a.size;rw[v.out]at sP;clear a;go_wp2_with fail;refine(Oq w.1.size w.1.size t.data.toList (s.extract p d) K X ?_ ?_).mono ?_;show t.size+_<=_;rw[u.out];omega;omega;rintro i L ⟨rfl,J,G,jS⟩;have P:=ah J;have B:dd _:=cW.out.trans G;have o:dd (L.1[wr.1.size]? =V (bi #[Y Z (d:Int),Y Z (h:Int),cd C] 66 (0,0))):=yV KN (by omega) jS;obtain⟨k0,k1,k2⟩:=Qg o.out;have iJ:w.1.size<=L.1.size:=B.out.size;clear J G jS;go_wp2_with fail;refine(Oq w.1.size w.1.size _ C L P ?_ iJ).mono ?_;rw[bG];show t.size+(s.extract p d).size+_<=_;rw[u.out];omega;rintro i N ⟨rfl,F,I,sK⟩;have T:=ah F;have dU:dd _:=B.out.trans I;have q:dd (N.1[wr.1.size]? =V (bi #[Y Z (d:Int),Y Z (h:Int),cd C] 66 (0,0))):=yV o (by omega) sK;obtain⟨k0,k1,k2⟩:=Qg q.out;have af:wr.1.size<N.1.size:=by rcases dc wr.1.size N.1.size with h'|h';exact h';have:=q.out;simp[sV h']at this
   clear F I sK;go_wp2;go_roundg (m - (k+1));case measure=>omega
   case rel=>refine⟨k+1,d+h,t++s.extract p d++C,by omega,rfl,by go_num,by go_num,by omega,?_,dU,?_,by omega,eY.out.trans O⟩;rw[DN,DN,u.out];omega;rw[LH,LH];exact T.out
  have O:dd (kJ s (t,p) e=(t,p)):=(by show kJ s (t,p) e=_;unfold kJ;rw[ai f]);have x:Dx s p e=da:=(by simpa using f);go_wp2_with fail;refine(y _).mono ?_;rintro i K ⟨rfl,a⟩;rw[x];have X:=ah<|FU.out.below a;have cW:dd (cD w.1.size w K):=aJ.out.trans (a.mono<|by rw[v.out];omega);have sP:=a.size;rw[v.out]at sP;clear a;go_wp2;go_roundg (m - (k+1));exact⟨k+1,p,t,by omega,rfl,rfl,by go_num,hp,by omega,cW,X,by omega,eY.out.trans O⟩;omega
 have e:c.take k=c:=jY (by rw[HL.out];omega);rw[e]at E ht;have HE:=ah E;have l:=ah D;have Q:=ah M;have ab:¬(k:Int)<(m:Int):=by omega
 have ag:(p:Int)<=(s.size:Int):=by omega
 have hx:(s.extract p s.size).size=s.size - p:=by rw[A4];omega
 have ae:t.data.toList.length=t.size:=rfl;clear E D e M;have u:=ah hx;clear hx;go_wp2_with fail;refine(Oq w.1.size w.1.size t.data.toList (s.extract p s.size) wr Q ?_ l.out.size).mono ?_;rw[u.out,ae];omega;rintro i L ⟨rfl,J,G,_⟩;have P:=ah J;have B:dd _:=l.out.trans G;clear J G;go_wp2_with fail;refine(Y9 w.1.size w.1.size _ L P B.out.size).mono ?_;rintro i N ⟨rfl,I⟩;have dU:dd _:=B.out.trans I;clear I;have hr:(⟨(t.data.toList++(s.extract p s.size).data.toList).toArray⟩:bc)=t++s.extract p s.size:=by rw[<-LH]
 obtain⟨r,j⟩:=ac<|t++s.extract p s.size;have HR:=ah j;rw[hr,<-j];clear hr j;go_wp2;go_ret;refine⟨?_,dU⟩;rw[HE.out,<-HR.out];rfl
end
def ry(s:bc)(a:List Ed):bc:=(a.foldl (kJ s) (⟨#[]⟩,0)).1++s.extract (a.foldl (kJ s) (⟨#[]⟩,0)).2 s.size
def gB(s:bc)(Q:List Ed×Int×Int):Int×Int×Int:=if(cV s).1≠0 then cV s else if Q.2.2= -1 then(0,0,0)else(3,Q.2.1,Q.2.2)
def Me {w:cw}{B n:Nat}{e:TypeId}{g l:Nat}{d:List Ed}(h:w.ownsRow B e 3 (.slice (V<|S g 0 U) n l) n<|bW d):vK w g 0 d:=by
 have m:=h.cells (g:=g) rfl;intro i f;have k:∀(d:List Ed)(i:Nat)(f:i<d.length),(bW d)[i*3]? =V (Y Z d[i].a)/\(bW d)[i*3+1]? =V (Y Z d[i].c)/\(bW d)[i*3+2]? =V (cd d[i].n):=by
  intro d
  induction d with
  |nil=>intro i f;simp at f
  |cons e d ih=>
   intro i f;cases i with
   |zero=>exact⟨rfl,rfl,rfl⟩
   |succ i=>obtain⟨a,b,c⟩:=ih i (by simpa using f);have:bW (e::d)=[Y Z e.a,Y Z e.c,cd e.n]++bW d:=(by simp[bW,Md]);rw[this,show(i+1)*3=i*3+3 by omega];exact⟨a,b,c⟩
 obtain⟨a,b,c⟩:=k d i f;have r:∀j,((S g 0 U):Addr).add j=(S g j U):=λj=>by unfold Addr.add;split;rename_i h;subst h;rfl;simp
 have o:=m _ _ a;have p:=m _ _ b;have q:=m _ _ c;rw[r]at o p q;rw[fV];exact⟨o,p,q⟩
def amS(s:bc)(m:Option Addr)(b:Nat)(w:cw)(p:s.size<=140737488355328):cP prog 24 #[cd s,R m 0 b] w λe q=>e=bj (cd<|(⟨#[]⟩:bc)++s)/\cD w.1.size w q:=by
 have u:=ah<|UG w;have d:dd (cD w.1.size w<|w.alloc<|bi #[.pointer U,R U 0 0] 64):=(aA _ _).alloc (au _) _;have hx:s.extract 0 s.size=s:=by simp
 have l:=ah hx;have c:(⟨(([]:List UInt8)++s.data.toList).toArray⟩:bc)=(⟨#[]⟩:bc)++s:=by rw[show([]:List UInt8)=(⟨#[]⟩:bc).data.toList from rfl,<-LH]
 obtain⟨r,a⟩:=ac<|(⟨#[]⟩:bc)++s;rw[<-a]at c ⊢;have k:=ah c;clear c a hx;go_enter func24,ntmps24;go_wp2;refine dN 1 ?_;rw[bB];go_wp2_with fail;try rw[l.out]
 refine(Oq w.1.size w.1.size [] s _ u.out (by simpa using p) d.out.size).mono ?_;rintro o t ⟨rfl,i,g,_⟩;have j:=ah i;have f:dd _:=d.out.trans g;clear i g;go_wp2_with fail;refine(Y9 w.1.size w.1.size _ t j f.out.size).mono ?_;rintro o v ⟨rfl,h⟩;have n:dd _:=f.out.trans h;clear h;rw[k.out];go_wp2;go_ret;exact⟨rfl,n⟩
def aj5(s:bc)(a:List Ed)(v:cJ)(B n:Nat)(w:cw)(c:n=a.length)(h:w.ownsRow B 66 3 v n<|bW a)(l:n<=1000000)(i:s.size+iu a<=140737488355328)(f:∀e∈a,e.a<=9223372036854775807):cP prog 24 #[cd s,v] w λe k=>e=bj (cd<|ry s a)/\cD w.1.size w k:=by
 rcases h.2 with⟨rfl,rfl⟩|⟨g,b,d,rfl,_⟩
 .have j:a=[]:=Lq c.symm;subst j;have e:ry s []=(⟨#[]⟩:bc)++s:=by unfold ry;rw[show s.extract (([]:List Ed).foldl (kJ s) (⟨#[]⟩,0)).2 s.size=s by show s.extract 0 s.size=s;simp];rfl
  rw[e];exact amS s U 0 w<|by omega
 exact Iw s a g 0 n b w c.symm (by omega) (Me h) i f
def am4(s:bc)(w:cw)(aL p o:Addr)(hE:Env w aL p o)(hB:Br w)(hM:uQ w)(q:kH w)(r:10<=w.1.size)(Q:List Ed×Int×Int) (hn:(cV s).1=0->Q.1.length<=1000000/\s.size+iu Q.1<=140737488355328/\∀e∈Q.1,e.a<=9223372036854775807) (hT:∀W v,(cV s).1=0->cD w.1.size w W->W.ownsRow w.1.size 4 1 v (eu s).length (kX<|eu s)->cP prog 60 #[cd s,v] W λe l=>∃u c,e=bj (de #[u,c])/\(Q.2.2= -1->c= .nilIface/\l.ownsRow W.1.size 66 3 u Q.1.length (bW Q.1))/\(Q.2.2≠ -1->u=R U 0 0/\∃b,c= .iface 92 (.pointer<|V<|S b 0 U)/\l.1[b]? =V (bi #[Y Z Q.2.1,Y Z Q.2.2,jF 3 aL p o] 96 (0,0))/\W.1.size<=b)/\cD W.1.size W l):cP prog 38 #[cd s] w λe l=>∃t v c,e=bj (de #[cd t,v,c])/\Ic l w.1.size c (gB s Q) aL p o/\((gB s Q).1≠0->t=⟨#[]⟩/\v=R U 0 0)/\((gB s Q).1=0->t=ry s Q.1/\l.ownsRow w.1.size 66 3 v Q.1.length (bW Q.1))/\cD w.1.size w l:=by
 have X:dd _:=Kg s w aL p o hE hB hM q r;have H:=ah hT;have G:=ah hn;clear hE hB hM q hT hn r;go_enter func38,ntmps38;go_wp2_with fail;refine jV X ?_;clear X;rintro c W1 ⟨v,L,rfl,n,C,k,f⟩;have I:=ah f;have D:=f.size;clear f;by_cases a:(cV s).1=0
 .have z:=(look_ok a).2.1;have he:L= .nilIface:=by rw[z]at n;rcases n with⟨_,h⟩|⟨h,_⟩|⟨b,e,ln,K,_,_,_,h,h'⟩;exact h;simp at h;simp at h;omega
  subst he;have HD:=H.out W1 v a I<|k a;obtain⟨n1,n2,n3⟩:=G.out a;have E:gB s Q=if Q.2.2= -1 then(0,0,0)else(3,Q.2.1,Q.2.2):=by unfold gB;rw[ai λh=>h a]
  have F:=ah E;clear n C k a z H G E;go_wp2_with fail;refine HD.mono ?_;clear HD;rintro c W2 ⟨u,L,rfl,i,j,A⟩;have J:=ah<|I.out.trans<|A.mono D;clear A;by_cases m:Q.2.2= -1
  .obtain⟨rfl,O⟩:=i m;have d:dd (gB s Q=(0,0,0)):=(by show _=_;rw[F.out,aj m]);have T:=aj5 s Q.1 u W1.1.size Q.1.length W2 rfl O n1 n2 n3;have HO:=ah<|Ff O D;clear i j m O F;go_wp2_with fail;refine T.mono ?_;rintro c W3 ⟨rfl,g⟩;have aJ:=ah<|J.out.trans<|g.mono J.out.size;have nM:=ah<|jc HO g;clear g T;go_wp2;refine bU (v:=de #[cd<|ry s Q.1,u,.nilIface]) (by simp[results,results38,go_sem]) rfl ⟨_,_,_,rfl,?_,?_,?_,aJ⟩;rw[d.out];exact .inl ⟨rfl,rfl⟩;rw[d.out];intro h;exact absurd rfl h;intro _;exact⟨rfl,nM⟩
  obtain⟨rfl,b,rfl,B,M⟩:=j m;have d:dd (gB s Q=(3,Q.2.1,Q.2.2)):=(by show _=_;rw[F.out,ai m]);have P:dd (W2.1[b]? =V (bi #[Y Z Q.2.1,Y Z Q.2.2,jF 3 aL p o] 96 (0,0))/\w.1.size<=b):=⟨B,by omega⟩
  clear i j m B M F;go_wp2;refine bU (v:=de #[cd ⟨#[]⟩,R U 0 0,.iface 92 (.pointer<|V<|S b 0 U)]) (by simp[results,results38,go_sem]) rfl ⟨_,_,_,rfl,?_,?_,?_,J⟩;rw[d.out];exact .inr (.inr ⟨b,3,_,_,rfl,P.out.1,P.out.2,rfl,by omega⟩);intro _;exact⟨rfl,rfl⟩;rw[d.out];intro h;simp at h
 have E:gB s Q=cV s:=by unfold gB;rw[aj a]
 have d:=ah E;have OG:=ah n;have H0:=ah a;have N:∃x y,L= .iface x y:=by rcases n with⟨h,_⟩|⟨_,h⟩|⟨b,e,ln,K,h,_⟩;rw[h]at a;exact absurd rfl a;exact⟨_,_,h⟩;exact⟨_,_,h⟩
 obtain⟨x,y,rfl⟩:=N;clear n C k a E H G;go_wp2;refine bU (v:=de #[cd ⟨#[]⟩,R U 0 0,.iface x y]) (by simp[results,results38,go_sem]) rfl ⟨_,_,_,rfl,?_,?_,?_,I⟩;rw[d.out];exact OG.out;intro _;exact⟨rfl,rfl⟩;rw[d.out];intro h;exact absurd h H0
section
attribute [local go_sem] Oper.semAt_some
def afV {w W:cw}{B:Nat}{e:TypeId}{n c:Nat}{a:Option Addr}{j:List cJ}(h:w.ownsRow B e 1 (R a n c) n j)(m:∀(k:Nat)(b:Array cJ),w.1[k]? =V (Obj.cells b e (0,0))->W.1[k]? =V (Obj.cells b e (0,0)))(i:Nat)(p:i<n):∃g,a=V (S g 0 U)/\n<=c/\W.cell? (S g i U)=j[i]? :=by obtain⟨g,o,d,l,_,_⟩:=jy h (by omega);simp only[lY,lq]at d;obtain⟨rfl,rfl⟩:=d;obtain⟨_,b,f⟩:=jL h rfl;exact⟨g,rfl,l,(az (m g b f) i).trans ((az f i).symm.trans (cT h i<|by omega))⟩
structure X3(n₀:Nat)(A:World)(x5:Value)(o:Option Obj)(W:World):Prop where
 ke:Ke n₀ A W
 c4:W.1[n₀+1]? =some (.cells #[.slice none 0 0] 37 (0,0))
 c5:W.1[n₀+2]? =some (.cells #[x5] 53 (0,0))
 sz:A.1.size<=W.1.size
 nw:o=none->W.1.size=A.1.size
 ob:∀q,o=some q->W.1[A.1.size]? =some q
def X3.s4 {a:Nat}{A W:cw}{b:cJ}{o:Option Obj}(h:X3 a A b o W)(f:a+2<A.1.size):X3 a A b o (W.setCell ⟨a+1,0,U⟩<|R U 0 0):=by
 have g:W.grownBy (W.setCell ⟨a+1,0,U⟩<|R U 0 0) (V<|a+1):=uw _ _ _ _;have i:=h.sz;have d:(W.setCell ⟨a+1,0,U⟩<|R U 0 0).1.size=W.1.size:=by simp
 refine⟨h.ke.trans<|Ke.grown g (by omega) λk c=> ?_,by rw[fe h.c4];rfl,(g.block _ (by omega) (λe=>by have:=aI e;omega)).trans h.c5,by omega,λe=>d.trans<|h.nw e,λq e=>(g.block _ (bO<|h.ob q e) (λe=>by have:=aI e;omega)).trans (h.ob q e)⟩;obtain rfl:=aI c;exact⟨by omega,_,_,_,h.c4,.inr (.inl rfl)⟩
def X3.s5 {a:Nat}{A W:cw}{d:cJ}{o:Option Obj}(h:X3 a A d o W)(f:a+2<A.1.size)(y:cJ):X3 a A y o (W.setCell ⟨a+2,0,U⟩ y):=by
 have g:W.grownBy (W.setCell ⟨a+2,0,U⟩ y) (V<|a+2):=uw _ _ _ _;have i:=h.sz;have c:(W.setCell ⟨a+2,0,U⟩ y).1.size=W.1.size:=by simp
 refine⟨h.ke.trans<|Ke.grown g (by omega) λk b=> ?_,(g.block _ (by omega) (λe=>by have:=aI e;omega)).trans h.c4,by rw[fe h.c5];rfl,by omega,λe=>c.trans<|h.nw e,λq e=>(g.block _ (bO<|h.ob q e) (λe=>by have:=aI e;omega)).trans (h.ob q e)⟩;obtain rfl:=aI b;exact⟨by omega,_,_,_,h.c5,.inr (.inr rfl)⟩
def X3.al {a:Nat}{A W:cw}{b:cJ}(h:X3 a A b U W)(d:a+2<A.1.size)(q:Obj):X3 a A b (V q) (W.alloc q):=by have f:=h.sz;have c:=h.nw rfl;refine⟨h.ke.trans<|Ke.of ((aA _ _).alloc (au _) _)<|by omega,(dh W _ _ (bO h.c4)).trans h.c4,(dh W _ _ (bO h.c5)).trans h.c5,by simp;omega,(λe=>by cases e),λg e=> ?_⟩;obtain rfl:=aI e;rw[<-c];exact World.alloc_heap_new _ _
def X3.drew {a:Nat}{A W:cw}{b:cJ}{o:Option Obj}(h:X3 a A b o W):X3 a A b o W.drew:=⟨⟨h.ke.below.drew,h.ke.keep⟩,h.c4,h.c5,h.sz,h.nw,h.ob⟩
def kN(s:bc)(p:List PR):List Ed×Int×Int:=jQ (oI s) (fB s) (oJ s) p []
def amj {s:bc}{p:List PR}(h:(kN s p).2.2= -1)(x:PR):kN s (p++[x])=if oI s x.line=db then((kN s p).1,(-1:Int),(-1:Int))else if nT (fB s x.line) x≠ -1 then([],(x.line:Int),nT (fB s x.line) x)else((kN s p).1++(lN (fB s x.line) x).map (qO<|oJ s x.line), -1, -1):=by have a:(jQ (oI s) (fB s) (oJ s) p []).2.2= -1:=h;unfold kN;rw[Qf,aj a,jQ,jQ,jQ]
def amk {s:bc}{p:List PR}(h:(kN s p).2.2≠ -1)(a:p<+:cO s):fJ s=kN s p:=by obtain⟨q,b⟩:=a;unfold fJ;rw[<-b,Qf,ai (show¬(jQ (oI s) (fB s) (oJ s) p []).2.2= -1 from h)];rfl
def akD(l:List Bool)(i:Nat)(a:i<l.length):(kX l)[i]? =V (ce<|l.getD i da):=by rw[kX,jC,aK a,aN,aK a];rfl
def apQ(l:ba)(i:Nat)(a:i<l.length):(zf l)[i]? =V (Y Z (l.getD i 0:Nat)):=by rw[zf,jC,aK a,aN,aK a];rfl
def asl(s:bc):(eu s).length=(aS s 0 0).length:=by simp[eu]
def asQ:AP.size≠8:=by decide+kernel
def alO(s:bc)(v:cJ)(n1:Nat)(w:cw)(aL aT aC:Addr)(hE:Env w aL aT aC)(hM:uQ w)(ax:kH w)(aB:10<=w.1.size)(hT:rq w)(h0:(cV s).1=0)(hv:w.ownsRow n1 4 1 v (eu s).length (kX<|eu s)):cP prog 60 #[cd s,v] w λe w'=>∃u ev,e=bj (de #[u,ev])/\((fJ s).2.2= -1->ev= .nilIface/\w'.ownsRow w.1.size 66 3 u (fJ s).1.length (bW (fJ s).1))/\((fJ s).2.2≠ -1->u=R U 0 0/\∃b,ev= .iface 92 (.pointer<|V<|S b 0 U)/\w'.1[b]? =V (bi #[Y Z (fJ s).2.1,Y Z (fJ s).2.2,jF 3 aL aT aC] 96 (0,0))/\w.1.size<=b)/\cD w.1.size w w':=by
 refine(Ja (n:=0)).1 (callsIn_of_wp_marks func60 rfl trivial ?_ rfl);simp only[ntmps60,iw,eU,kW,Nat.reduceAdd,Nat.reduceSub,ZW,ZX,gU,lJ,r8,uL];refine(Oo (n:=0)).2 ?_;have rI:=(look_ok h0).1;have aN:=E5 s 0 0 (by omega);have af:=asl s;obtain⟨N,hN⟩:=ac<|(aS s 0 0).length;rw[af,<-hN]at hv;rw[<-hN]at aN af;obtain⟨va,vc,rfl⟩:=fC hv;have HN:=ah hN;have HV:=ah hv;have H0:=ah h0;have HE:dd (Env w aL aT aC/\kH w/\rq w/\uQ w):=⟨hE,ax,hT,hM⟩
 obtain⟨Q,aa⟩:=ac<|((w.alloc<|bi #[R va N vc] 36).alloc (bi #[R U 0 0] 37)).alloc (bi #[.nilIface] 53);have ai:cD w.1.size w Q:=by rw[aa];exact(((aA _ _).alloc (au _) _).alloc (by simp) _).alloc (by simp;omega) _
 have a3:=ah af;have KU:=ah<|HE.out.2.2.2.below ai;have aX:Q.1.size=w.1.size+3:=by rw[aa];simp
 have k3:Q.1[w.1.size]? =V (bi #[R va N vc] 36 (0,0))/\Q.1[w.1.size+1]? =V (bi #[R U 0 0] 37 (0,0))/\Q.1[w.1.size+2]? =V (bi #[.nilIface] 53 (0,0)):=by rw[aa];exact uF _ _ _ _
 have FJ:=ah k3;have uK:=ah aa;have aD:=ah ai;clear hN hv h0 hE ax hT hM af aa k3 ai;go_wp2_with fail;rw[<-uK.out];obtain⟨m,hm⟩:=KU.out;refine jV (Y7 s m Q (by omega) hm) ?_;rintro ev W2 ⟨rfl,rfl⟩;rw[<-HN.out,aX];clear hm KU uK;obtain⟨W2,ab⟩:=ac<|(Q.alloc<|bi (js<|aS s 0 0).toArray 9).alloc (bi #[.slice (V ⟨w.1.size+3,0,U⟩) N N] 42);have bw:W2.1.size=w.1.size+5:=by rw[ab];simp;omega
 have k2:W2.1[w.1.size+3]? =V (bi (js<|aS s 0 0).toArray 9 (0,0))/\W2.1[w.1.size+4]? =V (bi #[.slice (V ⟨w.1.size+3,0,U⟩) N N] 42 (0,0)):=by
  have e1:(Q.alloc<|bi (js<|aS s 0 0).toArray 9).1.size=w.1.size+4:=by simp;omega
  have a:=World.alloc_heap_new Q<|bi (js<|aS s 0 0).toArray 9;have b:=World.alloc_heap_new (Q.alloc<|bi (js<|aS s 0 0).toArray 9)<|bi #[.slice (V ⟨w.1.size+3,0,U⟩) N N] 42;rw[aX]at a;rw[e1]at b;rw[ab];exact⟨(dh _ _ _ (by omega)).trans a,b⟩
 have aG:dd (cD Q.1.size Q W2):=by show cD _ _ _;rw[ab];exact((aA _ _).alloc (au _) _).alloc (by simp) _
 have pO:=ah k2;have av:dd _:=apd (aS s 0 0) (w.1.size+3) N W2 HN (by omega) (bM (Za rI)<|by omega) k2.1;have Li:=ah ab;clear k2 ab;go_wp2_with fail;rw[<-Li.out];refine jV av ?_;rintro ev z ⟨q,rfl,hq,ak⟩;have HQ:=ah hq;have aJ:=ah ak;have bg:=ak.size;clear hq ak av Li;go_wp2_with fail;refine(Vv _ s).mono ?_;rintro ev p ⟨rfl,rfl⟩;go_wp2;obtain⟨f7,f8,f9⟩:=uF z (bi #[.slice (V<|S q 0 U) N N] 31) (bi #[R U 0 0] 37)<|bi #[cd s] 9;have bf:(((z.alloc<|bi #[.slice (V<|S q 0 U) N N] 31).alloc (bi #[R U 0 0] 37)).alloc (bi #[cd s] 9)).1.size=z.1.size+3:=by simp
 have ag:cD z.1.size z (((z.alloc<|bi #[.slice (V<|S q 0 U) N N] 31).alloc (bi #[R U 0 0] 37)).alloc (bi #[cd s] 9)):=(((aA _ _).alloc (au _) _).alloc (by simp) _).alloc (by simp;omega) _;generalize(((z.alloc<|bi #[.slice (V<|S q 0 U) N N] 31).alloc (bi #[R U 0 0] 37)).alloc (bi #[cd s] 9))=j at*;have b2:cD W2.1.size W2 j:=aJ.out.trans<|ag.mono bg;have b1:cD Q.1.size Q j:=aG.out.trans (b2.mono<|by omega);have b0:cD w.1.size w j:=aD.out.trans (b1.mono<|by omega);have f3:=aR b1 FJ.out.1;have f4:=aR b1 FJ.out.2.1;have f5:=aR b1 FJ.out.2.2;have fl:=aR b2 pO.out.1;have f6:=aR b2 pO.out.2;have fq:aW j W2.1.size 3 q N (zf<|oK (aS s 0 0) 0):=jc HQ ag;have fv:=jc HV b0;have Mw:kH j:=HE.out.2.1.below aB b0;have BN:j.cell? ⟨z.1.size+2,0,U⟩=V (cd s):=az f9 0;have aF:EI w.1.size j (z.1.size+1) [] j:=⟨λ_ _ _ _ h _ _=>h,f4,f5,⟨_,f8,fh _ _ _ _⟩,au _⟩
 have HF:dd (j.1[w.1.size]? =V (bi #[R va N vc] 36 (0,0))/\j.1[w.1.size+3]? =V (bi (js<|aS s 0 0).toArray 9 (0,0))/\j.1[w.1.size+4]? =V (bi #[.slice (V ⟨w.1.size+3,0,U⟩) N N] 42 (0,0))/\j.1[z.1.size]? =V (bi #[.slice (V<|S q 0 U) N N] 31 (0,0))/\aW j W2.1.size 3 q N (zf<|oK (aS s 0 0) 0)/\j.ownsRow n1 4 1 (R va N vc) N (kX<|eu s)/\cD w.1.size w j):=⟨f3,fl,f6,f7,fq,fv,b0⟩
 have Rf:z.1.size+1<j.1.size:=by omega
 have iJ:w.1.size+2<j.1.size:=by omega
 have a6:w.1.size+2<z.1.size+1:=by omega
 clear f3 f4 f5 fl f6 fq fv f7 f8 f9 b0 b1 b2 ag FJ pO HQ HV aD aG aJ;rw[show w.1.size+1+1=w.1.size+2 from rfl,show w.1.size+3+1=w.1.size+4 from rfl];refine YF (gf:=106) (lb:=#[.pointer<|V ⟨z.1.size+2,0,U⟩]) ?_ (Go.Proofs.enters_of func106 (by kernel_rfl) rfl) (n₀:=w.1.size) (by omega) (Yn j w.1.size (z.1.size+2) s BN Mw aB<|by omega) (λx=>rfl)
  Xu (λW l o y hl T hc=>Xt (by omega) T hc y) (λA B h=>YV h)
  (λg W=>(kN s g).2.2= -1/\EI w.1.size j (z.1.size+1) (kN s g).1 W) (λc g W=>c= .ret/\(kN s g).2.2≠ -1/\EX w.1.size j.1.size (kN s g).2.1 (kN s g).2.2 (jF 3 aL aT aC) W)
  (λg A B h ha=>⟨h.1,h.2.nR ha⟩) (λc g A B h ha=>⟨h.1,h.2.1,h.2.2.nR ha⟩)
  (λg W l o y hl T hc h=>⟨h.1,h.2.put Rf iJ hl T hc y⟩) (λc g W l o y hl T hc h=>⟨h.1,h.2.1,h.2.2.put iJ hl T hc y⟩)
  ?h0 ?round ?done ?stop
 .rfl
 case h0=>exact λo1 o2=>⟨rfl,(aF.nR<|yK j o1).nR (yK _ o2)⟩
 case stop=>
  rintro D c g W hD ae hp ⟨rfl,J,hX⟩ d;have jT:cD w.1.size w W:=HF.out.2.2.2.2.2.2.trans ae;obtain⟨b,x1,x2,x3⟩:=hX.c5;have HS:=ah<|amk J hp;have k4:∀y,(W.putObj D y).cell? ⟨w.1.size+1,0,U⟩=V (R U 0 0):=λy=>az ((ja<|by omega).trans hX.c4) 0
  have k5:∀y,(W.putObj D y).cell? ⟨w.1.size+2,0,U⟩=V (.iface 92 (.pointer<|V<|S b 0 U)):=λy=>az ((ja<|by omega).trans x1) 0
  simp only;go_wp2;refine⟨by simp,.inl ⟨_,_,rfl,run_takeDeferred d,?_⟩⟩;refine⟨de #[R U 0 0,.iface 92 (.pointer<|V<|S b 0 U)],by simp[results,results60,go_sem,k4,k5],_,_,rfl,λh=>absurd h<|by rw[HS.out];exact J,λ_=>⟨rfl,b,rfl,?_,by omega⟩,I8 jT (by omega) _⟩;rw[ja,HS.out];exact x2;rintro rfl;rw[x2]at d;cases d
 case done=>
  rintro D W hD ae ⟨J,hI⟩ d;have jT:cD w.1.size w W:=HF.out.2.2.2.2.2.2.trans ae;obtain⟨u,x1,x2⟩:=hI.box;obtain⟨ua,uc,rfl⟩:=fC x2;have bu:=hI.sz;have HS:dd (fJ s=kN s (cO s)):=rfl;have HX:=ah x2;have s8:=ah J;have kV:=ah jT;have HK:dd (W.1[D]? =V (.deferred<|V [])/\j.1.size<=D):=⟨d,hD⟩
  have c8:=az x1 0;have c4:=az hI.c4 0;have c5:=az hI.c5 0;have g4:=cB hI.c4 0;have g5:=cB hI.c5 0;simp only[jW,kE]at c8 c4 c5;have cZ:dd ((fJ s).1.length=(kN s<|cO s).1.length):=rfl;generalize(kN s<|cO s).1.length=n at*;obtain⟨X,Gw⟩:=ac<|(W.setCell ⟨w.1.size+1,0,U⟩<|R ua n uc).setCell ⟨w.1.size+2,0,U⟩ .nilIface;have t4:X.1[w.1.size+1]? =V (bi #[R ua n uc] 37 (0,0)):=by rw[Gw];refine((uw _ _ _ _).block _ (by simp;omega) (λe=>by have:=aI e;omega)).trans ?_;rw[fe hI.c4];rfl
  have t5:X.1[w.1.size+2]? =V (bi #[.nilIface] 53 (0,0)):=by rw[Gw];have:=((uw W (w.1.size+1) 0<|R ua n uc).block _ (by omega) (λe=>by have:=aI e;omega)).trans hI.c5;rw[fe this];rfl
  have t8:X.1[D]? =V (.deferred<|V []):=by rw[Gw];exact((uw _ _ _ _).block _ (by simp;exact bO d) (λe=>by have:=aI e;omega)).trans (((uw _ _ _ _).block _ (bO d) (λe=>by have:=aI e;omega)).trans d)
  have t9:X.ownsRow j.1.size 66 3 (R ua n uc) n (bW (kN s<|cO s).1):=by rw[Gw];exact gA (gA HX (by simp;omega) _) (by simp;omega) _
  have t0:cD w.1.size w X:=by rw[Gw];exact(jT.setCell (ajv _ _) _).setCell (ajv _ _) _
  have HT:dd (X.1[w.1.size+1]? =V (bi #[R ua n uc] 37 (0,0))/\X.1[w.1.size+2]? =V (bi #[.nilIface] 53 (0,0))/\X.1[D]? =V (.deferred<|V [])/\X.ownsRow j.1.size 66 3 (R ua n uc) n (bW (kN s<|cO s).1)/\cD w.1.size w X):=⟨t4,t5,t8,t9,t0⟩
  have a5:=ah Gw;clear t0 t4 t5 t8 t9 Gw x1 x2 hI J jT d ae;simp only;go_wp2;rw[<-a5.out];obtain⟨t4,t5,t8,t9,t0⟩:=HT.out;have k4:∀y,(X.putObj D y).cell? ⟨w.1.size+1,0,U⟩=V (R ua n uc):=λy=>az ((ja<|by omega).trans t4) 0
  have k5:∀y,(X.putObj D y).cell? ⟨w.1.size+2,0,U⟩=V .nilIface:=λy=>az ((ja<|by omega).trans t5) 0
  refine⟨by simp,.inl ⟨_,_,rfl,run_takeDeferred t8,?_⟩⟩;refine⟨de #[R ua n uc,.nilIface],by simp[results,results60,go_sem,k4,k5],_,_,rfl,λ_=>⟨rfl,?_⟩,λh=>absurd s8 h,I8 t0 (by omega) _⟩;have hl:(fJ s).1.length=n:=cZ.out;rw[hl];exact zi (Ff t9<|by omega) t8 rfl _
 case round=>
  rintro l g ⟨f,H,G,I,E,F⟩ W hl ⟨J,hI⟩ hx;simp only[Mf]
  gi_wp2
  refine⟨λk o r _=>(dh W _ k (bO r)).trans r,⟨(aA _ _).alloc (by have:=hI.sz;omega) _,λk _ _ r=>(dh W _ k (bO r)).trans r⟩,?_⟩;intro o y T qJ;have wz:(⟨f,H,G,I,E,F⟩:PR)∈cO s:=hx.subset (by simp);obtain⟨O,_,ad,aP⟩:=Ym H0.out wz;simp only at O ad aP;rw[<-HN.out]at O;obtain⟨Qy,a8⟩:=yC H0.out<|(Ue g _).trans hx;have a1:=yK W<|bi #[Y Z H,Y Z G,Y Z I,Y Z E,Y Z F] 75;have uZ:=(hI.nR a1).put Rf iJ hl T qJ y;have M:((W.alloc<|bi #[Y Z H,Y Z G,Y Z I,Y Z E,Y Z F] 75).putObj l y).1[W.1.size]? =V (bi #[Y Z H,Y Z G,Y Z I,Y Z E,Y Z F] 75 (0,0)):=by rw[ja];exact World.alloc_heap_new W _;rintro rfl;rw[World.alloc_heap_new]at T;obtain rfl:=aI T;cases qJ
  clear hI a1 T qJ BN aF Mw;generalize(W.alloc<|bi #[Y Z H,Y Z G,Y Z I,Y Z E,Y Z F] 75).putObj l y=p at*;generalize W.1.size=pb at*;obtain⟨f3,fl,f6,f7,fq,fv,fb⟩:=HF.out;have nE:∀t:TypeId,t=36∨t=9∨t=42∨t=31∨t=3∨t=4->¬Fe t/\∀c,¬Bp t c:=λt ht=>by unfold Fe Bp;rcases ht with rfl|rfl|rfl|rfl|rfl|rfl<;>simp
  have kp:∀(k:Nat)(c:Array cJ)(t:TypeId),t=36∨t=9∨t=42∨t=31∨t=3∨t=4->j.1[k]? =V (Obj.cells c t (0,0))->p.1[k]? =V (Obj.cells c t (0,0)):=λk c t ht h=>uZ.kept k c t _ h (.inr (nE t ht).1) ((nE t ht).2 c)
  have lw:∀(k i:Nat)(x:cJ),k<w.1.size->w.cell? (S k i U)=V x->(∀c:Array cJ,c[i]? =V x->¬(c.size=8/\∃t,c[0]? =V (cd t)))->p.cell? (S k i U)=V x:=λk i x r h hn=>by obtain⟨c,t,fr,h1,C⟩:=UU h;have h3:=(fb.block k r).trans h1;exact(az (uZ.kept k c t fr h3 (.inl r) λh=>hn c C h.2) i).trans C
  have VH:Sp p:=by obtain⟨t,fr,h⟩:=HE.out.1.Hx;have r:=bO h;exact⟨t,fr,uZ.kept _ _ t fr ((fb.block _ r).trans h) (.inl r) (λh=>asQ h.2.1)⟩
  have aH:rq p:=by
   obtain⟨c,t,fr,h1,C⟩:=UU HE.out.2.2.1;exact lw _ _ _ (bO h1) HE.out.2.2.1 (λc h hc=>by
    have:15<c.size:=by rcases dc 15 c.size with q|q;exact q;rw[sV q]at h;cases h
    omega)
  have a7:p.cell? (S 2 0 U)=V (.iface 354 (.pointer<|V aC)):=by obtain⟨c,t,fr,h1,C⟩:=UU HE.out.1.code;exact lw _ _ _ (bO h1) HE.out.1.code (λc h hc=>by obtain⟨_,t,ht⟩:=hc;rw[h]at ht;cases ht)
  obtain⟨gs,rfl,iU,am⟩:=afV fv (W:=p) (λk c h=>kp k c _ (by simp) h) f O;obtain⟨gq,ay,_,p8⟩:=afV fq (W:=p) (λk c h=>kp k c _ (by simp) h) f O;simp only[CZ,Addr.mk.injEq,and_true]at ay;subst ay;rw[akD _ _ (by rw[a3.out];exact O)]at am;rw[apQ _ _ (by rw[ahv,<-HN.out];exact O)]at p8;have c3:=az (kp _ _ _ (by simp) f3) 0;have cl:=az (kp _ _ _ (by simp) fl) f;have c6:=az (kp _ _ _ (by simp) f6) 0;have c7:=az (kp _ _ _ (by simp) f7) 0;have aM:(js<|aS s 0 0).toArray[f]? =V (cd<|fB s f):=by have a9:f<(aS s 0 0).length:=(by rw[<-HN.out];exact O);simp[js,a9,fB]
  rw[aM]at cl;have FE:dd (p.1[z.1.size]? =V (bi #[.slice (V<|S q 0 U) N N] 31 (0,0))/\∃cq:Array cJ,p.1[q]? =V (bi cq 3 (0,0))/\cq[f]? =V (Y Z (oJ s f:Nat))):=by obtain⟨_,cq,h⟩:=jL fq rfl;have C:=kp _ _ _ (by simp) h;exact⟨kp _ _ _ (by simp) f7,cq,C,(az C f).symm.trans p8⟩
  clear aM f3 fl f6 f7 fq fv kp nE lw;simp only[jW,kE]at c3 c6 c7;have p0:=az M 0;have p1:=az M 1;have p2:=az M 2;have p3:=az M 3;have p4:=az M 4;simp only[jW,kE,mZ]at p0 p1 p2 p3 p4;have ao:=amj J ⟨f,H,G,I,E,F⟩;replace am:p.cell? (S gs f U)=V (ce<|oI s f):=am;replace p8:p.cell? (S q f U)=V (Y Z (oJ s f:Nat)):=p8;have wu:=aht rI f;replace Qy:(kN s g).1.length<=602*600:=Qy;obtain⟨aU,aQ⟩:=Yl aP ad;have SS:dd _:=amC (fB s f) ⟨f,H,G,I,E,F⟩ p (by omega) VH ad;have aq:dd (∀W,cD p.1.size p W->cP prog 103 #[cd<|fB s f,uv ⟨f,H,G,I,E,F⟩] W λe w'=>∃v,e=bj v/\w'.ownsRow W.1.size 66 3 v (lN (fB s f) ⟨f,H,G,I,E,F⟩).length (bW<|lN (fB s f) ⟨f,H,G,I,E,F⟩)/\cD W.1.size W w'):=λW hW=>alN _ _ W (by omega) (VH.below hW) (cU hW aH) ad
  simp only[uv]at SS aq;simp only at ao;generalize fB s f=ln at*;generalize oJ s f=P at*;generalize nT ln ⟨f,H,G,I,E,F⟩=fx at*;generalize lN ln ⟨f,H,G,I,E,F⟩=L at*;generalize oI s f=sf at*;have rY:=ah ao;have qz:=ah uZ;have a2:=ah M;have aZ:=ah Qy;have DX:dd (L.length<=602/\∀e∈L,0<=e.a/\e.a<=3000/\e.n.size<=12):=⟨aU,aQ⟩
  have bn:=uZ.sz;have bh:=ah HE.out.1;have bv:=fb.size;clear ao uZ M Qy a8 aU aQ VH aH ad fb J hx wz HE HF;cases sf
  .by_cases hf:fx= -1
   .subst hf;have bL:dd (kN s (g++[⟨f,H,G,I,E,F⟩])=((kN s g).1++L.map (qO P), -1, -1)):=(by have:=rY.out;simp only[Ib,↓reduceIte,ne_eq,not_true_eq_false]at this;exact this);obtain⟨iE,rH,bb,bd,be⟩:=fP Tryz.Xa;generalize(kN s g).1=es at*;clear rY
    gi_wp2_with fail
    refine⟨trivial,rfl,(CallsIn.inRound l<|Ja.2 SS).mono ?_⟩;rintro ev W5 ⟨rfl,bV⟩;have bF:=ah bV;have o0:=aR bV a2;have p0:=az o0 0;have p1:=az o0 1;have p2:=az o0 2;have p3:=az o0 3;have p4:=az o0 4;simp only[jW,kE,mZ]at p0 p1 p2 p3 p4;clear bV o0
    gi_wp2_with fail
    refine⟨trivial,rfl,(CallsIn.inRound l<|Ja.2<|aq W5 bF).mono ?_⟩;rintro ev W6 ⟨v,rfl,jI,gz⟩;obtain⟨va,aY,rfl⟩:=fC jI;have EH:cD p.1.size p W6:=bF.out.trans<|gz.mono bF.out.size;obtain⟨u0,u1,u2⟩:=qz.out.box;have bq:=bF.out.size;have br:=gz.size;have aE:EL w.1.size j.1.size (z.1.size+1) W6 (R va L.length aY) u0 es W6:=(by refine⟨⟨aA _ _,λ_ _ h _=>h⟩,aR EH qz.out.c4,aR EH qz.out.c5,aR EH u1,jc u2 EH,λk r=> ?_,by omega⟩;obtain⟨e1,c,e2⟩:=jL jI r;refine⟨λe=> ?_,rfl,by omega,bO e2⟩;obtain⟨_,c',e3⟩:=jL u2 e;have:=bO e3;omega);have ap:=ah aE;have D8:=ah jI;have dU:=ah EH;have H7:dd (W6.1[z.1.size]? =V (bi #[.slice (V<|S q 0 U) N N] 31 (0,0))/\∃cq:Array cJ,W6.1[q]? =V (bi cq 3 (0,0))/\cq[f]? =V (Y Z (P:Nat))):=(by obtain⟨h1,cq,C,h3⟩:=FE.out;exact⟨aR EH h1,cq,aR EH C,h3⟩);clear aE jI EH gz u1 u2;obtain⟨n,hn⟩:=ac L.length;rw[<-hn]at ap D8 ⊢;have cZ:=ah hn;have bt:n<=602:=(by rw[hn];exact DX.out.1);clear hn
    gi_wp2
    gi_loopg [46] n (λgk iv Wx=>∃(i:Nat)(u:cJ),i<=n/\gk=n - i/\iv=Y Z i/\EL w.1.size j.1.size (z.1.size+1) W6 (R va n aY) u (es++(L.take i).map (qO P)) Wx)
    case atStart=>exact⟨0,u0,by omega,rfl,rfl,by simpa using ap.out⟩
    case round=>
     rename cw=>wx
     obtain⟨i,u,hi,rfl,rfl,hL⟩:=hrel;have HL:=ah hL;by_cases ba:i<n
     .have an:i<L.length:=(by rw[<-cZ.out];exact ba);have a':(i:Int)<(n:Int):=(by omega);obtain⟨vg,c2,e1,BV,_,_⟩:=jy D8.out (by omega);simp only[lY,lq]at e1;obtain⟨rfl,rfl⟩:=e1;obtain⟨r1,r2,r3,r4⟩:=hL.row vg rfl;obtain⟨x0,x1,x2⟩:=Me D8.out i an;simp only[fV]at x0 x1 x2;rw[<-BD r2]at x0 x1 x2;obtain⟨h1,cq,C,h3⟩:=H7.out;have y7:=hL.ke.keep _ _ h1 (λc t fr e=>by injection e with _ e2 _;subst e2;unfold Fe;decide);have yq:=hL.ke.keep _ _ C (λc t fr e=>by injection e with _ e2 _;subst e2;unfold Fe;decide);have aV:L.take (i+1)=L.take i++[L[i]]:=pR an;obtain⟨Ju,V6,_⟩:=DX.out.2 _ (nP an);have qY:=ah aV;generalize L[i]=e at*;obtain⟨ea,ec,en⟩:=e;simp only at x0 x1 x2 Ju V6;have aO:(es++(L.take i).map (qO P)).length<=400000:=by have:=aZ.out;have:=DX.out.1;simp only[bG,jh,tM];omega
      have uG:dd (es++(L.take<|i+1).map (qO P)=(es++(L.take i).map (qO P))++[⟨ea+(P:Int),ec,en⟩]):=(by show _=_;rw[qY.out,gu,<-dY];rfl);generalize es++(L.take i).map (qO P)=lx at*;have ar:=ah aO;have bm:=hL.sz;obtain⟨W7,BL⟩:=ac<|wx.alloc<|bi #[Y Z ea,Y Z ec,cd en] 66;have k7:W7.1[wx.1.size]? =V (bi #[Y Z ea,Y Z ec,cd en] 66 (0,0)):=(by rw[BL];exact World.alloc_heap_new _ _);have b7:cD wx.1.size wx W7:=(by rw[BL];exact(aA _ _).alloc (au _) _);have d7:=az (aR b7 y7) 0;have dq:=(az (aR b7 yq) f).trans h3;have d0:=az k7 0;have g0:=cB k7 0;simp only[jW,kE]at d7 d0;have KO:dd (W7.1[wx.1.size]? =V (bi #[Y Z ea,Y Z ec,cd en] 66 (0,0))/\cD wx.1.size wx W7):=⟨k7,b7⟩
      have a4:=ah BL;clear BL k7 b7 y7 yq h1 C h3 aO aV r1 r2 r3 r4 hL bf qY
      gi_wp2
      rw[<-a4.out];refine wpIn_region_any (by kernel_rfl) ?_;change wpAnyIn _ _ _ _ _ _ _ _ _ (World.drew _);refine Uu (afA<|by kernel_rfl) _ _ _ _ ?_;have bp:(f:Int)<(N:Int):=(by omega);refine wpAnyIn_take (i:=0) (v:= .pointer (V<|S wx.1.size 0 U)) rfl rfl (by kernel_rfl) (by kernel_rfl) (by kernel_rfl) (λ_ _ _ h=>h) ⟨Or.inl ⟨by rfl,λw=>by go_simp⟩,λ_=>rfl⟩ ?_;refine wpAnyIn_take (i:=3) (v:=Y Z f) rfl rfl (by kernel_rfl) (by kernel_rfl) (by kernel_rfl) (λ_ _ _ h=>h) ⟨Or.inl ⟨by rfl,λw=>by go_simp⟩,λ_=>rfl⟩ ?_
      focus (refine wpAnyIn_ready (rs:=[1,2]) (by kernel_rfl) (by simp)<|AllReadyIn.cons rfl (λK d=> ?_) (AllReadyIn.cons rfl (λK d=> ?_) AllReadyIn.nil);all_goals(go_simp;refine d _ _ ?_;clear d K))
      focus (refine wpAnyIn_ready (rs:=[2]) (by kernel_rfl) (by simp)<|AllReadyIn.cons rfl (λK d=> ?_) AllReadyIn.nil;all_goals(go_simp;refine d _ _ ?_;clear d K))
      refine wpAnyIn_take (i:=4) (v:= .pointer (V<|S q f U)) rfl rfl (by kernel_rfl) (by kernel_rfl) (by kernel_rfl) (λ_ _ _ h=>h) ⟨Or.inl ⟨by rfl,λw=>by go_simp⟩,λ_=>rfl⟩ ?_
      focus (refine wpAnyIn_ready (rs:=[5]) (by kernel_rfl) (by simp)<|AllReadyIn.cons rfl (λK d=> ?_) AllReadyIn.nil;all_goals(go_simp;refine d _ _ ?_;clear d K))
      rotate_left
      refine wpAnyIn_take (i:=4) (v:= .pointer (V<|S q f U)) rfl rfl (by kernel_rfl) (by kernel_rfl) (by kernel_rfl) (λ_ _ _ h=>h) ⟨Or.inl ⟨by rfl,λw=>by go_simp⟩,λ_=>rfl⟩ ?_
      focus (refine wpAnyIn_ready (rs:=[1,5]) (by kernel_rfl) (by simp)<|AllReadyIn.cons rfl (λK d=> ?_) (AllReadyIn.cons rfl (λK d=> ?_) AllReadyIn.nil);all_goals(go_simp;refine d _ _ ?_;clear d K))
      focus (refine wpAnyIn_ready (rs:=[5]) (by kernel_rfl) (by simp)<|AllReadyIn.cons rfl (λK d=> ?_) AllReadyIn.nil;all_goals(go_simp;refine d _ _ ?_;clear d K))
      rotate_left
      focus (refine wpAnyIn_ready (rs:=[1]) (by kernel_rfl) (by simp)<|AllReadyIn.cons rfl (λK d=> ?_) AllReadyIn.nil;all_goals(go_simp;refine d _ _ ?_;clear d K))
      all_goals
       refine wpAnyIn_take (i:=6) (v:=Y Z<|ea+P) rfl rfl (by kernel_rfl) (by kernel_rfl) (by kernel_rfl) (λ_ _ _ h=>h) ⟨Or.inl ⟨by rfl,λw=>by go_simp;exact O7 _ ⟨by omega,by omega⟩⟩,λ_=>rfl⟩ ?_;refine wpAnyIn_take (i:=7) (v:= .pointer (V<|S wx.1.size 0 U)) rfl rfl (by kernel_rfl) (by kernel_rfl) (by kernel_rfl) (λ_ _ _ h=>h) ⟨Or.inl ⟨by rfl,λw=>by go_simp⟩,λ_=>rfl⟩ ?_
       focus (refine wpAnyIn_ready (rs:=[8]) (by kernel_rfl) (by simp)<|AllReadyIn.cons rfl (λK d=> ?_) AllReadyIn.nil;all_goals(go_simp;refine d _ _ ?_;clear d K))
       refine wpAnyIn_done (by kernel_rfl) ?_ _;obtain⟨W8,MB⟩:=ac<|W7.setCell (S wx.1.size 0 U)<|Y Z<|ea+(P:Int);have k8:W8.1[wx.1.size]? =V (bi #[Y Z<|ea+(P:Int),Y Z ec,cd en] 66 (0,0)):=(by rw[MB,fe KO.out.1];rfl);have b8:cD wx.1.size wx W8:=(by rw[MB];exact KO.out.2.setCell (au _) _);have bl:=ah MB;have z8:=b8.size;have aw:=jc HL.out.own b8;have t8:=aR b8 HL.out.bx;have e0:=az k8 0;have e1:=az k8 1;have e2:=az k8 2;have e8:=az t8 0;simp only[jW,kE,mZ]at e0 e1 e2 e8;have sX:=ah b8;have bk:=ah t8;have ar:=ar.out;rw[<-MB];clear MB k8 b8 t8
       gi_wp2_with (gi_at_builtin;refine wpListIn_append_own_at _ rfl _ _ 37 rfl j.1.size 66 iE _ 3 32 underlying37 rH bb bd be rfl (by decide) u _ _ rfl (aw.alloc _) (S W8.1.size 0 U) 1 1 [Y Z<|ea+(P:Int),Y Z ec,cd en] rfl rfl (NP _ _ _ _ _) (by simp[Value.oneCell']) (by unfold maxLen;omega) (by omega) (by simp;omega) ?_)
       intro u' X T hg _ aK;obtain⟨ua,uc,rfl⟩:=fC T;have b9:cD wx.1.size wx (W8.alloc<|bi #[Y Z<|ea+(P:Int),Y Z ec,cd en] 66).drew:=(sX.out.alloc sX.out.size _).drew;have t9:=HL.out.bx9 Rf b9 hg;have SN:dd _:=HL.out.step (l':=lx++[⟨ea+(P:Int),ec,en⟩]) Rf a6 b9 hg (by rw[bG,alR];exact T) (by simpa using aK);have e9:=az t9 0;have g9:=cB t9 0;simp only[jW,kE]at e9;clear T hg aK b9 t9 aw
       gi_wp2
       gi_roundg (n - (i+1))
       case measure=>omega
       case rel=>exact⟨i+1,_,by omega,rfl,by simp,by rw[uG.out];exact SN.out⟩
     obtain rfl:i=n:=(by omega);have a':¬(i:Int)<(i:Int):=(by omega);have a0:dd (Same p wx/\zR w.1.size p wx/\EI w.1.size j (z.1.size+1) (es++L.map (qO P)) wx):=by have r:Ke w.1.size p wx:=(Ke.of dU<|by omega).trans hL.ke;refine⟨r.same,r.G5,λk c t fr h1 C h3=> ?_,hL.c4,hL.c5,⟨u,hL.bx,?_⟩,hL.sz⟩;have h4:=qz.out.kept k c t fr h1 C h3;rcases C with C|C;exact(r.below.block k C).trans h4;exact r.keep k _ h4 (λc' t' bs e=>by injection e with _ e2 _;subst e2;exact C);have:=hL.own;rw[jY<|by rw[<-cZ.out];exact au _]at this;exact this
     clear hL
     gi_wp2
     obtain⟨q1,q2,q3⟩:=a0.out;exact⟨q1,q2,by rw[bL.out],by rw[bL.out];exact q3⟩
   have hq:(fx != -1)=db:=(by simpa using hf);have bL:dd (kN s (g++[⟨f,H,G,I,E,F⟩])=([],(f:Int),fx)):=(by have:=rY.out;simp only[Ib,↓reduceIte]at this;show _=_;rw[this,aj hf]);clear rY
   gi_wp2_with fail
   refine⟨trivial,rfl,(CallsIn.inRound l<|Ja.2 SS).mono ?_⟩;rintro ev W5 ⟨rfl,bV⟩;have bx:=bV.size;have yZ:w.1.size+2<W5.1.size:=(by omega);have hX:X3 w.1.size W5 .nilIface U W5:=⟨⟨aA _ _,λ_ _ h _=>h⟩,aR bV qz.out.c4,aR bV qz.out.c5,au _,λ_=>rfl,λ_ e=>by cases e⟩
   have hA:=hX.al yZ<|bi #[Y Z f,Y Z fx,.iface 354 (.pointer<|V aC)] 96;have hB:=(hX.s4 yZ).al yZ (bi #[Y Z f,Y Z fx,.iface 354 (.pointer<|V aC)] 96);have HX:=ah hX;have bo:=cU bV a7;have k1:W5.cell? ⟨w.1.size+1,0,U⟩=V (R U 0 0):=az hX.c4 0;have k2:W5.frozen? ⟨w.1.size+1,0,U⟩=da:=cB hX.c4 0;have k3:=az hA.c4 0;have k4:=az hA.c5 0;have k5:=az hB.c5 0;have k6:=cB hA.c4 0;have k7:=cB hA.c5 0;have k8:=cB hB.c5 0;simp only[jW,kE]at k3 k4 k5;have key:∀(c:Code)(W':cw),c=Code.ret->X3 w.1.size W5 (.iface 92 (.pointer<|V<|S W5.1.size 0 U)) (V<|bi #[Y Z f,Y Z fx,.iface 354 (.pointer<|V aC)] 96) W'->Same p W'/\zR w.1.size p W'/\c=Code.ret/\(kN s<|g++[⟨f,H,G,I,E,F⟩]).2.2≠ -1/\EX w.1.size j.1.size (kN s<|g++[⟨f,H,G,I,E,F⟩]).2.1 (kN s<|g++[⟨f,H,G,I,E,F⟩]).2.2 (jF 3 aL aT aC) W':=λc W' hc h=>by have r:Ke w.1.size p W':=(Ke.of bV<|by omega).trans h.ke;rw[bL.out];exact⟨r.same,r.G5,hc,hf,h.c4,_,h.c5,h.ob _ rfl,by omega⟩
   have SX:=ah key;clear hX hA hB bV key
   gi_wp2
   refine wpIn_region_any (by kernel_rfl) ?_;change wpAnyIn _ _ _ _ _ _ _ _ _ (World.drew _);refine Uu (afA<|by kernel_rfl) _ _ _ _ ?_;refine wpAnyIn_take (i:=0) (v:=Y Z f) rfl rfl (by kernel_rfl) (by kernel_rfl) (by kernel_rfl) (λ_ _ _ h=>h) ⟨Or.inl ⟨by rfl,λw=>by go_simp⟩,λ_=>rfl⟩ ?_;refine wpAnyIn_take (i:=1) (v:=Y Z fx) rfl rfl (by kernel_rfl) (by kernel_rfl) (by kernel_rfl) (λ_ _ _ h=>h) ⟨Or.inl ⟨by rfl,λw=>by go_simp⟩,λ_=>rfl⟩ ?_
   focus (refine wpAnyIn_ready (rs:=[2,6]) (by kernel_rfl) (by simp)<|AllReadyIn.cons rfl (λK d=> ?_) (AllReadyIn.cons rfl (λK d=> ?_) AllReadyIn.nil);all_goals(go_simp;refine d _ _ ?_;clear d K))
   refine wpAnyIn_take (i:=3) (v:=df #[Y Z f,Y Z fx,.iface 354 (.pointer<|V aC)]) rfl rfl (by kernel_rfl) (by kernel_rfl) (by kernel_rfl) (λ_ _ _ h=>h) ⟨Or.inl ⟨by rfl,λw=>by go_simp⟩,λ_=>rfl⟩ ?_
   focus (refine wpAnyIn_ready (rs:=[4,6]) (by kernel_rfl) (by simp)<|AllReadyIn.cons rfl (λK d=> ?_) (AllReadyIn.cons rfl (λK d=> ?_) AllReadyIn.nil);all_goals(go_simp;refine d _ _ ?_;clear d K))
   refine wpAnyIn_take (i:=5) (v:= .iface 92 (.pointer<|V<|S W5.1.size 0 U)) rfl rfl (by kernel_rfl) (by kernel_rfl) (by kernel_rfl) (λ_ _ _ h=>h) ⟨Or.inl ⟨by rfl,λw=>by go_simp⟩,λ_=>rfl⟩ ?_
   focus (refine wpAnyIn_ready (rs:=[6]) (by kernel_rfl) (by simp)<|AllReadyIn.cons rfl (λK d=> ?_) AllReadyIn.nil;all_goals(go_simp;refine d _ _ ?_;clear d K))
   rotate_left
   focus (refine wpAnyIn_ready (rs:=[4]) (by kernel_rfl) (by simp)<|AllReadyIn.cons rfl (λK d=> ?_) AllReadyIn.nil;all_goals(go_simp;refine d _ _ ?_;clear d K))
   refine wpAnyIn_take (i:=5) (v:= .iface 92 (.pointer<|V<|S W5.1.size 0 U)) rfl rfl (by kernel_rfl) (by kernel_rfl) (by kernel_rfl) (λ_ _ _ h=>h) ⟨Or.inl ⟨by rfl,λw=>by go_simp⟩,λ_=>rfl⟩ ?_
   rotate_left
   focus (refine wpAnyIn_ready (rs:=[2]) (by kernel_rfl) (by simp)<|AllReadyIn.cons rfl (λK d=> ?_) AllReadyIn.nil;all_goals(go_simp;refine d _ _ ?_;clear d K))
   refine wpAnyIn_take (i:=3) (v:=df #[Y Z f,Y Z fx,.iface 354 (.pointer<|V aC)]) rfl rfl (by kernel_rfl) (by kernel_rfl) (by kernel_rfl) (λ_ _ _ h=>h) ⟨Or.inl ⟨by rfl,λw=>by go_simp⟩,λ_=>rfl⟩ ?_
   focus (refine wpAnyIn_ready (rs:=[4]) (by kernel_rfl) (by simp)<|AllReadyIn.cons rfl (λK d=> ?_) AllReadyIn.nil;all_goals(go_simp;refine d _ _ ?_;clear d K))
   refine wpAnyIn_take (i:=5) (v:= .iface 92 (.pointer<|V<|S W5.1.size 0 U)) rfl rfl (by kernel_rfl) (by kernel_rfl) (by kernel_rfl) (λ_ _ _ h=>h) ⟨Or.inl ⟨by rfl,λw=>by go_simp⟩,λ_=>rfl⟩ ?_;all_goals
    focus (refine wpAnyIn_ready (rs:=[7]) (by kernel_rfl) (by simp)<|AllReadyIn.cons rfl (λK d=> ?_) AllReadyIn.nil;all_goals(go_simp;refine d _ _ ?_;clear d K))
    refine wpAnyIn_done (by kernel_rfl) ?_ _
    gi_wp2
    first
     |exact SX.out _ _ rfl (((HX.out.al yZ _).s4 yZ).s5 yZ _).drew
     |exact SX.out _ _ rfl (((HX.out.s4 yZ).s5 yZ _).al yZ _).drew
     |exact SX.out _ _ rfl (((HX.out.s4 yZ).al yZ _).s5 yZ _).drew
  have bL:dd (kN s (g++[⟨f,H,G,I,E,F⟩])=((kN s g).1, -1, -1)):=by have:=rY.out;simp only[↓reduceIte]at this;exact this
  gi_wp2
  exact⟨λ_ _ h _=>h,⟨aA _ _,λ_ _ _ h=>h⟩,by rw[bL.out],by rw[bL.out];exact qz.out⟩
end
def Tryz.aeB:(prog.info? 88).map (λi=>(i.zero,i.size,i.bytes))=V (V<|df #[Y Z 0,Y Z 0,cd ⟨#[]⟩],3,32):=by kernel_rfl
def Eo {B:Nat}{a w:cw}(h:cD B a w)(n:Nat):cD B a (w.drewN n):=h.trans ⟨rfl,rfl,rfl,au _,λ_ _=>rfl⟩
def PV(r:Nat)(h:r<65536):(iR qb r).size=4/\(iR sU r).size=4:=by
 refine⟨by rw[Jj r h];rfl,?_⟩;have h:=λk (a:k<16)=>(Mb ⟨k,a⟩).1
 simp only at h;rw[iR,h _ (si _ (by omega)),h _ (si _ (by omega)),h _ (si _ (by omega)),h _ (si _ (by omega))];rfl
def apm(s:bc)(d:aw)(T:List PR)(v1 v2:cJ)(w:cw)(hs:s.size<=100000)(hn:d.length<=1000)(aY:T.length<=600)(ao:dF w v1 d)(a0:oM w v2 T)(an:∀i,i<d.length->(dQ 0 d).getD i 0<=s.size):cP prog 80 #[cd s,v1,v2] w λe J=>∃v,e=bj (de #[v,Y Z (vw s d T []).2])/\J.ownsRow w.1.size 88 3 v (vw s d T []).1.length (bW (vw s d T []).1)/\cD w.1.size w J:=by
 obtain⟨iE,rH,N,O,P⟩:=fP Tryz.aeB;have pQ:=Yw d v1 w hn ao;have aQ:=ah an;obtain⟨x1,c1,rfl,aM⟩:=ao.form;have mX:=ah aM;obtain⟨x2,c2,rfl,aO⟩:=a0;have jg:=ah aO;obtain⟨n,hN⟩:=ac d.length;have HN:=ah hN;rw[<-hN]at hn pQ mX ⊢;obtain⟨m,hM⟩:=ac T.length;have HM:=ah hM;rw[<-hM]at aY jg ⊢;obtain⟨aa,hR⟩:=ac<|vw s d T [];have HR:=ah hR.symm;rw[<-hR];clear aM aO hN hM hR ao an;go_enter func80,ntmps80;go_wp2_with fail;refine pQ.mono ?_;clear pQ;rintro ev y ⟨va,rfl,dI,af⟩;obtain⟨ga,ca,rfl,bd,_,a5⟩:=jy dI (by omega);have HA:=ah dI;have aD:=ah af;have M:=af.size;clear dI af;go_wp2;go_loopg [9,10,11,12,13,14,15,16,17] m (λgk lv kv _ _ _ _ _ _ _ W=>∃(k:Nat)(l:List Ed),k<=m/\gk=m - k/\kv=Y Z k/\vw s d (T.drop k) l=aa/\l.length<=k*1002/\W.ownsRow y.1.size 88 3 lv l.length (bW l)/\cD y.1.size y W);exact⟨0,[],by omega,rfl,rfl,HR,by simp,fh _ _ _ _,aA _ _⟩
 rename cw=>wa
 obtain⟨k,l,hk,rfl,rfl,A,bf,F,hb⟩:=hrel;obtain⟨la,lc,rfl⟩:=eV F;by_cases aX:k<m
 .have al:k<T.length:=by rw[<-HM.out];exact aX
  have aV:(k:Int)<(m:Int):=by omega
  obtain⟨g2,rfl,bb,Mq⟩:=jg.out (by omega);have jT:cD w.1.size w wa:=aD.out.trans<|hb.mono M;obtain⟨d0,d1,d2,d3,d4,d5⟩:=(Mq.below jT) k al;rw[lV al,vw]at A;generalize T[k]'al=x at*;have HJ:=ah A;have pP:=ah F;have pN:=ah hb;have ae:=hb.size;obtain⟨K,D,C,E,z,G⟩:=x;simp only at d0 d1 d2 d3 d4 d5;clear A F hb jT Mq;go_wp2;have TU:dd ((wa.alloc<|bi #[Y Z K,Y Z D,Y Z C,Y Z E,Y Z z,Y Z G] 83).1[wa.1.size]? =V (bi #[Y Z K,Y Z D,Y Z C,Y Z E,Y Z z,Y Z G] 83 (0,0))):=World.alloc_heap_new _ _;have oP:dd (cD wa.1.size wa<|wa.alloc<|bi #[Y Z K,Y Z D,Y Z C,Y Z E,Y Z z,Y Z G] 83):=(aA _ _).alloc (au _) _;have aP:dd (wa.1.size<(wa.alloc<|bi #[Y Z K,Y Z D,Y Z C,Y Z E,Y Z z,Y Z G] 83).1.size):=by show _<_;simp
  obtain⟨Q,hQ⟩:=ac<|ij s ⟨K,D,C,E,z,G⟩ d 0 da [];rw[<-hQ]at HJ;have HQ:=ah hQ.symm;clear hQ d0 d1 d2 d3 d4 d5;generalize wa.alloc (bi #[Y Z K,Y Z D,Y Z C,Y Z E,Y Z z,Y Z G] 83)=t at*;obtain⟨bx,vh⟩:=ac wa.1.size;have a4:=ah vh;rw[<-vh]at TU aP ⊢;clear vh;go_loopg [12,13,14,15,16,17] n (λgk sv ov iv _ _ _ W=>∃(i:Nat)(sm:Bool)(own:List Ed),i<=n/\gk=n - i/\sv=ce sm/\iv=Y Z i/\ij s ⟨K,D,C,E,z,G⟩ (d.drop i) ((dQ 0 d).getD i 0) sm own=Q/\own.length<=i/\W.ownsRow t.1.size 88 3 ov own.length (bW own)/\cD t.1.size t W);exact⟨0,da,[],by omega,rfl,rfl,rfl,by rw[<-HQ.out];cases d<;>rfl,by simp,fh _ _ _ _,aA _ _⟩
  rename cw=>wi
  obtain⟨i,sm,own,hi,rfl,rfl,rfl,A,bg,WB,hb⟩:=hrel;obtain⟨oa,oc,rfl⟩:=eV WB;have iD:=ah hb;have av:=ah WB;by_cases aU:i<n
  .have I:i<d.length:=(by rw[<-HN.out];exact aU);have aI:(i:Int)<(n:Int):=(by omega);have a6:i<n+1:=(by omega);have Jw:(i:Int)<(n:Int)+1:=(by omega);obtain⟨b,a3,rfl,hD⟩:=mX.out (by omega);have aS:=ah<|aD.out.trans<|(pN.out.trans<|(oP.out.trans<|iD.out.mono oP.out.size).mono ae).mono M;have aG:=(hD.below aS) i I;have aH:d.drop i=d.getD i 0::d.drop (i+1):=(by rw[lV I];congr 1;rw[aN,aK I];rfl);have yD:=ah<|Yu d 0 i I;rw[aH,ij]at A;have am:(nv<|dQ 0 d)[i]? =V (Y Z ((dQ 0 d).getD i 0:Nat)):=(by have an:=Yt 0 d;rw[nv,jC,aK<|by omega,IP,aN,aK<|by omega];rfl);have ay:=aQ.out i I;obtain⟨p,hp⟩:=ac<|(dQ 0 d).getD i 0;rw[<-hp]at A am yD ay;obtain⟨r,hr⟩:=ac<|d.getD i 0;rw[<-hr]at A aG yD;have tu:=ah am;have HF:dd (∀W,cD t.1.size t W->W.cell? (S b (a3+i) U)=V (Y Z r)/\W.cell? (S ga i U)=V (Y Z (p:Nat))/\W.cell? (S bx 1 U)=V (Y Z D)/\W.cell? (S bx 2 U)=V (Y Z C)/\W.cell? (S bx 3 U)=V (Y Z E)/\W.cell? (S bx 4 U)=V (Y Z z)/\bx<W.1.size):=λW hW=>by have hX:=aR hW TU;have aF:cD y.1.size y W:=pN.out.trans<|(oP.out.trans<|hW.mono oP.out.size).mono ae;refine⟨?_,?_,az hX 1,az hX 2,az hX 3,az hX 4,bO hX⟩;have:=(hD.below<|aD.out.trans<|aF.mono M) i I;rw[<-hr]at this;exact this;rw[cT (jc HA.out aF) i<|by omega];exact tu.out
   have ar:=am8 r wi;simp only at A;clear aH am hp hr hD I hb WB;go_wp2_with fail;refine ar.mono ?_;rintro ev wr ⟨rfl,ak⟩;have HB:=ah<|iD.out.trans<|ak.mono iD.out.size;have HO:=ah<|jc av ak;obtain⟨q0,q1,q2,q3,q4,q5,q6⟩:=HF.out wr HB.out;clear ak ar aG;by_cases L:fO r=da∨fO r=db/\p<C∨fO r=db/\¬p<C/\E<=p
   .have aL:¬(fO r=db/\C<=p/\p<E):=by
     rcases L with h|h|h;exact λa=>by rw[a.1]at h;cases h
     .exact λa=>by omega
     exact λa=>by omega
    rw[ai aL]at A;clear aL;have qA:dd (ij s ⟨K,D,C,E,z,G⟩ (d.drop<|i+1) ((dQ 0 d).getD (i+1) 0) sm own=Q):=(by show _=_;rw[yD.out];exact A);clear A;rcases L with h|⟨h,h2⟩|⟨h,h2,h3⟩;all_goals
     try have ad:(p:Int)<(C:Int):=by omega
     try have ad:¬(p:Int)<(C:Int):=by omega
     try have aE:(p:Int) ≥ (E:Int):=by omega
     rw[h];go_wp2_with fail;go_quiet(fail);go_wp2;go_roundg (n - (i+1));exact⟨i+1,sm,own,by omega,rfl,rfl,by go_num,qA,by omega,Fg HO _,Eo HB _⟩;omega
   have hz:fO r=db:=(by cases h:fO r;exact absurd (.inl h) L;rfl);have h2:¬p<C:=λh=>L (.inr (.inl ⟨hz,h⟩))
   have h3:¬E<=p:=λh=>L (.inr (.inr ⟨hz,h2,h⟩))
   have ad:¬(p:Int)<(C:Int):=(by omega);have aE:¬(p:Int) ≥ (E:Int):=(by omega);rw[aj ⟨hz,by omega,by omega⟩]at A;rw[hz];have ba:=MC r hz;obtain⟨q,rfl⟩:∃k:Nat,r=k:=⟨r.toNat,by omega⟩
   clear L hz;go_wp2_with fail;go_quiet(fail);have aJ:dd (cD t.1.size t<|wr.drewN nq):=Eo HB _;have nM:dd ((wr.drewN nq).ownsRow t.1.size 88 3 (R oa own.length oc) own.length (bW own)):=Fg HO _;clear q0 q1 q2 q3 q4 q5 q6 HB HO ad aE h2 h3;generalize wr.drewN nq=w3 at*;obtain⟨q0,q1,q2,q3,q4,q5,q6⟩:=HF.out w3 aJ.out;have ap:=PT q w3;go_wp2_with fail;refine ap.mono ?_;rintro ev w4 ⟨rfl,ag⟩;have cW:=ah<|aJ.out.trans<|ag.mono aJ.out.size;have s9:=ah<|jc nM ag;clear q0 q1 q2 q3 q4 q5 q6 ap ag aJ nM;obtain⟨q0,q1,q2,q3,q4,q5,q6⟩:=HF.out w4 cW.out;go_wp2_with fail;refine(ah7 q w4).mono ?_;rintro ev wx ⟨rfl,hx⟩;have a1:=hx.symm;subst a1;clear hx;have aq:dd (∀W,cP prog 136 #[cd s,Y Z z,Y Z p] W λe J=>e=bj (ce<|pW s p z)/\J=W):=λW=>amh s z p ay hs W
   generalize pW s p z=ee at*;by_cases GI:D=0∨D=1/\ee=db
   .rw[aj GI]at A;have gG:dd (aa=([],(p:Int))):=(by show _=_;rw[<-HJ.out,<-A];simp);clear A;rcases GI with h|⟨h,h'⟩;all_goals
     subst h;try subst h'
     go_wp2_with fail;go_quiet(first|(go_at_call 136;refine Cx<|aq _)|fail);have H:dd (cD t.1.size t<|w4.drewN nq):=Eo cW _;clear q0 q1 q2 q3 q4 q5 q6;generalize w4.drewN nq=B at*;obtain⟨q0,q1,q2,q3,q4,q5,q6⟩:=HF.out B H.out;go_wp2_with fail;go_quiet(fail);have dU:dd (cD w.1.size w<|B.drewN nq):=aD.out.trans<|(pN.out.trans<|(oP.out.trans<|(Eo H _).mono oP.out.size).mono ae).mono M;go_wp2;go_ret2;exact⟨_,by rw[gG.out];rfl,by rw[gG.out];exact fh _ _ _ _,dU⟩
   rw[ai GI]at A;have f:ij s ⟨K,D,C,E,z,G⟩ (d.drop<|i+1) ((dQ 0 d).getD (i+1) 0) db (own++J6 D p q)=Q:=(by rw[yD.out];exact A);clear A;by_cases h1:D=1
   .subst h1;have aT:ee=da:=(by cases ee;rfl;exact absurd (.inr ⟨rfl,rfl⟩) GI);subst aT;have qA:dd (ij s ⟨K,1,C,E,z,G⟩ (d.drop<|i+1) ((dQ 0 d).getD (i+1) 0) db (own++[⟨(p:Nat),(wd q:Nat),⟨#[92,117]⟩++iR qb q⟩])=Q):=(by show _=_;rw[<-f,J6,aj rfl,Bg];rfl);clear f GI;go_wp2_with fail;go_quiet(first|(go_at_call 136;refine Cx<|aq _));have H:dd (cD t.1.size t<|w4.drewN nq):=Eo cW _;have kC:dd ((w4.drewN nq).ownsRow t.1.size 88 3 (R oa own.length oc) own.length (bW own)):=Fg s9 _;clear q0 q1 q2 q3 q4 q5 q6 cW s9;generalize w4.drewN nq=B at*;obtain⟨q0,q1,q2,q3,q4,q5,q6⟩:=HF.out B H.out;go_wp2_with fail;have Bb:dd (∀args w,(callFunc 137 args).run prog w= .ok (.enter 137 args) w):=kj func137 (by kernel_rfl) (by kernel_rfl);have HK:dd (cP prog 137 #[Y Z q,cd qb] B.drew λe J=>∃u,e=bj u/\(u=cd (iR qb q)/\J=B.drew)):=(QM q qb (by omega) rfl _).mono (λe J h=>⟨_,h.1,rfl,h.2⟩);have sP:=(PV q<|by omega).1;have X:=kC.out;have GA:=H.out.size;have cZ:dd (own.length<=1000000):=(by show _<=_;omega);generalize iR qb q=z4 at*
    go_region_law (first
     |(refine ahy (by rfl) 137 _ (cd qb) 3 9 (by rfl) Bb.out (Y Z q) (by rfl) (λu J=>u=cd z4/\J=B.drew) HK.out ?_;rintro u w6 ⟨rfl,h6⟩;subst h6)
     |(refine Hy (by rfl) _ _ 27 (by rfl) t.1.size 88 iE (df #[Y Z 0,Y Z 0,cd ⟨#[]⟩]) 3 32 underlying27 rH N O P rfl (by decide) (by decide) (R oa own.length oc) own.length (bW own) (by rfl) (IW (lZ X (bi #[Y Z (p:Nat),Y Z (wd q:Nat),cd ((⟨#[92,117]⟩:bc)++z4)] 88))) B.1.size [Y Z (p:Nat),Y Z (wd q:Nat),cd ((⟨#[92,117]⟩:bc)++z4)] (by rfl) (by rfl) (λj u h=>NP B _ _ _ _ j u h) (by intro u hu;simp at hu;rcases hu with rfl|rfl|rfl<;>rfl) cZ.out (by simp;omega) ?_;intro v8 w8 y8 jH _;have sX:dd (cD t.1.size t w8):=(H.out.alloc GA _).drew.grown jH (by simp;omega) (λx hx=>(X.lt x hx).1);have KZ:dd (w8.ownsRow t.1.size 88 3 v8 (own.length+1)<|bW own++[Y Z (p:Nat),Y Z (wd q:Nat),cd<|(⟨#[92,117]⟩:bc)++z4]):=y8;clear y8 jH))
    all_goals
     go_wp2;go_roundg (n - (i+1));exact⟨i+1,db,own++[⟨(p:Nat),(wd q:Nat),(⟨#[92,117]⟩++z4)⟩],by omega,rfl,rfl,by go_num,qA.out,by simp;omega,by rw[C4,bG];exact KZ.out,sX⟩;omega
   have h0:¬D=0:=λh=>GI (.inl h)
   have a9:((D:Int)==0)=da:=(by simpa using h0);have a':((D:Int)==1)=da:=(by simp;omega);rw[J6,ai h1]at f;clear GI h1 h0;go_wp2_with fail;go_quiet(fail);have H:dd (cD t.1.size t<|w4.drewN nq):=Eo cW _;have kC:dd ((w4.drewN nq).ownsRow t.1.size 88 3 (R oa own.length oc) own.length (bW own)):=Fg s9 _;clear q0 q1 q2 q3 q4 q5 q6 cW s9;generalize w4.drewN nq=B at*;obtain⟨q0,q1,q2,q3,q4,q5,q6⟩:=HF.out B H.out;cases hc:decide (cls q ≥ 13)
   .have ab:¬13<=cls q:=(by simpa using hc);rw[ai ab,mH]at f;have qA:=ah f;clear f ab;generalize cls q=c at*;go_wp2;go_roundg (n - (i+1));exact⟨i+1,db,own,by omega,rfl,rfl,by go_num,qA,by omega,kC,H⟩;omega
   have ab:13<=cls q:=(by simpa using hc);rw[aj ab,Bg]at f;have qA:dd (ij s ⟨K,D,C,E,z,G⟩ (d.drop<|i+1) ((dQ 0 d).getD (i+1) 0) db (own++[⟨(p:Nat),(wd q:Nat),⟨#[60,85,43]⟩++iR sU q++⟨#[62]⟩⟩])=Q):=f;clear f ab;generalize cls q=c at*;go_wp2_with fail;have Bb:dd (∀args w,(callFunc 137 args).run prog w= .ok (.enter 137 args) w):=kj func137 (by kernel_rfl) (by kernel_rfl);have HK:dd (cP prog 137 #[Y Z q,cd sU] B.drew λe J=>∃u,e=bj u/\(u=cd (iR sU q)/\J=B.drew)):=(QM q sU (by omega) rfl _).mono (λe J h=>⟨_,h.1,rfl,h.2⟩);have sP:=(PV q<|by omega).2;have X:=kC.out;have GA:=H.out.size;have cZ:dd (own.length<=1000000):=(by show _<=_;omega);generalize iR sU q=z4 at*
   go_region_law (first
    |(refine ahy (by rfl) 137 _ (cd sU) 3 9 (by rfl) Bb.out (Y Z q) (by rfl) (λu J=>u=cd z4/\J=B.drew) HK.out ?_;rintro u w6 ⟨rfl,h6⟩;subst h6)
    |(refine Hy (by rfl) _ _ 27 (by rfl) t.1.size 88 iE (df #[Y Z 0,Y Z 0,cd ⟨#[]⟩]) 3 32 underlying27 rH N O P rfl (by decide) (by decide) (R oa own.length oc) own.length (bW own) (by rfl) (IW (lZ X (bi #[Y Z (p:Nat),Y Z (wd q:Nat),cd ((⟨#[60,85,43]⟩:bc)++z4++⟨#[62]⟩)] 88))) B.1.size [Y Z (p:Nat),Y Z (wd q:Nat),cd ((⟨#[60,85,43]⟩:bc)++z4++⟨#[62]⟩)] (by rfl) (by rfl) (λj u h=>NP B _ _ _ _ j u h) (by intro u hu;simp at hu;rcases hu with rfl|rfl|rfl<;>rfl) cZ.out (by simp;omega) ?_;intro v8 w8 y8 jH _;have sX:dd (cD t.1.size t w8):=(H.out.alloc GA _).drew.grown jH (by simp;omega) (λx hx=>(X.lt x hx).1);have KZ:dd (w8.ownsRow t.1.size 88 3 v8 (own.length+1)<|bW own++[Y Z (p:Nat),Y Z (wd q:Nat),cd<|(⟨#[60,85,43]⟩:bc)++z4++⟨#[62]⟩]):=y8;clear y8 jH))
   all_goals
    go_wp2;go_roundg (n - (i+1));exact⟨i+1,db,own++[⟨(p:Nat),(wd q:Nat),(⟨#[60,85,43]⟩++z4++⟨#[62]⟩)⟩],by omega,rfl,rfl,by go_num,qA.out,by simp;omega,by rw[C4,bG];exact KZ.out,sX⟩;omega
  obtain rfl:i=n:=(by omega);have aI:¬(i:Int)<(i:Int):=(by omega);rw[tC<|by rw[<-HN.out];exact au _,ij]at A;have f:vw s d (T.drop<|k+1) (l++Hh ⟨K,D,C,E,z,G⟩ (sm,own))=aa:=by have:=HJ.out;rw[<-A,ai<|by simp]at this;exact this
  have a8:=iD.out.size;have aC:=oP.out.size;have Gn:wi.ownsRow y.1.size 88 3 (R la l.length lc) l.length (bW l):=jc (jc pP oP) iD.out;have Jl:=av.out;have aW:∀g,Value.ownBlock (R la l.length lc)=V g->g<t.1.size:=λg hg=>lW (pP.out.lt g hg).2 aC
  have kV:=ah<|pN.out.trans<|(oP.out.trans<|iD.out.mono aC).mono ae;have VT:=kV.out.size;have HX:=ah<|aR iD TU;have bk:=bO HX;have e1:=az HX 1;have e4:=az HX 4;have be:k*1002<=600*1002:=ajw _ (by omega);have a7:l.length<=700000:=(by omega);clear A HJ;by_cases hA:D=2/\sm=db
  .obtain⟨rfl,rfl⟩:=hA;rw[Hh,aj ⟨rfl,rfl⟩]at f;have qA:dd (vw s d (T.drop<|k+1) (((l++[⟨(z:Nat),0,⟨#[226,129,168]⟩⟩])++own)++[⟨(G:Nat),0,⟨#[226,129,169]⟩⟩])=aa):=(by show _=_;rw[<-f];simp only[dY]);clear f;go_wp2_with(at_builtin;refine Ku _ rfl _ _ 27 rfl y.1.size y.1.size 88 iE (df #[Y Z 0,Y Z 0,cd ⟨#[]⟩]) 3 32 underlying27 rH N O P rfl (by decide) (by decide) _ _ _ _ _ _ rfl rfl (lZ Gn _) (Ry wi y.1.size 88 _ _ _ VT) (Jg [⟨z,0,⟨#[226,129,168]⟩⟩]) (by omega) (by omega) (by first|omega|(simp;omega)) ?_);intro v5 B X bQ _;have SA:dd (cD wi.1.size wi<|wi.alloc<|bi #[Y Z z,Y Z 0,cd ⟨#[226,129,168]⟩] 88):=(aA _ _).alloc (au _) _;have QD:B.ownsRow y.1.size 88 3 v5 (l.length+1) (bW<|l++[⟨(z:Nat),0,⟨#[226,129,168]⟩⟩]):=(by rw[C4];exact X);have aB:B.ownsRow t.1.size 88 3 (R oa own.length oc) own.length (bW own):=kS Jl λk o hk ho=>by rw[bQ.block k (by have:=(Jl.lt k hk).2;simp;omega) λh=>by have:=aW k h.symm;have:=(Jl.lt k hk).1;omega];exact aR SA ho
   have Iy:dd (B.1[bx]? =V (bi #[Y Z K,Y Z (2:Nat),Y Z C,Y Z E,Y Z z,Y Z G] 83 (0,0))):=(by show _=_;rw[bQ.block bx (by simp;omega)<|Eg<|kq Gn HX.out<|by decide];exact aR SA HX);have H:dd (cD y.1.size y B):=(kV.out.alloc VT _).grown bQ (by simp;omega) (λx hx=>(Gn.lt x hx).1);have GA:=H.out.size;have a2:=bO Iy;clear X bQ Gn Jl SA e1 e4;go_wp2_with(at_builtin;refine Ku _ rfl _ _ 27 rfl y.1.size t.1.size 88 iE (df #[Y Z 0,Y Z 0,cd ⟨#[]⟩]) 3 32 underlying27 rH N O P rfl (by decide) (by decide) _ _ _ _ _ _ rfl rfl QD aB (Jg _) (by omega) (by omega) (by first|omega|(simp;omega)) ?_);intro v6 w6 sK i7 _;rw[<-C4]at sK;have ax:dd (w6.1[bx]? =V (bi #[Y Z K,Y Z (2:Nat),Y Z C,Y Z E,Y Z z,Y Z G] 83 (0,0))):=(by show _=_;rw[i7.block bx a2<|Eg<|kq QD Iy.out<|by decide];exact Iy.out);have dU:dd (cD y.1.size y w6):=H.out.grown i7 GA (λx hx=>(QD.lt x hx).1);have yU:=dU.out.size;have bh:=bO ax;have e5:=az ax 5;clear i7 QD aB;go_wp2_with(at_builtin;refine Ku _ rfl _ _ 27 rfl y.1.size y.1.size 88 iE (df #[Y Z 0,Y Z 0,cd ⟨#[]⟩]) 3 32 underlying27 rH N O P rfl (by decide) (by decide) _ _ _ _ _ _ rfl rfl (lZ sK _) (Ry w6 y.1.size 88 _ _ _ yU) (Jg [⟨G,0,⟨#[226,129,169]⟩⟩]) (by omega) (by omega) (by first|omega|(simp;omega)) ?_);intro v7 w7 Gl iy _;have Ta:dd (w7.ownsRow y.1.size 88 3 v7 (l.length+1+own.length+1)<|bW ((l++[⟨(z:Nat),0,⟨#[226,129,168]⟩⟩])++own)++bW [⟨(G:Nat),0,⟨#[226,129,169]⟩⟩]):=(by show World.ownsRow _ _ _ _ _ _ _;rw[dY];exact Gl);have mS:dd (cD y.1.size y w7):=(dU.out.alloc yU _).grown iy (by simp;omega) (λx hx=>(sK.lt x hx).1);clear Gl iy sK;go_wp2;go_roundg (m - (k+1));exact⟨k+1,_,by omega,rfl,by go_num,qA,by simp;omega,by rw[C4,bG,bG,bG];exact Ta.out,mS⟩;omega
  .rw[Hh,ai hA]at f;have qA:dd (vw s d (T.drop<|k+1) (l++own)=aa):=f;clear f;have cZ:dd ((l++own).length<=(k+1)*1002):=(by show _<=_;rw[bG];omega);by_cases h2:D=2;all_goals
    first
    |(have aZ:sm=da:=by{cases sm;rfl;exact absurd ⟨h2,rfl⟩ hA})
     subst aZ;subst h2
    |have ad:((D:Int)==2)=da:=by simp;omega
    clear hA;go_wp2_with(at_builtin;refine Ku _ rfl _ _ 27 rfl y.1.size t.1.size 88 iE (df #[Y Z 0,Y Z 0,cd ⟨#[]⟩]) 3 32 underlying27 rH N O P rfl (by decide) (by decide) _ _ _ _ _ _ rfl rfl Gn Jl (Jg _) (by omega) (by omega) (by first|omega|(simp;omega)) ?_);intro v5 B X bQ _;rw[<-C4]at X;have kC:=ah X;have H:dd (cD y.1.size y B):=kV.out.grown bQ VT (λx hx=>(Gn.lt x hx).1);clear X bQ Gn Jl;go_wp2;go_roundg (m - (k+1));exact⟨k+1,l++own,by omega,rfl,by go_num,qA,cZ,by rw[bG];exact kC.out,H⟩;omega
 obtain rfl:k=m:=by omega
 have aV:¬(k:Int)<(k:Int):=by omega
 rw[tC<|by rw[<-HM.out];exact au _,vw]at A;subst A;have HO:=ah<|Ff F M;have HB:=ah<|aD.out.trans<|hb.mono M;clear F hb;go_wp2;go_ret2;exact⟨_,rfl,HO,HB⟩
section
open Go.RowKit Go.Extern.Stop Go.Stop Go.Extern
def Tryz.atM(e:Addr)(w:cw):(ReflectliteValue.unpack (.iface 92 (.pointer<|V e))).run prog w = .ok (df #[.pointer<|V<|S 16 92 U,.pointer<|V<|S w.1.size 0 U,Y .u64 150]) (w.alloc<|bi #[.pointer<|V e] 92):=by kernel_rfl
def Tryz.atC(v:cJ)(w:cw):(ReflectliteType.typeOf #[.iface 92 v]).run prog w= .ok (.iface 223<|df #[.pointer<|V<|S 16 92 U]) w:=by kernel_rfl
def Tryz.akb(w:cw):(ReflectliteType.relation "AssignableTo" ReflectliteType.assignableTo #[df #[.pointer<|V<|S 16 92 U],.iface 223<|df #[.pointer<|V<|S 16 92 U]]).run prog w= .ok (ce db) w:=by kernel_rfl
def Tryz.alV(w:cw):(Rtype.elem? 94).run prog w= .ok (V 92) w:=by kernel_rfl
def Tryz.mkE(p:Addr)(w:cw):(ReflectliteValue.mk 92 p 256).run prog w= .ok (df #[.pointer<|V<|S 16 92 U,.pointer<|V p,Y .u64 406]) w:=by kernel_rfl
def Tryz.elemV(a p:Addr)(W:cw)(b:W.cell? a=V (.pointer<|V p)):(ReflectliteValue.method (ReflectliteValue.valueError "reflectlite.Value.Elem" 0) ReflectliteValue.elem #[df #[.pointer<|V<|S 16 94 U,.pointer<|V a,Y .u64 150]]).run prog W= .ok (df #[.pointer<|V<|S 16 92 U,.pointer<|V p,Y .u64 406]) W:=by rw[rlm];simp only[IU,Tryz.af8,Result.andThen];have d:=Tryz.mkE p W;have c:=Tryz.alV W;simp[ReflectliteValue.elem,loadVar,isAgg,underlying,underlying94,b,Result.andThen,c];exact d
def Tryz.aqF(p:Addr)(w:cw):(ReflectliteValue.parts<|df #[.pointer<|V<|S 16 92 U,.pointer<|V p,Y .u64 406]).run prog w= .ok (V (92,p,406)) w:=by kernel_rfl
def Tryz.aqG(p:Addr)(w:cw):(ReflectliteValue.parts<|df #[.pointer<|V<|S 16 92 U,.pointer<|V p,Y .u64 150]).run prog w= .ok (V (92,p,150)) w:=by kernel_rfl
def Tryz.alG(w:cw):(Rtype.directlyAssignable 92 92).run prog w= .ok db w:=by kernel_rfl
def Tryz.asv(p b e:Addr)(a:cJ)(W:cw)(c:W.cell? b=V (.pointer<|V e))(g:W.cell? p=V a)(f:W.frozen? p=da):(ReflectliteValue.set #[df #[.pointer<|V<|S 16 92 U,.pointer<|V p,Y .u64 406],df #[.pointer<|V<|S 16 92 U,.pointer<|V b,Y .u64 150]]).run prog W= .ok (de #[]) (W.setCell p (.pointer<|V e)):=by
 have d:=Tryz.alG W;have h:∀v x,ReflectliteValue.set #[v,x]=(ReflectliteValue.parts v>>=λp=>ReflectliteValue.parts x>>=λq=>_):=λv x=>rfl
 rw[h];simp only[IU,Tryz.aqF,Tryz.aqG,Result.andThen];simp[ReflectliteValue.flagAddr,loadVar,isAgg,underlying,underlying92,c,d,Result.andThen];simp[storeVar,storeCells,go_sem,g,f]
def aj6(e t:Addr)(w:cw)(b:cJ)(j:w.cell? t=V b)(g:w.frozen? t=da)(a:t.block<w.1.size)(i:w.cell? (S 3 0 U)=V (.iface 223<|df #[.pointer<|V<|S 16 53 U])):cP prog 56 #[.iface 92 (.pointer<|V e),.iface 94 (.pointer<|V t)] w λq F=>q=bj (ce db)/\∃f,cD w.1.size w f/\F=f.setCell t (.pointer<|V e):=by
 have G:=@oH prog 90 _ (λargs=>ReflectliteValue.unpack<|args.getD 0<|de #[]) func90 (by kernel_rfl) (by kernel_rfl) (by kernel_rfl) (by kernel_rfl);have H:=@oH prog 91 _ (ReflectliteValue.methodAny (ReflectliteValue.valueError "reflectlite.Value.Type" 0) λt _ _ _=>ReflectliteType.toType t) func91 (by kernel_rfl) (by kernel_rfl) (by kernel_rfl) (by kernel_rfl);have I:=@oH prog 92 _ (ReflectliteValue.method (ReflectliteValue.valueError "reflectlite.Value.IsNil" 0) ReflectliteValue.isNil) func92 (by kernel_rfl) (by kernel_rfl) (by kernel_rfl) (by kernel_rfl);have u:=@oH prog 323 _ (ReflectliteType.abiMethod λt=>do pure (Y .u8 (<-Rtype.kind t))) func323 (by kernel_rfl) (by kernel_rfl) (by kernel_rfl) (by kernel_rfl);have x:=@oH prog 334 _ (ReflectliteType.method ReflectliteType.elem) func334 (by kernel_rfl) (by kernel_rfl) (by kernel_rfl) (by kernel_rfl);have y:=@oH prog 335 _ (ReflectliteType.relation "Implements" ReflectliteType.implements_) func335 (by kernel_rfl) (by kernel_rfl) (by kernel_rfl) (by kernel_rfl);have s:=@oH prog 94 _ ReflectliteType.typeOf func94 (by kernel_rfl) (by kernel_rfl) (by kernel_rfl) (by kernel_rfl);have v:=@oH prog 332 _ (ReflectliteType.relation "AssignableTo" ReflectliteType.assignableTo) func332 (by kernel_rfl) (by kernel_rfl) (by kernel_rfl) (by kernel_rfl);have P:=Tryz.atC;have m:=Tryz.akb;have f6:=Tryz.ah4;have M:=Tryz.afm;have K:=Tryz.afk;have L:=Tryz.afl;have J:=Tryz.afi;have f7:=Tryz.ahY;have D:=Tryz.aeR;have C:=Tryz.aeQ;have p:=Tryz.za;have B:=Tryz.aev;have n:=@oH prog 165 _ (ReflectliteValue.method (ReflectliteValue.valueError "reflectlite.Value.Elem" 0) ReflectliteValue.elem) func165 (by kernel_rfl) (by kernel_rfl) (by kernel_rfl) (by kernel_rfl);have o:=@oH prog 166 _ ReflectliteValue.set func166 (by kernel_rfl) (by kernel_rfl) (by kernel_rfl) (by kernel_rfl);have r:=Tryz.atM;have N:=Tryz.aeG (S w.1.size 0 U) t ((w.alloc<|bi #[.pointer<|V t] 94).alloc (bi #[.pointer<|V<|S 16 94 U,.pointer<|V<|S w.1.size 0 U,Y .u64 150] 152)) (by simp);have d:3<w.1.size:=by rcases dc 3 w.1.size with h|h;exact h;simp[World.cell?,sV h]at i
 have z:((w.alloc<|bi #[.pointer<|V t] 94).alloc (bi #[.pointer<|V<|S 16 94 U,.pointer<|V<|S w.1.size 0 U,Y .u64 150] 152)).cell? (S 3 0 U)=V (.iface 223<|df #[.pointer<|V<|S 16 53 U]):=by rw[gW _ _ (S 3 0 U) (by simp;omega),gW _ _ (S 3 0 U) d];exact i
 have O:=Tryz.elemV (S w.1.size 0 U) t (((w.alloc<|bi #[.pointer<|V t] 94).alloc (bi #[.pointer<|V<|S 16 94 U,.pointer<|V<|S w.1.size 0 U,Y .u64 150] 152)).alloc (bi #[.pointer<|V<|S 16 94 U,.pointer<|V<|S w.1.size 0 U,Y .u64 150] 152)) (by rw[gW _ _ (S w.1.size 0 U) (by simp;omega),gW _ _ (S w.1.size 0 U) (by simp)];exact mI _ _ _ 0 _ rfl);have k:((((w.alloc<|bi #[.pointer<|V t] 94).alloc (bi #[.pointer<|V<|S 16 94 U,.pointer<|V<|S w.1.size 0 U,Y .u64 150] 152)).alloc (bi #[.pointer<|V<|S 16 94 U,.pointer<|V<|S w.1.size 0 U,Y .u64 150] 152)).alloc (bi #[.pointer<|V e] 92)).cell? t=V b:=by rw[gW _ _ t (by simp;omega),gW _ _ t (by simp;omega),gW _ _ t (by simp;omega),gW _ _ t a];exact j
 have l:((((w.alloc<|bi #[.pointer<|V t] 94).alloc (bi #[.pointer<|V<|S 16 94 U,.pointer<|V<|S w.1.size 0 U,Y .u64 150] 152)).alloc (bi #[.pointer<|V<|S 16 94 U,.pointer<|V<|S w.1.size 0 U,Y .u64 150] 152)).alloc (bi #[.pointer<|V e] 92)).frozen? t=da:=by have c:cD w.1.size w ((((w.alloc<|bi #[.pointer<|V t] 94).alloc (bi #[.pointer<|V<|S 16 94 U,.pointer<|V<|S w.1.size 0 U,Y .u64 150] 152)).alloc (bi #[.pointer<|V<|S 16 94 U,.pointer<|V<|S w.1.size 0 U,Y .u64 150] 152)).alloc (bi #[.pointer<|V e] 92)):=((((aA _ _).alloc (au _) _).alloc (by simp) _).alloc (by simp;omega) _).alloc (by simp;omega) _;rw[c.frozen a];exact g
 have E:=Tryz.asv t ⟨w.1.size+1+1+1,0,U⟩ e b ((((w.alloc<|bi #[.pointer<|V t] 94).alloc (bi #[.pointer<|V<|S 16 94 U,.pointer<|V<|S w.1.size 0 U,Y .u64 150] 152)).alloc (bi #[.pointer<|V<|S 16 94 U,.pointer<|V<|S w.1.size 0 U,Y .u64 150] 152)).alloc (bi #[.pointer<|V e] 92)) (by
  have A:(((w.alloc<|bi #[.pointer<|V t] 94).alloc (bi #[.pointer<|V<|S 16 94 U,.pointer<|V<|S w.1.size 0 U,Y .u64 150] 152)).alloc (bi #[.pointer<|V<|S 16 94 U,.pointer<|V<|S w.1.size 0 U,Y .u64 150] 152)).1.size=w.1.size+1+1+1:=by simp
  rw[<-A];exact mI _ _ _ 0 _ rfl) k l
 clear k l j g;go_enter func56,ntmps56;go_wp2;refine dN 1 ?_;rw[bB];go_wp2;go_ret;exact⟨rfl,_,((((aA _ _).alloc (au _) _).alloc (by simp) _).alloc (by simp;omega) _).alloc (by simp;omega) _,rfl⟩
end
section
open Go.RowKit Go.Extern.Stop Go.Stop Go.Extern
def ah1(b:Nat)(d a c:cJ)(w:cw)(h:w.1[b]? =V (bi #[d,a,c] 96 (0,0))):cP prog 57 #[.pointer<|V<|S b 0 U] w λe f=>e=bj c/\f=w:=by have g:w.cell? (S b 2 U)=V c:=az h 2;go_enter func57,ntmps57;go_wp2;go_ret;exact⟨rfl,rfl⟩
def Tryz.apn(p:cJ)(w:cw):(Go.method 483 92 p "Unwrap").run prog w= .ok (57,p) w:=by kernel_rfl
def Tryz.apN(v:cJ)(a:TypeId)(w:cw):(Instr.typeAssert (.iface 92 v) a 233 db).run prog w= .ok (de #[.nilIface,ce da]) w:=run_typeAssert_lacksB underlying233 (by kernel_rfl) (by kernel_rfl) v a w
def Tryz.am7(v:cJ)(a:TypeId)(w:cw):(Instr.typeAssert (.iface 92 v) a 230 db).run prog w= .ok (de #[.iface 92 v,ce db]) w:=run_typeAssert_hasB underlying230 (by kernel_rfl) v a w
def aeF(p:Nat)(f c:cJ)(a b:Addr)(q:Bool)(w:cw)(h:w.1[p]? =V (bi #[f,c,.iface 354 (.pointer<|V a)] 96 (0,0))) (o:(binOp .eql 53 (.iface 354 (.pointer<|V a)) (.iface 354 (.pointer<|V b))).run prog w= .ok (ce q) w):cP prog 58 #[.iface 92 (.pointer<|V<|S p 0 U),.iface 354 (.pointer<|V b)] w λg k=>g=bj (ce q)/\k=w:=by
 have i:=@oH prog 94 _ ReflectliteType.typeOf func94 (by kernel_rfl) (by kernel_rfl) (by kernel_rfl) (by kernel_rfl);have j:=@oH prog 333 _ (ReflectliteType.method λt=>do Rtype.noPackHeld "Comparable" t;pure (ce (<-typeInfo t).comparable)) func333 (by kernel_rfl) (by kernel_rfl) (by kernel_rfl) (by kernel_rfl);have A:=Tryz.Zy;have r:=Tryz.afj;have m:=Tryz.Dt;have u:=Tryz.afB;have v:=Tryz.XW;have x:=Tryz.XX;have y:=Tryz.apN;have z:=Tryz.am7;have s:=Tryz.apn;have n:=run_eql_iface_types (P:=prog) 92 354 (.pointer<|V<|S p 0 U) (.pointer<|V b) underlying53 (by decide) w;have d:=ah1 p f c _ w h;cases q
 .go_enter func58,ntmps58;go_wp2;refine dN 2 ?_;rw[bB];go_wp2_with fail;refine d.mono ?_;rintro e l ⟨rfl,rfl⟩;go_wp2;rw[bB];go_wp2;go_ret;exact⟨rfl,rfl⟩
 go_enter func58,ntmps58;go_wp2;refine dN 2 ?_;rw[bB];go_wp2_with fail;refine d.mono ?_;rintro e l ⟨rfl,rfl⟩;go_wp2;rw[bB];go_wp2;go_ret;exact⟨rfl,rfl⟩
def Xf(p:Nat)(d b:cJ)(a:Addr)(w:cw)(h:w.1[p]? =V (bi #[d,b,.iface 354 (.pointer<|V a)] 96 (0,0))):cP prog 58 #[.iface 92 (.pointer<|V<|S p 0 U),.iface 354 (.pointer<|V a)] w λe k=>e=bj (ce db)/\k=w:=by obtain⟨i,f,c⟩:=yI.1 Tryz.L5;obtain⟨j,g,_⟩:=yI.1 Tryz.Ob;exact aeF p d b a a db w h<|arZ w a underlying53 underlying354 f c g
def JS(p:Nat)(m d:cJ)(a b:Addr)(w:cw)(h:w.1[p]? =V (bi #[m,d,.iface 354 (.pointer<|V a)] 96 (0,0)))(l:a≠b)(f:∃c t,w.1[a.block]? =V (bi c t (0,0)))(g:∃c t,w.1[b.block]? =V (bi c t (0,0))):cP prog 58 #[.iface 92 (.pointer<|V<|S p 0 U),.iface 354 (.pointer<|V b)] w λn r=>n=bj (ce da)/\r=w:=by obtain⟨i,o,e⟩:=yI.1 Tryz.L5;obtain⟨j,q,k⟩:=yI.1 Tryz.Ob;obtain⟨_,_,f⟩:=f;obtain⟨_,_,g⟩:=g;exact aeF p m d a b da w h<|arY w underlying53 underlying354 o e q (by rw[k];decide) l f g
end
