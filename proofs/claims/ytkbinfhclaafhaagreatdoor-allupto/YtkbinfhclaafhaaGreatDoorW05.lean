import Derived.Test.YtkbinfhclaafhaaGreatDoorW04
import Derived.Test.YtkbinfhclaafhaaGreatDoorShelfS
import Derived.Laws.CopyOwn
namespace Go.Proofs.YtkbinfhclaafhaaGreatDoor
open Go.RowKit
open Go.Proofs.Tryz
set_option maxRecDepth 100000
set_option maxHeartbeats 32000000
set_option linter.all false
open Go.Value renaming int->Y,slice->R,bool->ce,tuple->de,agg->df
open Go.IntKind renaming i64->Z
open Option renaming none->U,some->V
open Go.Addr renaming mk->S
open Go.Obj renaming cells->bi
open Go.Ending renaming returned->bj
open Go renaming World->cw,Value->cJ,Calls->cP
open Go.RowKit renaming Below->cD,Hid->dd
open Bool renaming false->da,true->db
def Tryz.aon:(prog.info? 21).map (λi=>(i.zero,i.size,i.bytes))=V (V<|Y .i32 0,1,4):=by kernel_rfl
def Tryz.PJ:prog.cellsOf 21=1:=by kernel_rfl
def Tryz.Zz:prog.underlying 303=V (.array 2 21):=by kernel_rfl
def Tryz.ZA:prog.underlying 285=V (.map 303 305):=by kernel_rfl
def Tryz.af3(a b:Int)(w:cw):(part 21 #[Y .i32 a,Y .i32 b] 0).run prog w= .ok (Y .i32 a) w/\(part 21 #[Y .i32 a,Y .i32 b] 1).run prog w= .ok (Y .i32 b) w:=⟨by kernel_rfl,by kernel_rfl⟩
def Tryz.ama(a b x y:Int)(w:cw):(Op.equal 303 (df #[Y .i32 a,Y .i32 b])<|df #[Y .i32 x,Y .i32 y]).run prog w= .ok (a==x&&b==y) w:=by
 obtain⟨i,c,_⟩:=fP Tryz.aon;have r:∀(p q:Int)(w:cw),(Op.equalIn 9999 21 (Y .i32 p)<|Y .i32 q).run prog w= .ok (p==q) w:=λp q w=>run_equalIn_int w 9998 21 .i32 .i32 p q underlying21
 have e:List.range 2=[0,1]:=rfl;obtain⟨d,f⟩:=Tryz.af3 a b w;obtain⟨g,h⟩:=Tryz.af3 x y w;show(Op.equalIn 10000 _ _ _).run _ _=_;rw[ar0 w 9999 _ _ Tryz.Zz c,e,Tryz.PJ];cases h1:(a==x)<;>cases h2:(b==y)<;>simp[Op.eqItems,d,f,g,h,r,h1,h2]
def Tryz.UX(c:Bool)(a b:Int)(w:cw):(Instr.checkKey c 10000 303<|df #[Y .i32 a,Y .i32 b]).run prog w= .ok () w:=by kernel_rfl
def Qq(k:Nat):cJ:=df #[Y .i32<|cH.getD (2*k) 0,Y .i32<|cH.getD (2*k+1) 0]
def rD(k:Nat):List MapEntry:=(List.range k).map λi=>⟨Qq i,df #[],i⟩
def Cz(w:cw)(a:Nat):Prop:=w.1[a]? =V (.map (rD 4).toArray 4)
def amA(k:Nat):(rD k).toArray.push ⟨Qq k,df #[],k⟩=(rD<|k+1).toArray:=by simp[rD,IJ]
def Vh(a b:Int)(w:cw):∀(l:ba)(i:Nat),∃r,(Instr.findAsking 303 (df #[Y .i32 a,Y .i32 b]) (l.map λi=>⟨Qq i,df #[],i⟩) i).run prog w= .ok r w/\((r=U/\∀j∈l,¬(cH.getD (2*j) 0=a/\cH.getD (2*j+1) 0=b))∨∃q,r=V (q,df #[])/\∃j∈l,cH.getD (2*j) 0=a/\cH.getD (2*j+1) 0=b)
 |[],i=>⟨U,ar3 w _ _ i,.inl ⟨rfl,by simp⟩⟩
 |j::l,i=>by
  obtain⟨r,m,h⟩:=Vh a b w l<|i+1;have e:(Op.equal 303 (df #[Y .i32 a,Y .i32 b]) (MapEntry.mk (Qq j) (df #[]) j).key).run prog w= .ok (a==cH.getD (2*j) 0&&b==cH.getD (2*j+1) 0) w:=Tryz.ama a b (cH.getD (2*j) 0) (cH.getD (2*j+1) 0) w;rw[ni,ar2 i e];clear e;by_cases c:a=cH.getD (2*j) 0/\b=cH.getD (2*j+1) 0;rw[aj<|by rw[Fx,vS,vS];exact c];exact⟨_,rfl,.inr ⟨i,rfl,j,by simp,c.1.symm,c.2.symm⟩⟩;rw[ai<|by rw[Fx,vS,vS];exact c];refine⟨r,m,?_⟩;rcases h with⟨rfl,f⟩|⟨q,rfl,k,d,g⟩
  .refine .inl ⟨rfl,λk d=> ?_⟩;rcases gI.1 d with rfl|d;exact λh=>c ⟨h.1.symm,h.2.symm⟩
   exact f k d
  exact .inr ⟨q,rfl,k,by simp[d],g⟩
def Nh(a b:Int)(w:cw)(k:Nat):(Instr.findKey 303 (df #[Y .i32 a,Y .i32 b])<|rD k).run prog w=(Instr.findAsking 303 (df #[Y .i32 a,Y .i32 b])<|rD k).run prog w:=by
 cases k with
 |zero=>simp[Instr.findKey,rD,Ch Tryz.Zz,Instr.findNow,Instr.findAsking]
 |succ k=>unfold rD;rw[ajq,ni];simp[Instr.findKey,Ch Tryz.Zz,Instr.findNow,Instr.sameNow]
def fit_look(a b:Int)(w:cw)(f:Nat)(h:Cz w f):(Instr.lookup 285 (.map<|V f) (df #[Y .i32 a,Y .i32 b]) db).run prog w= .ok (de #[df #[],ce<|C9 a b]) w:=by
 have i:=Nh a b w 4;obtain⟨r,k,s⟩:=Vh a b w (List.range 4) 0;have u:(zeroValue 305).run prog w= .ok (df #[]) w:=by kernel_rfl
 rcases s with⟨rfl,c⟩|⟨q,rfl,j,t,g⟩
 .have e:=agY db Tryz.ZA u h (λd=>Tryz.UX d a b w)<|i.trans k;rw[e];have m:=c 0 (by simp);have n:=c 1 (by simp);have o:=c 2 (by simp);have p:=c 3 (by simp);have:C9 a b=da:=by unfold C9;simp[cH]at m n o p ⊢;omega
  rw[this];rfl
 have e:=agZ db Tryz.ZA h (λd=>Tryz.UX d a b w)<|i.trans k;rw[e];have:C9 a b=db:=by
  rw[<-g.1,<-g.2];have l:j<4:=by simpa using t
  match j,l with
  |0,_=>rfl
  |1,_=>rfl
  |2,_=>rfl
  |3,_=>rfl
 rw[this];rfl
def akJ:∀k,k<4->∀j,j<k->cH.getD (2*j) 0≠cH.getD (2*k) 0:=by decide
def fit_store(k:Nat)(i:k<4)(w:cw)(a:Nat)(h:w.1[a]? =V (.map (rD k).toArray k)):(Instr.mapUpdate 285 (.map<|V a) (df #[Y .i32<|cH.getD (2*k) 0,Y .i32<|cH.getD (2*k+1) 0])<|df #[]).run prog w= .ok () (ChangeMaps.setBlock w a (.map (rD<|k+1).toArray (k+1))):=by
 obtain⟨r,l,d⟩:=Vh (cH.getD (2*k) 0) (cH.getD (2*k+1) 0) w (List.range k) 0;have f:=Nh (cH.getD (2*k) 0) (cH.getD (2*k+1) 0) w k;rcases d with⟨rfl,_⟩|⟨q,rfl,j,g,c,m⟩;have e:=ag1 (val:=df #[]) Tryz.ZA h (Tryz.UX da _ _ w)<|f.trans l;rw[e,<-amA];rfl;exfalso;have b:j<k:=by simpa using g
 exact akJ k i j b c
def E1 {B a:Nat}{w W:cw}(h:cD B w W)(b:B<=a)(o:Obj):cD B w (ChangeMaps.setBlock W a o):=
 h.trans ⟨rfl,rfl,rfl,by simp[ChangeMaps.setBlock],λk c=>by simp[ChangeMaps.setBlock,Cu (show a≠k by omega)]⟩
def ahf {W:cw}{a:Nat}{o b:Obj}(h:W.1[a]? =V o):(ChangeMaps.setBlock W a b).1[a]? =V b:=by have:=(Ou.1 h).1;simp[ChangeMaps.setBlock,this]
def ali(w:cw)(r:TypeId)(o:Nat×Nat)(i:w.1[11]? =V (bi uX r o)):cP prog 242 #[] w λe x=>e=bj (.map<|V w.1.size)/\Cz x w.1.size/\cD w.1.size w x:=by
 have t:=ah WW;have s:dd ((w.alloc (.map #[] 0)).1[11]? =V (bi uX r o)):=aR ((aA _ _).alloc (au _) _) i;have u:=Tryz.Y5;have n:dd ((w.alloc (.map #[] 0)).1[w.1.size]? =V (.map (rD 0).toArray 0)):=pM;have v:dd (cD w.1.size w<|w.alloc (.map #[] 0)):=(aA _ _).alloc (au _) _;have q:=@mV prog;clear i;generalize uX=G at t s u;go_enter func242,ntmps242;go_wp2_with(refine ZO rfl 304 _ rfl 11 rfl r _ o _ s.out underlying304 rfl u ?_);generalize w.alloc (.map #[] 0)=y at*;obtain⟨a,b⟩:=ac w.1.size;have m:dd (w.1.size<=a/\a=w.1.size):=⟨by omega,b⟩
 rw[<-b]at n ⊢;rw[b];have c:dd (y.1[a]? =V (.map (rD 0).toArray 0)):=n;clear n q;rw[<-b];clear b;go_loopg [6] 4 (λgk iv W=>∃k:Nat,k<=4/\gk=4 - k/\iv=Y Z k/\cD w.1.size w W/\W.1[a]? =V (.map (rD k).toArray k));exact⟨0,by omega,rfl,rfl,v,c⟩;clear v c;obtain⟨k,F,rfl,rfl,d,h⟩:=hrel;have p:=d.size;by_cases f:k<4
 .have g:(k:Int)<4:=by omega
  have D:=λC=>t.out k f C
  have B:=fit_store k f (wr.alloc<|bi #[Y .i32<|cH.getD (2*k) 0,Y .i32<|cH.getD (2*k+1) 0] 303) a<|aR ((aA _ _).alloc (au _) _) h;have l:dd (cD w.1.size w<|ChangeMaps.setBlock (wr.alloc<|bi #[Y .i32<|cH.getD (2*k) 0,Y .i32<|cH.getD (2*k+1) 0] 303) a (.map (rD<|k+1).toArray (k+1))):=E1 (d.alloc p _) m.out.1 _;have j:dd ((ChangeMaps.setBlock (wr.alloc<|bi #[Y .i32<|cH.getD (2*k) 0,Y .i32<|cH.getD (2*k+1) 0] 303) a (.map (rD<|k+1).toArray (k+1))).1[a]? =V (.map (rD<|k+1).toArray (k+1))):=ahf<|aR ((aA _ _).alloc (au _) _) h;clear h d;generalize cH.getD (2*k+1) 0=A at*;generalize cH.getD (2*k) 0=z at*;generalize ChangeMaps.setBlock (wr.alloc<|bi #[Y .i32 z,Y .i32 A] 303) a (.map (rD<|k+1).toArray (k+1))=E at*;go_wp2;go_roundg (4 - (k+1));exact⟨k+1,by omega,rfl,by go_num,l,j⟩;omega
 have g:¬(k:Int)<4:=by omega
 obtain rfl:k=4:=by omega
 have l:=ah d;have j:=ah h;clear h d;go_wp2;go_ret;exact⟨by rw[m.out.2];rfl,by rw[<-m.out.2];exact j.out,l⟩
def gP.below {w b:cw}{B s:Nat}{v:cJ}{l:ba}(h:gP w B s v l)(a:cD w.1.size w b):gP b B s v l:=⟨aR a h.cell,fS h.row a,h.low⟩
def bS.after {w W e:cw}{s:Nat}{v d:cJ}(a:cD w.1.size w W)(h:bS W e s v d):bS w e s v d:=
 ⟨h.os.trans a.os,h.tape.trans a.tape,h.output.trans a.output,bM a.size h.size,λk c b f=>(h.block k (lW c a.size) b f).trans (a.block k c),by rcases h.own with b|b;exact .inl b;exact .inr λk c=>bM a.size<|b k c⟩
def Cz.below {w b:cw}{a:Nat}(h:Cz w a)(c:cD w.1.size w b):Cz b a:=aR c h
def Ej(w:cw)(a n:Nat)(b:aw):Prop:=∀k,k<n->w.cell? (S a k U)=V (Y .i32<|b.getD k 0)
def Ej.below {w d:cw}{a n:Nat}{c:aw}(h:Ej w a n c)(e:cD w.1.size w d):Ej d a n c:=λk b=>by rw[e.cell (p:=(S a k U))<|Um w _ (h k b)];exact h k b
def alh(w:cw)(B sb gc n cc Q cr u s P:Nat)(v pv bv:cJ)(ax aq ay:Int)(t j:aw)(b:ba)(r:Int)(h:aZ w B sb gc n cc pv (.slice (V<|S Q 0 U) n cr) bv ax aq ay t)(hr:Ej w Q n j)(X:gP w u s v b)(hF:Cz w P)(F:∀a∈b,a<n)(hO:F6 j b)(hc:(brk r).1=2)(hl:b.length<=1000):cP prog 246 #[.pointer<|V<|S sb 0 U,.pointer<|V<|S s 0 U,.map<|V P,Y .i32 r] w λe f=>
   (∃m q,nJ j (brk r).2 b b.length=V m/\e=bj (de #[Y Z (b.getD m 0:Nat),ce db])/\gP f u s q (b.take m)/\bS w f s v q)∨
   (nJ j (brk r).2 b b.length=U/\e=bj (de #[Y Z 0,ce da])/\cD w.1.size w f):=by
 have HL:=ah<|Xz w u s v b X;have HC:dd (∀(x:Int)(W:cw),cP prog 266 #[Y .i32 x] W λe f=>e=bj (Y .i32<|nA x)/\f=W):=λx W=>U4 x W
 have H1:=ah h;have H2:=ah hr;have H3:=ah X;have H4:=ah hF;have H5:=ah F;have H6:=ah hO;have H7:=ah hc;clear h hr X hF F hO hc;obtain⟨O,T⟩:=ac<|(brk r).2;rw[<-T];have M:=ah T;clear T;go_enter func246,ntmps246;go_wp2_with fail;refine HL.out.mono ?_;rintro l z ⟨rfl,hx⟩;have c:=hx.symm;subst c;clear HL;have ad:(0:Int)<=(b.length:Int):=FW _;have ab:(b.length:Int)<=1000:=by omega
 go_wp2;go_loopg [10] b.length (λgk iv W=>∃(m:Nat)(i:Int),m<=b.length/\gk=m/\iv=Y Z i/\i=(m:Int) - 1/\cD w.1.size w W/\nJ j O b m=nJ j O b b.length);exact⟨b.length,_,au _,rfl,rfl,by go_num,aA _ _,rfl⟩;clear ad ab;obtain⟨m,i,hm,GG,rfl,hi,k,d⟩:=hrel;have HB:=ah k;cases m with
 |zero=>
  have A:=ah d.symm;obtain rfl:i= -1:=by simpa using hi
  clear d k hi;go_wp2;go_ret2;exact .inr ⟨A,rfl,HB⟩
 |succ m=>
  obtain rfl:i=(m:Int):=by omega
  clear hi;have J:m<b.length:=by omega
  have hp:b.getD m 0<n:=H5.out _ (dP J);have C:(brk<|j.getD (b.getD m 0) 0).1=1:=H6.out _ (dP J);have H:=ah<|sA wr u s v b m (H3.out.below k) J;have g:=amB C H7;rw[<-M.out]at g;have c1:wr.cell? (S sb 1 U)=V (.slice (V<|S Q 0 U) n cr):=az (H1.out.below k).cell 1;have ae:=(H2.out.below k) _ hp;have o:=fit_look (nA<|j.getD (b.getD m 0) 0) (nA r) wr P<|H4.out.below k;rw[Jd,Jd,g]at o;rw[nJ]at d;have ag:((b.getD m 0:Nat):Int)<(n:Int):=by omega
  have ak:(0:Int)<=((b.getD m 0:Nat):Int):=FW _;have af:(0:Int)<=(m:Int):=FW _;have nZ:(m:Int)<=1000:=by omega
  have G:dd (cP prog 266 #[Y .i32<|j.getD (b.getD m 0) 0] wr λe f=>e=bj (Y .i32<|canon<|j.getD (b.getD m 0) 0)/\f=wr):=by rw[<-Jd];exact HC.out _ wr
  have I:dd (cP prog 266 #[Y .i32 r] wr λe f=>e=bj (Y .i32<|canon r)/\f=wr):=by rw[<-Jd];exact HC.out _ wr
  have N:dd (cD w.1.size w<|wr.alloc<|bi #[] 305):=k.alloc k.size _;clear k C g;generalize R:b.getD m 0=p at*;generalize j.getD p 0=x at*;by_cases y:(brk x).2=O
  .rw[aj y]at d;rw[nB y]at o;have A:=ah d.symm;have CA:dd (cP prog 235 #[.pointer<|V<|S s 0 U,Y Z m] (wr.alloc<|bi #[] 305) λe f=>e=bj (de #[])/\∃q,gP f u s q (b.take m)/\bS (wr.alloc<|bi #[] 305) f s v q):=Ee _ u s v b m (H3.out.below N) J (by omega);have L:=ah R;clear d y R;go_wp2_with fail;refine H.out.mono ?_;rintro l z ⟨rfl,hx⟩;have c:=hx.symm;subst c;clear H;go_wp2_with fail;refine G.out.mono ?_;rintro l z ⟨rfl,hx⟩;have c:=hx.symm;subst c;clear G;go_wp2_with fail;refine I.out.mono ?_;rintro l z ⟨rfl,hx⟩;have c:=hx.symm;subst c;clear I;go_wp2_with fail;refine CA.out.mono ?_;rintro l wy ⟨rfl,q,E,D⟩;have uI:=ah E;have K:=ah<|D.after N;clear E D CA;go_wp2;go_ret2;exact .inl ⟨m,q,A,by rw[L.out];rfl,uI,K⟩
  rw[ai y]at d;rw[sB y]at o;have A:=ah d;clear d y R;go_wp2_with fail;refine H.out.mono ?_;rintro l z ⟨rfl,hx⟩;have c:=hx.symm;subst c;clear H;go_wp2_with fail;refine G.out.mono ?_;rintro l z ⟨rfl,hx⟩;have c:=hx.symm;subst c;clear G;go_wp2_with fail;refine I.out.mono ?_;rintro l z ⟨rfl,hx⟩;have c:=hx.symm;subst c;clear I;go_wp2;go_roundg m;exact⟨m,_,by omega,rfl,rfl,by go_num,N,A⟩;omega
section
open Go.RowKit Go.Shelf Go.Lib Go.Sort
def C7(x:Nat×Nat):List cJ:=[Y Z (x.1:Nat),Y Z (x.2:Nat)]
def Gb(x y:Nat×Nat):Int:=Lib.compareInt (x.1:Nat) (y.1:Nat)
def alq(x y:Nat×Nat)(W:cw):cP prog 248 #[df #[Y Z (x.1:Nat),Y Z (x.2:Nat)],df #[Y Z (y.1:Nat),Y Z (y.2:Nat)]] W λe d=>e=bj (Y Z<|Gb x y)/\∃q b,d=grow (W.drewN q) b:=by
 have a:=λc=>AnyG.cmp_Compare_int Tryz.laysCmp (x.1:Nat) (y.1:Nat) c
 change∀c,cP prog 249 _ _ _ at a;unfold Gb;generalize Lib.compareInt (x.1:Nat) (y.1:Nat)=r at a ⊢;go_enter func248,ntmps248;go_wp2_with(go_at_call 249;refine(a _).mono ?_;rintro e d ⟨rfl,rfl⟩);go_ret;exact⟨rfl,0,_,by rw[alloc_eq_grow,alloc_eq_grow,grow_grow];rfl⟩
def Ro(x y:Nat×Nat):ltOf Gb x y=decide (x.1<y.1):=by
 unfold ltOf Gb Lib.compareInt;by_cases a:x.1<y.1
 .have:(x.1:Int)<(y.1:Int):=by omega
  simp[a,this]
 have:¬(x.1:Int)<(y.1:Int):=by omega
 by_cases b:(y.1:Int)<(x.1:Int)<;>simp[a,b,this]
def as2:SWO (ltOf Gb) where
 irrefl x:=by rw[Ro];simp
 trans x y z h1 h2:=by rw[Ro]at*;simp at*;omega
 ntrans x y z h1 h2:=by rw[Ro]at*;simp at*;omega
def alp(a b size:Nat)(w:cw):CmpLays prog 248 #[] C7 2 Gb a b size w:=λ_ _ _ _ x y=>alq x y _
def aqr(l:List<|Nat×Nat):∀(j c:Nat),j<l.length->c<2->(gK l)[j*2+c]? =V ((C7<|l.getD j (0,0))[c]!):=by
 induction l with
 |nil=>intro j c h;simp at h
 |cons a r ih=>
  intro j c d b;cases j with
  |zero=>
   match c,b with
   |0,_=>rfl
   |1,_=>rfl
  |succ j=>have:=ih j c (by simpa using d) b;rw[show(j+1)*2+c=(j*2+c)+2 by omega];simpa [gK]using this
def vQ(w:cw)(g:Nat)(a:List<|Nat×Nat):Prop:=∀j,j<a.length->w.cell? (S g (j*2) U)=V (Y Z ((a.getD j (0,0)).1:Nat))/\w.cell? (S g (j*2+1) U)=V (Y Z ((a.getD j (0,0)).2:Nat))
def anK {w:cw}{B g b:Nat}{e:TypeId}{a:List (Nat×Nat)}(h:w.ownsRow B e 2 (.slice (V<|S g 0 U) a.length b) a.length<|gK a):HoldsK C7 2 w g 0 a.toArray:=by
 intro j c;rw[size_flatK]at c;have d:j<a.length*2:=by simpa using c
 refine⟨?_,by rw[fV];exact Em h j⟩;rw[fV,cT h j d,get_flatK _ _ _ _ c];have f:j / 2<a.length:=by omega
 have:=aqr a (j / 2) (j%2) f<|si _ (by decide);rw[show j / 2*2+j%2=j by omega]at this;rw[this];congr 2;simp[aN,getElem!_def,aK f]
def aq8 {w:cw}{g:Nat}{d:Array (Nat×Nat)}(h:HoldsK C7 2 w g 0 d):vQ w g d.toList:=by
 intro j f;have a:j<d.size:=by simpa using f
 have b:=(h.cell a (show 0<2 by decide)).1;have c:=(h.cell a (show 1<2 by decide)).1;have e:d[j]! =d.toList.getD j (0,0):=by rw[Mk d j a,aN,aK<|by simpa using a];simp
 rw[e]at b c;simp only[fV,qE]at b c;exact⟨b,c⟩
def akt {w:cw}{B g n:Nat}{d:Array (Nat×Nat)}{a:Array Obj}(b:B<=g)(c:g<w.1.size):cD B w (sortWorldK C7 2 w g 0 n d a):=by refine⟨rfl,rfl,rfl,?_,λk e=> ?_⟩;unfold sortWorldK;rw[size_grow,size_putRowK];show w.1.size<=w.1.size+_;omega;show((w.heap.modify g _)++a)[k]? =w.1[k]?;rw[Array.getElem?_append_left<|by simp;omega,Array.getElem?_modify,ai<|by omega]
def asM(w:cw)(B g k:Nat)(c:List<|Nat×Nat)(h:w.ownsRow B 268 2 (.slice (V<|S g 0 U) c.length k) c.length<|gK c)(H:c.length<=1000):cP prog 247 #[.slice (V<|S g 0 U) c.length k,.func (.func 248) #[] #[]] w λe o=>e=bj (de #[])/\∃s:List<|Nat×Nat,s.Perm c/\s.Pairwise (λa b=>a.1<=b.1)/\vQ o g s/\cD B w o/\g<o.1.size:=by
 have C:∀args w,(callFunc 248 args).run prog w= .ok (.enter 248 args) w:=enters_of func248 (by kernel_rfl) rfl;obtain⟨D,m⟩:=h.lt g rfl;have u:=anK h;have d:=AnyQ.slices_SortFunc Tryz.laysSort 2 Tryz.isAgg268 Tryz.sizeOf268 C7 (λ_=>rfl) (λx v z=>by simp[C7]at z;rcases z with rfl|rfl<;>rfl) Gb as2 248 #[] g 0 k c.toArray w C (alp g 0 _ w) u m (by simp;omega);change cP prog 247 _ _ _ at d;have t:c.toArray.size=c.length:=by simp
 rw[t]at d;refine d.mono ?_;rintro e o ⟨rfl,f,n,A,y,G,rfl⟩;have l:f.size=c.length:=by rw[y.1];simp
 refine⟨rfl,f.toList,?_,?_,aq8<|holdsK_sortWorldK C7 2 w g 0 n c.toArray f A m u<|by rw[l,t],akt D m,lt_sortWorldK C7 2 w g 0 n f A m⟩;have:=y.2.2;rw[show f.extract 0 c.length=f by rw[<-l];simp,show c.toArray.extract 0 c.length=c.toArray by simp]at this;simpa using this;rw[ajn];intro i j E F q;have p:i<f.size:=by simpa using E
 have r:j<f.size:=by simpa using F
 have:=G i j (lB _) q (by omega);rw[Ro,Mk f i p,Mk f j r]at this;simp at this;simpa using this
end
def ahx {P:Program}{c:Array Oper}{o:Oper}{a:Act}{w:cw}{K:Act->cw->Prop}{Q:Exit->Act->cw->Prop}{E:Prop}(d:o.guard=U)(f:FuncId)(x:Operand)(q:TypeId) (l:o.op= .call {callee:= .value (.func f),args:=#[x],argTypes:=#[q]}) (g:∀args w,(callFunc f args).run P w= .ok (.enter f args) w) (v:cJ) (n:a.eval x=v) (i:cJ->cw->Prop) (k:cP P f #[v] w λe b=>∃u,e=bj u/\i u b) (h:∀u b,i u b->K (a.put o.dst u) b):if Region.wanted o (yielded c a.tmps)=db then Oper.wp P o a w K Q else E:=by
 have p:Region.wanted o (yielded c a.tmps)=db:=by simp[Region.wanted,d]
 rw[aj p];have m:(execOp a.eval o).run P w= .ok (.enter f #[v]) w:=by simp[execOp,l,resolve,invoke,g,Act.eval,go_sem];rw[<-n];cases x<;>simp[Act.eval]
 unfold Oper.wp;rw[m,j3];refine k.mono ?_;rintro e b ⟨u,rfl,j⟩;exact h u b j
def kj {P:Program}{f:FuncId}{a:Func}(d:P.funcs[f]? =V a)(b:(a.name== "runtime.NumGoroutine")=da)(c:a.body.isNone=da):∀args w,(callFunc f args).run P w= .ok (.enter f args) w:=λargs w=>by simp only[callFunc,IU,run_program,Uk,d,b,c];rfl
def Uv(a b:cJ):(#[a]++#[b]:Array cJ)=#[a,b]:=rfl
def wA(a b c:cJ):(#[a,b]++#[c]:Array cJ)=#[a,b,c]:=rfl
section
variable(w:World)(B sb gc n cc bx:Nat)(pv rv bv:Value)(ax aq ay:Int)(t:List Int)
def J5(a:Nat)(b:aw)(W:cw):Prop:=∃s,aZ W B sb gc n cc pv rv bv ax aq ay b/\W.1[bx]? =V (bi #[.pointer<|V<|S sb 0 U] 146 (0,0))/\w.grownBy W (V gc)/\bC f5 g5 U t (min a n) s b/\jO b (min a n) s
def atT(L:n<=1000)(T:t.length=n)(X:aq=0∨aq=1)(P:ay=0∨ay=1)(D:bx<w.1.size):LG n 208 209 #[.pointer<|V<|S bx 0 U] #[.pointer<|V<|S bx 0 U] (J5 w B sb gc n cc bx pv rv bv ax aq ay t) (λc i=>c.getD i 0==5):=by
 refine⟨?_,?_,?_⟩;rintro c a W i ⟨s,f,j,m,d,o⟩ _ K;rw[Uv];refine(aoE W B sb gc n cc bx pv rv bv ax aq ay c f j i K).mono ?_;rintro e A ⟨rfl,rfl⟩;exact⟨rfl,s,f,j,m,d,o⟩
 .rintro c a W ⟨s,f,j,m,d,o⟩ R M;rw[kG<|by omega]at d o;have J:¬t.getD a 0=5:=by rw[<-d.at a (au _)];simpa using M
  obtain⟨g,l⟩:=YM d (by omega) J;exact⟨c,V<|t.getD a 0,f,j,m,by rw[kG<|by omega];exact g,by rw[kG<|by omega];exact l⟩
 rintro c a b W ⟨s,f,j,m,d,o⟩ r N u x;rw[kG<|by omega]at d o;have k:∀q,a<=q->q<b->t.getD q 0=5:=λq g l=>by rw[<-d.at q g];simpa using u q g l
 have F:b<n->¬t.getD b 0=5:=λh=>by rw[<-d.at b (by omega)];simpa using x h
 have hx:(gX aq ay c ((a:Int) - 1)=3↔s=V 3):=by rcases o with⟨rfl,rfl⟩|⟨Q,rfl⟩;rw[show((0:Nat):Int) - 1= -1 from rfl,gX,aj<|by decide];simp;omega;rw[gX,ai<|by omega,ai<|by rw[f.len];omega,show((a:Int) - 1).toNat=a - 1 by omega];simp
 have G:(gX aq ay c (b:Int)=3↔rC (t.drop b)=db):=by by_cases C:b<n;rw[gX,ai<|by omega,ai<|by rw[f.len];omega,Bg,d.at b<|by omega,VP (by omega)<|F C];simp;rw[gX,ai<|by omega,aj<|by rw[f.len];omega,VQ<|by omega];simp;omega
 rw[wA];refine(atg W B sb gc n cc bx pv rv bv ax aq ay c f L j a b (by omega) N).mono ?_;rintro e A ⟨rfl,E,z⟩;have p:A.1[bx]? =V (bi #[.pointer<|V<|S sb 0 U] 146 (0,0)):=by rw[z.block bx (lW D m.size) λe=>(f.boxed j) (aI e).symm];exact j
 have key:∀t2 y,t2=(if gX aq ay c ((a:Int) - 1)=3∨gX aq ay c (b:Int)=3 then dV c a 3 (b - a)else c)->bC f5 g5 U t b (V y) t2/\jO t2 b (V y)->∃O,J5 w B sb gc n cc bx pv rv bv ax aq ay t (b+1) O A:=by rintro t2 y rfl ⟨g,l⟩;by_cases C:b<n;obtain⟨H,I⟩:=YM g (by omega)<|F C;exact⟨_,V<|t.getD b 0,E,p,m.trans z,by rw[kG<|by omega];exact H,by rw[kG<|by omega];exact I⟩;have e:min (b+1) n=b:=(by omega);exact⟨_,V y,E,p,m.trans z,by rw[e];exact g,by rw[e];exact l⟩
 refine⟨rfl,?_⟩;by_cases v:s=V 3∨rC (t.drop b)=db;have:=agN d k (by omega) r v;rw[KM]at this;exact key _ 3 (by rw[aj<|by rw[hx,G];exact v]) this;have g:¬s=V 3:=λh=>v (.inl h)
 have l:rC (t.drop b)=da:=(by simpa using λh=>v (.inr h));exact key _ 5 (by rw[ai<|by rw[hx,G];exact v]) (agP d k (by omega) r g l)
end
def atU(w:cw)(B a d n j:Nat)(m o bv:cJ)(g b c:Int)(t:aw)(h:aZ w B a d n j m o bv g b c t)(C:n<=1000)(K:b=0∨b=1)(H:c=0∨c=1):cP prog 148 #[.pointer<|V<|S a 0 U] w λe p=>e=bj (de #[])/\aZ p B a d n j m o bv g b c (pass f5 g5 U t)/\w.grownBy p (V d):=by
 have L:∀(y:Fn)(first i:Array cJ)(w:cw),(Instr.makeFunc y first i).run prog w= .ok (.func y first i) w:=λ_ _ _ _=>rfl
 have l:cD w.1.size w (w.alloc<|bi #[.pointer<|V<|S a 0 U] 146):=(aA _ _).alloc (au _) _;have f:=h.below l;have I:=f.f2;have u:=h.len;have v:dd (cP prog 97 #[Y Z n,.func (.func 208) #[] #[.pointer<|V<|S w.1.size 0 U],.func (.func 209) #[] #[.pointer<|V<|S w.1.size 0 U]] (w.alloc<|bi #[.pointer<|V<|S a 0 U] 146) λe p=>e=bj (de #[])/\∃k x,n<=k/\J5 (w.alloc<|bi #[.pointer<|V<|S a 0 U] 146) B a d n j w.1.size m o bv g b c t k x p):=
  Qe n _ _ _ _ _ _ C (atT _ B a d n j w.1.size m o bv g b c t C u K H (by simp)) (kj func208 (by kernel_rfl)<|by kernel_rfl) (kj func209 (by kernel_rfl)<|by kernel_rfl) t _
   ⟨U,f,pM,kI _ _,by rw[LF];exact bC.start _ _ _ _,by rw[LF];exact jO.start _⟩
 have G:dd (w.grownBy (w.alloc<|bi #[.pointer<|V<|S a 0 U] 146)<|V d):=⟨rfl,rfl,rfl,by simp,λk r _=>dh w _ k r⟩
 have E:=ah u;clear h l f u;go_enter func148,ntmps148;go_wp2_with fail;refine v.out.mono ?_;rintro M J ⟨rfl,k,N,r,s,A,_,z,q,_⟩;rw[IM r]at q;have e:=q.stop (by rw[E.out];omega);have F:dd (aZ J B a d n j m o bv g b c<|pass f5 g5 U t):=by rw[<-e];exact A
 have D:=ah<|G.out.trans z;clear A z q e v I;go_wp2;go_end0;exact⟨rfl,F,D⟩
def qN(l:aw):List cJ:=l.map (Y .i32 ·)
def Tryz.aeD:(prog.info? 21).map (λi=>(i.zero,i.size,i.bytes))=V (V<|Y .i32 0,1,4):=by kernel_rfl
def Tryz.JQ:(prog.info? 108).map (λi=>(i.zero,i.size,i.bytes))=V (V<|Y Z 0,1,8):=by kernel_rfl
def kq {w:cw}{B:Nat}{e c:TypeId}{z n b:Nat}{v:cJ}{l:List cJ}{d:Array cJ}(h:w.ownsRow B e z v n l)(j:w.1[b]? =V (bi d c (0,0)))(k:e≠c):v.ownBlock≠V b:=by rcases h.2 with⟨rfl,_⟩|⟨g,m,f,rfl,_,a,_⟩;simp[Value.ownBlock];simp only[Value.ownBlock];intro i;obtain rfl:=aI i;rw[j]at a;simp at a;exact k a.2.symm
structure NL(W:World)(B lb it:Nat)(s:bc)(p:Nat)(vr vt:Value)(qr qt:aw):Prop where
 cell:W.1[lb]? =some (.cells #[vr,vt,.slice none 0 0,.slice none 0 0,.slice none 0 0,.int .i64 0] 141 (0,0))
 rr:W.ownsRow B 21 1 vr qr.length<|qN qr
 rt:W.ownsRow B 108 1 vt qt.length<|iv<|qt.map cls
 iter:W.1[it]? =some (.stringIter s p)
 low:B<=lb
section
variable{W W':World}{B lb it p:Nat}{s:ByteArray}{vr vt v':Value}{qr qt:List Int}
def NL.ne(h:NL W B lb it s p vr vt qr qt):lb≠it:=by intro e;have:=h.cell;rw[e,h.iter]at this;cases this
def NL.below(h:NL W B lb it s p vr vt qr qt)(a:cD W.1.size W W'):NL W' B lb it s p vr vt qr qt:=⟨aR a h.cell,fS h.rr a,fS h.rt a,aR a h.iter,h.low⟩
theorem NL.next(h:NL W B lb it s p vr vt qr qt)(p':Nat):NL (W.iterAt it s p') B lb it s p' vr vt qr qt:=
 ⟨by rw[FX _ _ _ _ _ h.ne];exact h.cell,
  kS h.rr fun k o hk ho=>by rw[FX];exact ho;rintro rfl;exact zh h.rr h.iter hk,
  kS h.rt fun k o hk ho=>by rw[FX];exact ho;rintro rfl;exact zh h.rt h.iter hk,
  Pb W _ s p _ h.iter,h.low⟩
def NL.N5 {y:Int}(h:NL W B lb it s p vr vt qr qt)(a:W'.ownsRow B 21 1 v' (qr.length+1)<|qN qr++[Y .i32 y])(c:W.grownBy W' vr.ownBlock):NL (W'.setCell (S lb 0 U) v') B lb it s p v' vt (qr++[y]) qt/\W'.cell? (S lb 0 U)=V vr/\W'.frozen? (S lb 0 U)=da:=by have g:=kq h.rr h.cell (by decide);have b:W'.1[lb]? =_:=(c.block lb (dg h.cell) λe=>g e.symm).trans h.cell;have f:W'.1[it]? =_:=(c.block it (dg h.iter) λe=>zh h.rr h.iter e.symm).trans h.iter;have d:W'.ownsRow B 108 1 vt qt.length (iv<|qt.map cls):=eW h.rt c (mP h.rt h.rr<|by decide);have i:v'.ownBlock≠V lb:=kq a b (by decide);have j:vt.ownBlock≠V lb:=kq d b (by decide);refine⟨⟨by rw[fe b];rfl,?_,kT d j 0 v',by rw[iX _ _ _ _ h.ne.symm];exact f,h.low⟩,az b 0,cB b 0⟩;rw[bG,qN,gu];exact kT a i 0 v'
def NL.YB {y:Int}(h:NL W B lb it s p vr vt qr qt)(a:W'.ownsRow B 108 1 v' (qt.length+1)<|iv (qt.map cls)++[Y Z<|cls y])(c:W.grownBy W' vt.ownBlock):NL (W'.setCell (S lb 1 U) v') B lb it s p vr v' qr (qt++[y])/\W'.cell? (S lb 1 U)=V vt/\W'.frozen? (S lb 1 U)=da:=by have g:=kq h.rt h.cell (by decide);have b:W'.1[lb]? =_:=(c.block lb (dg h.cell) λe=>g e.symm).trans h.cell;have f:W'.1[it]? =_:=(c.block it (dg h.iter) λe=>zh h.rt h.iter e.symm).trans h.iter;have d:W'.ownsRow B 21 1 vr qr.length (qN qr):=eW h.rr c (mP h.rr h.rt<|by decide);have i:v'.ownBlock≠V lb:=kq a b (by decide);have j:vr.ownBlock≠V lb:=kq d b (by decide);refine⟨⟨by rw[fe b];rfl,kT d j 1 v',?_,by rw[iX _ _ _ _ h.ne.symm];exact f,h.low⟩,az b 1,cB b 1⟩;rw[bG,gu,iv,gu];exact kT a i 1 v'
end
def RD {w:cw}{a:Nat}{e:TypeId}{size:Nat}{v:cJ}{n:Nat}{k:List cJ}(h:w.ownsRow a e size v n k){K c:Nat}{i:Array MapEntry}(j:w.1[K]? =V (.map i c)):v.ownBlock≠V K:=by rcases h.2 with⟨rfl,_⟩|⟨g,d,f,rfl,l,b,m⟩;simp[Value.ownBlock];simp only[Value.ownBlock];intro e;obtain rfl:=aI e;rw[j]at b;cases b
structure PS(W:World)(B s fb:Nat)(v fv:Value)(x:ba×List (Nat×Nat)):Prop where
 stk:gP W B s v x.1
 fit:Cz W fb
 row:W.ownsRow B 268 2 fv x.2.length<|gK x.2
section
variable{W W':World}{B s fb:Nat}{v fv v' fv':Value}{x:List Nat×List (Nat×Nat)}{st':List Nat}
def PS.below(h:PS W B s fb v fv x)(a:cD W.1.size W W'):PS W' B s fb v fv x:=⟨h.stk.below a,h.fit.below a,fS h.row a⟩
def PS.stack(h:PS W B s fb v fv x)(g:gP W' B s v' st')(d:bS W W' s v v'):PS W' B s fb v' fv (st',x.2):=by
 have c:fb≠s:=by intro e;have:=h.fit;rw[Cz,e,h.stk.cell]at this;cases this
 refine⟨g,(d.block fb (dg h.fit) c<|RD h.stk.row h.fit).trans h.fit,kS h.row λk o a f=> ?_⟩;rw[d.block k (dg f) ?_ ?_];exact f;rintro rfl;exact kq h.row h.stk.cell (by decide) a;intro e;rcases mP h.row h.stk.row (by decide)with b|b;rw[b]at a;cases a;exact b<|a.trans e.symm
def PS.app {a b:Nat}(h:PS W B s fb v fv x)(c:W'.ownsRow B 268 2 fv' (x.2.length+1)<|gK x.2++[Y Z (a:Nat),Y Z (b:Nat)])(d:W.grownBy W' fv.ownBlock):PS W' B s fb v fv' (x.1,x.2++[(a,b)]):=by refine⟨⟨(d.block s (dg h.stk.cell) λe=>kq h.row h.stk.cell (by decide) e.symm).trans h.stk.cell,eW h.stk.row d<|mP h.stk.row h.row<|by decide,h.stk.low⟩,(d.block fb (dg h.fit) λe=>RD h.row h.fit e.symm).trans h.fit,?_⟩;have e:=af2 x.2 (a,b);simp only at e;rw[e]at c;simpa using c
end
def p7(w:cw)(B:Nat)(v:cJ)(c:List<|Nat×Nat):Prop:=(c=[]/\∃a b,v=R a 0 b)∨∃g b,v= .slice (V<|S g 0 U) c.length b/\B<=g/\g<w.1.size/\vQ w g c
def Tryz.aoj:(prog.info? 268).map (λi=>(i.zero,i.size,i.bytes))=V (V<|df #[Y Z 0,Y Z 0],2,16):=by kernel_rfl
def Br(w:cw):Prop:=∃b a,w.1[11]? =V (bi uX b a)
def Br.below {w a:cw}(h:Br w)(c:cD w.1.size w a):Br a:=by obtain⟨d,b,h⟩:=h;exact⟨d,b,aR c h⟩
def akG(w:cw)(B sb gc n cc gr cr:Nat)(pv bv:cJ)(ax aq ay:Int)(t d:aw)(h:aZ w B sb gc n cc pv (.slice (V<|S gr 0 U) n cr) bv ax aq ay t)(hr:Ej w gr n d)(ad:Br w)(hn:n<=1000):cP prog 211 #[.pointer<|V<|S sb 0 U] w λe j=>∃v K,e=bj v/\mG t d K/\p7 j w.1.size v K/\cD w.1.size w j:=by
 obtain⟨iP,aF,Nu,Nv,Nw⟩:=fP Tryz.aoj;have H1:dd (∀W,cD w.1.size w W->aZ W B sb gc n cc pv (.slice (V<|S gr 0 U) n cr) bv ax aq ay t):=λW o=>h.below o
 have H2:dd (∀W,cD w.1.size w W->Ej W gr n d):=λW o=>hr.below o
 have H3:dd (∀W,cD w.1.size w W->Br W):=λW o=>ad.below o
 have KA:dd (cP prog 242 #[] w λe j=>e=bj (.map<|V w.1.size)/\Cz j w.1.size/\cD w.1.size w j):=by obtain⟨tt,P,o⟩:=ad;exact ali w tt P o
 have HT:=ah h.len;clear h hr ad;go_enter func211,ntmps211;go_wp2_with fail;refine KA.out.mono ?_;rintro z w1 ⟨rfl,ao,aa⟩;clear KA;have VO:=aa.size;have ab:cD w.1.size w (w1.alloc<|bi #[R U 0 0] 257):=aa.alloc VO _;have ag:dd (PS (w1.alloc<|bi #[R U 0 0] 257) w.1.size w1.1.size w.1.size (R U 0 0) (R U 0 0) ([],[])):=
  ⟨⟨pM,fh _ _ _ _,VO⟩,ao.below<|(aA _ _).alloc (au _) _,fh _ _ _ _⟩
 have aG:=ah ab;have c1:(w1.alloc<|bi #[R U 0 0] 257).cell? (S sb 1 U)=V (.slice (V<|S gr 0 U) n cr):=az (H1 _ ab).cell 1;clear aa ao ab;obtain⟨fb,Dg⟩:=ac w.1.size;obtain⟨s,hs⟩:=ac w1.1.size;have HP:dd (PS (w1.alloc<|bi #[R U 0 0] 257) w.1.size s fb (R U 0 0) (R U 0 0) ([],[])):=by rw[Dg,hs];exact ag.out
 clear ag;rw[<-Dg];clear Dg;go_wp2;rw[<-hs];clear hs c1 VO;generalize w1.alloc (bi #[R U 0 0] 257)=W2 at*;go_loopg [5,16] n (λgk fv iv W=>∃(k:Nat)(v:cJ)(x:ba×List (Nat×Nat)),k<=n/\gk=n - k/\iv=Y Z k/\cD w.1.size w W/\PS W w.1.size s fb v fv x/\lX k x/\F6 d x.1/\dW t d (n - k) k x=dW t d n 0 ([],[]));exact⟨0,_,([],[]),by omega,rfl,rfl,aG,HP,lX.start,λa ha=>by simp at ha,rfl⟩;clear aG HP;obtain⟨k,v,x,hk,rfl,rfl,o,Q,E,EG,hF⟩:=hrel;have T:=o.size;obtain⟨fa,fc,rfl⟩:=eV Q.row;by_cases ae:k<n
 .have aI:n - k=(n - (k+1))+1:=by omega
  rw[aI]at hF;have c1:=(H2 wr o) k ae;have c2:=(H1 wr o).f2;have c3:=(H1 wr o).at k ae;have aH:(k:Int)<(n:Int):=by omega
  have C:=ah o;have F:=ah Q;have dK:=ah E;have rY:=ah EG;have aC:x.1.length<=63:=E.len;by_cases A:t.getD k 0=12
  .rw[A]at c3;by_cases D:(brk<|d.getD k 0).1=1
   .have L:dd (∀W,cD w.1.size w W->cP prog 243 #[Y .i32<|d.getD k 0] W λe j=>e=bj (ce db)/\cD W.1.size W j):=λW p=>by obtain⟨tt,P,hh⟩:=H3.out W p;have:=afM (d.getD k 0) W tt P hh;rw[nB D]at this;exact this
    by_cases G:x.1.length=63
    .have HN:dd (dW t d n 0 ([],[])=U):=(by show _=_;rw[<-hF];exact aqi<|by rw[qg,aj A,aj D,aj G]);clear hF Q E EG o D A aC;have HL:dd (∀W,cD wr.1.size wr W->cP prog 244 #[.pointer<|V<|S s 0 U] W λe j=>e=bj (Y Z ((63:Nat):Int))/\j=W):=λW p=>by have:=Xz W w.1.size s v x.1 (F.out.below p).stk;rw[G]at this;exact this
     clear G;generalize d.getD k 0=r at*;go_wp2_with fail;refine(L wr C).mono ?_;rintro z N ⟨rfl,i⟩;have u:=ah<|C.out.trans<|i.mono T;have M:=ah i;clear i;go_wp2_with fail;refine(HL N M).mono ?_;rintro z wx ⟨rfl,hx⟩;have I:=hx.symm;subst I;clear HL;go_wp2;go_ret;exact⟨_,[],rfl,by unfold mG;rw[HT.out,HN.out],.inl ⟨rfl,_,_,rfl⟩,u.out⟩
    have HN:dd (dW t d (n - (k+1)) (k+1) (x.1++[k],x.2)=dW t d n 0 ([],[])):=(by show _=_;rw[<-hF];exact(N1<|by rw[qg,aj A,aj D,ai G]).symm);have av:=ah<|E.push G;have aB:dd (F6 d<|x.1++[k]):=λa ha=>by simp at ha;rcases ha with ha|rfl;exact EG a ha;exact D
    clear hF Q E EG o D A;have HL:dd (∀W,cD wr.1.size wr W->cP prog 244 #[.pointer<|V<|S s 0 U] W λe j=>e=bj (Y Z x.1.length)/\j=W):=λW p=>Xz W w.1.size s v x.1 (F.out.below p).stk
    have Lb:dd (∀W,cD wr.1.size wr W->cP prog 197 #[.pointer<|V<|S s 0 U,Y Z k] W λe j=>e=bj (de #[])/\∃v',gP j w.1.size s v' (x.1++[k])/\bS W j s v v'):=λW p=>agv W w.1.size s v x.1 k (F.out.below p).stk (by omega)
    generalize d.getD k 0=r at*;have aK:((x.1.length:Int)==63)=da:=(by simp;omega);have aM:(0:Int)<=(x.1.length:Int):=FW _;generalize(x.1.length:Int)=xl at*;go_wp2_with fail;refine(L wr C).mono ?_;rintro z N ⟨rfl,i⟩;have u:=ah<|C.out.trans<|i.mono T;have M:=ah i;clear i;go_wp2_with fail;refine(HL N M).mono ?_;rintro z wx ⟨rfl,hx⟩;have I:=hx.symm;subst I;clear HL;go_wp2_with fail;refine(L N u).mono ?_;rintro z w4 ⟨rfl,l⟩;have O:=ah<|u.out.trans<|l.mono u.out.size;have FP:=ah<|M.out.trans<|l.mono M.out.size;clear l M L;go_wp2_with fail;refine(Lb w4 FP).mono ?_;rintro z w5 ⟨rfl,v5,ap,ML⟩;have bF:=ah<|ML.below (F.out.below FP).stk O;have Tf:=ah<|(F.out.below FP).stack ap ML;clear ap ML Lb;go_wp2;go_roundg (n - (k+1));exact⟨k+1,v5,(x.1++[k],x.2),by omega,rfl,by go_num,bF,Tf,av,aB,HN⟩;omega
   have L:dd (∀W,cD w.1.size w W->cP prog 243 #[Y .i32<|d.getD k 0] W λe j=>e=bj (ce da)/\cD W.1.size W j):=λW p=>by obtain⟨tt,P,hh⟩:=H3.out W p;have:=afM (d.getD k 0) W tt P hh;rw[sB D]at this;exact this
   by_cases h2:(brk<|d.getD k 0).1=2
   .have qw:dd (∀W,cD w.1.size w W->cP prog 245 #[Y .i32<|d.getD k 0] W λe j=>e=bj (ce db)/\cD W.1.size W j):=λW p=>by obtain⟨tt,P,hh⟩:=H3.out W p;have:=zM (d.getD k 0) W tt P hh;rw[nB h2]at this;exact this
    have ak:=λW (p:cD wr.1.size wr W) (an:cD w.1.size w W)=>alh W B sb gc n cc gr cr w.1.size s fb v pv bv ax aq ay t d x.1 (d.getD k 0) (H1 W an) (H2 W an) (F.out.below p).stk (F.out.below p).fit (λa ha=>Nat.lt_trans (dK.out.st a ha) ae) rY.out h2 (by omega)
    have TF:dd (∀W,cD wr.1.size wr W->cD w.1.size w W->cP prog 246 #[.pointer<|V<|S sb 0 U,.pointer<|V<|S s 0 U,.map<|V fb,Y .i32<|d.getD k 0] W λe j=>(∃m v',nJ d (brk<|d.getD k 0).2 x.1 x.1.length=V m/\e=bj (de #[Y Z (x.1.getD m 0:Nat),ce db])/\gP j w.1.size s v' (x.1.take m)/\bS W j s v v')∨(nJ d (brk<|d.getD k 0).2 x.1 x.1.length=U/\e=bj (de #[Y Z 0,ce da])/\cD W.1.size W j)):=ak;have mD:dd (∀m,nJ d (brk<|d.getD k 0).2 x.1 x.1.length=V m->dW t d (n - (k+1)) (k+1) (x.1.take m,x.2++[(x.1.getD m 0,k)])=dW t d n 0 ([],[])/\lX (k+1) (x.1.take m,x.2++[(x.1.getD m 0,k)])/\F6 d (x.1.take m)):=λm X=>by have e:qg t d k x=V (x.1.take m,x.2++[(x.1.getD m 0,k)]):=(by rw[qg,aj A,ai D,aj h2,X]);exact⟨by rw[<-hF];exact(N1 e).symm,dK.out.step e,rY.out.step e⟩
    have mF:dd (nJ d (brk<|d.getD k 0).2 x.1 x.1.length=U->dW t d (n - (k+1)) (k+1) x=dW t d n 0 ([],[])):=λX=>by have e:qg t d k x=V x:=(by rw[qg,aj A,ai D,aj h2,X]);rw[<-hF];exact(N1 e).symm
    have af:x.2.length<=1000:=(by have:=E.few;omega);clear hF Q E EG o D h2 A ak;generalize d.getD k 0=r at*;go_wp2_with fail;refine(L wr C).mono ?_;rintro z N ⟨rfl,i⟩;have u:=ah<|C.out.trans<|i.mono T;have M:=ah i;clear i;go_wp2_with fail;refine(L N u).mono ?_;rintro z w4 ⟨rfl,l⟩;have O:=ah<|u.out.trans<|l.mono u.out.size;have FP:=ah<|M.out.trans<|l.mono M.out.size;clear l M L;go_wp2_with fail;refine(qw w4 O).mono ?_;rintro z w5 ⟨rfl,bV⟩;have bF:=ah<|O.out.trans<|bV.mono O.out.size;have qD:=ah<|FP.out.trans<|bV.mono FP.out.size;clear bV FP qw;go_wp2_with fail;refine(TF w5 qD bF).mono ?_;rintro z w6 (⟨m,v6,X,rfl,rI,V8⟩|⟨X,rfl,gz⟩)
    .obtain⟨hN,al,am⟩:=mD.out m X;have dU:=ah<|V8.below (F.out.below qD).stk bF;have D6:=ah<|(F.out.below qD).stack rI V8;have D4:=ah hN;have K8:=ah al;have zP:=ah am;clear hN al am X rI V8 TF;have H:w6.ownsRow w.1.size 268 2 (R fa x.2.length fc) x.2.length (gK x.2):=D6.out.row;have yU:=dU.out.size;generalize x.1.getD m 0=q at*;go_wp2_with(at_builtin;refine aib _ rfl _ _ 265 rfl w.1.size 268 iP (df #[Y Z 0,Y Z 0]) 16 underlying265 aF Nu Nv Nw rfl (by decide) _ _ _ rfl H _ _ _ _ rfl (by simp) rfl rfl (by omega) yU ?_);intro v7 w7 Di iy;have vM:=ah<|D6.out.app Di iy;have mS:dd (cD w.1.size w w7):=dU.out.grown iy yU (λy hy=>(H.lt y hy).1);clear Di iy H;go_wp2;go_roundg (n - (k+1));exact⟨k+1,v6,(x.1.take m,x.2++[(q,k)]),by omega,rfl,by go_num,mS,vM,K8,zP,D4⟩;omega
    have dU:=ah<|bF.out.trans<|gz.mono bF.out.size;have D6:=ah<|(F.out.below qD).below gz;have D4:dd _:=mF.out X;have K8:=ah dK.out.more;clear X gz TF;go_wp2;go_roundg (n - (k+1));exact⟨k+1,v,x,by omega,rfl,by go_num,dU,D6,K8,rY,D4⟩;omega
   have qw:dd (∀W,cD w.1.size w W->cP prog 245 #[Y .i32<|d.getD k 0] W λe j=>e=bj (ce da)/\cD W.1.size W j):=λW p=>by obtain⟨tt,P,hh⟩:=H3.out W p;have:=zM (d.getD k 0) W tt P hh;rw[sB h2]at this;exact this
   have HN:dd (dW t d (n - (k+1)) (k+1) x=dW t d n 0 ([],[])):=(by show _=_;rw[<-hF];exact(N1<|by rw[qg,aj A,ai D,ai h2]).symm);have K8:=ah E.more;clear hF Q E EG o D h2 A;generalize d.getD k 0=r at*;go_wp2_with fail;refine(L wr C).mono ?_;rintro z N ⟨rfl,i⟩;have u:=ah<|C.out.trans<|i.mono T;have ar:=ah<|F.out.below i;clear i;go_wp2_with fail;refine(L N u).mono ?_;rintro z w4 ⟨rfl,l⟩;have O:=ah<|u.out.trans<|l.mono u.out.size;have Te:=ah<|ar.out.below l;clear l L;go_wp2_with fail;refine(qw w4 O).mono ?_;rintro z w5 ⟨rfl,bV⟩;have bF:=ah<|O.out.trans<|bV.mono O.out.size;have Tf:=ah<|Te.out.below bV;clear bV qw;go_wp2;go_roundg (n - (k+1));exact⟨k+1,v,x,by omega,rfl,by go_num,bF,Tf,K8,rY,HN⟩;omega
  have HN:dd (dW t d (n - (k+1)) (k+1) x=dW t d n 0 ([],[])):=by show _=_;rw[<-hF];exact(N1<|by rw[qg,ai A]).symm
  have aL:(t.getD k 0==12)=da:=(by simpa using A);clear hF Q E EG o A;generalize t.getD k 0=c at*;generalize d.getD k 0=r at*;go_wp2;go_roundg (n - (k+1));exact⟨k+1,v,x,by omega,rfl,by go_num,C,F,dK.out.more,rY,HN⟩;omega
 obtain rfl:k=n:=by omega
 rw[pT,dW]at hF;have aH:¬(k:Int)<(k:Int):=by omega
 have C:=ah o;have HF:=ah hF.symm;have CN:=ah Q.row;have af:x.2.length<=1000:=by have:=E.few;omega
 clear hF Q E EG o;generalize x.2=J at*;by_cases h0:J=[]
 .subst h0;have HS:dd (∀f,cP prog 247 #[R fa 0 fc,f] wr λe j=>e=bj (de #[])/\j=wr):=λf=>AnyF.slices_SortFunc_none Tryz.laysSort fa fc f wr
  clear CN af;go_wp2_with fail;refine(HS _).mono ?_;rintro z wx ⟨rfl,hx⟩;have I:=hx.symm;subst I;clear HS;go_wp2;go_ret;exact⟨_,[],rfl,by unfold mG;rw[HT.out,HF.out];exact⟨.refl _,.nil⟩,.inl ⟨rfl,_,_,rfl⟩,C⟩
 obtain⟨g,cp,he,_,_,aE⟩:=iq CN.out<|kF.2 h0;simp only[lY,lq]at he;obtain⟨rfl,rfl⟩:=he;have HS:dd (cP prog 247 #[.slice (V<|S g 0 U) J.length fc,.func (.func 248) #[] #[]] wr λe j=>e=bj (de #[])/\∃K:List<|Nat×Nat,K.Perm J/\K.Pairwise (λa b=>a.1<=b.1)/\vQ j g K/\cD w.1.size wr j/\g<j.1.size):=asM wr w.1.size g _ J CN af;clear CN h0;go_wp2_with fail;refine HS.out.mono ?_;rintro z N ⟨rfl,K,hp,hs,hA,i,aD⟩;have HX:dd (K.Perm J/\K.Pairwise (λa b=>a.1<=b.1)/\vQ N g K):=⟨hp,hs,hA⟩
 have u:=ah<|C.out.trans i;clear hp hs hA i HS;go_wp2;go_ret;exact⟨_,K,rfl,by unfold mG;rw[HT.out,HF.out];exact⟨HX.out.1,HX.out.2.1⟩,.inr ⟨g,_,by rw[HX.out.1.length_eq];rfl,aE,aD,HX.out.2.2⟩,u⟩
def ahA {c:Int}:(bH c<0↔bH c= -1):=by unfold bH;split;omega;split<;>omega
def asD(w:cw)(B u r n z:Nat)(I J bv:cJ)(x d y:Int)(t:aw)(h:aZ w B u r n z I J bv x d y t)(Q:n<=1000)(f:Nat)(O:f<n):cP prog 250 #[.pointer<|V<|S u 0 U,Y Z f] w λe q=>e=bj (Y Z<|lM d t f)/\q=w:=by
 have M:=h.f2;have N:=h.f5;have v:dd (∀k,k<n->w.cell? (S r k U)=V (Y Z<|t.getD k 0)):=λk s=>h.at k s
 obtain⟨P,j⟩:=ac<|lM d t f;rw[<-j];have g:=ah j.symm;clear h j;go_enter func250,ntmps250;go_wp2;go_loopg [5] f (λD H W=>∃k:Nat,k<=f/\D=k/\H=Y Z ((k:Int) - 1)/\W=w/\lM d t k=P);exact⟨f,au _,rfl,rfl,rfl,g⟩;obtain⟨k,s,rfl,rfl,E,a⟩:=hrel;have l:=E.symm;subst l;clear g;cases gk with
 |zero=>have p:d=P:=a;subst p;go_wp2;go_ret;exact⟨rfl,rfl⟩
 |succ k=>
  have m:k<n:=by omega
  have L:=v.out k m;have A:((k+1:Nat):Int) - 1=(k:Int):=by omega
  rw[A];rw[lM]at a;have F:(k:Int)<(n:Int):=by omega
  have G:(0:Int)<=(k:Int):=by omega
  generalize t.getD k 0=c at*;have i:dd (∀W,cP prog 217 #[Y Z c] W λe q=>e=bj (Y Z<|bH c)/\q=W):=λW=>PD c W
  by_cases b:bH c<0
  .rw[aj b]at a;have g:=ah a;have o:bH c= -1:=ahA.1 b;rw[o]at i;clear a b o;go_wp2_with fail;refine(i _).mono ?_;rintro C K ⟨rfl,hx⟩;subst hx;go_wp2;go_roundg k;exact⟨k,by omega,rfl,by go_num,rfl,g⟩;omega
  rw[ai b]at a;have o:(bH c != -1)=db:=by simp only[bne_iff_ne,ne_eq];intro e;exact b<|ahA.2 e
  generalize bH c=R at*;subst a;clear b;go_wp2_with fail;refine(i _).mono ?_;rintro C K ⟨rfl,hx⟩;subst hx;go_wp2;go_ret;exact⟨rfl,rfl⟩
def ahh(w:cw)(B p f n y c r:Nat)(z A:cJ)(v u x:Int)(t a:aw)(h:aZ w B p f n y z A (.slice (V<|S c 0 U) n r) v u x t)(L:bJ w c 0 a)(H:a.length=n)(hg:c≠f)(hn:n<=1000)(k:Nat)(hk:k<n)(d:Int):cP prog 213 #[.pointer<|V<|S p 0 U,Y Z k,Y Z d] w λe N=>e=bj (de #[])/\aZ N B p f n y z A (.slice (V<|S c 0 U) n r) v u x (qi a d k t)/\w.grownBy N (V f):=by
 have K:=h.f2;have R:=h.at k hk;have X:=h.frozen k;have aa:(k:Int)<(n:Int):=by omega
 have J:=ah<|h.set k d;have M:=ah<|h.grown k d;have P:dd (∀W,w.grownBy W (V f)->∀q,q<n->W.cell? (S c q U)=V (Y Z<|a.getD q 0)):=λW o q hq=>by
  have i:=L q (by rw[H];exact hq);rw[fV]at i;have b:c<w.1.size:=by rcases dc c w.1.size with G|G;exact G;simp[World.cell?,sV G]at i
  simp only[World.cell?]at i ⊢;rw[o.block c b λe=>hg<|aI e];exact i
 have I:=ah H;generalize t.getD k 0=q0 at*;clear h L H;unfold qi;go_enter func213,ntmps213;go_wp2;clear K R X;go_loopg [6] (n - (k+1)) (λgk iv wr=>∃m:Nat,k+1+m<=n/\gk=n - (k+1+m)/\iv=Y Z ((k+1+m:Nat):Int)/\aZ wr B p f n y z A (.slice (V<|S c 0 U) n r) v u x (dV t k d (1+m))/\w.grownBy wr (V f)/\sS (a.drop<|k+1)=m+sS (a.drop<|k+1+m));exact⟨0,by omega,rfl,by go_num,J,M,by rw[fV]⟩;clear J M;obtain⟨m,hm,rfl,rfl,j,o,g⟩:=hrel;have K:=j.f2;have c3:wr.cell? (S p 3 U)=V (.slice (V<|S c 0 U) n r):=az j.cell 3;have s:=ah j;have D:=ah o;have F:((k+1+m:Nat):Int)=(k:Int)+1+(m:Int):=by omega
 by_cases b:k+1+m<n
 .have T:=P.out wr o (k+1+m) b;have cq:=j.at (k+1+m) b;have fq:=j.frozen<|k+1+m;have i:(k:Int)+1+(m:Int)<(n:Int):=by omega
  rw[XZ (m:=k+1+m)<|by rw[I.out];exact b]at g;clear j o;generalize(dV t k d (1+m)).getD (k+1+m) 0=q at*;by_cases l:a.getD (k+1+m) 0=8
  .rw[aj l]at g;rw[l]at T;have O:dd (sS (a.drop<|k+1)=(m+1)+sS (a.drop<|k+1+(m+1))):=(by show _=_;rw[g,<-oZ (k+1)];omega);have Q:dd (aZ (wr.setCell (S f (k+1+m) U)<|Y Z d) B p f n y z A (.slice (V<|S c 0 U) n r) v u x<|dV t k d (1+(m+1))):=(by have:=s.out.set (k+1+m) d;show aZ _ _ _ _ _ _ _ _ _ _ _ _ (dV t k d (1+(m+1)));rw[show 1+(m+1)=(1+m)+1 by omega,dV,show k+(1+m)=k+1+m by omega];exact this);have E:dd (w.grownBy (wr.setCell (S f (k+1+m) U)<|Y Z d)<|V f):=D.out.trans<|s.out.grown (k+1+m) d;clear g l;go_wp2;go_roundg (n - (k+1+(m+1)));exact⟨m+1,by omega,rfl,by go_num,Q,E,O⟩;omega
  rw[ai l]at g;have q8:(a.getD (k+1+m) 0==8)=da:=(by simpa using l);have C:dd (1+sS (a.drop<|k+1)=1+m):=(by show _=_;omega);clear g l;generalize a.getD (k+1+m) 0=oq at*;go_wp2;go_end0;rw[C.out];exact⟨rfl,s,D⟩
 have i:¬(k:Int)+1+(m:Int)<(n:Int):=by omega
 have h2:decide ((k:Int)+1+(m:Int)<(n:Int))=da:=by simpa using i
 rw[XY (m:=k+1+m)<|by rw[I.out];exact b]at g;have C:dd (1+sS (a.drop<|k+1)=1+m):=by show _=_;omega
 clear j o g;go_wp2;go_end0;rw[C.out];exact⟨rfl,s,D⟩
def aqk(w:cw)(B O gc n C:Nat)(pv rv bv:cJ)(i s ay:Int)(t:aw)(h:aZ w B O gc n C pv rv bv i s ay t)(hn:n<=1000)(nG:0<=i)(a b:Nat)(al:a<b)(hb:b<n):cP prog 212 #[.pointer<|V<|S O 0 U,df #[Y Z a,Y Z b]] w λe y=>e=bj (Y Z<|wK t (a,b) (i%2) s)/\cD w.1.size w y:=by
 have v:cD w.1.size w (w.alloc<|bi #[Y Z a,Y Z b] 268):=(aA _ _).alloc (au _) _;have u:=h.below v;have c2:=u.f2;have c4:=u.f4;have am:n<=C:=by
  obtain⟨g',c',hv,hc,_⟩:=iq h.row (show 0<n by omega);have:C=c':=by have:=hv;simp at this;exact this.2
  omega
 have HA:dd (∀W,cD w.1.size w W->cP prog 250 #[.pointer<|V<|S O 0 U,Y Z a] W λe y=>e=bj (Y Z<|lM s t a)/\y=W):=λW J=>asD W B O gc n C pv rv bv i s ay t (h.below J) hn a<|by omega
 have HT:dd (∀W,cD w.1.size w W->∀k,k<n->W.cell? (S gc k U)=V (Y Z<|t.getD k 0)):=λW J k hk=>(h.below J).at k hk
 have FR:dd (∀W,cP prog 96 #[Y Z i] W λe y=>e=bj (Y Z<|i%2)/\y=W):=λW=>DI i W nG
 have aD:=ah v;obtain⟨own,o⟩:=ac<|i%2;rw[<-o]at FR ⊢;obtain⟨P,N⟩:=ac<|wK t (a,b) own s;rw[<-N];unfold wK at N;have R:=ah N;have g0:(w.alloc<|bi #[Y Z a,Y Z b] 268).cell? (S w.1.size 0 U)=V (Y Z a):=by go_simp
 have g1:(w.alloc<|bi #[Y Z a,Y Z b] 268).cell? (S w.1.size 1 U)=V (Y Z b):=by go_simp
 have ad:(a:Int)+1<=(b:Int):=by omega
 have ae:(b:Int)<=(C:Int):=by omega
 have We:((a:Int)+1).toNat=a+1:=by omega
 have af:(C:Int)≠(a:Int)+1:=by omega
 clear h v u o N;generalize ab:w.alloc (bi #[Y Z a,Y Z b] 268)=T at*;go_enter func212,ntmps212;go_wp2_with fail;refine(FR _).mono ?_;rintro l p ⟨rfl,hx⟩;have d:=hx.symm;subst d;clear ab;generalize w.1.size=bx at g0 g1 ⊢;go_wp2_with fail;go_quiet(fail);have A:dd (cD w.1.size w<|T.drewN nq):=gY aD _;have ak:(T.drewN nq).cell? (S bx 0 U)=V (Y Z a):=g0;generalize T.drewN nq=X at*;clear g0 g1 c2 c4 ad ae We af aD;obtain⟨m,hm⟩:=ac<|b - (a+1);rw[<-hm]at R ⊢;have HM:dd (a+1+m=b):=by show _=_;omega
 have nZ:m<=1000:=by omega
 clear hm;go_wp2;go_loopg [6,25] m (λgk wv iv W=>∃(j:Nat)(q:Int),j<=m/\gk=m - j/\wv=Y Z q/\iv=Y Z j/\W=X/\uf own t (a+1) m=uf own t (a+1+j) (m - j)/\uq t (a+1) m (-1)=uq t (a+1+j) (m - j) q);exact⟨0, -1,by omega,rfl,rfl,rfl,rfl,rfl,rfl⟩;obtain⟨j,q,hj,rfl,rfl,rfl,J,f,g⟩:=hrel;have aa:=J.symm;subst aa;by_cases an:j<m
 .have ag:(j:Int)<(m:Int):=by omega
  have ck:=HT.out X A (a+1+j) (by have:=HM.out;omega);obtain⟨r,hr⟩:∃r,m - j=r+1:=⟨m - j - 1,by omega⟩
  rw[hr,uf]at f;rw[hr,uq]at g;have M:m - (j+1)=r:=by omega
  generalize t.getD (a+1+j) 0=c at*;have z:dd (∀W,cP prog 217 #[Y Z c] W λe y=>e=bj (Y Z<|bH c)/\y=W):=λW=>PD c W
  generalize bH c=E at*;by_cases K:E=own
  .have G:dd (P=own):=(by show _=_;rw[R.out,f,K,aj<|by simp]);subst K;clear f g;go_wp2_with fail;refine(z _).mono ?_;rintro l p ⟨rfl,hx⟩;have d:=hx.symm;subst d;go_wp2;go_ret;exact⟨dX G.out.symm,A⟩
  have qo:(E==own)=da:=(by simpa using K);rw[qo,DM]at f;by_cases L:E= -1
  .rw[aj L]at g;have F:dd (uf own t (a+1) m=uf own t (a+1+(j+1)) (m - (j+1))/\uq t (a+1) m (-1)=uq t (a+1+(j+1)) (m - (j+1)) q):=⟨by rw[M];exact f,by rw[M];exact g⟩
   subst L;clear f g K;go_wp2_with fail;refine(z _).mono ?_;rintro l p ⟨rfl,hx⟩;have d:=hx.symm;subst d;go_wp2_with fail;refine(z _).mono ?_;rintro l p ⟨rfl,hx⟩;have d:=hx.symm;subst d;go_wp2;go_roundg (m - (j+1));exact⟨j+1,q,by omega,rfl,rfl,by go_num,rfl,F.out.1,F.out.2⟩;omega
  rw[ai L]at g;have F:dd (uf own t (a+1) m=uf own t (a+1+(j+1)) (m - (j+1))/\uq t (a+1) m (-1)=uq t (a+1+(j+1)) (m - (j+1)) E):=⟨by rw[M];exact f,by rw[M];exact g⟩
  have qs:(E != -1)=db:=(by simpa using L);clear f g K L;go_wp2_with fail;refine(z _).mono ?_;rintro l p ⟨rfl,hx⟩;have d:=hx.symm;subst d;go_wp2_with fail;refine(z _).mono ?_;rintro l p ⟨rfl,hx⟩;have d:=hx.symm;subst d;go_wp2_with fail;refine(z _).mono ?_;rintro l p ⟨rfl,hx⟩;have d:=hx.symm;subst d;go_wp2;go_roundg (m - (j+1));exact⟨j+1,E,by omega,rfl,rfl,by go_num,rfl,F.out.1,F.out.2⟩;omega
 have ag:¬(j:Int)<(m:Int):=by omega
 have hz:m - j=0:=by omega
 rw[hz]at f g;have H:uf own t (a+1) m=da:=f;have I:uq t (a+1) m (-1)=q:=g;have G:dd (P=if q≠ -1/\lM s t a≠q then own else q):=by show _=_;rw[R.out,H,I,ai<|by decide]
 have Ie:=ah<|HA X A;clear f g H I hz;generalize lM s t a=la at*;by_cases x:q= -1
 .have e:P= -1:=(by rw[G.out,ai λh=>h.1 x,x]);subst x;subst e;go_wp2;go_ret;exact⟨rfl,A⟩
 have qq:(q != -1)=db:=(by simpa using x);by_cases D:la=q
 .have e:P=q:=(by rw[G.out,ai λh=>h.2 D]);have ql:(la !=q)=da:=(by simp[D]);have Q:=ah e;clear D e x;go_wp2_with fail;refine Ie.out.mono ?_;rintro l p ⟨rfl,hx⟩;have d:=hx.symm;subst d;go_wp2;go_ret;exact⟨dX Q.out.symm,A⟩
 have e:P=own:=(by rw[G.out,aj ⟨x,D⟩]);have ql:(la !=q)=db:=(by simpa using D);have Q:=ah e;clear D e x;go_wp2_with fail;refine Ie.out.mono ?_;rintro l p ⟨rfl,hx⟩;have d:=hx.symm;subst d;go_wp2;go_ret;exact⟨dX Q.out.symm,A⟩
def mG.few {t b:aw}{a:List (Nat×Nat)}(h:mG t b a):a.length<=t.length:=by
 unfold mG at h;cases hp:dW t b t.length 0 ([],[])with
 |none=>rw[hp]at h;simp only at h;rw[h];simp
 |some c=>rw[hp]at h;have:=af0 _ _ _ _ lX.start hp;rw[h.1.length_eq];omega
def Ca(t a:aw)(c:List<|Nat×Nat)(own b:Int):aw:=c.foldl (λt p=>Dz t a p own b) t
def I2 {w a:cw}{r:Option Nat}(h:cD w.1.size w a):w.grownBy a r:=⟨h.os,h.tape,h.output,h.size,λk b _=>h.block k b⟩
def cell_grown {w d:cw}{r:Option Nat}(e:w.grownBy d r){a:Addr}{v:cJ}(h:w.cell? a=V v)(c:V a.block≠r):d.cell? a=V v:=by have b:=Um w _ h;simp only[World.cell?]at h ⊢;rw[e.block a.block b c];exact h
def bJ.grown {w f:cw}{b a d:Nat}{l:aw}(h:bJ w b a l)(g:w.grownBy f<|V d)(c:b≠d):bJ f b a l:=λi j=>cell_grown g (h i j) λe=>c<|aI e
def vQ.grown {w i:cw}{g b:Nat}{f:List (Nat×Nat)}(h:vQ w g f)(c:w.grownBy i<|V b)(a:g≠b):vQ i g f:=λj d=>
 ⟨cell_grown c (h j d).1 (λe=>a<|aI e),cell_grown c (h j d).2 (λe=>a<|aI e)⟩
def vQ.below {w d:cw}{g:Nat}{c:List (Nat×Nat)}(h:vQ w g c)(a:cD w.1.size w d):vQ d g c:=λj b=>
 ⟨cell_grown (r:=U) (I2 a) (h j b).1 (by simp),cell_grown (r:=U) (I2 a) (h j b).2 (by simp)⟩
def amH {a c:Type}(f:c->a->c)(b:c)(l:List a)(d:a)(j:Nat)(e:j<l.length):(l.take<|j+1).foldl f b=f ((l.take j).foldl f b) (l.getD j d):=by rw[uO,aK e,CY,aN,aK e];rfl
def arC(w:cw)(B l k n x r y o u:Nat)(C:cJ)(f i s:Int)(t rs c:aw)(h:aZ w B l k n x C (.slice (V<|S r 0 U) n y) (.slice (V<|S o 0 U) n u) f i s t)(hr:Ej w r n rs)(ho:bJ w o 0 c)(ab:c.length=n)(J:o≠k)(X:Br w)(hn:n<=1000)(nG:0<=f):cP prog 151 #[.pointer<|V<|S l 0 U] w λe D=>e=bj (de #[])/\aZ D B l k n x C (.slice (V<|S r 0 U) n y) (.slice (V<|S o 0 U) n u) f i s (Ca t c (Ce t rs) (f%2) i)/\w.grownBy D (V k):=by
 have M:dd (cP prog 211 #[.pointer<|V<|S l 0 U] w λe D=>∃v m,e=bj v/\mG t rs m/\p7 D w.1.size v m/\cD w.1.size w D):=akG w B l k n x r y C (.slice (V<|S o 0 U) n u) f i s t rs h hr X hn;have di:dd (∀W,cD w.1.size w W->aZ W B l k n x C (.slice (V<|S r 0 U) n y) (.slice (V<|S o 0 U) n u) f i s t):=λW hb=>h.below hb
 have HO:dd (∀W,w.grownBy W (V k)->bJ W o 0 c):=λW hg=>ho.grown hg J
 have HL:dd (c.length=n/\t.length=n):=⟨ab,h.len⟩
 have kR:k<w.1.size:=(h.row.lt k rfl).2;clear h hr ho ab X;go_enter func151,ntmps151;go_wp2_with fail;refine M.out.mono ?_;rintro ev w1 ⟨v,m,rfl,hI,hV,I⟩;clear M;have dK:dd (∀p∈m,p.1<p.2/\p.2<n):=λp hp=>by have:=hI.ok p hp;rw[HL.out.2]at this;exact this
 have O:=ah hI.is;have uh:m.length<=1000:=by have:=hI.few;rw[HL.out.2]at this;omega
 have Qz:w.grownBy w1 (V k):=(I2 I)
 have E:=di.out w1 I;clear di hI I;rcases hV with⟨rfl,a,cp,rfl⟩|⟨g,cp,rfl,af,vX,H⟩
 .have bh:=ah E;have mW:=ah Qz;clear E Qz dK uh;go_wp2;go_loopg [8] 0 (λgk iv W=>gk=0/\iv=Y Z 0/\W=w1);exact⟨rfl,rfl,rfl⟩;obtain⟨rfl,rfl,rfl⟩:=hrel;go_wp2;go_end0;exact⟨rfl,by rw[<-O.out];exact bh.out,mW⟩
 have P:g≠k:=by omega
 have bh:=ah E;have mW:=ah Qz;have Oz:=ah H;clear E Qz H af vX kR;obtain⟨N,hN⟩:=ac m.length;have nL:=ah hN.symm;rw[<-hN]at uh ⊢;clear hN;go_wp2;go_loopg [8] N (λgk iv W=>∃(j:Nat),j<=N/\gk=N - j/\iv=Y Z j/\aZ W B l k n x C (.slice (V<|S r 0 U) n y) (.slice (V<|S o 0 U) n u) f i s (Ca t c (m.take j) (f%2) i)/\w.grownBy W (V k)/\vQ W g m);exact⟨0,by omega,rfl,rfl,bh,mW,Oz⟩;clear bh mW Oz;obtain⟨j,hj,rfl,rfl,R,hG,H⟩:=hrel;have HS:=ah R;have HG:=ah hG;have HA:=ah H;by_cases ag:j<N
 .have K:j<m.length:=(by rw[nL.out];exact ag);obtain⟨p1,p2⟩:=H j K;obtain⟨T,nW⟩:=dK.out _ (dP (d:=(0,0)) K);have ad:=amH (λt p=>Dz t c p (f%2) i) t m (0,0) j K;have rY:dd (Ca t c (m.take<|j+1) (f%2) i=Dz (Ca t c (m.take j) (f%2) i) c (m.getD j (0,0)) (f%2) i):=ad;have Dh:(j:Int)<(N:Int):=(by omega);clear R hG H ad;generalize m.getD j (0,0)=p at*;obtain⟨a,b⟩:=p;simp only at p1 p2 T nW;generalize Ca t c (m.take j) (f%2) i=q at*;have F:cD wr.1.size wr (wr.alloc<|bi #[Y Z a,Y Z b] 268):=(aA _ _).alloc (au _) _;have rX:dd (cP prog 212 #[.pointer<|V<|S l 0 U,df #[Y Z a,Y Z b]] (wr.alloc<|bi #[Y Z a,Y Z b] 268) λe D=>e=bj (Y Z<|wK q (a,b) (f%2) i)/\cD (wr.alloc<|bi #[Y Z a,Y Z b] 268).1.size (wr.alloc<|bi #[Y Z a,Y Z b] 268) D):=aqk (wr.alloc<|bi #[Y Z a,Y Z b] 268) B l k n x C (.slice (V<|S r 0 U) n y) (.slice (V<|S o 0 U) n u) f i s q (HS.out.below F) hn nG a b T nW;have bL:dd (∀W,cD (wr.alloc<|bi #[Y Z a,Y Z b] 268).1.size (wr.alloc<|bi #[Y Z a,Y Z b] 268) W->aZ W B l k n x C (.slice (V<|S r 0 U) n y) (.slice (V<|S o 0 U) n u) f i s q/\w.grownBy W (V k)/\vQ W g m/\W.cell? (S wr.1.size 0 U)=V (Y Z a)/\W.cell? (S wr.1.size 1 U)=V (Y Z b)):=λW hb=>by have A:cD wr.1.size wr W:=F.trans<|hb.mono F.size;have hc:(wr.alloc<|bi #[Y Z a,Y Z b] 268).1[wr.1.size]? =V (bi #[Y Z a,Y Z b] 268 (0,0)):=pM;have aa:=aR hb hc;exact⟨HS.out.below A,HG.out.trans<|I2 A,HA.out.below A,az aa 0,az aa 1⟩
  have MN:k≠wr.1.size:=(by have:=(HS.out.row.lt k rfl).2;omega);clear F;obtain⟨z,hz⟩:=ac wr.1.size;go_wp2_with fail;refine rX.out.mono ?_;rintro ev w3 ⟨rfl,A⟩;obtain⟨jo,Mr,Q,z0,z1⟩:=bL.out w3 A;have gH:=ah jo;have KG:=ah Mr;have Z0:=ah Q;clear A rX bL jo Mr Q p1 p2;rw[<-hz]at z0 z1 MN ⊢;have HZ:=ah MN;clear hz MN;by_cases L:wK q (a,b) (f%2) i= -1
  .have HQ:dd (Dz q c (a,b) (f%2) i=q):=(by show _=_;rw[Dz,aj L]);rw[L];clear L;go_wp2;go_roundg (N - (j+1));exact⟨j+1,by omega,rfl,by go_num,by rw[rY.out,HQ.out];exact gH.out,KG,Z0⟩;omega
  have ak:(wK q (a,b) (f%2) i== -1)=da:=(by simpa using L);have HQ:dd (Dz q c (a,b) (f%2) i=qi c (wK q (a,b) (f%2) i) b (qi c (wK q (a,b) (f%2) i) a q)):=(by show _=_;rw[Dz,ai L]);clear L;generalize wK q (a,b) (f%2) i=d at*;have aD:dd (cP prog 213 #[.pointer<|V<|S l 0 U,Y Z a,Y Z d] w3 λe D=>e=bj (de #[])/\aZ D B l k n x C (.slice (V<|S r 0 U) n y) (.slice (V<|S o 0 U) n u) f i s (qi c d a q)/\w3.grownBy D (V k)):=ahh w3 B l k n x o u C (.slice (V<|S r 0 U) n y) f i s q c gH (HO w3 KG) HL.out.1 J hn a (by omega) d;have aG:dd (∀W,w.grownBy W (V k)->aZ W B l k n x C (.slice (V<|S r 0 U) n y) (.slice (V<|S o 0 U) n u) f i s (qi c d a q)->cP prog 213 #[.pointer<|V<|S l 0 U,Y Z b,Y Z d] W λe D=>e=bj (de #[])/\aZ D B l k n x C (.slice (V<|S r 0 U) n y) (.slice (V<|S o 0 U) n u) f i s (qi c d b<|qi c d a q)/\W.grownBy D (V k)):=λW hg R=>ahh W B l k n x o u C (.slice (V<|S r 0 U) n y) f i s _ c R (HO W hg) HL.out.1 J hn b nW d
  go_wp2_with fail;refine aD.out.mono ?_;rintro ev w4 ⟨rfl,kQ,G⟩;have nN:=ah kQ;have DV:=ah<|KG.out.trans G;have ae:=ah<|Z0.out.grown G P;have y1:w4.cell? (S z 1 U)=V (Y Z b):=cell_grown G z1 (λe=>HZ.out (aI e).symm);clear kQ G aD z0 z1;go_wp2_with fail;refine(aG w4 DV nN).mono ?_;rintro ev w5 ⟨rfl,tZ,bQ⟩;have eZ:=ah tZ;have Ih:=ah<|DV.out.trans bQ;have Su:=ah<|ae.out.grown bQ P;clear tZ bQ aG y1;go_wp2;go_roundg (N - (j+1));exact⟨j+1,by omega,rfl,by go_num,by rw[rY.out,HQ.out];exact eZ.out,Ih,Su⟩;omega
 obtain rfl:j=N:=(by omega);have Dh:¬(j:Int)<(j:Int):=(by omega);have HX:dd (aZ wr B l k n x C (.slice (V<|S r 0 U) n y) (.slice (V<|S o 0 U) n u) f i s<|Ca t c m (f%2) i):=by have:=HS.out;rw[jY<|by rw[nL.out];exact au _]at this;exact this
 clear R hG H;go_wp2;go_end0;exact⟨rfl,by rw[<-O.out];exact HX.out,HG⟩
structure NS(W:World)(B sb:Nat)(pv vr vc:Value)(ax:Int)(qr qc:aw):Prop where
 cell:W.1[sb]? =some (.cells #[pv,vr,vc,.slice none 0 0,.int .i64 ax,.int .i64 0,.int .i64 0] 220 (0,0))
 rr:W.ownsRow B 21 1 vr qr.length<|qN qr
 rc:W.ownsRow B 108 1 vc qc.length<|iv qc
 low:B<=sb
section
variable{W W':World}{B sb:Nat}{pv vr vc v':Value}{ax:Int}{qr qc:List Int}
def NS.below(h:NS W B sb pv vr vc ax qr qc)(a:cD W.1.size W W'):NS W' B sb pv vr vc ax qr qc:=⟨aR a h.cell,fS h.rr a,fS h.rc a,h.low⟩
def NS.N5 {y:Int}(h:NS W B sb pv vr vc ax qr qc)(a:W'.ownsRow B 21 1 v' (qr.length+1)<|qN qr++[Y .i32 y])(c:W.grownBy W' vr.ownBlock):NS (W'.setCell (S sb 1 U) v') B sb pv v' vc ax (qr++[y]) qc/\W'.cell? (S sb 1 U)=V vr/\W'.frozen? (S sb 1 U)=da:=by have f:=kq h.rr h.cell (by decide);have b:W'.1[sb]? =_:=(c.block sb (dg h.cell) λe=>f e.symm).trans h.cell;have d:W'.ownsRow B 108 1 vc qc.length (iv qc):=eW h.rc c (mP h.rc h.rr<|by decide);have g:v'.ownBlock≠V sb:=kq a b (by decide);have i:vc.ownBlock≠V sb:=kq d b (by decide);refine⟨⟨by rw[fe b];rfl,?_,kT d i 1 v',h.low⟩,az b 1,cB b 1⟩;rw[bG,qN,gu];exact kT a g 1 v'
def NS.ara {y:Int}(h:NS W B sb pv vr vc ax qr qc)(a:W'.ownsRow B 108 1 v' (qc.length+1)<|iv qc++[Y Z y])(c:W.grownBy W' vc.ownBlock):NS (W'.setCell (S sb 2 U) v') B sb pv vr v' ax qr (qc++[y])/\W'.cell? (S sb 2 U)=V vc/\W'.frozen? (S sb 2 U)=da:=by have f:=kq h.rc h.cell (by decide);have b:W'.1[sb]? =_:=(c.block sb (dg h.cell) λe=>f e.symm).trans h.cell;have d:W'.ownsRow B 21 1 vr qr.length (qN qr):=eW h.rr c (mP h.rr h.rc<|by decide);have g:v'.ownBlock≠V sb:=kq a b (by decide);have i:vr.ownBlock≠V sb:=kq d b (by decide);refine⟨⟨by rw[fe b];rfl,kT d i 2 v',?_,h.low⟩,az b 2,cB b 2⟩;rw[bG,iv,gu];exact kT a g 2 v'
end
def aqv(w:cw)(b g m n f k:Nat)(r c l:cJ)(p:Int)(a:aw)(h:Bl w b g m n f k r c l p a)(t:n<=1000)(d:Int):cP prog 141 #[.pointer<|V<|S b 0 U,Y Z d] w λe j=>e=bj (Y Z<|gT a d)/\j=w:=by
 have u:w.cell? (S b 1 U)=V (.slice (V<|S g 0 U) n f):=az h.cell 1;have s:dd (cP prog 199 #[.pointer<|V<|S b 0 U,Y Z 0,Y Z n] w λe j=>e=bj (Y Z<|found a)/\j=w):=by have:=OQ w b g m n f k r c l p a h t 0 n (n+1) (au _) (by omega) (by omega);rw[<-h.len,Yq,<-Qt a a.length 0 (by omega)]at this;rw[<-h.len];exact this
 unfold gT;generalize found a=x at*;clear h;by_cases o:d=0
 .subst o;rw[aj (.inl rfl)];go_enter func141,ntmps141;go_wp2;go_ret;exact⟨rfl,rfl⟩
 have y:=ae o;by_cases q:d=1
 .subst q;rw[aj (.inr rfl)];go_enter func141,ntmps141;go_wp2;go_ret;exact⟨rfl,rfl⟩
 rw[ai<|by omega];have z:=ae q;go_enter func141,ntmps141;go_wp2_with fail;refine s.out.mono ?_;rintro v A ⟨rfl,hx⟩;have i:=hx.symm;subst i;go_wp2;go_ret;exact⟨rfl,rfl⟩
def Hw(W:cw)(b i:Nat)(v:cJ):W.grownBy (W.setCell (S b i U) v) (V b):=⟨rfl,rfl,rfl,by simp,λk _ a=>iX _ _ _ _ (λe=>a<|by rw[e])⟩
def En(w:cw)(a:Obj)(r:Option Nat):w.grownBy (w.alloc a) r:=⟨rfl,rfl,rfl,by simp,λk b _=>dh w a k b⟩
def U2 {P:Program}{w:cw}{sT e ty:TypeId}{B g f n d:Nat}{c:List cJ}{a:Array cJ}(u:P.underlying sT=V (.slice e))(t:(P.info? e).map (·.size)=V 1)(l:w.1[g]? =V (bi a e (0,0)))(r:a.size=n)(m:w.ownsRow B e 1 (.slice (V<|S f 0 U) n d) n c)(q:∀v∈c,v.oneCell'=db):∃i,(Builtin.copy_ #[sT,sT] ty #[.slice (V<|S g 0 U) n n,.slice (V<|S f 0 U) n d]).run P w= .ok (Y Z n) i/\i.1[g]? =V (bi c.toArray e (0,0))/\w.grownBy i (V g):=by
 have b:c.length=n:=by have:=m.1;simpa using this
 have o:=run_copy_row (P:=P) w sT sT ty e g 0 n n (S f 0 U) n d a e c u t l (by rw[b];exact(Nat.min_self n).symm) (λj v s=>World.ownsRow.cells m rfl j v s) (by rw[b,r];omega) q;have p:a.toList.take 0++c++a.toList.drop (0+c.length)=c:=by rw[iZ,r8,lu<|by rw[b];simp;omega,mH]
 rw[p,b]at o;refine⟨_,o,setRow_heap _ _ _ _ _ _ l,⟨rfl,rfl,rfl,by simp[World.setRow],λk _ h=>setRow_other w g k _ (λe=>h<|by rw[e])⟩⟩
def LB(W:cw)(g:Nat)(a b c d e f:cJ):Prop:=W.1[g]? =V (bi #[a,b,c,d,e,f] 141 (0,0))
section
variable{W W':World}{lb:Nat}{a0 a1 a2 a3 a4 a5:Value}
def LB.c1(h:LB W lb a0 a1 a2 a3 a4 a5):W.cell? (S lb 1 U)=V a1:=az h 1
def LB.c2(h:LB W lb a0 a1 a2 a3 a4 a5):W.cell? (S lb 2 U)=V a2/\W.frozen? (S lb 2 U)=da:=⟨az h 2,cB h 2⟩
def LB.c3(h:LB W lb a0 a1 a2 a3 a4 a5):W.cell? (S lb 3 U)=V a3/\W.frozen? (S lb 3 U)=da:=⟨az h 3,cB h 3⟩
def LB.c4(h:LB W lb a0 a1 a2 a3 a4 a5):W.cell? (S lb 4 U)=V a4/\W.frozen? (S lb 4 U)=da:=⟨az h 4,cB h 4⟩
def LB.c5(h:LB W lb a0 a1 a2 a3 a4 a5):W.cell? (S lb 5 U)=V a5/\W.frozen? (S lb 5 U)=da:=⟨az h 5,cB h 5⟩
def LB.grown {r:Option Nat}(h:LB W lb a0 a1 a2 a3 a4 a5)(b:W.grownBy W' r)(a:V lb≠r):LB W' lb a0 a1 a2 a3 a4 a5:=(b.block lb (dg h) a).trans h
def LB.below(h:LB W lb a0 a1 a2 a3 a4 a5)(a:cD W.1.size W W'):LB W' lb a0 a1 a2 a3 a4 a5:=aR a h
def LB.s2(h:LB W lb a0 a1 a2 a3 a4 a5)(v:cJ):LB (W.setCell (S lb 2 U) v) lb a0 a1 v a3 a4 a5:=by unfold LB;rw[fe h];rfl
def LB.s3(h:LB W lb a0 a1 a2 a3 a4 a5)(v:cJ):LB (W.setCell (S lb 3 U) v) lb a0 a1 a2 v a4 a5:=by unfold LB;rw[fe h];rfl
def LB.s4(h:LB W lb a0 a1 a2 a3 a4 a5)(v:cJ):LB (W.setCell (S lb 4 U) v) lb a0 a1 a2 a3 v a5:=by unfold LB;rw[fe h];rfl
def LB.s5(h:LB W lb a0 a1 a2 a3 a4 a5)(v:cJ):LB (W.setCell (S lb 5 U) v) lb a0 a1 a2 a3 a4 v:=by unfold LB;rw[fe h];rfl
end
def jw {w b:cw}{B g n c:Nat}{e:TypeId}{d:List cJ}{r:Nat}(h:w.ownsRow B e 1 (.slice (V<|S g 0 U) n c) n d)(f:w.grownBy b<|V r)(a:g≠r):b.ownsRow B e 1 (.slice (V<|S g 0 U) n c) n d:=
 eW h f (.inr<|by simp[Value.ownBlock];exact a)
def Tryz.Y6:(prog.info? 108).map (·.size)=V 1:=by kernel_rfl
def TV(r c:aw)(d:List Bool)(b:Int)(g:ba)(n m G oc cc gl ol cl gf an cf u y ca:Nat)(w:cw)(hc:r.length=n)(hl:c.length=n)(hf:d.length=n)(hn:n<=100000)(hm:g.length=m)(aH:0<m)(nZ:m<=100000)(Q:∀p∈g,p<n) (ab:∀l∈c,0<=l/\l<=1000) (hp:0<=b/\b<=1000) (T:bJ w G oc r) (BR:bJ w gl ol c) (al:AZ w gf an d) (P:bJ w u y<|nl g) (kR:G<w.1.size) (X:gl<w.1.size) (vW:gf<w.1.size) (GF:u<w.1.size):cP prog 123 #[.slice (V<|S G oc U) n cc,.slice (V<|S gl ol U) n cl,.slice (V<|S gf an U) n cf,Y Z b,.slice (V<|S u y U) m ca] w λF w'=>F=bj (df #[.slice (V<|S u y U) m ca,Y Z (tW r c d b g).level,Y Z (tW r c d b g).aq,Y Z (tW r c d b g).ay])/\cD w.1.size w w':=by
 have K:g≠[]:=by intro e;rw[e]at hm;simp at hm;omega
 obtain⟨q,I⟩:=ac<|g.headD 0;obtain⟨f,J⟩:=ac<|g.getLastD 0;have ag:q<n:=by rw[I];exact Q _ (head_mem K)
 have QX:f<n:=by rw[J];exact Q _ (Ar K)
 obtain⟨i,nG⟩:=ac<|c.getD q 0;have B:0<=i/\i<=1000:=by rw[nG];exact ab _ (dP<|by rw[hl];exact ag)
 have HQ:dd (tW r c d b g=⟨g,i,jA i<|lD c d b q,jA i<|rz r c d b f⟩):=by show _=_;rw[nG,I,J];rfl
 rw[HQ.out];simp only;have D:∀k,k<n->0<=c.getD k 0/\c.getD k 0<=1000:=λk hk=>ab _ (dP<|by rw[hl];exact hk)
 have ap:dd (∀k,k<=n->0<=lD c d b k/\lD c d b k<=1000):=by
  intro k
  induction k with
  |zero=>intro _;exact hp
  |succ k ih=>intro hk;rw[lD];split;exact D k (by omega);exact ih<|by omega
 have ar:dd (∀k,k<=n->0<=nu c d b n k/\nu c d b n k<=1000):=by
  intro k
  induction k with
  |zero=>intro _;exact hp
  |succ k ih=>intro hk;rw[nu];split;exact D _ (by omega);exact ih<|by omega
 have HP:=ah hp;have N:dd (r.length=n/\c.length=n/\d.length=n):=⟨hc,hl,hf⟩
 have LZ:w.cell? (S u y U)=V (Y Z (q:Nat)):=by
  have:=P 0 (by rw[iz];omega);rw[pH _ _ (by omega),qE]at this;rw[this,I];cases g with
  |nil=>exact absurd rfl K
  |cons a l=>rfl
 have ak:w.cell? ⟨u,y+(m - 1),U⟩=V (Y Z (f:Nat)):=by have:=P (m - 1) (by rw[iz];omega);rw[pH _ _ (by omega)]at this;rw[this,J];congr 3;rw[tK,IC,hm,aN]
 have UR:=BR q (by rw[hl];exact ag);rw[<-nG]at UR;have UQ:=T f (by rw[hc];exact QX);obtain⟨Jb,VY⟩:=ac<|r.getD f 0;rw[<-VY]at UQ;obtain⟨C,H⟩:=ac<|(w.alloc<|bi #[R U 0 0,Y Z 0,Y Z 0,Y Z 0] 120).alloc (bi #[.slice (V<|S u y U) m ca,Y Z i,Y Z 0,Y Z 0] 120);have o:cD w.1.size w C:=by rw[H];exact((aA _ _).alloc (au _) _).alloc (by simp) _
 have aD:=ah o;have A9:=ah<|T.stay o kR;have DY:=ah<|BR.stay o X;have CB:=ah<|al.stay o vW;have ao:dd (C.cell? (S u y U)=V (Y Z (q:Nat))/\C.cell? ⟨u,y+(m - 1),U⟩=V (Y Z (f:Nat))/\C.cell? (S G (oc+f) U)=V (Y Z Jb)):=⟨by rw[o.cell (p:=(S u y U)) GF];exact LZ,by rw[o.cell (p:=⟨u,y+(m - 1),U⟩) GF];exact ak,by rw[o.cell (p:=(S G (oc+f) U)) kR];exact UQ⟩
 have av:=ah VY;have yS:cD w.1.size w (w.alloc<|bi #[R U 0 0,Y Z 0,Y Z 0,Y Z 0] 120):=(aA _ _).alloc (au _) _;have aB:(w.alloc<|bi #[R U 0 0,Y Z 0,Y Z 0,Y Z 0] 120).cell? (S u y U)=V (Y Z (q:Nat)):=by rw[yS.cell (p:=(S u y U)) GF];exact LZ
 have aC:(w.alloc<|bi #[R U 0 0,Y Z 0,Y Z 0,Y Z 0] 120).cell? (S gl (ol+q) U)=V (Y Z i):=by rw[yS.cell (p:=(S gl (ol+q) U)) X];exact UR
 have aF:dd (G<C.1.size):=by have:=o.size;show G<C.1.size;omega
 have uK:=ah H;clear yS LZ UR;clear T BR al P kR X vW hc hl hf Q ab hp D K I J nG VY o UQ ak GF;go_enter func123,ntmps123;go_wp2;rw[<-H];clear H aB aC;obtain⟨q0,q1,q2⟩:=ao.out;go_loopg [12,13] q (λgh bv kv W=>∃k:Nat,k<=q/\gh=q - k/\bv=Y Z (lD c d b k)/\kv=Y Z k/\W=C);exact⟨0,by omega,rfl,rfl,rfl,rfl⟩;obtain⟨k,hk,rfl,rfl,rfl,hW⟩:=hrel;have O:=hW.symm;subst O;by_cases aa:k<q
 .have L3:=CB.out k (by rw[N.out.2.2];omega);have az:=DY.out k (by rw[N.out.2.1];omega);have A:=show lD c d b (k+1)=if d.getD k da=db then c.getD k 0 else lD c d b k from rfl
  have aG:k<n:=by omega
  generalize c.getD k 0=l at*;cases hb:d.getD k da
  .rw[hb]at L3 A;have M:dd (lD c d b (k+1)=lD c d b k):=(by show _=_;rw[A];rfl);clear A hb;go_wp2;go_roundg (q - (k+1));exact⟨k+1,by omega,rfl,by rw[M.out],by simp,rfl⟩;omega
  rw[hb]at L3 A;have M:dd (lD c d b (k+1)=l):=(by show _=_;rw[A];rfl);clear A hb;go_wp2;go_roundg (q - (k+1));exact⟨k+1,by omega,rfl,by rw[M.out],by simp,rfl⟩;omega
 obtain rfl:q=k:=by omega
 clear aa;obtain⟨m',rfl⟩:∃m',m=m'+1:=⟨m - 1,by omega⟩
 rw[pS]at q1;have pN:=ap.out q (by omega);generalize yT:lD c d b q=I5 at*;have Kw:=ah yT;clear yT;go_wp2_with fail;refine(Dq Jb _).mono ?_;rintro F L ⟨rfl,hx⟩;have E:=hx.symm;subst E;go_wp2;go_loopg [15,17] (n - (f+1)) (λgh bv kv W=>∃j:Nat,j<=n - (f+1)/\gh=n - (f+1) - j/\bv=Y Z (nu c d b n j)/\kv=Y Z ((n:Int) - 1 - j)/\W=C);exact⟨0,by omega,rfl,rfl,by simp,rfl⟩;obtain⟨j,hj,rfl,rfl,rfl,hW⟩:=hrel;have O:=hW.symm;subst O;by_cases aa:j<n - (f+1)
 .obtain⟨p,hp⟩:=ac<|n - (j+1);have am:(n:Int) - 1 - (j:Int)=(p:Int):=(by omega);rw[am];have uh:p<n:=(by omega);have aI:f<p:=(by omega);have L3:=CB.out p (by rw[N.out.2.2];exact uh);have az:=DY.out p (by rw[N.out.2.1];exact uh);have A:=show nu c d b n (j+1)=if d.getD (n - (j+1)) da=db then c.getD (n - (j+1)) 0 else nu c d b n j from rfl
  rw[<-hp]at A;have ae:dd ((p:Int) - 1=(n:Int) - 1 - ((j+1:Nat):Int)):=(by show _=_;omega);generalize c.getD p 0=l at*;clear hp am;cases hb:d.getD p da
  .rw[hb]at L3 A;have M:dd (nu c d b n (j+1)=nu c d b n j):=(by show _=_;rw[A];rfl);clear A hb;go_wp2;go_roundg (n - (f+1) - (j+1));exact⟨j+1,by omega,rfl,by rw[M.out],by rw[ae.out],rfl⟩;omega
  rw[hb]at L3 A;have M:dd (nu c d b n (j+1)=l):=(by show _=_;rw[A];rfl);clear A hb;go_wp2;go_roundg (n - (f+1) - (j+1));exact⟨j+1,by omega,rfl,by rw[M.out],by rw[ae.out],rfl⟩;omega
 obtain rfl:j=n - (f+1):=(by omega);rw[show(n:Int) - 1 - ((n - (f+1):Nat):Int)=(f:Int)by omega];clear aa;have oP:=ar.out (n - (f+1)) (by omega);have x:rz r c d b f=if aU Jb=db/\mt r f=n then b else nu c d b n (n - (f+1)):=by unfold rz;rw[<-av.out,N.out.1]
 generalize nu c d b n (n - (f+1))=I6 at*;cases bK:aU Jb
 .have Ky:dd (rz r c d b f=I6):=(by show _=_;rw[x,bK,ai<|by simp]);clear x bK;rw[uK.out];go_wp2_with fail;refine(Kk i I5 _ B.1 B.2 pN.1 pN.2).mono ?_;rintro F L ⟨rfl,rfl⟩;generalize s:jA i I5=s1 at*;have bh:=ah s;clear s;go_wp2_with fail;refine(Kk i I6 _ B.1 B.2 oP.1 oP.2).mono ?_;rintro F L ⟨rfl,rfl⟩;generalize t:jA i I6=s2 at*;have bL:=ah t;clear t;go_wp2;refine bU (v:=df #[.slice (V<|S u y U) (m'+1) ca,Y Z i,Y Z s1,Y Z s2]) (by simp[results,results123,Tryz.isAgg120,Tryz.sizeOf120,go_sem]) rfl ⟨?_,?_⟩;rw[Kw.out,bh.out,Ky.out,bL.out];exact((aA _ _).alloc (au _) _).alloc (by simp) _
 have Wu:=vz r f (by rw[N.out.1];omega);rw[bK]at x;have ad:dd (cP prog 115 #[.slice (V<|S G oc U) n cc,Y Z f] C λe w2=>e=bj (Y Z<|mt r f)/\w2=C):=NM r f G oc cc n C N.out.1 (by omega) (by omega) A9.out;generalize mt r f=z at*;clear bK;by_cases hz:z=n
 .have Ky:dd (rz r c d b f=b):=(by show _=_;rw[x,aj ⟨rfl,hz⟩]);have af:=HP.out;have aE:((z:Int)==(n:Int))=db:=(by simp[hz]);clear x hz Wu;go_wp2_with fail;refine ad.out.mono ?_;rintro F L ⟨rfl,hx⟩;have E:=hx.symm;subst E;rw[uK.out];go_wp2_with fail;refine(Kk i I5 _ B.1 B.2 pN.1 pN.2).mono ?_;rintro F L ⟨rfl,rfl⟩;generalize s:jA i I5=s1 at*;have bh:=ah s;clear s;go_wp2_with fail;refine(Kk i b _ B.1 B.2 af.1 af.2).mono ?_;rintro F L ⟨rfl,rfl⟩;generalize t:jA i b=s2 at*;have bL:=ah t;clear t;go_wp2;refine bU (v:=df #[.slice (V<|S u y U) (m'+1) ca,Y Z i,Y Z s1,Y Z s2]) (by simp[results,results123,Tryz.isAgg120,Tryz.sizeOf120,go_sem]) rfl ⟨?_,?_⟩;rw[Kw.out,bh.out,Ky.out,bL.out];exact((aA _ _).alloc (au _) _).alloc (by simp) _
 have Ky:dd (rz r c d b f=I6):=(by show _=_;rw[x,ai λh=>hz h.2]);have aE:((z:Int)==(n:Int))=da:=(by simp;omega);clear x hz Wu;go_wp2_with fail;refine ad.out.mono ?_;rintro F L ⟨rfl,hx⟩;have E:=hx.symm;subst E;rw[uK.out];go_wp2_with fail;refine(Kk i I5 _ B.1 B.2 pN.1 pN.2).mono ?_;rintro F L ⟨rfl,rfl⟩;generalize s:jA i I5=s1 at*;have bh:=ah s;clear s;go_wp2_with fail;refine(Kk i I6 _ B.1 B.2 oP.1 oP.2).mono ?_;rintro F L ⟨rfl,rfl⟩;generalize t:jA i I6=s2 at*;have bL:=ah t;clear t;go_wp2;refine bU (v:=df #[.slice (V<|S u y U) (m'+1) ca,Y Z i,Y Z s1,Y Z s2]) (by simp[results,results123,Tryz.isAgg120,Tryz.sizeOf120,go_sem]) rfl ⟨?_,?_⟩;rw[Kw.out,bh.out,Ky.out,bL.out];exact((aA _ _).alloc (au _) _).alloc (by simp) _
def ah8 {P:Program}(w:cw){r:Array Oper}{rest:List Oper}{o:Oper}{a:Act}{Q:Exit->Act->cw->Prop}(B:o.guard=U)(s x:Operand)(t:TypeId) (L:o.op= .call {callee:= .builtin .append,args:=#[s,x],argTypes:=#[t,t]}) (d:Nat) (e:TypeId) (i:TypeInfo) (z:cJ) (bytes:Nat) (N:P.underlying t=V (.slice e)) (J:P.info? e=V i) (O:i.zero=V z) (l:i.size=1) (A:i.bytes=bytes) (C:z.cells.size=1) (R:bytes<=64) (v:cJ) (n:Nat) (D:List cJ) (M:a.eval s=v) (q:w.ownsRow d e 1 v n D) (g m c:Nat) (b:List cJ) (hx:a.eval x= .slice (V<|S g 0 U) m c) (T:b.length=m) (k:∀j u,b[j]? =V u->w.cell? (S g j U)=V u) (F:∀u∈b,u.oneCell'=db) (X:n<=1000000) (W:m<=1000000) (f:d<=w.1.size) (h:∀p y,y.ownsRow d e 1 p (n+m) (D++b)->w.grownBy y v.ownBlock->(p.ownBlock=v.ownBlock∨p.ownBlock=V w.1.size)->wpList P r Q rest (a.put o.dst p) y):wpList P r Q (o::rest) a w:=by refine nY _ B s x t L d e i z 1 bytes N J O l A C (by decide) v n D M q (S g 0 U) m c b hx (by omega) ?_ F ?_ ?_ f ?_;intro j u K;have:=k j u K;simp only[Addr.add];split;rename_i E;subst E;exact this;simpa using this;unfold maxLen;omega;have:(n+m)*bytes<=2000000*64:=zT (by omega) R;omega;intro p y G H _ I;exact h p y G H I
def aic {P:Program}(w:cw){l:Array Oper}{rest:List Oper}{o:Oper}{a:Act}{Q:Exit->Act->cw->Prop}(E:o.guard=U)(s x:Operand)(t:TypeId) (O:o.op= .call {callee:= .builtin .append,args:=#[s,x],argTypes:=#[t,t]}) (b:Nat) (e:TypeId) (i:TypeInfo) (z:cJ) (bytes:Nat) (T:P.underlying t=V (.slice e)) (N:P.info? e=V i) (W:i.zero=V z) (f:i.size=4) (D:i.bytes=bytes) (H:z.cells.size=4) (X:bytes<=64) (v:cJ) (n:Nat) (I:List cJ) (R:a.eval s=v) (g:w.ownsRow b e 4 v n I) (q r y A:cJ) (K:TypeId) (k:Nat) (hx:a.eval x= .slice (V<|S k 0 U) 1 1) (F:k=w.1.size) (L:q.oneCell'=db) (M:r.oneCell'=db) (B:y.oneCell'=db) (d:A.oneCell'=db) (Y:n<=1000000) (C:b<=w.1.size) (h:∀p m,m.ownsRow b e 4 p (n+1) (I++[q,r,y,A])->w.grownBy m v.ownBlock->wpList P l Q rest (a.put o.dst p) m):wpList P l Q (o::rest) a (w.alloc<|bi #[q,r,y,A] K):=by
 subst F;refine Kt _ E s x t O b e i z 4 bytes T N W f D H (by decide) v n I R (g.alloc _) (S w.1.size 0 U) 1 1 [q,r,y,A] hx rfl ?_ ?_ ?_ ?_ ?_ ?_
 .intro j u c
  match j,c with
  |0,c=>simp at c;subst c;simp[Addr.add]
  |1,c=>simp at c;subst c;simp[Addr.add]
  |2,c=>simp at c;subst c;simp[Addr.add]
  |3,c=>simp at c;subst c;simp[Addr.add]
 .intro u J;simp at J;rcases J with rfl|rfl|rfl|rfl;exact L;exact M;exact B;exact d
 .unfold maxLen;omega
 .have:(n+1)*bytes<=1000001*64:=zT (by omega) X;omega
 .simp;omega
 intro p m B d _;refine h p m B ⟨d.os,d.tape,d.output,?_,λk F G=> ?_⟩;have:=d.size;simp at this;omega;rw[d.block k (by simp;omega) G];exact dh w _ k F
def wP:List cJ->List Sq->List cJ
 |a::dL,s::ss=>a::Y Z s.level::Y Z s.aq::Y Z s.ay::wP dL ss
 |_,_=>[]
def ahs:∀(c:List cJ)(d:List Sq)(a:cJ)(s:Sq),c.length=d.length->wP (c++[a]) (d++[s])=wP c d++[a,Y Z s.level,Y Z s.aq,Y Z s.ay]
 |[],[],a,s,_=>rfl
 |b::c,t::d,a,s,h=>by simp[wP,ahs c d a s<|by simpa using h]
structure o7(w0 w:World)(B:Nat)(oG ov cv:Value)(vs dL:List Value)(rs:List ba)(ss:List Sq)(cur:ba):Prop where
 below:Below B w0 w
 base:B<=w.1.size
 DC:w.ownsRow B 31 1 oG rs.length vs
 old:∀i,i<rs.length->w.ownsRow B 3 1 (vs.getD i .nilFunc) (rs.getD i []).length (iv<|nl<|rs.getD i [])
 out:w.ownsRow B 120 4 ov ss.length<|wP dL ss
 F9:dL.length=ss.length
 done:∀i,i<ss.length->w.ownsRow B 3 1 (dL.getD i .nilFunc) (ss.getD i ⟨[],0,0,0⟩).at'.length (iv<|nl (ss.getD i ⟨[],0,0,0⟩).at')
 cur':w.ownsRow B 3 1 cv cur.length<|iv<|nl cur
 Ux:∀i,i<rs.length->qP (vs.getD i .nilFunc).ownBlock cv.ownBlock
 Uw:∀i,i<ss.length->qP (dL.getD i .nilFunc).ownBlock cv.ownBlock
section
variable{w0 w w':World}{B:Nat}{oG ov cv:Value}{vs dL:List Value}{rs:List (List Nat)}{ss:List Sq}{cur:List Nat}
def o7.call(h:o7 w0 w B oG ov cv vs dL rs ss cur)(a:cD w.1.size w w'):o7 w0 w' B oG ov cv vs dL rs ss cur:=
 ⟨h.below.trans<|a.mono h.base,bM h.base a.size,fS h.DC a,λi b=>fS (h.old i b) a,fS h.out a,h.F9,λi b=>fS (h.done i b) a,fS h.cur' a,h.Ux,h.Uw⟩
def o7.drop(h:o7 w0 w B oG ov cv vs dL rs ss cur):o7 w0 w B oG ov (R U 0 0) vs dL rs ss []:=
 ⟨h.below,h.base,h.DC,h.old,h.out,h.F9,h.done,⟨rfl,.inl ⟨rfl,rfl⟩⟩,λ_ _ k _ a=>(by cases a),λ_ _ k _ a=>(by cases a)⟩
def qP.fresh {w:cw}{a c b:Option Nat}(h:qP b a)(d:c=a∨c=V w.1.size)(g:∀k,b=V k->k<w.1.size):qP b c:=by intro k f e;rcases d with rfl|d;exact h k f e;rw[d]at e;have:=aI e;have:=g k f;omega
def o7.app {c:cJ}{r:ba}(h:o7 w0 w B oG ov cv vs dL rs ss cur)(e:w'.ownsRow B 3 1 c (cur.length+r.length)<|iv (nl cur)++iv (nl r))(b:w.grownBy w' cv.ownBlock)(d:c.ownBlock=cv.ownBlock∨c.ownBlock=V w.1.size):o7 w0 w' B oG ov c vs dL rs ss (cur++r):=
 ⟨h.below.grown b h.base<|wJ h.cur',bM h.base b.size,eW h.DC b<|mP h.DC h.cur'<|by decide,λi a=>eW (h.old i a) b (h.Ux i a).ne,eW h.out b<|mP h.out h.cur'<|by decide,h.F9,
  λi a=>eW (h.done i a) b (h.Uw i a).ne,by simpa [iv,nl]using e,λi a=>(h.Ux i a).fresh d (vE<|h.old i a),λi a=>(h.Uw i a).fresh d (vE<|h.done i a)⟩
def o7.push {f:cJ}{s:Sq}(h:o7 w0 w B oG ov cv vs dL rs ss cur)(l:s.at'=cur)(g:w'.ownsRow B 120 4 f (ss.length+1)<|wP dL ss++[cv,Y Z s.level,Y Z s.aq,Y Z s.ay])(a:w.grownBy w' ov.ownBlock):o7 w0 w' B oG f (R U 0 0) vs (dL++[cv]) rs (ss++[s]) []:=by refine⟨h.below.grown a h.base<|wJ h.out,bM h.base a.size,eW h.DC a<|mP h.DC h.out<|by decide,λi c=>eW (h.old i c) a<|mP (h.old i c) h.out<|by decide,?_,by simp[h.F9],?_,⟨rfl,.inl ⟨rfl,rfl⟩⟩,λ_ _ k _ e=>(by cases e),λ_ _ k _ e=>(by cases e)⟩;rw[ahs _ _ _ _ h.F9];simpa using g;intro i c;simp only[bG,eU,kW]at c;have j:=h.F9;rcases dc i ss.length with b|b;simp only[aN];rw[uM<|by omega,uM b];have:=eW (h.done i b) a (mP (h.done i b) h.out<|by decide);simpa [aN]using this;have d:i=ss.length:=(by omega);subst d;simp only[aN];rw[tH<|by omega,tH<|by omega,j,pT];have:=eW h.cur' a (mP h.cur' h.out<|by decide);simpa [l]using this
end
structure XR(w0 w:World)(B s g2 g3 g4 len:Nat)(x:XS)(ls ks:aw)(fs:List Bool):Prop where
 st:∃v,dG w B s v x.st x.aM x.aV x.valid
 lv:aW w B 3 g2 len<|iv ls
 kd:aW w B 3 g3 len<|iv ks
 lf:aW w B 4 g4 len<|bv fs
 be:Below B w0 w
def XR.call {l w g:cw}{B s g2 g3 g4 a:Nat}{x y:XS}{k j:aw}{i:List Bool}(h:XR l w B s g2 g3 g4 a x k j i)(c:g2≠s)(d:g3≠s)(e:g4≠s)(b:Fr B s w g)(f:∃v,dG g B s v y.st y.aM y.aV y.valid):XR l g B s g2 g3 g4 a y k j i:=
 ⟨f,YL h.lv b.AA (by decide)<|by simp[Value.ownBlock,c],YL h.kd b.AA (by decide)<|by simp[Value.ownBlock,d],YL h.lf b.AA (by decide)<|by simp[Value.ownBlock,e],h.be.trans b.below⟩
def dG.alloc {w:cw}{B s:Nat}{v:cJ}{d:List aY}{a b c:Int}(h:dG w B s v d a b c)(o:Obj):dG (w.alloc o) B s v d a b c:=h.below<|(aA _ _).alloc (au _) o
def dG.setOther {w:cw}{B s:Nat}{v:cJ}{d:List aY}{a b c:Int}(h:dG w B s v d a b c){g:Nat}(k:Nat)(u:cJ)(j:g≠s)(m:∀f,w.1[g]? ≠V (bi f 181 (0,0))):dG (w.setCell (S g k U) u) B s v d a b c:=by
 refine⟨?_,kT h.row ?_ k u,h.low⟩;rw[iX];exact h.cell;exact λe=>j e.symm
 rcases h.row.2 with⟨rfl,_⟩|⟨o,n,i,rfl,_,l,_⟩;simp[Value.ownBlock];simp only[Value.ownBlock];intro e;obtain rfl:=aI e;exact m _ l
def aW.kind {w:cw}{B g n:Nat}{e:TypeId}{j:List cJ}(h:aW w B e g n j)(f:e≠181):∀c,w.1[g]? ≠V (bi c 181 (0,0)):=by intro c i;rcases h.2 with⟨b,_⟩|⟨l,k,d,b,_,a,_⟩;cases b;simp only[lY,CZ,Addr.mk.injEq,and_true,lq]at b;obtain⟨rfl,rfl⟩:=b;rw[i]at a;simp at a;exact f a.2.symm
def XR.alloc {f w:cw}{B s g2 g3 g4 b:Nat}{x:XS}{e d:aw}{c:List Bool}(h:XR f w B s g2 g3 g4 b x e d c)(o:Obj):XR f (w.alloc o) B s g2 g3 g4 b x e d c:=by obtain⟨v,a⟩:=h.st;exact⟨⟨v,a.alloc o⟩,h.lv.alloc o,h.kd.alloc o,h.lf.alloc o,h.be.alloc (bM a.low<|gV a.lt) o⟩
def XR.Hv {g w:cw}{B s g2 g3 g4 b:Nat}{x:XS}{d f:aw}{e:List Bool}(h:XR g w B s g2 g3 g4 b x d f e)(i:g2≠s)(j:g3≠g2)(l:g4≠g2)(k:Nat)(a:Int):XR g (w.setCell (S g2 k U)<|Y Z a) B s g2 g3 g4 b x (d.set k a) f e:=by obtain⟨v,c⟩:=h.st;exact⟨⟨v,c.setOther k _ i (h.lv.kind<|by decide)⟩,JU d k a▸h.lv.set k _,h.kd.setOther g2 k _ j,h.lf.setOther g2 k _ l,h.be.setCell h.lv.ge.1 _⟩
def XR.Y1 {g w:cw}{B s g2 g3 g4 b:Nat}{x:XS}{f d:aw}{e:List Bool}(h:XR g w B s g2 g3 g4 b x f d e)(i:g3≠s)(j:g2≠g3)(l:g4≠g3)(k:Nat)(a:Int):XR g (w.setCell (S g3 k U)<|Y Z a) B s g2 g3 g4 b x f (d.set k a) e:=by obtain⟨v,c⟩:=h.st;exact⟨⟨v,c.setOther k _ i (h.kd.kind<|by decide)⟩,h.lv.setOther g3 k _ j,JU d k a▸h.kd.set k _,h.lf.setOther g3 k _ l,h.be.setCell h.kd.ge.1 _⟩
def XR.mo {g w:cw}{B s g2 g3 g4 b:Nat}{x:XS}{f e:aw}{c:List Bool}(h:XR g w B s g2 g3 g4 b x f e c)(i:g4≠s)(j:g2≠g4)(l:g3≠g4)(k:Nat)(a:Bool):XR g (w.setCell (S g4 k U)<|ce a) B s g2 g3 g4 b x f e (c.set k a):=by obtain⟨v,d⟩:=h.st;exact⟨⟨v,d.setOther k _ i (h.lf.kind<|by decide)⟩,h.lv.setOther g4 k _ j,h.kd.setOther g4 k _ l,UN c k a▸h.lf.set k _,h.be.setCell h.lf.ge.1 _⟩
structure Gs(B s g2 g3 g4:Nat):Prop where
 s:s=B+1
 g2:g2=B+2
 g3:g3=B+3
 g4:g4=B+4
def jD(b:aw)(a:Int)(d w:cw)(B c:Nat)(x:XS)(k:Nat):Prop:=
 XR d w B (B+1) (B+2) (B+3) (B+4) c x (upto (bf b a) 0 k) (upto (je b a) 0 k) (upto (aO b) da k)
def ail {b:aw}{a:Int}{k:Nat}(c:k<b.length):(bf b a)[k]? =V (iM b a k).l:=by simp[bf,c]
def aih {b:aw}{a:Int}{k:Nat}(c:k<b.length):(je b a)[k]? =V (kindOf (b.getD k 0)<|iM b a k):=by simp[je,c]
def aii {a:aw}{k:Nat}(b:k<a.length):(aO a)[k]? =V (bX<|a.getD k 0):=by simp[aO,b]
def jD.stored {b:aw}{a:Int}{i w:cw}{B s g2 g3 g4 d:Nat}{x:XS}{k:Nat}(h:jD b a i w B d x k)(q:Gs B s g2 g3 g4)(g:k<b.length)(e:aY)(m:e=iM b a k)(o:Obj)(l c:Int)(f:Bool)(p:l=e.l)(j:c=kindOf (b.getD k 0) e)(n:f=bX (b.getD k 0)):jD b a i ((((w.alloc o).setCell (S g2 k U) (Y Z l)).setCell (S g3 k U) (Y Z c)).setCell (S g4 k U) (ce f)) B d x (k+1):=by obtain⟨rfl,rfl,rfl,rfl⟩:=q;subst p j n m;unfold jD;rw[<-Ks _ _ _ _ (ail g),<-Ks _ _ _ _ (aih g),<-Ks _ _ _ _ (aii g)];exact(((XR.alloc h o).Hv (by omega) (by omega) (by omega) k _).Y1 (by omega) (by omega) (by omega) k _).mo (by omega) (by omega) (by omega) k _
def jD.Kn {b:aw}{a:Int}{j w:cw}{B s g2 g3 g4 d:Nat}{x:XS}{k:Nat}(h:jD b a j w B d x k)(r:Gs B s g2 g3 g4)(g:k<b.length)(e:aY)(n:e=iM b a k)(o:Obj)(l c i:Int)(f:Bool)(q:l=e.l)(m:c=kindOf (b.getD k 0) e)(p:f=bX (b.getD k 0)):jD b a j (((((w.alloc o).setCell (S g2 k U) (Y Z l)).setCell (S g3 k U) (Y Z i)).setCell (S g4 k U) (ce f)).setCell (S g3 k U) (Y Z c)) B d x (k+1):=by obtain⟨rfl,rfl,rfl,rfl⟩:=r;subst q m p n;unfold jD;rw[<-Ks _ _ _ _ (ail g),<-Ks _ _ _ _ (aih g),<-Ks _ _ _ _ (aii g)];have:=((((XR.alloc h o).Hv (by omega) (by omega) (by omega) k (iM b a k).l).Y1 (by omega) (by omega) (by omega) k i).mo (by omega) (by omega) (by omega) k (bX<|b.getD k 0)).Y1 (by omega) (by omega) (by omega) k (kindOf (b.getD k 0)<|iM b a k);rw[Uf]at this;exact this
def jD.start(h:aw)(b:Int)(w:cw)(a:Nat)(l:h.length=a)(E:a<=100000):jD h b w (((((w.alloc<|bi #[Y Z b,Y Z (-1),ce da] 181).alloc (bi #[.slice (V<|S w.1.size 0 U) 1 1,Y Z 0,Y Z 0,Y Z 0] 184)).alloc
   (bi (madeCells #[Y Z 0] a) 3)).alloc (bi (madeCells #[Y Z 0] a) 3)).alloc (bi (madeCells #[ce da] a) 4)) w.1.size a (fE h b 0) 0:=by
 have y:iv (upto (bf h b) 0 0)=List.replicate a (Y Z 0):=by rw[ZF];simp[iv,bf,l]
 have A:iv (upto (je h b) 0 0)=List.replicate a (Y Z 0):=by rw[ZF];simp[iv,je,l]
 have C:bv (upto (aO h) da 0)=List.replicate a (ce da):=by rw[ZF];simp[bv,aO,l]
 generalize g:w.alloc (bi #[Y Z b,Y Z (-1),ce da] 181)=i;have t:i.1.size=w.1.size+1:=by rw[<-g];simp
 have x:i.1[w.1.size]? =V (bi #[Y Z b,Y Z (-1),ce da] 181):=by rw[<-g];exact QN w _
 generalize f:i.alloc (bi #[.slice (V<|S w.1.size 0 U) 1 1,Y Z 0,Y Z 0,Y Z 0] 184)=j;have u:j.1.size=w.1.size+2:=by rw[<-f];simp[t]
 have m:dG j w.1.size (w.1.size+1) (.slice (V<|S w.1.size 0 U) 1 1) [⟨b, -1,da⟩] 0 0 0:=by refine⟨by rw[<-f,<-t];exact QN i _,⟨rfl,.inr ⟨w.1.size,1,#[Y Z b,Y Z (-1),ce da],rfl,au _,?_,au _,by unfold maxLen;omega,rfl,rfl⟩⟩,by omega⟩;rw[<-f,heap_alloc_old i _ (by omega)];exact x
 have k:cD w.1.size w j:=by rw[<-f,<-g];exact((aA _ _).alloc (au _) _).alloc (by simp) _
 have o:=aW.made (w:=j) (B:=w.1.size) (n:=a) (e:=3) (z:=Y Z 0) (by omega) (by omega);generalize c:j.alloc (bi (madeCells #[Y Z 0] a) 3)=q at o ⊢;have v:q.1.size=w.1.size+3:=by rw[<-c];simp[u]
 have p:=aW.made (w:=q) (B:=w.1.size) (n:=a) (e:=3) (z:=Y Z 0) (by omega) (by omega);generalize d:q.alloc (bi (madeCells #[Y Z 0] a) 3)=s at p ⊢;have D:s.1.size=w.1.size+4:=by rw[<-d];simp[v]
 have r:=aW.made (w:=s) (B:=w.1.size) (n:=a) (e:=4) (z:=ce da) (by omega) (by omega);rw[u]at o;rw[v]at p;rw[D]at r;refine⟨⟨.slice (V<|S w.1.size 0 U) 1 1,?_⟩,?_,?_,?_,?_⟩;rw[<-d,<-c];exact((m.alloc _).alloc _).alloc _;rw[y,<-d];exact(o.alloc _).alloc _;rw[A];exact p.alloc _;rw[C];exact r;rw[<-d,<-c];exact((k.alloc (by omega) _).alloc (by rw[c];omega) _).alloc (by rw[c,d];omega) _
def jD.below {d:aw}{a:Int}{g w f:cw}{B c:Nat}{x:XS}{k:Nat}(h:jD d a g w B c x k)(e:cD w.1.size w f):jD d a g f B c x k:=by obtain⟨v,b⟩:=h.st;exact XR.call h (by omega) (by omega) (by omega) (Fr.of_below (bM b.low<|gV b.lt) e) ⟨v,b.below e⟩
def DL {j:aw}{b:Int}{q w:cw}{B s f:Nat}{x:XS}{k:Nat}(t:s=B+1)(h:jD j b q w B f x k)(g:eH k x):cP prog 117 #[.pointer<|V<|S s 0 U] w λm p=>m=bj (df #[Y Z (bq x.st).l,Y Z (bq x.st).o,ce (bq x.st).i])/\jD j b q p B f x k:=by
 subst t;obtain⟨v,d⟩:=h.st;have a:=g.len;obtain⟨c,e,n⟩:∃c e,x.st=c++[e]:=⟨x.st.dropLast,x.st.getLast g.ne,(F4 g.ne).symm⟩
 rw[n]at d a;rw[n,Hz];simp only[bG,eU,kW]at a;refine(Sb w B (B+1) v c e _ _ _ d (by omega)).mono ?_;rintro m p ⟨rfl,r⟩;exact⟨rfl,h.below r⟩
def al6 {e:aw}{a:Int}{i w:cw}{B s b:Nat}{x:XS}{k:Nat}(l:s=B+1)(h:jD e a i w B b x k)(c:eH k x)(n:k<=100000):cP prog 116 #[.pointer<|V<|S s 0 U] w λf g=>f=bj (de #[])/\jD e a i g B b (jE x) k:=by subst l;obtain⟨v,d⟩:=h.st;refine(al4 w B (B+1) v x d (by have:=c.len;omega) (c.big<|by omega) c.Vc).mono ?_;rintro f g ⟨rfl,j,m⟩;exact⟨rfl,XR.call h (by omega) (by omega) (by omega) j m⟩
def al0 {g:aw}{a:Int}{n w:cw}{B s b:Nat}{x:XS}{k j:Nat}(c:Int)(p:s=B+1)(h:jD g a n w B b x j)(d:eH k x)(t:k<=100000)(e:c=13∨c=14∨c=15∨c=16):cP prog 118 #[.pointer<|V<|S s 0 U,Y Z c] w λi m=>i=bj (de #[])/\jD g a n m B b (lH x c) j:=by subst p;obtain⟨v,f⟩:=h.st;have q:=d.top;have l:=d.big (by omega);refine(alZ w B (B+1) v x c f d.ne (by have:=d.len;omega) q.2.1 (by omega) ⟨l.2.2.1,l.2.2.2.1⟩ e).mono ?_;rintro i m ⟨rfl,o,r⟩;exact⟨rfl,XR.call h (by omega) (by omega) (by omega) o r⟩
def Ep {g:aw}{a:Int}{m w:cw}{B s b:Nat}{x:XS}{k j:Nat}(e:Int)(o:s=B+1)(h:jD g a m w B b x j)(d:eH k x)(r:k<=100000):cP prog 119 #[.pointer<|V<|S s 0 U,Y Z e] w λi l=>i=bj (de #[])/\jD g a m l B b (jP x e) j:=by subst o;obtain⟨v,f⟩:=h.st;have p:=d.top;have c:=d.big (by omega);refine(ako w B (B+1) v x e f d.ne (by have:=d.len;omega) p.2.1 (by omega) ⟨c.1,c.2.1⟩ ⟨c.2.2.2.2.1,c.2.2.2.2.2⟩).mono ?_;rintro i l ⟨rfl,n,q⟩;exact⟨rfl,XR.call h (by omega) (by omega) (by omega) n q⟩
def aq4 {e:aw}{a:Int}{i w:cw}{B s b:Nat}{x:XS}{k j:Nat}(m:s=B+1)(h:jD e a i w B b x j)(c:eH k x)(o:k<=100000):cP prog 120 #[.pointer<|V<|S s 0 U] w λf g=>f=bj (de #[])/\jD e a i g B b (kZ x) j:=by subst m;obtain⟨v,d⟩:=h.st;refine(aq3 w B (B+1) v x d c.ne (by have:=c.len;omega)<|c.big<|by omega).mono ?_;rintro f g ⟨rfl,l,n⟩;exact⟨rfl,XR.call h (by omega) (by omega) (by omega) l n⟩
def jD.ready {g:aw}{a:Int}{m w:cw}{B s g2 g3 g4 d:Nat}{x:XS}{k j:Nat}(h:jD g a m w B d x j)(n:Gs B s g2 g3 g4)(p:g.length=d)(o:j<=d)(l:k<d)(b c e:cJ):((∃u,(w.alloc<|bi #[b,c,e] 181).cell? (S g2 k U)=V (Y Z u))/\(∃u,(w.alloc<|bi #[b,c,e] 181).cell? (S g3 k U)=V (Y Z u))/\(∃u,(w.alloc<|bi #[b,c,e] 181).cell? (S g4 k U)=V (ce u))/\(w.alloc<|bi #[b,c,e] 181).frozen? (S g2 k U)=da/\(w.alloc<|bi #[b,c,e] 181).frozen? (S g3 k U)=da/\(w.alloc<|bi #[b,c,e] 181).frozen? (S g4 k U)=da)/\(w.alloc<|bi #[b,c,e] 181).cell? (S w.1.size 0 U)=V b/\(w.alloc<|bi #[b,c,e] 181).cell? (S w.1.size 1 U)=V c/\(w.1.size≠g2/\w.1.size≠g3/\w.1.size≠g4/\g2≠w.1.size/\g3≠w.1.size/\g4≠w.1.size)/\(g2≠g3/\g2≠g4/\g3≠g2/\g3≠g4/\g4≠g2/\g4≠g3):=by obtain⟨rfl,rfl,rfl,rfl⟩:=n;have q:=h.lf.ge.2;have f:=QN w<|bi #[b,c,e] 181;have i:jD g a m (w.alloc<|bi #[b,c,e] 181) B d x j:=XR.alloc h _;refine⟨⟨?_,?_,?_,i.lv.frozen k,i.kd.frozen k,i.lf.frozen k⟩,az f 0,az f 1,by omega,by omega⟩;rw[i.lv.cell k l];refine⟨(upto (bf g a) 0 j)[k]'(by rw[ZE _ _ _ (by simp[bf];omega)];simp[bf];omega),by simp[iv]⟩;rw[i.kd.cell k l];refine⟨(upto (je g a) 0 j)[k]'(by rw[ZE _ _ _ (by simp[je];omega)];simp[je];omega),by simp[iv]⟩;rw[i.lf.cell k l];refine⟨(upto (aO g) da j)[k]'(by rw[ZE _ _ _ (by simp[aO];omega)];simp[aO];omega),by simp[bv]⟩
