import Derived.Test.YtkbinfhclaafhaaGreatDoorP09
import Derived.Test.YtkbinfhclaafhaaGreatDoorP08
import Derived.Test.YtkbinfhclaafhaaGreatDoorShelfS
namespace Go.Proofs.YtkbinfhclaafhaaGreatDoor
open Go.RowKit
open Go.Proofs.Tryz
set_option maxRecDepth 100000
set_option maxHeartbeats 32000000
set_option linter.all false
def Tryz.amE:(prog.info? 21).map (λi=>(i.zero,i.size,i.bytes))=some (some (.int .i32 0),1,4):=by kernel_rfl
def Tryz.N5:prog.cellsOf 21=1:=by kernel_rfl
def Tryz.XN:prog.underlying 303=some (.array 2 21):=by kernel_rfl
def Tryz.XO:prog.underlying 285=some (.map 303 305):=by kernel_rfl
def Tryz.aeZ(a b:Int)(w:World):(part 21 #[.int .i32 a,.int .i32 b] 0).run prog w= .ok (.int .i32 a) w/\(part 21 #[.int .i32 a,.int .i32 b] 1).run prog w= .ok (.int .i32 b) w:=⟨by kernel_rfl,by kernel_rfl⟩
def Tryz.akA(a b x y:Int)(w:World):(Op.equal 303 (.agg #[.int .i32 a,.int .i32 b]) (.agg #[.int .i32 x,.int .i32 y])).run prog w= .ok (a==x&&b==y) w:=by
 obtain⟨i,c,_⟩:=gu Tryz.amE;have r:∀(p q:Int)(w:World),(Op.equalIn 9999 21 (.int .i32 p) (.int .i32 q)).run prog w= .ok (p==q) w:=λp q w=>run_equalIn_int w 9998 21 .i32 .i32 p q underlying21
 have e:List.range 2=[0,1]:=rfl;obtain⟨d,f⟩:=Tryz.aeZ a b w;obtain⟨g,h⟩:=Tryz.aeZ x y w;show(Op.equalIn 10000 _ _ _).run _ _=_;rw[ap6 w 9999 _ _ Tryz.XN c,e,Tryz.N5];cases h1:(a==x)<;>cases h2:(b==y)<;>simp[Op.eqItems,d,f,g,h,r,h1,h2]
def Tryz.Tf(c:Bool)(a b:Int)(w:World):(Instr.checkKey c 10000 303 (.agg #[.int .i32 a,.int .i32 b])).run prog w= .ok () w:=by kernel_rfl
def OH(k:Nat):Value:= .agg #[.int .i32<|cG.getD (2*k) 0,.int .i32<|cG.getD (2*k+1) 0]
def qm(k:Nat):List MapEntry:=(List.range k).map λi=>⟨OH i,.agg #[],i⟩
def BK(w:World)(a:Nat):Prop:=w.heap[a]? =some (.map (qm 4).toArray 4)
def akZ(k:Nat):(qm k).toArray.push ⟨OH k,.agg #[],k⟩=(qm<|k+1).toArray:=by
 simp[qm,J7]
def TF(a b:Int)(w:World):∀(l:List Nat)(i:Nat),∃r,(Instr.findAsking 303 (.agg #[.int .i32 a,.int .i32 b]) (l.map λi=>⟨OH i,.agg #[],i⟩) i).run prog w= .ok r w/\
  ((r=none/\∀j∈l,¬(cG.getD (2*j) 0=a/\cG.getD (2*j+1) 0=b))∨∃q,r=some (q,.agg #[])/\∃j∈l,cG.getD (2*j) 0=a/\cG.getD (2*j+1) 0=b)
 |[],i=>⟨none,ap9 w _ _ i,.inl ⟨rfl,by simp⟩⟩
 |j::l,i=>by
  obtain⟨r,m,h⟩:=TF a b w l<|i+1;have e:(Op.equal 303 (.agg #[.int .i32 a,.int .i32 b]) (MapEntry.mk (OH j) (.agg #[]) j).key).run prog w= .ok (a==cG.getD (2*j) 0&&b==cG.getD (2*j+1) 0) w:=Tryz.akA a b (cG.getD (2*j) 0) (cG.getD (2*j+1) 0) w;rw[mP,ap8 i e];clear e;by_cases c:a=cG.getD (2*j) 0/\b=cG.getD (2*j+1) 0
  .rw[aj<|by rw[ED,zx,zx];exact c];exact⟨_,rfl,.inr ⟨i,rfl,j,by simp,c.1.symm,c.2.symm⟩⟩
  .rw[ai<|by rw[ED,zx,zx];exact c];refine⟨r,m,?_⟩;rcases h with⟨rfl,f⟩|⟨q,rfl,k,d,g⟩
   .refine .inl ⟨rfl,λk d=> ?_⟩;rcases fW.1 d with rfl|d
    .exact λh=>c ⟨h.1.symm,h.2.symm⟩
    .exact f k d
   .exact .inr ⟨q,rfl,k,by simp[d],g⟩
def EC(a b:Int)(w:World)(k:Nat):(Instr.findKey 303 (.agg #[.int .i32 a,.int .i32 b])<|qm k).run prog w=(Instr.findAsking 303 (.agg #[.int .i32 a,.int .i32 b])<|qm k).run prog w:=by
 cases k with
 |zero=>simp[Instr.findKey,qm,Bv Tryz.XN,Instr.findNow,Instr.findAsking]
 |succ k=>
  unfold qm;rw[aib,mP];simp[Instr.findKey,Bv Tryz.XN,Instr.findNow,Instr.sameNow]
def fit_look(a b:Int)(w:World)(f:Nat)(h:BK w f):(Instr.lookup 285 (.map<|some f) (.agg #[.int .i32 a,.int .i32 b]) true).run prog w= .ok (.tuple #[.agg #[],.bool<|Cu a b]) w:=by
 have i:=EC a b w 4;obtain⟨r,k,s⟩:=TF a b w (List.range 4) 0;have u:(zeroValue 305).run prog w= .ok (.agg #[]) w:=by kernel_rfl
 rcases s with⟨rfl,c⟩|⟨q,rfl,j,t,g⟩
 .have e:=afL true Tryz.XO u h (λd=>Tryz.Tf d a b w) (i.trans k);rw[e];have m:=c 0 (by simp);have n:=c 1 (by simp);have o:=c 2 (by simp);have p:=c 3 (by simp);have:Cu a b=false:=by
   unfold Cu;simp[cG]at m n o p ⊢;omega
  rw[this];rfl
 .have e:=afM true Tryz.XO h (λd=>Tryz.Tf d a b w) (i.trans k);rw[e];have:Cu a b=true:=by
   rw[<-g.1,<-g.2];have l:j<4:=by simpa using t
   match j,l with
   |0,_=>rfl
   |1,_=>rfl
   |2,_=>rfl
   |3,_=>rfl
  rw[this];rfl
def aja:∀k,k<4->∀j,j<k->cG.getD (2*j) 0≠cG.getD (2*k) 0:=by decide
def fit_store(k:Nat)(i:k<4)(w:World)(a:Nat)(h:w.heap[a]? =some (.map (qm k).toArray k)):(Instr.mapUpdate 285 (.map<|some a) (.agg #[.int .i32<|cG.getD (2*k) 0,.int .i32<|cG.getD (2*k+1) 0]) (.agg #[])).run prog w= .ok () (ChangeMaps.setBlock w a (.map (qm<|k+1).toArray (k+1))):=by
 obtain⟨r,l,d⟩:=TF (cG.getD (2*k) 0) (cG.getD (2*k+1) 0) w (List.range k) 0;have f:=EC (cG.getD (2*k) 0) (cG.getD (2*k+1) 0) w k;rcases d with⟨rfl,_⟩|⟨q,rfl,j,g,c,m⟩
 .have e:=afO (val:= .agg #[]) Tryz.XO h (Tryz.Tf false _ _ w)<|f.trans l;rw[e,<-akZ];rfl
 .exfalso;have b:j<k:=by simpa using g
  exact aja k i j b c
def yX {B a:Nat}{w W:World}(h:Below B w W)(b:B<=a)(o:Obj):Below B w (ChangeMaps.setBlock W a o):=
 h.trans ⟨rfl,rfl,rfl,by simp[ChangeMaps.setBlock],λk c=>by simp[ChangeMaps.setBlock,BG (show a≠k by omega)]⟩
def af2 {W:World}{a:Nat}{o b:Obj}(h:W.heap[a]? =some o):(ChangeMaps.setBlock W a b).heap[a]? =some b:=by
 have:=(M3.1 h).1;simp[ChangeMaps.setBlock,this]
def ajH(w:World)(q:TypeId)(n:Nat×Nat)(h:w.heap[11]? =some (.cells tX q n)):
  Calls prog 242 #[] w λe x=>e= .returned (.map<|some w.heap.size)/\BK x w.heap.size/\Below w.heap.size w x:=by
 have s:=ah Vl;have r:Hid ((w.alloc (.map #[] 0)).heap[11]? =some (.cells tX q n)):=bq ((aA _ _).alloc (au _) _) h;have t:=Tryz.Xm;have m:Hid ((w.alloc (.map #[] 0)).heap[w.heap.size]? =some (.map (qm 0).toArray 0)):=oD;have v:Hid (Below w.heap.size w<|w.alloc (.map #[] 0)):=(aA _ _).alloc (au _) _;have p:=@iH prog;clear h;generalize tX=G at s r t;go_enter func242,ntmps242;go_wp2_with(refine X7 rfl 304 _ rfl 11 rfl q _ n _ r.out underlying304 rfl t ?_);generalize w.alloc (.map #[] 0)=y at*;obtain⟨a,b⟩:=ac w.heap.size;have l:Hid (w.heap.size<=a/\a=w.heap.size):=⟨by omega,b⟩
 rw[<-b]at m ⊢;rw[b];have u:Hid (y.heap[a]? =some (.map (qm 0).toArray 0)):=m;clear m p;rw[<-b];clear b;go_loopg [6] 4 (λgk iv W=>∃k:Nat,k<=4/\gk=4 - k/\iv= .int .i64 k/\Below w.heap.size w W/\W.heap[a]? =some (.map (qm k).toArray k));exact⟨0,by omega,rfl,rfl,v.out,u.out⟩;clear v u;obtain⟨k,F,rfl,rfl,c,g⟩:=hrel;have o:=c.size;by_cases d:k<4
 .have f:(k:Int)<4:=by omega
  have D:=λC=>s.out k d C
  have B:=fit_store k d (wr.alloc (.cells #[.int .i32<|cG.getD (2*k) 0,.int .i32<|cG.getD (2*k+1) 0] 303)) a<|bq ((aA _ _).alloc (au _) _) g;have j:Hid (Below w.heap.size w<|ChangeMaps.setBlock (wr.alloc (.cells #[.int .i32<|cG.getD (2*k) 0,.int .i32<|cG.getD (2*k+1) 0] 303)) a (.map (qm<|k+1).toArray (k+1))):=yX (c.alloc o _) l.out.1 _;have i:Hid ((ChangeMaps.setBlock (wr.alloc (.cells #[.int .i32<|cG.getD (2*k) 0,.int .i32<|cG.getD (2*k+1) 0] 303)) a (.map (qm<|k+1).toArray (k+1))).heap[a]? =some (.map (qm<|k+1).toArray (k+1))):=af2<|bq ((aA _ _).alloc (au _) _) g;clear g c;generalize cG.getD (2*k+1) 0=A at*;generalize cG.getD (2*k) 0=z at*;generalize ChangeMaps.setBlock (wr.alloc (.cells #[.int .i32 z,.int .i32 A] 303)) a (.map (qm<|k+1).toArray (k+1))=E at*;go_wp2;go_roundg (4 - (k+1));exact⟨k+1,by omega,rfl,by go_num,j.out,i.out⟩;omega
 .have f:¬(k:Int)<4:=by omega
  obtain rfl:k=4:=by omega
  have j:=ah c;have i:=ah g;clear g c;go_wp2;go_ret;exact⟨by rw[l.out.2];rfl,by rw[<-l.out.2];exact i.out,j.out⟩
def gi.below {w b:World}{B s:Nat}{v:Value}{l:List Nat}(h:gi w B s v l)(a:Below w.heap.size w b):gi b B s v l:=⟨bq a h.cell,fu h.row a,h.low⟩
def bz.after {w W e:World}{s:Nat}{v d:Value}(a:Below w.heap.size w W)(h:bz W e s v d):bz w e s v d:=
 ⟨h.os.trans a.os,h.tape.trans a.tape,h.output.trans a.output,bP a.size h.size,λk c b f=>(h.block k (kQ c a.size) b f).trans (a.block k c),by
  rcases h.own with b|b
  .exact .inl b
  .exact .inr λk c=>bP a.size<|b k c⟩
def BK.below {w b:World}{a:Nat}(h:BK w a)(c:Below w.heap.size w b):BK b a:=bq c h
def Du(w:World)(a n:Nat)(b:List Int):Prop:=∀k,k<n->w.cell? ⟨a,k,none⟩=some (.int .i32<|b.getD k 0)
def Du.below {w d:World}{a n:Nat}{c:List Int}(h:Du w a n c)(e:Below w.heap.size w d):Du d a n c:=λk b=>by
 rw[e.cell (p:=⟨a,k,none⟩)<|aik w _ (h k b)];exact h k b
def ajG(w:World)(B Y gc n cc P cr u s O:Nat)(v pv bv:Value)(ax aq ay:Int)(t j:List Int)(b:List Nat)(r:Int)(h:bf w B Y gc n cc pv (.slice (some ⟨P,0,none⟩) n cr) bv ax aq ay t)(hr:Du w P n j)(T:gi w u s v b)(hF:BK w O)(F:∀a∈b,a<n)(hO:E7 j b)(hc:(dV r).1=2)(hl:b.length<=1000):
  Calls prog 246 #[.pointer<|some ⟨Y,0,none⟩,.pointer<|some ⟨s,0,none⟩,.map<|some O,.int .i32 r] w λe f=>
   (∃m q,mL j (dV r).2 b b.length=some m/\e= .returned (.tuple #[.int .i64 (b.getD m 0:Nat),.bool true])/\gi f u s q (b.take m)/\bz w f s v q)∨
   (mL j (dV r).2 b b.length=none/\e= .returned (.tuple #[.int .i64 0,.bool false])/\Below w.heap.size w f):=by
 have HL:=ah<|VL w u s v b T;have HC:Hid (∀(x:Int)(W:World),Calls prog 266 #[.int .i32 x] W λe f=>e= .returned (.int .i32<|mq x)/\f=W):=λx W=>Tj x W
 have H1:=ah h;have H2:=ah hr;have H3:=ah T;have H4:=ah hF;have H5:=ah F;have H6:=ah hO;have H7:=ah hc;clear h hr T hF F hO hc;obtain⟨R,S⟩:=ac<|(dV r).2;rw[<-S];have M:=ah S;clear S;go_enter func246,ntmps246;go_wp2_with fail;refine HL.out.mono ?_;rintro l z ⟨rfl,hx⟩;have c:=hx.symm;subst c;clear HL;have X:(0:Int)<=(b.length:Int):=GI _;have V:(b.length:Int)<=1000:=by omega
 go_wp2;go_loopg [10] b.length (λgk iv W=>∃(m:Nat)(i:Int),m<=b.length/\gk=m/\iv= .int .i64 i/\i=(m:Int) - 1/\Below w.heap.size w W/\mL j R b m=mL j R b b.length);exact⟨b.length,_,au _,rfl,rfl,by go_num,aA _ _,rfl⟩;clear X V;obtain⟨m,i,hm,FC,rfl,U,k,d⟩:=hrel;have HB:=ah k;cases m with
 |zero=>
  have A:=ah d.symm;obtain rfl:i= -1:=by simpa using U
  clear d k U;go_wp2;go_ret2;exact .inr ⟨A.out,rfl,HB.out⟩
 |succ m=>
  obtain rfl:i=(m:Int):=by omega
  clear U;have J:m<b.length:=by omega
  have hp:b.getD m 0<n:=H5.out _ (dG J);have C:(dV<|j.getD (b.getD m 0) 0).1=1:=H6.out _ (dG J);have H:=ah<|wD wr u s v b m (H3.out.below k) J;have g:=ak0 C H7.out;rw[<-M.out]at g;have c1:wr.cell? ⟨Y,1,none⟩=some (.slice (some ⟨P,0,none⟩) n cr):=az (H1.out.below k).cell 1;have aa:=(H2.out.below k) _ hp;have o:=fit_look (mq<|j.getD (b.getD m 0) 0) (mq r) wr O<|H4.out.below k;rw[Hl,Hl,g]at o;rw[mL]at d;have ad:((b.getD m 0:Nat):Int)<(n:Int):=by omega
  have ae:(0:Int)<=((b.getD m 0:Nat):Int):=GI _;have ab:(0:Int)<=(m:Int):=GI _;have nj:(m:Int)<=1000:=by omega
  have G:Hid (Calls prog 266 #[.int .i32<|j.getD (b.getD m 0) 0] wr λe f=>e= .returned (.int .i32<|canon<|j.getD (b.getD m 0) 0)/\f=wr):=by rw[<-Hl];exact HC.out _ wr
  have I:Hid (Calls prog 266 #[.int .i32 r] wr λe f=>e= .returned (.int .i32<|canon r)/\f=wr):=by rw[<-Hl];exact HC.out _ wr
  have N:Hid (Below w.heap.size w<|wr.alloc (.cells #[] 305)):=k.alloc k.size _;clear k C g;generalize Q:b.getD m 0=p at*;generalize j.getD p 0=x at*;by_cases y:(dV x).2=R
  .rw[aj y]at d;rw[mz y]at o;have A:=ah d.symm;have Z:Hid (Calls prog 235 #[.pointer<|some ⟨s,0,none⟩,.int .i64 m] (wr.alloc (.cells #[] 305)) λe f=>e= .returned (.tuple #[])/\∃q,gi f u s q (b.take m)/\bz (wr.alloc (.cells #[] 305)) f s v q):=mB _ u s v b m (H3.out.below N.out) J (by omega);have L:=ah Q;clear d y Q;go_wp2_with fail;refine H.out.mono ?_;rintro l z ⟨rfl,hx⟩;have c:=hx.symm;subst c;clear H;go_wp2_with fail;refine G.out.mono ?_;rintro l z ⟨rfl,hx⟩;have c:=hx.symm;subst c;clear G;go_wp2_with fail;refine I.out.mono ?_;rintro l z ⟨rfl,hx⟩;have c:=hx.symm;subst c;clear I;go_wp2_with fail;refine Z.out.mono ?_;rintro l wy ⟨rfl,q,E,D⟩;have tM:=ah E;have K:=ah<|D.after N.out;clear E D Z;go_wp2;go_ret2;exact .inl ⟨m,q,A.out,by rw[L.out];rfl,tM.out,K.out⟩
  .rw[ai y]at d;rw[rB y]at o;have A:=ah d;clear d y Q;go_wp2_with fail;refine H.out.mono ?_;rintro l z ⟨rfl,hx⟩;have c:=hx.symm;subst c;clear H;go_wp2_with fail;refine G.out.mono ?_;rintro l z ⟨rfl,hx⟩;have c:=hx.symm;subst c;clear G;go_wp2_with fail;refine I.out.mono ?_;rintro l z ⟨rfl,hx⟩;have c:=hx.symm;subst c;clear I;go_wp2;go_roundg m;exact⟨m,_,by omega,rfl,rfl,by go_num,N.out,A.out⟩;omega
section
open Go.RowKit Go.Shelf Go.Lib Go.Sort
def Cs(x:Nat×Nat):List Value:=[.int .i64 (x.1:Nat),.int .i64 (x.2:Nat)]
def Fb(x y:Nat×Nat):Int:=Lib.compareInt (x.1:Nat) (y.1:Nat)
def ajO(x y:Nat×Nat)(W:World):Calls prog 248 #[.agg #[.int .i64 (x.1:Nat),.int .i64 (x.2:Nat)],.agg #[.int .i64 (y.1:Nat),.int .i64 (y.2:Nat)]] W λe d=>e= .returned (.int .i64<|Fb x y)/\∃q b,d=grow (W.drewN q) b:=by
 have a:=λc=>AnyG.cmp_Compare_int Tryz.laysCmp (x.1:Nat) (y.1:Nat) c
 change∀c,Calls prog 249 _ _ _ at a;unfold Fb;generalize Lib.compareInt (x.1:Nat) (y.1:Nat)=r at a ⊢;go_enter func248,ntmps248;go_wp2_with(go_at_call 249;refine(a _).mono ?_;rintro e d ⟨rfl,rfl⟩);go_ret;exact⟨rfl,0,_,by rw[alloc_eq_grow,alloc_eq_grow,grow_grow];rfl⟩
def PK(x y:Nat×Nat):ltOf Fb x y=decide (x.1<y.1):=by
 unfold ltOf Fb Lib.compareInt;by_cases a:x.1<y.1
 .have:(x.1:Int)<(y.1:Int):=by omega
  simp[a,this]
 .have:¬(x.1:Int)<(y.1:Int):=by omega
  by_cases b:(y.1:Int)<(x.1:Int)<;>simp[a,b,this]
def arl:SWO (ltOf Fb) where
 irrefl x:=by rw[PK];simp
 trans x y z h1 h2:=by rw[PK]at*;simp at*;omega
 ntrans x y z h1 h2:=by rw[PK]at*;simp at*;omega
def ajN(a b size:Nat)(w:World):CmpLays prog 248 #[] Cs 2 Fb a b size w:=λ_ _ _ _ x y=>ajO x y _
def aoI(l:List<|Nat×Nat):∀(j c:Nat),j<l.length->c<2->(fU l)[j*2+c]? =some ((Cs<|l.getD j (0,0))[c]!):=by
 induction l with
 |nil=>intro j c h;simp at h
 |cons a r ih=>
  intro j c d b;cases j with
  |zero=>
   match c,b with
   |0,_=>rfl
   |1,_=>rfl
  |succ j=>
   have:=ih j c (by simpa using d) b;rw[show(j+1)*2+c=(j*2+c)+2 by omega];simpa [fU]using this
def uO(w:World)(g:Nat)(a:List<|Nat×Nat):Prop:=∀j,j<a.length->w.cell? ⟨g,j*2,none⟩=some (.int .i64 ((a.getD j (0,0)).1:Nat))/\w.cell? ⟨g,j*2+1,none⟩=some (.int .i64 ((a.getD j (0,0)).2:Nat))
def al4 {w:World}{B g b:Nat}{e:TypeId}{a:List (Nat×Nat)}(h:w.ownsRow B e 2 (.slice (some ⟨g,0,none⟩) a.length b) a.length<|fU a):HoldsK Cs 2 w g 0 a.toArray:=by
 intro j c;rw[size_flatK]at c;have d:j<a.length*2:=by simpa using c
 refine⟨?_,by rw[fZ];exact Dx h j⟩;rw[fZ,di h j d,get_flatK _ _ _ _ c];have f:j / 2<a.length:=by omega
 have:=aoI a (j / 2) (j%2) f<|qZ _ (by decide);rw[show j / 2*2+j%2=j by omega]at this;rw[this];congr 2;simp[aO,getElem!_def,aM f]
def api {w:World}{g:Nat}{d:Array (Nat×Nat)}(h:HoldsK Cs 2 w g 0 d):uO w g d.toList:=by
 intro j f;have a:j<d.size:=by simpa using f
 have b:=(h.cell a (show 0<2 by decide)).1;have c:=(h.cell a (show 1<2 by decide)).1;have e:d[j]! =d.toList.getD j (0,0):=by
  rw[TR d j a,aO,aM<|by simpa using a];simp
 rw[e]at b c;simp only[fZ,p9]at b c;exact⟨b,c⟩
def aiV {w:World}{B g n:Nat}{d:Array (Nat×Nat)}{a:Array Obj}(b:B<=g)(c:g<w.heap.size):Below B w (sortWorldK Cs 2 w g 0 n d a):=by
 refine⟨rfl,rfl,rfl,?_,λk e=> ?_⟩
 .unfold sortWorldK;rw[size_grow,size_putRowK];show w.heap.size<=w.heap.size+_;omega
 .show((w.heap.modify g _)++a)[k]? =w.heap[k]?;rw[Array.getElem?_append_left<|by simp;omega,Array.getElem?_modify,ai<|by omega]
def aq2(w:World)(B g k:Nat)(c:List<|Nat×Nat)(h:w.ownsRow B 268 2 (.slice (some ⟨g,0,none⟩) c.length k) c.length<|fU c)(H:c.length<=1000):
  Calls prog 247 #[.slice (some ⟨g,0,none⟩) c.length k,.func (.func 248) #[] #[]] w λe o=>e= .returned (.tuple #[])/\∃s:List<|Nat×Nat,s.Perm c/\s.Pairwise (λa b=>a.1<=b.1)/\uO o g s/\Below B w o/\g<o.heap.size:=by
 have C:∀args w,(callFunc 248 args).run prog w= .ok (.enter 248 args) w:=enters_of func248 (by kernel_rfl) rfl;obtain⟨D,m⟩:=h.lt g rfl;have u:=al4 h;have d:=AnyQ.slices_SortFunc Tryz.laysSort 2 Tryz.isAgg268 Tryz.sizeOf268 Cs (λ_=>rfl) (λx v z=>by simp[Cs]at z;rcases z with rfl|rfl<;>rfl) Fb arl 248 #[] g 0 k c.toArray w C (ajN g 0 _ w) u m (by simp;omega);change Calls prog 247 _ _ _ at d;have t:c.toArray.size=c.length:=by simp
 rw[t]at d;refine d.mono ?_;rintro e o ⟨rfl,f,n,A,y,G,rfl⟩;have l:f.size=c.length:=by rw[y.1];simp
 refine⟨rfl,f.toList,?_,?_,api<|holdsK_sortWorldK Cs 2 w g 0 n c.toArray f A m u<|by rw[l,t],aiV D m,lt_sortWorldK Cs 2 w g 0 n f A m⟩
 .have:=y.2.2;rw[show f.extract 0 c.length=f by rw[<-l];simp,show c.toArray.extract 0 c.length=c.toArray by simp]at this;simpa using this
 .rw[ah7];intro i j E F q;have p:i<f.size:=by simpa using E
  have r:j<f.size:=by simpa using F
  have:=G i j (mQ _) q (by omega);rw[PK,TR f i p,TR f j r]at this;simp at this;simpa using this
end
def agl {P:Program}{c:Array Oper}{o:Oper}{a:Act}{w:World}{K:Act->World->Prop}{Q:Exit->Act->World->Prop}{E:Prop}(d:o.guard=none)(f:FuncId)(x:Operand)(p:TypeId)
  (k:o.op= .call {callee:= .value (.func f),args:=#[x],argTypes:=#[p]}) (g:∀args w,(callFunc f args).run P w= .ok (.enter f args) w) (v:Value) (m:a.eval x=v) (R:Value->World->Prop)
  (j:Calls P f #[v] w λe b=>∃u,e= .returned u/\R u b) (h:∀u b,R u b->K (a.put o.dst u) b):if Region.wanted o (yielded c a.tmps)=true then Oper.wp P o a w K Q else E:=by
 have n:Region.wanted o (yielded c a.tmps)=true:=by simp[Region.wanted,d]
 rw[aj n];have l:(execOp a.eval o).run P w= .ok (.enter f #[v]) w:=by
  simp[execOp,k,resolve,invoke,g,Act.eval,go_sem];rw[<-m];cases x<;>simp[Act.eval]
 unfold Oper.wp;rw[l,ZY];refine j.mono ?_;rintro e b ⟨u,rfl,i⟩;exact h u b i
def jE {P:Program}{f:FuncId}{a:Func}(d:P.funcs[f]? =some a)(b:(a.name== "runtime.NumGoroutine")=false)(c:a.body.isNone=false):∀args w,(callFunc f args).run P w= .ok (.enter f args) w:=λargs w=>by
 simp only[callFunc,GY,run_program,SD,d,b,c];rfl
def SN(a b:Value):(#[a]++#[b]:Array Value)=#[a,b]:=rfl
def wB(a b c:Value):(#[a,b]++#[c]:Array Value)=#[a,b,c]:=rfl
section
variable(w:World)(B sb gc n cc bx:Nat)(pv rv bv:Value)(ax aq ay:Int)(t:List Int)
def J5(a:Nat)(b:List Int)(W:World):Prop:=∃s,bf W B sb gc n cc pv rv bv ax aq ay b/\W.heap[bx]? =some (.cells #[.pointer<|some ⟨sb,0,none⟩] 146 (0,0))/\w.grownBy W (some gc)/\aZ f5 g5 none t (min a n) s b/\jo b (min a n) s
def ase(L:n<=1000)(S:t.length=n)(T:aq=0∨aq=1)(P:ay=0∨ay=1)(D:bx<w.heap.size):Kh n 208 209 #[.pointer<|some ⟨bx,0,none⟩] #[.pointer<|some ⟨bx,0,none⟩] (J5 w B sb gc n cc bx pv rv bv ax aq ay t) (λc i=>c.getD i 0==5):=by
 refine⟨?_,?_,?_⟩
 .rintro c a W i ⟨s,f,j,m,d,o⟩ _ K;rw[SN];refine(amV W B sb gc n cc bx pv rv bv ax aq ay c f j i K).mono ?_;rintro e A ⟨rfl,rfl⟩;exact⟨rfl,s,f,j,m,d,o⟩
 .rintro c a W ⟨s,f,j,m,d,o⟩ R M;rw[jN<|by omega]at d o;have J:¬t.getD a 0=5:=by
   rw[<-d.at a (au _)];simpa using M
  obtain⟨g,l⟩:=WU d (by omega) J;exact⟨c,some (t.getD a 0),f,j,m,by rw[jN<|by omega];exact g,by rw[jN<|by omega];exact l⟩
 .rintro c a b W ⟨s,f,j,m,d,o⟩ r N u x;rw[jN<|by omega]at d o;have k:∀q,a<=q->q<b->t.getD q 0=5:=λq g l=>by
   rw[<-d.at q g];simpa using u q g l
  have F:b<n->¬t.getD b 0=5:=λh=>by
   rw[<-d.at b (by omega)];simpa using x h
  have hx:(gG aq ay c ((a:Int) - 1)=3↔s=some 3):=by
   rcases o with⟨rfl,rfl⟩|⟨Q,rfl⟩
   .rw[show((0:Nat):Int) - 1= -1 from rfl,gG,aj<|by decide];simp;omega
   .rw[gG,ai<|by omega,ai<|by rw[f.len];omega,show((a:Int) - 1).toNat=a - 1 by omega];simp
  have G:(gG aq ay c (b:Int)=3↔pK (t.drop b)=true):=by
   by_cases C:b<n
   .rw[gG,ai<|by omega,ai<|by rw[f.len];omega,Cg,d.at b<|by omega,CI (by omega)<|F C];simp
   .rw[gG,ai<|by omega,aj<|by rw[f.len];omega,Dc<|by omega];simp;omega
  rw[wB];refine(arD W B sb gc n cc bx pv rv bv ax aq ay c f L j a b (by omega) N).mono ?_;rintro e A ⟨rfl,E,z⟩;have p:A.heap[bx]? =some (.cells #[.pointer<|some ⟨sb,0,none⟩] 146 (0,0)):=by
   rw[z.block bx (kQ D m.size) λe=>(f.boxed j) (aJ e).symm];exact j
  have key:∀t2 y,t2=(if gG aq ay c ((a:Int) - 1)=3∨gG aq ay c (b:Int)=3 then bM c a 3 (b - a)else c)->aZ f5 g5 none t b (some y) t2/\jo t2 b (some y)->∃O,J5 w B sb gc n cc bx pv rv bv ax aq ay t (b+1) O A:=by
   rintro t2 y rfl ⟨g,l⟩;by_cases C:b<n
   .obtain⟨H,I⟩:=WU g (by omega)<|F C;exact⟨_,some (t.getD b 0),E,p,m.trans z,by rw[jN<|by omega];exact H,by rw[jN<|by omega];exact I⟩
   .have e:min (b+1) n=b:=(by omega);exact⟨_,some y,E,p,m.trans z,by rw[e];exact g,by rw[e];exact l⟩
  refine⟨rfl,?_⟩;by_cases v:s=some 3∨pK (t.drop b)=true
  .have:=MK d k (by omega) r v;rw[D2]at this;exact key _ 3 (by rw[aj<|by rw[hx,G];exact v]) this
  .have g:¬s=some 3:=λh=>v (.inl h)
   have l:pK (t.drop b)=false:=(by simpa using λh=>v (.inr h));exact key _ 5 (by rw[ai<|by rw[hx,G];exact v]) (ML d k (by omega) r g l)
end
def asf(w:World)(B a d n j:Nat)(m o bv:Value)(g b c:Int)(t:List Int)(h:bf w B a d n j m o bv g b c t)(C:n<=1000)(J:b=0∨b=1)(H:c=0∨c=1):
  Calls prog 148 #[.pointer<|some ⟨a,0,none⟩] w λe p=>e= .returned (.tuple #[])/\bf p B a d n j m o bv g b c (pass f5 g5 none t)/\w.grownBy p (some d):=by
 have L:∀(y:Fn)(first i:Array Value)(w:World),(Instr.makeFunc y first i).run prog w= .ok (.func y first i) w:=λ_ _ _ _=>rfl
 have l:Below w.heap.size w (w.alloc (.cells #[.pointer<|some ⟨a,0,none⟩] 146)):=(aA _ _).alloc (au _) _;have f:=h.below l;have I:=f.f2;have u:=h.len;have v:Hid (Calls prog 97 #[.int .i64 n,.func (.func 208) #[] #[.pointer<|some ⟨w.heap.size,0,none⟩],.func (.func 209) #[] #[.pointer<|some ⟨w.heap.size,0,none⟩]] (w.alloc (.cells #[.pointer<|some ⟨a,0,none⟩] 146)) λe p=>e= .returned (.tuple #[])/\∃k x,n<=k/\J5 (w.alloc (.cells #[.pointer<|some ⟨a,0,none⟩] 146)) B a d n j w.heap.size m o bv g b c t k x p):=
  Ot n _ _ _ _ _ _ C (ase _ B a d n j w.heap.size m o bv g b c t C u J H (by simp)) (jE func208 (by kernel_rfl)<|by kernel_rfl) (jE func209 (by kernel_rfl)<|by kernel_rfl) t _
   ⟨none,f,oD,jO _ _,by rw[Kf];exact aZ.start _ _ _ _,by rw[Kf];exact jo.start _⟩
 have D:Hid (w.grownBy (w.alloc (.cells #[.pointer<|some ⟨a,0,none⟩] 146))<|some d):=⟨rfl,rfl,rfl,by simp,λk r _=>dw w _ k r⟩
 have F:=ah u;clear h l f u;go_enter func148,ntmps148;go_wp2_with fail;refine v.out.mono ?_;rintro M K ⟨rfl,k,N,r,s,A,_,z,q,_⟩;rw[GV r]at q;have e:=q.stop (by rw[F.out];omega);have G:Hid (bf K B a d n j m o bv g b c<|pass f5 g5 none t):=by rw[<-e];exact A
 have E:=ah<|D.out.trans z;clear A z q e v I;go_wp2;go_end0;exact⟨rfl,G.out,E.out⟩
def pT(l:List Int):List Value:=l.map (.int .i32 ·)
def Tryz.Oc:(prog.info? 21).map (λi=>(i.zero,i.size,i.bytes))=some (some (.int .i32 0),1,4):=by kernel_rfl
def Tryz.Iu:(prog.info? 108).map (λi=>(i.zero,i.size,i.bytes))=some (some (.int .i64 0),1,8):=by kernel_rfl
def jG {w:World}{B:Nat}{e c:TypeId}{z n b:Nat}{v:Value}{l:List Value}{d:Array Value}(h:w.ownsRow B e z v n l)(j:w.heap[b]? =some (.cells d c (0,0)))(k:e≠c):v.ownBlock≠some b:=by
 rcases h.2 with⟨rfl,_⟩|⟨g,m,f,rfl,_,a,_⟩
 .simp[Value.ownBlock]
 .simp only[Value.ownBlock];intro i;obtain rfl:=aJ i;rw[j]at a;simp at a;exact k a.2.symm
structure NL(W:World)(B lb it:Nat)(s:ByteArray)(p:Nat)(vr vt:Value)(qr qt:List Int):Prop where
 cell:W.heap[lb]? =some (.cells #[vr,vt,.slice none 0 0,.slice none 0 0,.slice none 0 0,.int .i64 0] 141 (0,0))
 rr:W.ownsRow B 21 1 vr qr.length<|pT qr
 rt:W.ownsRow B 108 1 vt qt.length<|iv<|qt.map cls
 iter:W.heap[it]? =some (.stringIter s p)
 low:B<=lb
section
variable{W W':World}{B lb it p:Nat}{s:ByteArray}{vr vt v':Value}{qr qt:List Int}
def NL.ne(h:NL W B lb it s p vr vt qr qt):lb≠it:=by
 intro e;have:=h.cell;rw[e,h.iter]at this;cases this
def NL.below(h:NL W B lb it s p vr vt qr qt)(a:Below W.heap.size W W'):NL W' B lb it s p vr vt qr qt:=⟨bq a h.cell,fu h.rr a,fu h.rt a,bq a h.iter,h.low⟩
theorem NL.next(h:NL W B lb it s p vr vt qr qt)(p':Nat):NL (W.iterAt it s p') B lb it s p' vr vt qr qt:=
 ⟨by rw[GJ _ _ _ _ _ h.ne];exact h.cell,
  nB h.rr fun k o hk ho=>by rw[GJ];exact ho;rintro rfl;exact Bp h.rr h.iter hk,
  nB h.rt fun k o hk ho=>by rw[GJ];exact ho;rintro rfl;exact Bp h.rt h.iter hk,
  Sc W _ s p _ h.iter,h.low⟩
def NL.MG {y:Int}(h:NL W B lb it s p vr vt qr qt)(a:W'.ownsRow B 21 1 v' (qr.length+1)<|pT qr++[.int .i32 y])(c:W.grownBy W' vr.ownBlock):
  NL (W'.setCell ⟨lb,0,none⟩ v') B lb it s p v' vt (qr++[y]) qt/\W'.cell? ⟨lb,0,none⟩=some vr/\W'.frozen? ⟨lb,0,none⟩=false:=by
 have g:=jG h.rr h.cell (by decide);have b:W'.heap[lb]? =_:=(c.block lb (cJ h.cell) λe=>g e.symm).trans h.cell;have f:W'.heap[it]? =_:=(c.block it (cJ h.iter) λe=>Bp h.rr h.iter e.symm).trans h.iter;have d:W'.ownsRow B 108 1 vt qt.length (iv<|qt.map cls):=eI h.rt c (lQ h.rt h.rr<|by decide);have i:v'.ownBlock≠some lb:=jG a b (by decide);have j:vt.ownBlock≠some lb:=jG d b (by decide);refine⟨⟨by rw[eW b];rfl,?_,jW d j 0 v',by rw[iF _ _ _ _ h.ne.symm];exact f,h.low⟩,az b 0,cB b 0⟩;rw[bH,pT,fB];exact jW a i 0 v'
def NL.WK {y:Int}(h:NL W B lb it s p vr vt qr qt)(a:W'.ownsRow B 108 1 v' (qt.length+1)<|iv (qt.map cls)++[.int .i64<|cls y])(c:W.grownBy W' vt.ownBlock):
  NL (W'.setCell ⟨lb,1,none⟩ v') B lb it s p vr v' qr (qt++[y])/\W'.cell? ⟨lb,1,none⟩=some vt/\W'.frozen? ⟨lb,1,none⟩=false:=by
 have g:=jG h.rt h.cell (by decide);have b:W'.heap[lb]? =_:=(c.block lb (cJ h.cell) λe=>g e.symm).trans h.cell;have f:W'.heap[it]? =_:=(c.block it (cJ h.iter) λe=>Bp h.rt h.iter e.symm).trans h.iter;have d:W'.ownsRow B 21 1 vr qr.length (pT qr):=eI h.rr c (lQ h.rr h.rt<|by decide);have i:v'.ownBlock≠some lb:=jG a b (by decide);have j:vr.ownBlock≠some lb:=jG d b (by decide);refine⟨⟨by rw[eW b];rfl,jW d j 1 v',?_,by rw[iF _ _ _ _ h.ne.symm];exact f,h.low⟩,az b 1,cB b 1⟩;rw[bH,fB,iv,fB];exact jW a i 1 v'
end
def P5 {w:World}{a:Nat}{e:TypeId}{size:Nat}{v:Value}{n:Nat}{k:List Value}(h:w.ownsRow a e size v n k){K c:Nat}{i:Array MapEntry}(j:w.heap[K]? =some (.map i c)):v.ownBlock≠some K:=by
 rcases h.2 with⟨rfl,_⟩|⟨g,d,f,rfl,l,b,m⟩
 .simp[Value.ownBlock]
 .simp only[Value.ownBlock];intro e;obtain rfl:=aJ e;rw[j]at b;cases b
structure PS(W:World)(B s fb:Nat)(v fv:Value)(x:List Nat×List (Nat×Nat)):Prop where
 stk:gi W B s v x.1
 fit:BK W fb
 row:W.ownsRow B 268 2 fv x.2.length<|fU x.2
section
variable{W W':World}{B s fb:Nat}{v fv v' fv':Value}{x:List Nat×List (Nat×Nat)}{st':List Nat}
def PS.below(h:PS W B s fb v fv x)(a:Below W.heap.size W W'):PS W' B s fb v fv x:=⟨h.stk.below a,h.fit.below a,fu h.row a⟩
def PS.stack(h:PS W B s fb v fv x)(g:gi W' B s v' st')(d:bz W W' s v v'):PS W' B s fb v' fv (st',x.2):=by
 have c:fb≠s:=by
  intro e;have:=h.fit;rw[BK,e,h.stk.cell]at this;cases this
 refine⟨g,(d.block fb (cJ h.fit) c<|P5 h.stk.row h.fit).trans h.fit,nB h.row λk o a f=> ?_⟩;rw[d.block k (cJ f) ?_ ?_]
 .exact f
 .rintro rfl;exact jG h.row h.stk.cell (by decide) a
 .intro e;rcases lQ h.row h.stk.row (by decide)with b|b
  .rw[b]at a;cases a
  .exact b (a.trans e.symm)
def PS.app {a b:Nat}(h:PS W B s fb v fv x)(c:W'.ownsRow B 268 2 fv' (x.2.length+1)<|fU x.2++[.int .i64 (a:Nat),.int .i64 (b:Nat)])(d:W.grownBy W' fv.ownBlock):PS W' B s fb v fv' (x.1,x.2++[(a,b)]):=by
 refine⟨⟨(d.block s (cJ h.stk.cell) λe=>jG h.row h.stk.cell (by decide) e.symm).trans h.stk.cell,eI h.stk.row d<|lQ h.stk.row h.row<|by decide,h.stk.low⟩,(d.block fb (cJ h.fit) λe=>P5 h.row h.fit e.symm).trans h.fit,?_⟩;have e:=aeX x.2 (a,b);simp only at e;rw[e]at c;simpa using c
end
def ZZ(w:World)(B:Nat)(v:Value)(c:List<|Nat×Nat):Prop:=(c=[]/\∃a b,v= .slice a 0 b)∨∃g b,v= .slice (some ⟨g,0,none⟩) c.length b/\B<=g/\g<w.heap.size/\uO w g c
def Tryz.amB:(prog.info? 268).map (λi=>(i.zero,i.size,i.bytes))=some (some (.agg #[.int .i64 0,.int .i64 0]),2,16):=by kernel_rfl
def Br(w:World):Prop:=∃b a,w.heap[11]? =some (.cells tX b a)
def Br.below {w a:World}(h:Br w)(c:Below w.heap.size w a):Br a:=by
 obtain⟨d,b,h⟩:=h;exact⟨d,b,bq c h⟩
def ai7(w:World)(B sb gc n cc gr cr:Nat)(pv bv:Value)(ax aq ay:Int)(t d:List Int)(h:bf w B sb gc n cc pv (.slice (some ⟨gr,0,none⟩) n cr) bv ax aq ay t)(hr:Du w gr n d)(ad:Br w)(hn:n<=1000):
  Calls prog 211 #[.pointer<|some ⟨sb,0,none⟩] w λe j=>∃v K,e= .returned v/\lH t d K/\ZZ j w.heap.size v K/\Below w.heap.size w j:=by
 obtain⟨iP,aC,L6,L8,L9⟩:=gu Tryz.amB;have H1:Hid (∀W,Below w.heap.size w W->bf W B sb gc n cc pv (.slice (some ⟨gr,0,none⟩) n cr) bv ax aq ay t):=λW o=>h.below o
 have H2:Hid (∀W,Below w.heap.size w W->Du W gr n d):=λW o=>hr.below o
 have H3:Hid (∀W,Below w.heap.size w W->Br W):=λW o=>ad.below o
 have Jj:Hid (Calls prog 242 #[] w λe j=>e= .returned (.map<|some w.heap.size)/\BK j w.heap.size/\Below w.heap.size w j):=by
  obtain⟨T,P,o⟩:=ad;exact ajH w T P o
 have HT:=ah h.len;clear h hr ad;go_enter func211,ntmps211;go_wp2_with fail;refine Jj.out.mono ?_;rintro z w1 ⟨rfl,am,aa⟩;clear Jj;have Uj:=aa.size;have ab:Below w.heap.size w (w1.alloc (.cells #[.slice none 0 0] 257)):=aa.alloc Uj _;have Za:Hid (PS (w1.alloc (.cells #[.slice none 0 0] 257)) w.heap.size w1.heap.size w.heap.size (.slice none 0 0) (.slice none 0 0) ([],[])):=
  ⟨⟨oD,gQ _ _ _ _,Uj⟩,am.below<|(aA _ _).alloc (au _) _,gQ _ _ _ _⟩
 have aI:=ah ab;have c1:(w1.alloc (.cells #[.slice none 0 0] 257)).cell? ⟨sb,1,none⟩=some (.slice (some ⟨gr,0,none⟩) n cr):=az (H1.out _ ab).cell 1;clear aa am ab;obtain⟨fb,CA⟩:=ac w.heap.size;obtain⟨s,hs⟩:=ac w1.heap.size;have HP:Hid (PS (w1.alloc (.cells #[.slice none 0 0] 257)) w.heap.size s fb (.slice none 0 0) (.slice none 0 0) ([],[])):=by rw[CA,hs];exact Za.out
 clear Za;rw[<-CA];clear CA;go_wp2;rw[<-hs];clear hs c1 Uj;generalize w1.alloc (.cells #[.slice none 0 0] 257)=W2 at*;go_loopg [5,16] n (λgk fv iv W=>∃(k:Nat)(v:Value)(x:List Nat×List (Nat×Nat)),k<=n/\gk=n - k/\iv= .int .i64 k/\Below w.heap.size w W/\PS W w.heap.size s fb v fv x/\kR k x/\E7 d x.1/\dL t d (n - k) k x=dL t d n 0 ([],[]));exact⟨0,_,([],[]),by omega,rfl,rfl,aI.out,HP.out,kR.start,λa Y=>by simp at Y,rfl⟩;clear aI HP;obtain⟨k,v,x,hk,rfl,rfl,o,Q,E,U,hF⟩:=hrel;have R:=o.size;obtain⟨fa,fc,rfl⟩:=eH Q.row;by_cases ae:k<n
 .have aE:n - k=(n - (k+1))+1:=by omega
  rw[aE]at hF;have c1:=(H2.out wr o) k ae;have c2:=(H1.out wr o).f2;have c3:=(H1.out wr o).at k ae;have aD:(k:Int)<(n:Int):=by omega
  have C:=ah o;have F:=ah Q;have dS:=ah E;have qV:=ah U;have av:x.1.length<=63:=E.len;by_cases A:t.getD k 0=12
  .rw[A]at c3;by_cases D:(dV<|d.getD k 0).1=1
   .have L:Hid (∀W,Below w.heap.size w W->Calls prog 243 #[.int .i32<|d.getD k 0] W λe j=>e= .returned (.bool true)/\Below W.heap.size W j):=λW p=>by
     obtain⟨T,P,hh⟩:=H3.out W p;have:=Yp (d.getD k 0) W T P hh;rw[mz D]at this;exact this
    by_cases G:x.1.length=63
    .have HN:Hid (dL t d n 0 ([],[])=none):=by
      show _=_;rw[<-hF];exact aoz<|by rw[o6,aj A,aj D,aj G]
     clear hF Q E U o D A av;have HL:Hid (∀W,Below wr.heap.size wr W->Calls prog 244 #[.pointer<|some ⟨s,0,none⟩] W λe j=>e= .returned (.int .i64 ((63:Nat):Int))/\j=W):=λW p=>by
      have:=VL W w.heap.size s v x.1 (F.out.below p).stk;rw[G]at this;exact this
     clear G;generalize d.getD k 0=r at*;go_wp2_with fail;refine(L.out wr C.out).mono ?_;rintro z N ⟨rfl,i⟩;have u:=ah<|C.out.trans<|i.mono R;have M:=ah i;clear i;go_wp2_with fail;refine(HL.out N M.out).mono ?_;rintro z wx ⟨rfl,hx⟩;have I:=hx.symm;subst I;clear HL;go_wp2;go_ret;exact⟨_,[],rfl,by unfold lH;rw[HT.out,HN.out],.inl ⟨rfl,_,_,rfl⟩,u.out⟩
    .have HN:Hid (dL t d (n - (k+1)) (k+1) (x.1++[k],x.2)=dL t d n 0 ([],[])):=by
      show _=_;rw[<-hF];exact(MB<|by rw[o6,aj A,aj D,ai G]).symm
     have ap:=ah<|E.push G;have ar:Hid (E7 d<|x.1++[k]):=λa Y=>by
      simp at Y;rcases Y with Y|rfl
      .exact U a Y
      .exact D
     clear hF Q E U o D A;have HL:Hid (∀W,Below wr.heap.size wr W->Calls prog 244 #[.pointer<|some ⟨s,0,none⟩] W λe j=>e= .returned (.int .i64 x.1.length)/\j=W):=λW p=>VL W w.heap.size s v x.1 (F.out.below p).stk
     have JH:Hid (∀W,Below wr.heap.size wr W->Calls prog 197 #[.pointer<|some ⟨s,0,none⟩,.int .i64 k] W λe j=>e= .returned (.tuple #[])/\∃v',gi j w.heap.size s v' (x.1++[k])/\bz W j s v v'):=λW p=>afo W w.heap.size s v x.1 k (F.out.below p).stk (by omega)
     generalize d.getD k 0=r at*;have aF:((x.1.length:Int)==63)=false:=(by simp;omega);have aJ:(0:Int)<=(x.1.length:Int):=GI _;generalize(x.1.length:Int)=xl at*;go_wp2_with fail;refine(L.out wr C.out).mono ?_;rintro z N ⟨rfl,i⟩;have u:=ah<|C.out.trans<|i.mono R;have M:=ah i;clear i;go_wp2_with fail;refine(HL.out N M.out).mono ?_;rintro z wx ⟨rfl,hx⟩;have I:=hx.symm;subst I;clear HL;go_wp2_with fail;refine(L.out N u.out).mono ?_;rintro z w4 ⟨rfl,l⟩;have O:=ah<|u.out.trans<|l.mono u.out.size;have Z:=ah<|M.out.trans<|l.mono M.out.size;clear l M L;go_wp2_with fail;refine(JH.out w4 Z.out).mono ?_;rintro z w5 ⟨rfl,v5,an,Lg⟩;have V:=ah<|Lg.below (F.out.below Z.out).stk O.out;have Rk:=ah<|(F.out.below Z.out).stack an Lg;clear an Lg JH;go_wp2;go_roundg (n - (k+1));exact⟨k+1,v5,(x.1++[k],x.2),by omega,rfl,by go_num,V.out,Rk.out,ap.out,ar.out,HN.out⟩;omega
   .have L:Hid (∀W,Below w.heap.size w W->Calls prog 243 #[.int .i32<|d.getD k 0] W λe j=>e= .returned (.bool false)/\Below W.heap.size W j):=λW p=>by
     obtain⟨T,P,hh⟩:=H3.out W p;have:=Yp (d.getD k 0) W T P hh;rw[rB D]at this;exact this
    by_cases X:(dV<|d.getD k 0).1=2
    .have pg:Hid (∀W,Below w.heap.size w W->Calls prog 245 #[.int .i32<|d.getD k 0] W λe j=>e= .returned (.bool true)/\Below W.heap.size W j):=λW p=>by
      obtain⟨T,P,hh⟩:=H3.out W p;have:=sy (d.getD k 0) W T P hh;rw[mz X]at this;exact this
     have Zw:=λW (p:Below wr.heap.size wr W) (al:Below w.heap.size w W)=>ajG W B sb gc n cc gr cr w.heap.size s fb v pv bv ax aq ay t d x.1 (d.getD k 0) (H1.out W al) (H2.out W al) (F.out.below p).stk (F.out.below p).fit (λa Y=>Nat.lt_trans (dS.out.st a Y) ae) qV.out X (by omega)
     have RI:Hid (∀W,Below wr.heap.size wr W->Below w.heap.size w W->Calls prog 246 #[.pointer<|some ⟨sb,0,none⟩,.pointer<|some ⟨s,0,none⟩,.map<|some fb,.int .i32<|d.getD k 0] W λe j=>
  (∃m v',mL d (dV<|d.getD k 0).2 x.1 x.1.length=some m/\e= .returned (.tuple #[.int .i64 (x.1.getD m 0:Nat),.bool true])/\gi j w.heap.size s v' (x.1.take m)/\bz W j s v v')∨
  (mL d (dV<|d.getD k 0).2 x.1 x.1.length=none/\e= .returned (.tuple #[.int .i64 0,.bool false])/\Below W.heap.size W j)):=Zw
     have oH:Hid (∀m,mL d (dV<|d.getD k 0).2 x.1 x.1.length=some m->dL t d (n - (k+1)) (k+1) (x.1.take m,x.2++[(x.1.getD m 0,k)])=dL t d n 0 ([],[])/\kR (k+1) (x.1.take m,x.2++[(x.1.getD m 0,k)])/\E7 d (x.1.take m)):=λm S=>by
      have e:o6 t d k x=some (x.1.take m,x.2++[(x.1.getD m 0,k)]):=(by rw[o6,aj A,ai D,aj X,S]);exact⟨by rw[<-hF];exact(MB e).symm,dS.out.step e,qV.out.step e⟩
     have oI:Hid (mL d (dV<|d.getD k 0).2 x.1 x.1.length=none->dL t d (n - (k+1)) (k+1) x=dL t d n 0 ([],[])):=λS=>by
      have e:o6 t d k x=some x:=(by rw[o6,aj A,ai D,aj X,S]);rw[<-hF];exact(MB e).symm
     have af:x.2.length<=1000:=(by have:=E.few;omega);clear hF Q E U o D X A Zw;generalize d.getD k 0=r at*;go_wp2_with fail;refine(L.out wr C.out).mono ?_;rintro z N ⟨rfl,i⟩;have u:=ah<|C.out.trans<|i.mono R;have M:=ah i;clear i;go_wp2_with fail;refine(L.out N u.out).mono ?_;rintro z w4 ⟨rfl,l⟩;have O:=ah<|u.out.trans<|l.mono u.out.size;have Z:=ah<|M.out.trans<|l.mono M.out.size;clear l M L;go_wp2_with fail;refine(pg.out w4 O.out).mono ?_;rintro z w5 ⟨rfl,bO⟩;have V:=ah<|O.out.trans<|bO.mono O.out.size;have qP:=ah<|Z.out.trans<|bO.mono Z.out.size;clear bO Z pg;go_wp2_with fail;refine(RI.out w5 qP.out V.out).mono ?_;rintro z w6 (⟨m,v6,S,rfl,zM,UD⟩|⟨S,rfl,fC⟩)
     .obtain⟨hN,ag,ak⟩:=oH.out m S;have dR:=ah<|UD.below (F.out.below qP.out).stk V.out;have Dk:=ah<|(F.out.below qP.out).stack zM UD;have Rc:=ah hN;have JE:=ah ag;have zf:=ah ak;clear hN ag ak S zM UD RI;have H:w6.ownsRow w.heap.size 268 2 (.slice fa x.2.length fc) x.2.length (fU x.2):=Dk.out.row;have yc:=dR.out.size;generalize x.1.getD m 0=q at*;go_wp2_with(at_builtin;refine agY _ rfl _ _ 265 rfl w.heap.size 268 iP (.agg #[.int .i64 0,.int .i64 0]) 16 underlying265 aC L6 L8 L9 rfl (by decide) _ _ _ rfl H _ _ _ _ rfl (by simp) rfl rfl (by omega) yc ?_);intro v7 w7 CD gS;have uI:=ah<|Dk.out.app CD gS;have lV:Hid (Below w.heap.size w w7):=dR.out.grown gS yc (λy hy=>(H.lt y hy).1);clear CD gS H;go_wp2;go_roundg (n - (k+1));exact⟨k+1,v6,(x.1.take m,x.2++[(q,k)]),by omega,rfl,by go_num,lV.out,uI.out,JE.out,zf.out,Rc.out⟩;omega
     .have dR:=ah<|V.out.trans<|fC.mono V.out.size;have Dk:=ah<|(F.out.below qP.out).below fC;have Rc:Hid _:=oI.out S;have JE:=ah dS.out.more;clear S fC RI;go_wp2;go_roundg (n - (k+1));exact⟨k+1,v,x,by omega,rfl,by go_num,dR.out,Dk.out,JE.out,qV.out,Rc.out⟩;omega
    .have pg:Hid (∀W,Below w.heap.size w W->Calls prog 245 #[.int .i32<|d.getD k 0] W λe j=>e= .returned (.bool false)/\Below W.heap.size W j):=λW p=>by
      obtain⟨T,P,hh⟩:=H3.out W p;have:=sy (d.getD k 0) W T P hh;rw[rB X]at this;exact this
     have HN:Hid (dL t d (n - (k+1)) (k+1) x=dL t d n 0 ([],[])):=by
      show _=_;rw[<-hF];exact(MB<|by rw[o6,aj A,ai D,ai X]).symm
     have JE:=ah E.more;clear hF Q E U o D X A;generalize d.getD k 0=r at*;go_wp2_with fail;refine(L.out wr C.out).mono ?_;rintro z N ⟨rfl,i⟩;have u:=ah<|C.out.trans<|i.mono R;have ao:=ah<|F.out.below i;clear i;go_wp2_with fail;refine(L.out N u.out).mono ?_;rintro z w4 ⟨rfl,l⟩;have O:=ah<|u.out.trans<|l.mono u.out.size;have Rj:=ah<|ao.out.below l;clear l L;go_wp2_with fail;refine(pg.out w4 O.out).mono ?_;rintro z w5 ⟨rfl,bO⟩;have V:=ah<|O.out.trans<|bO.mono O.out.size;have Rk:=ah<|Rj.out.below bO;clear bO pg;go_wp2;go_roundg (n - (k+1));exact⟨k+1,v,x,by omega,rfl,by go_num,V.out,Rk.out,JE.out,qV.out,HN.out⟩;omega
  .have HN:Hid (dL t d (n - (k+1)) (k+1) x=dL t d n 0 ([],[])):=by
    show _=_;rw[<-hF];exact(MB<|by rw[o6,ai A]).symm
   have aH:(t.getD k 0==12)=false:=(by simpa using A);clear hF Q E U o A;generalize t.getD k 0=c at*;generalize d.getD k 0=r at*;go_wp2;go_roundg (n - (k+1));exact⟨k+1,v,x,by omega,rfl,by go_num,C.out,F.out,dS.out.more,qV.out,HN.out⟩;omega
 .obtain rfl:k=n:=by omega
  rw[oK,dL]at hF;have aD:¬(k:Int)<(k:Int):=by omega
  have C:=ah o;have HF:=ah hF.symm;have BX:=ah Q.row;have af:x.2.length<=1000:=by have:=E.few;omega
  clear hF Q E U o;generalize x.2=J at*;by_cases h0:J=[]
  .subst h0;have HS:Hid (∀f,Calls prog 247 #[.slice fa 0 fc,f] wr λe j=>e= .returned (.tuple #[])/\j=wr):=λf=>AnyF.slices_SortFunc_none Tryz.laysSort fa fc f wr
   clear BX af;go_wp2_with fail;refine(HS.out _).mono ?_;rintro z wx ⟨rfl,hx⟩;have I:=hx.symm;subst I;clear HS;go_wp2;go_ret;exact⟨_,[],rfl,by unfold lH;rw[HT.out,HF.out];exact⟨.refl _,.nil⟩,.inl ⟨rfl,_,_,rfl⟩,C.out⟩
  .obtain⟨g,cp,he,_,_,aB⟩:=gI BX.out<|jK.2 h0;simp only[pJ,oC]at he;obtain⟨rfl,rfl⟩:=he;have HS:Hid (Calls prog 247 #[.slice (some ⟨g,0,none⟩) J.length fc,.func (.func 248) #[] #[]] wr λe j=>e= .returned (.tuple #[])/\∃K:List<|Nat×Nat,K.Perm J/\K.Pairwise (λa b=>a.1<=b.1)/\uO j g K/\Below w.heap.size wr j/\g<j.heap.size):=aq2 wr w.heap.size g _ J BX.out af;clear BX h0;go_wp2_with fail;refine HS.out.mono ?_;rintro z N ⟨rfl,K,hp,hs,hA,i,aw⟩;have HX:Hid (K.Perm J/\K.Pairwise (λa b=>a.1<=b.1)/\uO N g K):=⟨hp,hs,hA⟩
   have u:=ah<|C.out.trans i;clear hp hs hA i HS;go_wp2;go_ret;exact⟨_,K,rfl,by unfold lH;rw[HT.out,HF.out];exact⟨HX.out.1,HX.out.2.1⟩,.inr ⟨g,_,by rw[HX.out.1.length_eq];rfl,aB,aw,HX.out.2.2⟩,u.out⟩
def agp {c:Int}:(bD c<0↔bD c= -1):=by
 unfold bD;split
 .omega
 .split<;>omega
def aqT(w:World)(B u r n z:Nat)(I J bv:Value)(x d y:Int)(t:List Int)(h:bf w B u r n z I J bv x d y t)(Q:n<=1000)(f:Nat)(O:f<n):
  Calls prog 250 #[.pointer<|some ⟨u,0,none⟩,.int .i64 f] w λe q=>e= .returned (.int .i64<|kG d t f)/\q=w:=by
 have M:=h.f2;have N:=h.f5;have v:Hid (∀k,k<n->w.cell? ⟨r,k,none⟩=some (.int .i64<|t.getD k 0)):=λk s=>h.at k s
 obtain⟨P,j⟩:=ac<|kG d t f;rw[<-j];have g:=ah j.symm;clear h j;go_enter func250,ntmps250;go_wp2;go_loopg [5] f (λD H W=>∃k:Nat,k<=f/\D=k/\H= .int .i64 ((k:Int) - 1)/\W=w/\kG d t k=P);exact⟨f,au _,rfl,rfl,rfl,g.out⟩;obtain⟨k,s,rfl,rfl,E,a⟩:=hrel;have l:=E.symm;subst l;clear g;cases gk with
 |zero=>
  have p:d=P:=a;subst p;go_wp2;go_ret;exact⟨rfl,rfl⟩
 |succ k=>
  have m:k<n:=by omega
  have L:=v.out k m;have A:((k+1:Nat):Int) - 1=(k:Int):=by omega
  rw[A];rw[kG]at a;have F:(k:Int)<(n:Int):=by omega
  have G:(0:Int)<=(k:Int):=by omega
  generalize t.getD k 0=c at*;have i:Hid (∀W,Calls prog 217 #[.int .i64 c] W λe q=>e= .returned (.int .i64<|bD c)/\q=W):=λW=>N3 c W
  by_cases b:bD c<0
  .rw[aj b]at a;have g:=ah a;have o:bD c= -1:=agp.1 b;rw[o]at i;clear a b o;go_wp2_with fail;refine(i.out _).mono ?_;rintro C K ⟨rfl,hx⟩;subst hx;go_wp2;go_roundg k;exact⟨k,by omega,rfl,by go_num,rfl,g.out⟩;omega
  .rw[ai b]at a;have o:(bD c != -1)=true:=by
    simp only[bne_iff_ne,ne_eq];intro e;exact b<|agp.2 e
   generalize bD c=R at*;subst a;clear b;go_wp2_with fail;refine(i.out _).mono ?_;rintro C K ⟨rfl,hx⟩;subst hx;go_wp2;go_ret;exact⟨rfl,rfl⟩
def af4(w:World)(B p f n y c r:Nat)(z A:Value)(v u x:Int)(t a:List Int)(h:bf w B p f n y z A (.slice (some ⟨c,0,none⟩) n r) v u x t)(L:bI w c 0 a)(H:a.length=n)(U:c≠f)(hn:n<=1000)(k:Nat)(V:k<n)(d:Int):
  Calls prog 213 #[.pointer<|some ⟨p,0,none⟩,.int .i64 k,.int .i64 d] w λe N=>e= .returned (.tuple #[])/\bf N B p f n y z A (.slice (some ⟨c,0,none⟩) n r) v u x (o8 a d k t)/\w.grownBy N (some f):=by
 have K:=h.f2;have R:=h.at k V;have T:=h.frozen k;have X:(k:Int)<(n:Int):=by omega
 have J:=ah<|h.set k d;have M:=ah<|h.grown k d;have P:Hid (∀W,w.grownBy W (some f)->∀q,q<n->W.cell? ⟨c,q,none⟩=some (.int .i64<|a.getD q 0)):=λW o q Y=>by
  have i:=L q (by rw[H];exact Y);rw[fZ]at i;have b:c<w.heap.size:=by
   rcases cP c w.heap.size with G|G
   .exact G
   .simp[World.cell?,tD G]at i
  simp only[World.cell?]at i ⊢;rw[o.block c b λe=>U<|aJ e];exact i
 have I:=ah H;generalize t.getD k 0=q0 at*;clear h L H;unfold o8;go_enter func213,ntmps213;go_wp2;clear K R T;go_loopg [6] (n - (k+1)) (λgk iv wr=>∃m:Nat,k+1+m<=n/\gk=n - (k+1+m)/\iv= .int .i64 ((k+1+m:Nat):Int)/\bf wr B p f n y z A (.slice (some ⟨c,0,none⟩) n r) v u x (bM t k d (1+m))/\w.grownBy wr (some f)/\rM (a.drop<|k+1)=m+rM (a.drop<|k+1+m));exact⟨0,by omega,rfl,by go_num,J.out,M.out,by rw[fZ]⟩;clear J M;obtain⟨m,hm,rfl,rfl,j,o,g⟩:=hrel;have K:=j.f2;have Z:wr.cell? ⟨p,3,none⟩=some (.slice (some ⟨c,0,none⟩) n r):=az j.cell 3;have s:=ah j;have D:=ah o;have F:((k+1+m:Nat):Int)=(k:Int)+1+(m:Int):=by omega
 by_cases b:k+1+m<n
 .have S:=P.out wr o (k+1+m) b;have cq:=j.at (k+1+m) b;have fq:=j.frozen<|k+1+m;have i:(k:Int)+1+(m:Int)<(n:Int):=by omega
  rw[Wa (m:=k+1+m)<|by rw[I.out];exact b]at g;clear j o;generalize(bM t k d (1+m)).getD (k+1+m) 0=q at*;by_cases l:a.getD (k+1+m) 0=8
  .rw[aj l]at g;rw[l]at S;have O:Hid (rM (a.drop<|k+1)=(m+1)+rM (a.drop<|k+1+(m+1))):=(by show _=_;rw[g,<-pH (k+1)];omega);have Q:Hid (bf (wr.setCell ⟨f,k+1+m,none⟩ (.int .i64 d)) B p f n y z A (.slice (some ⟨c,0,none⟩) n r) v u x<|bM t k d (1+(m+1))):=by
    have:=s.out.set (k+1+m) d;show bf _ _ _ _ _ _ _ _ _ _ _ _ (bM t k d (1+(m+1)));rw[show 1+(m+1)=(1+m)+1 by omega,bM,show k+(1+m)=k+1+m by omega];exact this
   have E:Hid (w.grownBy (wr.setCell ⟨f,k+1+m,none⟩ (.int .i64 d))<|some f):=D.out.trans<|s.out.grown (k+1+m) d;clear g l;go_wp2;go_roundg (n - (k+1+(m+1)));exact⟨m+1,by omega,rfl,by go_num,Q.out,E.out,O.out⟩;omega
  .rw[ai l]at g;have q8:(a.getD (k+1+m) 0==8)=false:=(by simpa using l);have C:Hid (1+rM (a.drop<|k+1)=1+m):=(by show _=_;omega);clear g l;generalize a.getD (k+1+m) 0=oq at*;go_wp2;go_end0;rw[C.out];exact⟨rfl,s.out,D.out⟩
 .have i:¬(k:Int)+1+(m:Int)<(n:Int):=by omega
  have h2:decide ((k:Int)+1+(m:Int)<(n:Int))=false:=by simpa using i
  rw[V8 (m:=k+1+m)<|by rw[I.out];exact b]at g;have C:Hid (1+rM (a.drop<|k+1)=1+m):=by show _=_;omega
  clear j o g;go_wp2;go_end0;rw[C.out];exact⟨rfl,s.out,D.out⟩
