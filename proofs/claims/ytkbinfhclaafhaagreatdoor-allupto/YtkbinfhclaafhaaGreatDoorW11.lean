import Derived.Test.YtkbinfhclaafhaaGreatDoorW10
import Derived.RangeFuncOwn
import Derived.Stop.RegionWithIn
import Derived.OwnWalkIn
import Derived.TacticsInMore
namespace Go.Proofs.YtkbinfhclaafhaaGreatDoor
open Go.RowKit
open Go.Proofs.Tryz
set_option maxRecDepth 100000
set_option maxHeartbeats 32000000
set_option linter.all false
open Go.Value renaming int->Y,slice->R,string->cd,bool->ce,tuple->de,agg->df
open Go.IntKind renaming i64->Z
open Option renaming none->U,some->V
open Go.Addr renaming mk->S
open Go.Obj renaming cells->bi
open Go.Ending renaming returned->bj
open Go renaming World->cw,Value->cJ,Calls->cP
open Go.RowKit renaming Below->cD,Hid->dd
open Bool renaming false->da,true->db
structure OS(W w:World)(bx bo g n b off cap:Nat)(lv cur:aw):Prop where
 row:bI W w.1.size g n n cur
 LW:W.1[bx]? =some (.cells #[.slice (some ⟨b,off,none⟩) n cap] 31 (0,0))
 LQ:W.1[bo]? =some (.cells #[.slice (some ⟨g,0,none⟩) n n] 31 (0,0))
 lv:bJ W b off lv
 hb:Below w.1.size w W
section
variable{W W' w:World}{bx bo g n b off cap:Nat}{lv cur cur':List Int}
def OS.cx(h:OS W w bx bo g n b off cap lv cur):W.cell? (S bx 0 U)=V (.slice (V<|S b off U) n cap):=az h.LW 0
def OS.co(h:OS W w bx bo g n b off cap lv cur):W.cell? (S bo 0 U)=V (.slice (V<|S g 0 U) n n):=az h.LQ 0
def OS.below(h:OS W w bx bo g n b off cap lv cur)(a:cD W.1.size W W'):OS W' w bx bo g n b off cap lv cur:=
 ⟨fS h.row a,aR a h.LW,aR a h.LQ,h.lv.below a,h.hb.trans<|a.mono h.hb.size⟩
def OS.turn(h:OS W w bx bo g n b off cap lv cur)(i:bI W' w.1.size g n n cur')(a:W.grownBy W'<|V g)(l:b<w.1.size):OS W' w bx bo g n b off cap lv cur':=by obtain⟨k,d⟩:=BO h.row;have c:=(h.row.lt g rfl).1;have f:cD w.1.size w W':=h.hb.grown a h.hb.size (λy j=>by cases j;exact c);refine⟨i,(a.block bx (dg h.LW) ?_).trans h.LW,(a.block bo (dg h.LQ) ?_).trans h.LQ,h.lv.grown a<|by omega,f⟩;intro e;cases e;exact absurd (yL h.LW d) (by decide);intro e;cases e;exact absurd (yL h.LQ d)<|by decide
end
def aqc(W w:cw)(j m g n b f c k:Nat)(a d:aw)(v:Int)(h:OS W w j m g n b f c a d)(s:a.length=n)(t:W.cell? (S k 0 U)=V (Y Z v))(i:Nat)(r:i<n):cP prog 98 #[Y Z i,.pointer<|V<|S j 0 U,.pointer<|V<|S k 0 U] W λe l=>e=bj (ce<|decide (v<=a.getD i 0))/\cD W.1.size W l:=by
 have q:=h.cx;have p:=h.lv i (by omega);have o:(i:Int)<(n:Int):=by omega
 clear h;generalize a.getD i 0=y at*;go_enter func98,ntmps98;go_wp2;go_region;all_goals
  go_wp2;go_ret;exact⟨rfl,(aA _ _).drew⟩
def aqd(W w:cw)(l k g n b f c:Nat)(o a:aw)(h:OS W w l k g n b f c o a)(z:n<=1000)(A:b<w.1.size)(i j:Nat)(x:i<j)(y:j<=n):cP prog 99 #[Y Z i,Y Z j,.pointer<|V<|S k 0 U] W λe r=>e=bj (de #[])/\OS r w l k g n b f c o (nI a i j)/\W.grownBy r (V g):=by
 have B:=h.co;have q:dd (∀m,cP prog 100 #[.slice (V<|S g i U) (j - i) m] W λe u=>e=bj (de #[])/\bI u w.1.size g n n (nI a i j)/\W.grownBy u (V g)):=λm=>arD W w.1.size g n n m i j a (by omega) y z h.row
 have v:=ah h;have D:(i:Int)<=(j:Int):=by omega
 have E:(j:Int)<=(n:Int):=by omega
 have F:(i:Int)<=(n:Int):=by omega
 have G:¬i=n:=by omega
 have H:¬n=i:=by omega
 clear h;go_enter func99,ntmps99;go_wp2_with fail;refine(q _).mono ?_;rintro C s ⟨rfl,t,d⟩;have p:dd (OS s w l k g n b f c o (nI a i j)/\W.grownBy s (V g)):=⟨v.out.turn t d A,d⟩
 clear t d q;go_wp2;go_end0;exact⟨rfl,p.out.1,p.out.2⟩
def OS.set {W w:cw}{i f g n b e c:Nat}{j d:aw}(h:OS W w i f g n b e c j d)(l:b<w.1.size)(k:Nat)(a:Int):OS (W.setCell (S g k U)<|Y Z a) w i f g n b e c j (d.set k a):=h.turn (h.row.set k a) (h.row.grown k a) l
def aod(n k:Nat)(a:k<n):(eO k++List.replicate (n - k) 0).set k (k:Int)=eO (k+1)++List.replicate (n - (k+1)) 0:=by rw[aet,yH _ _ (by rw[Ap];exact au _),Ap,pT,show n - k=(n - (k+1))+1 by omega,IK];simp
def JO(w:cw)(i f g n b e d k:Nat)(j:aw)(v:Int)(h:List Bool)(A:aw)(a:Nat)(c:aw)(W:cw):Prop:=
 OS W w i f g n b e d j c/\W.1[k]? =V (bi #[Y Z v] 3 (0,0))/\o9 h A (min a n) c
def aqe(w:cw)(s r g n b l d p:Nat)(o:aw)(v:Int)(A:aw)(H:n<=1000)(I:b<w.1.size)(y:o.length=n)(z:A.length=n)(D:p≠g):LG n 98 99 #[.pointer<|V<|S s 0 U,.pointer<|V<|S p 0 U] #[.pointer<|V<|S r 0 U] (JO w s r g n b l d p o v (mask v o) A) (λ_ i=>decide (v<=o.getD i 0)) where
 asks x a W i hJ _ hi:=by obtain⟨m,f,k⟩:=hJ;refine(aqc W w s r g n b l d p o x v m y (az f 0) i hi).mono ?_;rintro e E ⟨rfl,u⟩;exact⟨rfl,m.below u,aR u f,k⟩
 skip x a W hJ ha u:=by obtain⟨m,f,k⟩:=hJ;rw[kG<|by omega]at k;refine⟨x,m,f,?_⟩;rw[kG<|by omega];exact k.skip (by rw[Ax,y,z]) (by omega)<|by rw[G8 _ _ _ (by omega),u]
 tell x a c W hJ hac hcn hall hend:=by obtain⟨m,f,k⟩:=hJ;rw[kG<|by omega]at k;refine(aqd W w s r g n b l d o x m H I a c hac hcn).mono ?_;rintro e E ⟨rfl,B,C⟩;refine⟨rfl,_,B,(C.block p (dg f) λe=>D<|aI e).trans f,?_⟩;have t:=k.turn (j:=c) (by rw[Ax,y,z]) (by omega) (by omega) (λq t F=>by rw[G8 _ _ _ (by omega),hall q t F]) (λh=>by rw[G8 _ _ _ (by omega),hend<|by omega]);by_cases G:c<n;rw[kG<|by omega];exact t.skip (by rw[Ax,y,z]) (by omega) (by rw[G8 _ _ _ (by omega),hend G]);rw[IM<|by omega];have:c=n:=(by omega);rw[<-this];exact t
def sI(a:aw)(b i f n:Nat)(w:cw)(hl:a.length=n)(hn:n<=1000)(jT:b<w.1.size)(hc:bJ w b i a)(O:∀l∈a,0<=l/\l<=126):cP prog 59 #[.slice (V<|S b i U) n f] w λe F=>∃g,e=bj (.slice (V<|S g 0 U) n n)/\aW F w.1.size 3 g n (iv<|J4 a)/\cD w.1.size w F:=by
 obtain⟨aa,hR⟩:=ac<|J4 a;have zN:=ah hR;rw[<-hR];clear hR;have ak:=run_make_row' (P:=prog) 31 3 (Y Z 0) 8 underlying31 Tryz.sQ rfl .i64 .i64 n (by omega) (by omega);have JD:∀(fn:Fn)(first f:Array cJ)(w:cw),(Instr.makeFunc fn first f).run prog w= .ok (.func fn first f) w:=λ_ _ _ _=>rfl
 have H:cD w.1.size w (((w.alloc<|bi #[.slice (V<|S b i U) n f] 31).alloc (bi (madeCells #[Y Z 0] n) 3)).alloc (bi #[.slice (V ⟨w.1.size+1,0,U⟩) n n] 31)):=(((aA _ _).alloc (au _) _).alloc (by simp) _).alloc (by simp;omega) _;have K:dd (OS (((w.alloc<|bi #[.slice (V<|S b i U) n f] 31).alloc (bi (madeCells #[Y Z 0] n) 3)).alloc (bi #[.slice (V ⟨w.1.size+1,0,U⟩) n n] 31)) w w.1.size (w.1.size+1+1) (w.1.size+1) n b i f a<|eO 0++List.replicate (n - 0) 0):=by
  have z1:(w.alloc<|bi #[.slice (V<|S b i U) n f] 31).1.size=w.1.size+1:=by simp
  have z2:((w.alloc<|bi #[.slice (V<|S b i U) n f] 31).alloc (bi (madeCells #[Y Z 0] n) 3)).1.size=w.1.size+1+1:=by simp
  refine⟨?_,?_,?_,hc.below H,H⟩;have:=aW.made (w:=w.alloc<|bi #[.slice (V<|S b i U) n f] 31) (B:=w.1.size) (n:=n) (e:=3) (z:=Y Z 0) (by simp) (by omega);rw[z1]at this;have e:iv (eO 0++List.replicate (n - 0) 0)=List.replicate n (Y Z 0):=(by simp[iv,eO]);show World.ownsRow _ _ _ _ _ _ _;rw[e];exact lZ this _;refine aR ((aA _ _).alloc (au _) _)<|aR ((aA _ _).alloc (au _) _) ?_;exact pM;rw[<-z2];exact pM
 have G:=ah hl;have L:=ah O;have rX:dd (∀(l:Int)(W:cw),0<=l->cP prog 96 #[Y Z l] W λe F=>e=bj (Y Z<|l%2)/\F=W):=λl W h=>DI l W h
 clear hl O H hc;obtain⟨u,vh⟩:=ac w.1.size;obtain⟨g,hg⟩:=ac<|w.1.size+1;obtain⟨t,ve⟩:=ac<|w.1.size+1+1;go_enter func59,ntmps59;go_wp2;generalize ad:(((w.alloc<|bi #[.slice (V<|S b i U) n f] 31).alloc (bi (madeCells #[Y Z 0] n) 3)).alloc (bi #[.slice (V ⟨w.1.size+1,0,U⟩) n n] 31))=W0 at*;have jf:dd (OS W0 w u t g n b i f a<|eO 0++List.replicate (n - 0) 0):=by rw[vh,ve,hg];exact K.out
 rw[<-ve,<-hg,<-vh];have ap:dd (w.1.size<=g):=by show _<=_;omega
 clear ad K vh hg ve ak;go_loopg [4,5,14] n (λgk R ov gD W=>∃(k:Nat)(c j:Int),k<=n/\gk=n - k/\gD=Y Z k/\R=Y Z c/\ov=Y Z j/\c=lS (a.take k)/\j=p9 (a.take k)/\OS W w u t g n b i f a (eO k++List.replicate (n - k) 0));exact⟨0,0,127,by omega,rfl,rfl,rfl,rfl,by simp[lS],by simp[p9],jf⟩;clear jf;obtain⟨k,c,j,hk,rfl,rfl,rfl,rfl,p,r,o⟩:=hrel;by_cases C:k<n
 .have s:k<a.length:=by rw[G.out];exact C
  have cx:=o.cx;have co:=o.co;have cl:=o.lv k s;have cg:=o.row.cell k C;have fg:=o.row.frozen k;have ht:=ahK a k s;have hw:=apg a k s;have Re:=L.out _ (dP (d:=0) s);rw[<-p]at ht;rw[<-r]at hw;have ae:=Sa (lv:=a.take k) (λl h=>by have:=(L l<|Lu h).2;omega);have ao:=afg (lv:=a.take k) (λl h=>(L l<|Lu h).1);rw[<-p]at ae;rw[<-r]at ao;obtain⟨x,hx⟩:=ac<|a.getD k 0;rw[<-hx]at cl ht hw Re;have D:dd (OS (wr.setCell (S g k U)<|Y Z (k:Int)) w u t g n b i f a<|eO (k+1)++List.replicate (n - (k+1)) 0):=by have:=o.set jT k (k:Int);rw[aod n k C]at this;exact this
  have HT:=ah ht;have HW:=ah hw;have af:(k:Int)<(n:Int):=by omega
  obtain⟨x0,x1⟩:=Re;have TI:dd (∀W,cP prog 96 #[Y Z x] W λe F=>e=bj (Y Z<|x%2)/\F=W):=λW=>rX.out x W x0
  have h2:x%2=0∨x%2=1:=by omega
  have jg:=ah h2;obtain⟨ay,E⟩:=ac<|x%2;rw[<-E]at TI HW jg;generalize(eO k++List.replicate (n - k) 0).getD k 0=ax at*;clear o ht hw hx p r s h2 E;have HM:=ah HT.out.symm;rcases jg.out with al|Q
  .have HN:dd (j=p9 (a.take<|k+1)):=(by show j=_;rw[HW.out,ai<|by omega]);subst al;go_wp2_with fail;refine(TI _).mono ?_;rintro ev wx ⟨rfl,I⟩;have jr:=I.symm;subst jr;go_wp2;go_roundg (n - (k+1));exact⟨k+1,max c x,j,by omega,rfl,by go_num,rfl,rfl,HM,HN,D⟩;omega
  have HN:dd (min j x=p9 (a.take<|k+1)):=(by show min j x=_;rw[HW.out,aj Q]);subst Q;go_wp2_with fail;refine(TI _).mono ?_;rintro ev wx ⟨rfl,I⟩;have jr:=I.symm;subst jr;go_wp2;go_roundg (n - (k+1));exact⟨k+1,max c x,min j x,by omega,rfl,by go_num,rfl,rfl,HM,HN,D⟩;omega
 obtain rfl:k=n:=by omega
 have af:¬(k:Int)<(k:Int):=by omega
 have e1:a.take k=a:=jY (by rw[G.out];exact au _);rw[e1]at p r;have am:=Sa (lv:=a) (λl h=>by have:=(L l h).2;omega);have ag:=afg (lv:=a) (λl h=>(L l h).1);rw[<-p]at am;rw[<-r]at ag;have D:dd (OS wr w u t g k b i f a<|gF a 0 c<|eO k):=by have:=o;rw[pT,Lx,mH]at this;exact this
 have HR:dd (aa=gF a (c - j+1).toNat c (eO k)):=by show _=_;rw[zN.out,J4,p,r,G.out]
 clear o p r e1;obtain⟨Oi,WL⟩:=ac wr.1.size;have nM:dd (OS (wr.alloc<|bi #[Y Z c] 3) w u t g k b i f a (gF a 0 c<|eO k)/\(wr.alloc<|bi #[Y Z c] 3).1[Oi]? =V (bi #[Y Z<|c - (0:Nat)] 3 (0,0))/\Oi≠g):=by refine⟨D.out.below<|(aA _ _).alloc (au _) _,by rw[WL,show c - ((0:Nat):Int)=c by omega];exact pM,?_⟩;have:=(D.out.row.lt g rfl).2;omega
 go_wp2;generalize wr.alloc (bi #[Y Z c] 3)=W1 at*;rw[<-WL];clear WL D;go_loopg [8] (c - j+1).toNat (λgk tv W=>∃(m J:Nat),m<=(c - j+1).toNat/\gk=(c - j+1).toNat - m/\tv= .pointer (V<|S J 0 U)/\OS W w u t g k b i f a (gF a m c<|eO k)/\W.1[J]? =V (bi #[Y Z<|c - m] 3 (0,0))/\J≠g);exact⟨0,Oi,by omega,rfl,rfl,nM.out.1,nM.out.2.1,nM.out.2.2⟩;clear nM;obtain⟨m,J,hm,rfl,rfl,o,X,an⟩:=hrel;have ct:=az X 0;by_cases C:m<(c - j+1).toNat
 .have T:j<=c - (m:Int):=(by omega);have y:(gF a m c<|eO k).length=k:=(Kr a m c _ (by rw[Ap,G.out])).trans G.out;have SQ:dd (cP prog 97 #[Y Z k,.func (.func 98) #[] #[.pointer<|V<|S u 0 U,.pointer<|V<|S J 0 U],.func (.func 99) #[] #[.pointer<|V<|S t 0 U]] wr λe F=>e=bj (de #[])/\∃q M,k<=q/\JO w u t g k b i f J a (c - m) (mask (c - m) a) (gF a m c<|eO k) q M F):=
   Qe k _ _ _ _ _ _ hn (aqe w u t g k b i f J a (c - m) _ hn jT G y an) (kj func98 (by kernel_rfl)<|by kernel_rfl) (kj func99 (by kernel_rfl)<|by kernel_rfl) _ wr ⟨o,X,by rw[LF];exact o9.start _ _⟩
  have cx:=o.cx;have Sv:dd ((mask (c - m) a).length=(gF a m c<|eO k).length/\(gF a m c<|eO k).length=k):=⟨by rw[Ax,G.out,y],y⟩
  have uG:dd (gF a (m+1) c (eO k)=fD (mask (c - m) a) (gF a m c<|eO k) []):=Sd _ _ _ _;generalize gF a m c (eO k)=A at*;obtain⟨v,R⟩:=ac<|c - (m:Int);have TP:=ah R;have ar:0<=v:=(by omega);have av:v<=1000:=(by omega);rw[<-R]at ct T SQ Sv uG;clear o X y R;go_wp2_with fail;refine SQ.out.mono ?_;rintro ev W2 ⟨rfl,q,M,hq,qI,rF,VI⟩;rw[IM hq]at VI;have N:=VI.stop Sv.out.1 (by rw[Sv.out.2];exact au _);rw[N,<-uG.out]at qI;have aq:=az rF 0;have D:=ah qI;have ab:dd (g<W2.1.size):=(qI.row.lt g rfl).2;clear SQ qI rF VI N cx ct hq;go_wp2;go_roundg ((c - j+1).toNat - (m+1));exact⟨m+1,W2.1.size,by omega,rfl,rfl,D.out.below<|(aA _ _).alloc (au _) _,by rw[show c - ((m+1:Nat):Int)=v - 1 by have:=TP.out;omega];exact pM,by have:=ab.out;omega⟩;omega
 have T:¬j<=c - (m:Int):=(by omega);obtain rfl:m=(c - j+1).toNat:=(by omega);have co:=o.co;have HF:dd (aW wr w.1.size 3 g k (iv aa)/\cD w.1.size w wr):=⟨by rw[HR.out];exact o.row,o.hb⟩
 clear o X;generalize c - (((c - j+1).toNat:Nat):Int)=v at*;generalize gF a (c - j+1).toNat c (eO k)=A at*;go_wp2;go_ret;exact⟨g,rfl,HF.out.1,HF.out.2⟩
def uS(a:Int)(b:List aY):Prop:=∀e∈b,a<=e.l
def uS.app {a:Int}{c:List aY}{e:aY}(h:uS a c)(d:a<=e.l):uS a (c++[e]):=λy b=>by rcases ji.1 b with b|b;exact h y b;rw[r7.1 b];exact d
def uS.sub {a:Int}{c b:List aY}(h:uS a c)(f:∀e∈b,e∈c):uS a b:=λe d=>h e<|f e d
def uS.pre {a:Int}{x:XS}(h:uS a x.st)(c:Int):uS a (eP x c).st:=by unfold eP;split;unfold jE;split;exact h;split;exact h;exact h.sub<|Yy _;exact h
def uS.post {a:Int}{x:XS}(h:uS a x.st)(f:x.st≠[])(k:aw)(i:Nat)(c:Int):uS a (gi k i x c).st:=by
 have q:a<=(bq x.st).l:=h _ (R9 f);have g:∀b,a<=jt (bq x.st).l b:=λb=>by have:=XU (bq x.st).l b;omega
 have d:∀b,uS a (jP x b).st:=λb=>by unfold jP;simp only;split;exact h.app<|g _;exact h
 unfold gi;split
 .unfold lH;simp only;generalize(if c=15 then(0:Int)else if c=16 then 1 else -1)=o at*;generalize p:jt (bq x.st).l _=n;have j:a<=n:=by rw[<-p];exact g _
  split;exact h.app j;split<;>exact h
 split;exact d _;split;exact d _;split;exact d _;split
 .unfold kZ;split;exact h;split;exact h;split;exact h.sub λe m=>mg _ m
  exact h
 exact h
def aie(b:aw)(a:Int)(d:0<=a/\a<=125):∀i,uS a (fE b a i).st
 |0=>by intro e c;rw[fE]at c;rw[r7.1 c];exact O6 _
 |i+1=>by rw[fE];exact((aie b a d i).pre _).post ((zF b a d i).pre _).ne b i _
def aio(b:aw)(a:Int)(c:0<=a/\a<=125)(i:Nat):a<=(iM b a i).l:=
 ((aie b a c i).pre _) _ (R9 ((zF b a c i).pre _).ne)
def MW {P:Int->Prop}{b:Int}(g:P b):∀(d e:aw)(a:Int),P a->(∀o∈e,P o)->∀x∈nS b a d e,P x
 |[],_,_,_,_,x,hx=>by cases hx
 |_::_,[],_,_,_,x,hx=>by cases hx
 |c::d,o::e,a,hv,ho,x,hx=>by
  have f:P (if qM c d=db then b else if bX c=da then a else o):=by split;exact g;split;exact hv;exact ho o<|by simp
  rw[nS]at hx;rcases gI.1 hx with rfl|hx;exact f;exact MW g d e _ f (λy h=>ho y<|by simp[h]) x hx
def aoe {c l:Int}(a:0<=l)(h:l<=125):l<=pF c l/\pF c l<=126:=by
 unfold pF;split;split;omega;split<;>omega
 split<;>omega
def Xq {cs:aw}(e:∀c∈cs,0<=c/\c<=21)(m:aw)(d:Int)(b:0<=gT cs d/\gT cs d<=125):∀x∈fQ m cs d,gT cs d<=x/\x<=126:=by
 unfold fQ;generalize gT cs d=a at*;refine MW (P:=λx=>a<=x/\x<=126) (by omega) _ _ _ (by omega) ?_;refine Y2 (P:=λx=>a<=x/\x<=126) _ _ (λx hx=> ?_) λo j=> ?_
 .obtain⟨s,k,hx⟩:=IE.1 hx;obtain⟨_,_,_,_,f⟩:=RY e b k;obtain⟨g,n,_⟩:=ahP hx;obtain⟨h,p⟩:=f _ g;have q:(bf cs a).getD x.1 0=(iM cs a x.1).l:=by rw[bf,Ho _ _ _ _ h]
  have r:=Sl cs a b x.1;have t:=aio cs a b x.1;have:=aoe (c:=x.2.2) (l:=x.2.1) (by omega) (by omega);omega
 obtain⟨i,_,rfl⟩:=jX.1 (show o∈(List.range cs.length).map λi=>(iM cs a i).l from j);have:=Sl cs a b i;have:=aio cs a b i;omega
def NY(a:aw):(kY a).length=a.length:=Kr _ _ _ _ (Ap _)
def ap9:kY []=[]:=rfl
def aqa(a:aw):(kY a).Perm (eO a.length):=Zx _ _ _ _ (Ap _)
def mN(s:bc)(d:Int):aw:=kY<|fA s d
def ae7(s:bc)(d:Int):(mN s d).length=(fA s d).length:=NY _
def ae6(s:bc)(d:Int):∀x∈fA s d,0<=x/\x<=126:=by
 intro x hx;unfold fA at hx;split at hx
 .have b:0<=gT ((iF s).map cls) d/\gT ((iF s).map cls) d<=125:=by rcases Yk ((iF s).map cls) d with h|h<;>omega
  have:=Xq (cs:=(iF s).map cls) (λc a=>by obtain⟨r,_,rfl⟩:=jX.1 a;exact Gc r) (iF s) d b x hx;omega
 cases hx
def arA(w:cw):cP prog 49 #[R U 0 0] w λe a=>e=bj (R U 0 0)/\a=w:=by go_enter func49,ntmps49;go_wp2;refine dN 1 ?_;rw[bB];go_wp2;refine dN 1 ?_;rw[bB];go_wp2;go_ret;exact⟨rfl,rfl⟩
def arz(a:aw)(v:cJ)(B:Nat)(w:cw)(m:a.length<=1000)(o:w.ownsRow B 3 1 v a.length<|iv a)(g:∀l∈a,0<=l/\l<=126):cP prog 49 #[v] w λe d=>∃c,e=bj c/\d.ownsRow w.1.size 3 1 c (kY a).length (iv<|kY a)/\cD w.1.size w d:=by rcases dF.uo o with⟨rfl,rfl⟩|⟨b,h,f,rfl,j⟩;refine(arA w).mono ?_;rintro e d ⟨rfl,rfl⟩;exact⟨_,rfl,fh _ _ _ _,aA _ _⟩;refine(agF a b h f a.length w rfl m j (λl k=>by have:=g l k;omega)).mono ?_;rintro e d ⟨c,rfl,n,i⟩;exact⟨c,rfl,by rw[NY];exact n,i⟩
def arw(s:bc)(d:Int)(w:cw):cP prog 30 #[cd s,Y Z d] w λe b=>cD w.1.size w b/\∃v,e=bj (de #[v,jm<|bu s])/\b.ownsRow w.1.size 3 1 v (mN s d).length (iv<|mN s d):=by
 have G:=Rl s d;have L:=ah<|ae6 s d;have y:dd (∀W,cP prog 29 #[cd s,Y Z d] W λe b=>cD W.1.size W b/\∃v,e=bj (de #[v,jm<|bu s])/\b.ownsRow W.1.size 3 1 v (fA s d).length (iv<|fA s d)):=λW=>agD s d W
 obtain⟨h,p⟩:=ac<|mN s d;rw[<-p];have q:dd (h=kY (fA s d)):=p;clear p;generalize fA s d=LV at*;obtain⟨i,m,z⟩:∃i m,jm (bu s)=df #[Y Z i,Y Z m,Y Z m]:=⟨_,_,rfl⟩
 rw[z]at y ⊢;clear z;go_enter func30,ntmps30;go_wp2_with fail;refine(y _).mono ?_;rintro e o ⟨l,v,rfl,c⟩;obtain⟨n,F⟩:=uW l;have x:dd (cD w.1.size w o):=((aA _ _).alloc (au _) _).trans (l.mono<|by simp);have u:w.1.size<o.1.size:=by have:=l.size;simp at this;omega
 have C:dd (∀W,cD o.1.size o W->cP prog 49 #[v] W λe b=>∃f,e=bj f/\b.ownsRow (w.1.size+1) 3 1 f h.length (iv h)/\cD W.1.size W b):=λW A=>
  (arz LV v _ W (by omega) (fS c A) L.out).mono λe b ⟨f,E,B,r⟩=>by rw[<-q.out]at B;exact⟨f,E,AE B<|by have:=A.size;omega,r⟩
 clear l c;go_wp2_with fail
 go_region_with (go_at_call 49;refine(C _ ?_).mono ?_;exact((aA _ _).alloc (au _) _).drew;rintro e k ⟨f,rfl,g,j⟩;obtain⟨a,t⟩:=uW j)
 all_goals
  have D:cD w.1.size w (((k.setCell (S w.1.size 0 U)<|Y Z i).setCell (S w.1.size 1 U) (Y Z m)).setCell (S w.1.size 2 U) (Y Z m)):=
   (((((x.out.alloc x.out.size _).drew).trans (j.mono<|by simp;omega)).setCell (au _) _).setCell (au _) _).setCell (au _) _
  have H:(((k.setCell (S w.1.size 0 U)<|Y Z i).setCell (S w.1.size 1 U) (Y Z m)).setCell (S w.1.size 2 U) (Y Z m)).ownsRow w.1.size 3 1 f h.length (iv h):=
   N0 (gA (gA (gA g (by simp) _) (by simp) _) (by simp) _)
  have I:k.cell? (S w.1.size 0 U)=V (Y Z 0):=(a _ _ (by simp;omega)).trans ((gW _ _ (S w.1.size 0 U) u).trans ((n _ _ (by simp)).trans (by simp)));have J:k.cell? (S w.1.size 1 U)=V (Y Z 0):=(a _ _ (by simp;omega)).trans ((gW _ _ (S w.1.size 1 U) u).trans ((n _ _ (by simp)).trans (by simp)));have K:k.cell? (S w.1.size 2 U)=V (Y Z 0):=(a _ _ (by simp;omega)).trans ((gW _ _ (S w.1.size 2 U) u).trans ((n _ _ (by simp)).trans (by simp)));clear a t n F;go_wp2;exact bU (v:=de #[f,df #[Y Z i,Y Z m,Y Z m]]) (by simp[results,results30,go_sem,I,J,K]) rfl ⟨D,f,rfl,H⟩
def am2(s:bc)(d:Int)(w:cw)(aL c f:Addr)(k:s.size<=9223372036854775807)(h:Env w aL c f)(b:bu s=1∨bu s=2):cP prog 37 #[cd s,Y Z d] w λe l=>e=bj (de #[R U 0 0,jF (bu s) aL c f])/\cD w.1.size w l:=by
 have g:=ah<|Kc s d w aL c f k h b;obtain⟨a,i⟩:∃a,jF (bu s) aL c f= .iface 354 (.pointer<|V a):=by
  rcases b with b|b<;>rw[b]
  .exact⟨aL,rfl⟩
  exact⟨c,rfl⟩
 rw[i]at g ⊢;clear i b h;go_enter func37,ntmps37;go_wp2_with fail;refine g.out.mono ?_;rintro e m ⟨rfl,j⟩;go_wp2;go_ret2;exact⟨rfl,j⟩
def am3(s:bc)(d:Int)(w:cw)(aL x u:Addr)(G:s.size<=9223372036854775807)(z:Env w aL x u)(y:Br w)(p:bu s=0):cP prog 37 #[cd s,Y Z d] w λe a=>∃v,e=bj (de #[v,.nilIface])/\a.ownsRow w.1.size 3 1 v (mN s d).length (iv<|mN s d)/\cD w.1.size w a:=by
 have E:=Rl s d;have b:=ae6 s d;have t:dd (J4 (fA s d)=mN s d):=afQ b;have r:dd (cP prog 35 #[cd s,Y Z d] w λe a=>∃g,e=bj (de #[.slice (V<|S g 0 U) (fA s d).length (fA s d).length,.nilIface])/\aW a w.1.size 3 g (fA s d).length (iv<|fA s d)/\cD w.1.size w a):=by refine(Ka s d w aL x u G z y).mono ?_;rintro e a ⟨v,rfl,F,_,C,B⟩;obtain⟨g,rfl⟩:=C p;exact⟨g,by rw[p];rfl,F,B⟩
 have I:=ah b;obtain⟨l,o⟩:=ac<|mN s d;have H:dd (l.length=(fA s d).length):=by show _=_;rw[o,ae7]
 rw[<-o]at t ⊢;clear o b p z y;generalize fA s d=LV at*;go_enter func37,ntmps37;go_wp2_with fail;refine r.out.mono ?_;rintro e j ⟨g,rfl,c,f⟩;have m:=ah f;have HOr:dd (cP prog 59 #[.slice (V<|S g 0 U) LV.length LV.length] j λe a=>∃g,e=bj (.slice (V<|S g 0 U) LV.length LV.length)/\aW a j.1.size 3 g LV.length (iv l)/\cD j.1.size j a):=by rw[<-t.out];exact sI LV g 0 LV.length LV.length j rfl (by omega) (c.lt g rfl).2 (λk D=>by rw[fV];exact jx c k D) I.out
 clear f c r;generalize LV.length=n at*;go_wp2_with fail;refine HOr.out.mono ?_;rintro e A ⟨g2,rfl,i,h⟩;have q:dd (A.ownsRow w.1.size 3 1 (.slice (V<|S g2 0 U) n n) l.length (iv l)/\cD w.1.size w A):=⟨by rw[H.out];exact AE i m.out.size,m.out.trans<|h.mono m.out.size⟩
 clear i h HOr m;go_wp2;go_ret2;exact⟨_,rfl,q.out.1,q.out.2⟩
def am1(s:bc)(d:Int)(w:cw)(aL b a:Addr)(j:s.size<=9223372036854775807)(i:Env w aL b a)(k:Br w):cP prog 37 #[cd s,Y Z d] w λe f=>∃v,e=bj (de #[v,jF (bu s) aL b a])/\f.ownsRow w.1.size 3 1 v (mN s d).length (iv<|mN s d)/\(bu s≠0->v=R U 0 0)/\cD w.1.size w f:=by
 by_cases c:bu s=0;refine(am3 s d w aL b a j i k c).mono ?_;rintro e f ⟨v,rfl,l,g⟩;exact⟨v,by rw[c];rfl,l,λh=>absurd c h,g⟩;refine(am2 s d w aL b a j i<|by have:=I3 s;omega).mono ?_;rintro e f ⟨rfl,g⟩;refine⟨_,rfl,?_,λ_=>rfl,g⟩;have:mN s d=[]:=by rw[mN,fA,ai c,ap9]
 rw[this];exact fh _ _ _ _
def aqM(s:bc)(d:Int)(w:cw)(aL n l:Addr)(P:s.size<=9223372036854775807)(D:Env w aL n l)(q:Br w):cP prog 20 #[cd s,Y Z d] w λe i=>∃v,e=bj (de #[v,jm<|bu s])/\i.ownsRow w.1.size 3 1 v (mN s d).length (iv<|mN s d)/\(bu s≠0->v=R U 0 0)/\cD w.1.size w i:=by
 have z:=ah D;have kA:=ah q;have N:=I3 s;have B:dd (∀W,cD w.1.size w W->cP prog 37 #[cd s,Y Z d] W λe i=>∃v,e=bj (de #[v,jF (bu s) aL n l])/\i.ownsRow W.1.size 3 1 v (mN s d).length (iv<|mN s d)/\(bu s≠0->v=R U 0 0)/\cD W.1.size W i):=λW E=>am1 s d W aL n l P (z.out.below E)<|kA.out.below E
 clear D q;generalize mN s d=LV at*;go_enter func20,ntmps20;go_wp2_with fail;have g:∀o:Obj,cD w.1.size w (w.alloc o):=λo=>(aA _ _).alloc (au _) o
 refine(B _ (g _)).mono ?_;rintro e c ⟨v,rfl,r,f,a⟩;have u:cD w.1.size w c:=(g _).trans (a.mono<|by simp);have kB:=ah<|z.out.below u;obtain⟨M,h⟩:=ac<|jF (bu s) aL n l;rw[<-h];have A:dd (cP prog 36 #[M] c λe i=>e=bj (jm<|bu s)/\cD c.1.size c i):=by rw[h];exact Mi _ (by omega) c aL n l kB
 have F:c.cell? (S w.1.size 0 U)=V (Y Z 0):=by rw[a.cell (p:=(S w.1.size 0 U))<|by simp];go_simp
 have G:c.cell? (S w.1.size 1 U)=V (Y Z 0):=by rw[a.cell (p:=(S w.1.size 1 U))<|by simp];go_simp
 have H:c.cell? (S w.1.size 2 U)=V (Y Z 0):=by rw[a.cell (p:=(S w.1.size 2 U))<|by simp];go_simp
 have f0:c.frozen? (S w.1.size 0 U)=da:=by rw[a.frozen (p:=(S w.1.size 0 U))<|by simp];go_simp
 have f1:c.frozen? (S w.1.size 1 U)=da:=by rw[a.frozen (p:=(S w.1.size 1 U))<|by simp];go_simp
 have f2:c.frozen? (S w.1.size 2 U)=da:=by rw[a.frozen (p:=(S w.1.size 2 U))<|by simp];go_simp
 have y:w.1.size<c.1.size:=by have:=a.size;simp at this;omega
 have C:=ah u;have J:dd (c.ownsRow (w.1.size+1) 3 1 v LV.length<|iv LV):=r.low (by simp);have I:=ah f;clear h u a g r f B;go_wp2_with fail;refine A.out.mono ?_;rintro e j ⟨rfl,b⟩;obtain⟨t,m,x⟩:∃t m,jm (bu s)=df #[Y Z t,Y Z m,Y Z m]:=⟨_,_,rfl⟩
 have sY:=ah x;rw[x];have Q:j.cell? (S w.1.size 0 U)=V (Y Z 0):=cU b F;have T:j.cell? (S w.1.size 1 U)=V (Y Z 0):=cU b G;have X:j.cell? (S w.1.size 2 U)=V (Y Z 0):=cU b H;have g0:j.frozen? (S w.1.size 0 U)=da:=(b.frozen (p:=(S w.1.size 0 U)) y).trans f0;have g1:j.frozen? (S w.1.size 1 U)=da:=(b.frozen (p:=(S w.1.size 1 U)) y).trans f1;have g2:j.frozen? (S w.1.size 2 U)=da:=(b.frozen (p:=(S w.1.size 2 U)) y).trans f2;have K:=ah<|C.out.trans<|b.mono C.out.size;have L:dd (j.ownsRow (w.1.size+1) 3 1 v LV.length<|iv LV):=kS J λk o _ O=>aR b O
 clear x b F G H f0 f1 f2 A;go_wp2;refine bU (v:=de #[v,df #[Y Z t,Y Z m,Y Z m]]) (by simp[results,results20,go_sem,Q,T,X]) rfl ⟨v,by rw[sY.out],?_,I,?_⟩;exact N0<|gA (gA (gA L (by simp) _) (by simp) _) (by simp) _;exact((K.out.setCell (au _) _).setCell (au _) _).setCell (au _) _
def aqS(o:o6)(w:cw)(aL F D:Addr)(J:o.k=3)(K:o.s.size<=9223372036854775807)(H:Env w aL F D)(q:Br w):cP prog 18 #[qK o] w λe l=>e=bj (ce db)/\cD w.1.size w l:=by
 obtain⟨k,a,s,oe⟩:=o;simp only at J K;subst J;unfold qK;have GK:(mN s a).length<=300:=by rw[ae7];exact Rl s a
 have A:dd (∀W,cD w.1.size w W->cP prog 20 #[cd s,Y Z a] W λe l=>∃v,e=bj (de #[v,jm<|bu s])/\l.ownsRow W.1.size 3 1 v (mN s a).length (iv<|mN s a)/\(bu s≠0->v=R U 0 0)/\cD W.1.size W l):=λW I=>aqM s a W aL F D K (H.below I)<|q.below I
 have B:dd (∀W,cP prog 30 #[cd s,Y Z a] W λe l=>cD W.1.size W l/\∃v,e=bj (de #[v,jm<|bu s])/\l.ownsRow W.1.size 3 1 v (mN s a).length (iv<|mN s a)):=λW=>arw s a W
 clear H q;generalize mN s a=LV at*;go_enter func18,ntmps18;go_wp2_with fail;have i:cD w.1.size w (w.alloc<|bi #[Y Z 3,Y Z a,cd s,oe] 29):=(aA _ _).alloc (au _) _;refine(A _ i).mono ?_;rintro e b ⟨v,rfl,C,f,d⟩;have r:dF b v LV:=dF.uo C;have G:cD w.1.size w b:=i.trans (d.mono<|by simp);have T:b.cell? (S w.1.size 1 U)=V (Y Z a):=by rw[d.cell (p:=(S w.1.size 1 U))<|by simp];go_simp
 have X:b.cell? (S w.1.size 2 U)=V (cd s):=by rw[d.cell (p:=(S w.1.size 2 U))<|by simp];go_simp
 have P:w.1.size<b.1.size:=by have:=d.size;simp at this;omega
 have E:=ah G;have N:=ah r;have L:=ah f;obtain⟨n,m,t⟩:∃n m,jm (bu s)=df #[Y Z n,Y Z m,Y Z m]/\n=bu s:=⟨_,_,rfl,rfl⟩
 have sY:=ah t.1;have M:=ah t.2;rw[t.1];clear t d i G r C f A;go_wp2_with fail;refine(B _).mono ?_;rintro e g ⟨c,v2,rfl,z⟩;rw[sY.out];have Q:b.1.size<g.1.size:=by have:=c.size;simp at this;omega
 have a0:g.cell? (S b.1.size 0 U)=V (Y Z n):=by rw[c.cell (p:=(S b.1.size 0 U))<|by simp];go_simp
 have a1:g.cell? (S b.1.size 1 U)=V (Y Z m):=by rw[c.cell (p:=(S b.1.size 1 U))<|by simp];go_simp
 have a2:g.cell? (S b.1.size 2 U)=V (Y Z m):=by rw[c.cell (p:=(S b.1.size 2 U))<|by simp];go_simp
 have x:cD b.1.size b g:=((aA _ _).alloc (au _) _).trans (c.mono<|by simp);have O:=ah<|N.out.below x;have nN:=ah<|dF.uo z;have u:=ah<|E.out.trans<|x.mono E.out.size;clear c z x T X B;go_wp2_with fail;have j:∀o:Obj,cD g.1.size g (g.alloc o):=λo=>(aA _ _).alloc (au _) o
 refine(X5 n m m _ v v2 _ (by omega) (O.out.below<|j _) (nN.out.below<|j _) (λh=>L.out<|by rw[<-M.out];exact h)).mono ?_;rintro e w3 ⟨rfl,y⟩;go_wp2;go_ret;exact⟨rfl,(u.out.trans<|(j _).mono u.out.size).trans (y.mono<|by have:=u.out.size;simp;omega)⟩
structure RP where
 line:Nat
 start:Nat
 from_:Nat
 body:Nat
 at_:Nat
def bt(s:bc)(i:Nat):Int:=if i<s.size then((s.get! i).toNat:Int)else 10
def pV {s:bc}{i:Nat}(h:i<s.size):bt s i=((s[i]'h).toNat:Int):=by rw[bt,aj h,get_eq s i h]
def BB {s:bc}{i:Nat}(h:¬i<s.size):bt s i=10:=by rw[bt,ai h]
def bO {w:cw}{k:Nat}{o:Obj}(h:w.1[k]? =V o):k<w.1.size:=(Ou.1 h).1
def uY(w:cw)(o:Obj)(a:Addr)(h:a.block<w.1.size):(w.alloc o).cell? a=w.cell? a:=World.cell?_of_block<|dh w o _ h
def pZ(w:cw)(r:Option Nat):w.grownBy w r:=⟨rfl,rfl,rfl,au _,λ_ _ _=>rfl⟩
def amW {a b c:cw}{r:Option Nat}(h:a.grownBy b r)(k:b.grownBy c r):a.grownBy c r:=
 ⟨k.os.trans h.os,k.tape.trans h.tape,k.output.trans h.output,bM h.size k.size,λi e d=>(k.block i (lW e h.size) d).trans (h.block i e d)⟩
def uw(W:cw)(b i:Nat)(v:cJ):W.grownBy (W.setCell (S b i U) v) (V b):=⟨rfl,rfl,rfl,by simp,λk _ a=>iX _ _ _ _ (λe=>a<|by rw[e])⟩
def nU {a b:cw}{c i:Nat}{v:cJ}(h:a.grownBy b<|V c):a.grownBy (b.setCell (S c i U) v) (V c):=amW h<|uw _ _ _ _
def Ez {a b:cw}{r:Option Nat}(h:a.grownBy b r){m:Nat}:a.grownBy (b.drewN m) r:=⟨h.os,h.tape,h.output,h.size,h.block⟩
def Ey {a b:cw}{r:Option Nat}(h:a.grownBy b r):a.grownBy b.drew r:=⟨h.os,h.tape,h.output,h.size,h.block⟩
def Rd(w:cw)(a:Nat)(s:bc)(c:cJ)(p:RP)(b:Bool):Prop:=
 w.1[a]? =V (bi #[cd s,c,Y Z p.line,Y Z p.start,Y Z p.from_,Y Z p.body,Y Z p.at_,ce b] 244 (0,0))
section
variable{w w':World}{rb:Nat}{s:ByteArray}{tv:Value}{p:RP}{st:Bool}
def Rd.c0(h:Rd w rb s tv p st):w.cell? (S rb 0 U)=V (cd s):=az h 0
def Rd.c1(h:Rd w rb s tv p st):w.cell? (S rb 1 U)=V tv:=az h 1
def Rd.c2(h:Rd w rb s tv p st):w.cell? (S rb 2 U)=V (Y Z p.line):=az h 2
def Rd.c3(h:Rd w rb s tv p st):w.cell? (S rb 3 U)=V (Y Z p.start):=az h 3
def Rd.c4(h:Rd w rb s tv p st):w.cell? (S rb 4 U)=V (Y Z p.from_):=az h 4
def Rd.c5(h:Rd w rb s tv p st):w.cell? (S rb 5 U)=V (Y Z p.body):=az h 5
def Rd.c6(h:Rd w rb s tv p st):w.cell? (S rb 6 U)=V (Y Z p.at_):=az h 6
def Rd.c7(h:Rd w rb s tv p st):w.cell? (S rb 7 U)=V (ce st):=az h 7
def Rd.fz(h:Rd w rb s tv p st)(j:Nat):w.frozen? (S rb j U)=da:=cB h j
def Rd.lt(h:Rd w rb s tv p st):rb<w.1.size:=bO h
def Rd.set(a:RP)(b:Bool)(c:w'.1[rb]? =V (bi #[cd s,tv,Y Z a.line,Y Z a.start,Y Z a.from_,Y Z a.body,Y Z a.at_,ce b] 244 (0,0))):Rd w' rb s tv a b:=c
def Rd.other(h:Rd w rb s tv p st){r:Option Nat}(b:w.grownBy w' r)(a:V rb≠r):Rd w' rb s tv p st:=(b.block rb h.lt a).trans h
def Rd.s2(h:Rd w rb s tv p st)(v:Nat):Rd (w.setCell (S rb 2 U)<|Y Z v) rb s tv ⟨v,p.start,p.from_,p.body,p.at_⟩ st:=by unfold Rd;rw[fe h];rfl
def Rd.s3(h:Rd w rb s tv p st)(v:Nat):Rd (w.setCell (S rb 3 U)<|Y Z v) rb s tv ⟨p.line,v,p.from_,p.body,p.at_⟩ st:=by unfold Rd;rw[fe h];rfl
def Rd.s4(h:Rd w rb s tv p st)(v:Nat):Rd (w.setCell (S rb 4 U)<|Y Z v) rb s tv ⟨p.line,p.start,v,p.body,p.at_⟩ st:=by unfold Rd;rw[fe h];rfl
def Rd.s5(h:Rd w rb s tv p st)(v:Nat):Rd (w.setCell (S rb 5 U)<|Y Z v) rb s tv ⟨p.line,p.start,p.from_,v,p.at_⟩ st:=by unfold Rd;rw[fe h];rfl
def Rd.s6(h:Rd w rb s tv p st)(v:Nat):Rd (w.setCell (S rb 6 U)<|Y Z v) rb s tv ⟨p.line,p.start,p.from_,p.body,v⟩ st:=by unfold Rd;rw[fe h];rfl
def Rd.s7(h:Rd w rb s tv p st)(v:Bool):Rd (w.setCell (S rb 7 U)<|ce v) rb s tv p v:=by unfold Rd;rw[fe h];rfl
def Rd.drewN(h:Rd w rb s tv p st)(m:Nat):Rd (w.drewN m) rb s tv p st:=h
end
def YH {a b:Bool}(h:a=b):Ending.returned (ce a)=bj (ce b):=by rw[h]
def nH(s:bc)(p:RP)(a:Bool):Bool:=a||decide (p.at_=s.size)
def ze(s:bc)(p:RP)(a:Bool):Bool:=nH s p a||decide (bt s p.at_=10)
def afR(w:cw)(b:Nat)(s:bc)(f:cJ)(p:RP)(a:Bool)(h:Rd w b s f p a):cP prog 177 #[.pointer<|V<|S b 0 U] w λe g=>e=bj (ce<|nH s p a)/\∃m,g=w.drewN m:=by
 have j:=h.c0;have d:=h.c6;have k:=h.c7;clear h;obtain⟨n,o,l,i,c⟩:=p;unfold nH;simp only at d ⊢;cases a with
 |true=>go_enter func177,ntmps177;go_wp2_with fail;go_quiet(fail);go_wp2;go_ret;exact⟨rfl,_,rfl⟩
 |false=>go_enter func177,ntmps177;go_wp2_with fail;go_quiet(fail);go_wp2;go_ret;exact⟨YH<|by rw[DM,Cv];simp;omega,_,rfl⟩
def afa(w:cw)(j:Nat)(s:bc)(n:cJ)(p:RP)(d:Bool)(h:Rd w j s n p d)(g:p.at_<=s.size):cP prog 182 #[.pointer<|V<|S j 0 U] w λe l=>e=bj (ce<|ze s p d)/\∃m,l=w.drewN m:=by
 have i:dd (∀m,cP prog 177 #[.pointer<|V<|S j 0 U] (w.drewN m) λe l=>e=bj (ce<|nH s p d)/\∃k,l=(w.drewN m).drewN k):=λm=>afR _ j s n p d (h.drewN m)
 have u:=h.c0;have o:=h.c6;clear h;unfold ze;by_cases a:nH s p d=db
 .rw[a]at i ⊢;clear a g;go_enter func182,ntmps182;go_wp2_with fail;go_quiet(first|(go_at_call 177;refine Calls.quiet_of<|i _));go_wp2;go_ret;exact⟨rfl,_,rfl⟩
 have a:nH s p d=da:=by simpa using a
 have b:p.at_<s.size:=by unfold nH at a;simp only[Fy,C2]at a;omega
 rw[a]at i ⊢;rw[pV b];clear a g;obtain⟨x,y,v,t,f⟩:=p;simp only at b o ⊢;have r:(f:Int)<(s.size:Int):=by omega
 obtain⟨c,q⟩:∃c,s[f]'b=c:=⟨_,rfl⟩
 rw[q];go_enter func182,ntmps182;go_wp2_with fail;go_quiet(first|(go_at_call 177;refine Calls.quiet_of<|i _));go_wp2;go_ret;exact⟨YH<|by rw[DM,Cv];simp,_,rfl⟩
def pX(p:RP):RP:=⟨p.line+1,p.at_+1,p.at_+1,p.at_+1,p.at_+1⟩
def amv(w:cw)(c:Nat)(s:bc)(x:cJ)(p:RP)(u:Bool)(h:Rd w c s x p u)(n:p.at_<=100000)(B:p.line<=100000):cP prog 180 #[.pointer<|V<|S c 0 U] w λe y=>(∃v,e=bj v)/\Rd y c s x (pX p) u/\w.grownBy y (V c):=by
 obtain⟨i,E,D,C,g⟩:=p;simp only at n B;unfold pX;simp only;obtain⟨a,d⟩:∃a,g+1=a:=⟨_,rfl⟩
 rw[d];have A:=ah d;clear d;have o:=ah h;have q:=h.c2;have m:=h.c6;have f2:=h.fz 2;have f3:=h.fz 3;have f4:=h.fz 4;have f5:=h.fz 5;have f6:=h.fz 6;have j:=h.c3;have k:=h.c4;have l:=h.c5;clear h;simp only at q j k l m;go_enter func180,ntmps180;go_wp2;have t:((g:Int)+1)=(a:Int):=by have:=A.out;omega
 have r:((i:Int)+1)=((i+1:Nat):Int):=by omega
 rw[t,r];clear t r q j k l m f2 f3 f4 f5 f6;have b:=(o.out.s6 a).s2 (i+1);have g1:w.grownBy ((w.setCell (S c 6 U)<|Y Z (a:Int)).setCell (S c 2 U) (Y Z ((i+1:Nat):Int))) (V c):=nU<|nU<|pZ _ _;generalize(w.setCell (S c 6 U)<|Y Z (a:Int)).setCell (S c 2 U) (Y Z ((i+1:Nat):Int))=W at*;have m:=b.c6;have j:=b.c3;have k:=b.c4;have l:=b.c5;have f3:=b.fz 3;have f4:=b.fz 4;have f5:=b.fz 5;simp only at j k l m;have f:=ah b;have z:=ah g1;clear b g1 o;go_region;all_goals
  go_wp2;go_end0;refine⟨⟨_,rfl⟩,?_,?_⟩
  .first
    |exact((f.out.s3 a).s4 a).s5 a
    |exact((f.out.s3 a).s5 a).s4 a
    |exact((f.out.s4 a).s3 a).s5 a
    |exact((f.out.s4 a).s5 a).s3 a
    |exact((f.out.s5 a).s3 a).s4 a
    |exact((f.out.s5 a).s4 a).s3 a
  exact Ez<|nU<|nU<|nU z
def asE(w:cw)(b:Nat)(s:bc)(u:cJ)(p:RP)(t:Bool)(h:Rd w b s u p t)(g:p.at_<s.size)(C:s.size<=100000):cP prog 178 #[.pointer<|V<|S b 0 U] w λe x=>e=bj (df #[Y .u8<|bt s p.at_,Y .u8<|bt s<|p.at_+1])/\cD w.1.size w x:=by
 have n:=h.c0;have m:=h.c6;have f:=ah h.lt;clear h;rw[pV g];obtain⟨D,E,B,A,a⟩:=p;simp only at g m ⊢;have r:(a:Int)<(s.size:Int):=by omega
 obtain⟨c,o⟩:∃c,s[a]'g=c:=⟨_,rfl⟩
 rw[o];have k:(w.alloc<|bi #[Y .u8 0,Y .u8 0] 246).cell? (S b 0 U)=V (cd s):=(uY _ _ _ f.out).trans n;have l:(w.alloc<|bi #[Y .u8 0,Y .u8 0] 246).cell? (S b 6 U)=V (Y Z a):=(uY _ _ _ f.out).trans m;have F:((w.alloc<|bi #[Y .u8 0,Y .u8 0] 246).alloc (bi #[Y .u8 0,Y .u8 0] 246)).cell? (S b 0 U)=V (cd s):=(uY _ _ _ (by simp;have:=f.out;omega)).trans k;have G:((w.alloc<|bi #[Y .u8 0,Y .u8 0] 246).alloc (bi #[Y .u8 0,Y .u8 0] 246)).cell? (S b 6 U)=V (Y Z a):=(uY _ _ _ (by simp;have:=f.out;omega)).trans l;by_cases i:a+1<s.size
 .rw[pV i];obtain⟨d,q⟩:∃d,s[a+1]'i=d:=⟨_,rfl⟩
  rw[q];have j:(a:Int)+1<(s.size:Int):=by omega
  go_enter func178,ntmps178;go_wp2;go_region;all_goals
   have y:((w.alloc<|bi #[Y .u8 0,Y .u8 0] 246).alloc (bi #[Y .u8 c.toNat,Y .u8 10] 246)).cell? (S b 0 U)=V (cd s):=(uY _ _ _ (by simp;have:=f.out;omega)).trans k;have z:((w.alloc<|bi #[Y .u8 0,Y .u8 0] 246).alloc (bi #[Y .u8 c.toNat,Y .u8 10] 246)).cell? (S b 6 U)=V (Y Z a):=(uY _ _ _ (by simp;have:=f.out;omega)).trans l;go_wp2;go_region;go_wp2;go_region;all_goals
    go_wp2;exact bU (v:=df #[Y .u8 c.toNat,Y .u8 d.toNat]) (by simp[results,results178,Tryz.isAgg246,Tryz.sizeOf246,go_sem]) rfl ⟨rfl,(((((aA _ _).alloc (au _) _).alloc (by simp) _).drew).drew).drew⟩
 rw[BB i];have j:¬(a:Int)+1<(s.size:Int):=by omega
 go_enter func178,ntmps178;go_wp2;go_region;all_goals
  have y:((w.alloc<|bi #[Y .u8 0,Y .u8 0] 246).alloc (bi #[Y .u8 c.toNat,Y .u8 10] 246)).cell? (S b 0 U)=V (cd s):=(uY _ _ _ (by simp;have:=f.out;omega)).trans k;have z:((w.alloc<|bi #[Y .u8 0,Y .u8 0] 246).alloc (bi #[Y .u8 c.toNat,Y .u8 10] 246)).cell? (S b 6 U)=V (Y Z a):=(uY _ _ _ (by simp;have:=f.out;omega)).trans l;go_wp2;go_region;go_wp2;exact bU (v:=df #[Y .u8 c.toNat,Y .u8 10]) (by simp[results,results178,Tryz.isAgg246,Tryz.sizeOf246,go_sem]) rfl ⟨rfl,((((aA _ _).alloc (au _) _).alloc (by simp) _).drew).drew⟩
def bY(s:bc)(i:Nat):Nat:=if i<s.size/\bt s i≠10 then bY s (i+1)else i
termination_by s.size - i
def NH {s:bc}{i:Nat}(h:i<=s.size):bY s i<=s.size:=by
 fun_induction bY s i with
 |case1 i a ih=>exact ih<|by omega
 |case2 i a=>exact h
def G7(s:bc)(i:Nat):i<=bY s i:=by
 fun_induction bY s i with
 |case1 i a ih=>omega
 |case2 i a=>omega
def asJ(w:cw)(f:Nat)(s:bc)(t:cJ)(p:RP)(c:Bool)(h:Rd w f s t p c)(l:p.at_<=s.size)(N:s.size<=100000):cP prog 183 #[.pointer<|V<|S f 0 U] w λe u=>(∃v,e=bj v)/\Rd u f s t {p with at_:=if c then p.at_ else bY s p.at_} c/\w.grownBy u (V f):=by
 obtain⟨n,o,k,j,r⟩:=p;simp only at l ⊢;obtain⟨E,z⟩:∃E,(if c then r else bY s r)=E:=⟨_,rfl⟩
 rw[z];have D:=ah z;clear z;go_enter func183,ntmps183;go_wp2;go_loopg [] (s.size - r) (λH W=>∃a,a<=s.size/\H=s.size - a/\Rd W f s t ⟨n,o,k,j,a⟩ c/\w.grownBy W (V f)/\(if c then a else bY s a)=E);exact⟨r,l,rfl,h,pZ _ _,D⟩;obtain⟨a,I,rfl,i,A,d⟩:=hrel;have C:=ah i;have B:=ah A;have q:dd (∀_x:Nat,cP prog 182 #[.pointer<|V<|S f 0 U] wr λe u=>e=bj (ce<|ze s ⟨n,o,k,j,a⟩ c)/\∃m,u=wr.drewN m):=λ_=>afa wr f s t ⟨n,o,k,j,a⟩ c i I
 have L:=ah d;by_cases b:ze s ⟨n,o,k,j,a⟩ c=db
 .rw[b]at q;have x:dd (a=E):=by
   show _=_;unfold ze nH at b;simp only[Fz,Es]at b;cases c with
   |true=>exact d
   |false=>rw[ai<|by decide,bY,ai]at d;exact d;rintro⟨M,y⟩;rcases b with(g|g)|g;cases g;omega;exact y g
  clear b i A d;go_wp2_with(go_at_call 182;refine(q 0).mono ?_;rintro G K ⟨rfl,m,rfl⟩);go_end0;refine⟨⟨_,rfl⟩,?_,Ez B⟩;rw[<-x.out];exact C.out.drewN _
 have b:ze s ⟨n,o,k,j,a⟩ c=da:=by simpa using b
 rw[b]at q;unfold ze nH at b;simp only[Fy,C2]at b;obtain⟨⟨rfl,y⟩,g⟩:=b;have x:dd ((if da then a+1 else bY s (a+1))=E):=by show(if da=db then _ else _)=_;rw[ai<|by decide]at d ⊢;rw[bY,aj ⟨by omega,g⟩]at d;exact d
 have F:=i.c6;have f6:=i.fz 6;simp only at F;have J:a<s.size:=by omega
 clear i A d y g;go_wp2_with(go_at_call 182;refine(q 0).mono ?_;rintro G K ⟨rfl,m,rfl⟩);go_roundg (s.size - (a+1));exact⟨a+1,by omega,rfl,(C.out.drewN _).s6 (a+1),nU<|Ez B,x⟩;omega
def Same(A B:cw):Prop:=∀(k:Nat)(o:Obj),A.1[k]? =V o->o.isCells=da->B.1[k]? =V o
def aq6 {d:Type}(a:cw->cw->Prop)(I:List d->cw->Prop)(c:Code->List d->cw->Prop)(b:List d)(W:cw):Exit->Act->cw->Prop
 | .normal,_,W'=>Same W W'/\a W W'/\I b W'
 | .ret,_,W'=>Same W W'/\a W W'/\c .ret b W'
 | .exit id,_,W'=>Same W W'/\a W W'/\c (.exit id) b W'
 | .goto t,_,W'=>Same W W'/\a W W'/\c (.goto t) b W'
 | .panic _,_,_=>False
 | .outgrown,_,_=>False
def ja {W:cw}{l k:Nat}{o:Obj}(h:k≠l):(W.putObj l o).1[k]? =W.1[k]? :=World.putObj_heap_other h
structure PR where
 line:Nat
 kind:Nat
 from_:Nat
 dR:Nat
 body:Nat
 end_:Nat
def Mf(x:PR):Array cJ:=#[Y Z x.line,df #[Y Z x.kind,Y Z x.from_,Y Z x.dR,Y Z x.body,Y Z x.end_]]
structure lT(A B:World):Prop where
 os:B.os=A.os
 tape:B.tape=A.tape
 output:B.output=A.output
 size:A.1.size<=B.1.size
 block:∀(k:Nat)(o:Obj),A.1[k]? =some o->(∀c fr,o=Obj.cells c 244 fr->¬(c.size=8/\∃t,c[0]? =some (.string t)))->B.1[k]? =some o
structure zR(n₀:Nat)(A B:World):Prop where
 below:Below n₀ A B
 rd:∀(k:Nat)(c:Array Value)(fr:Nat×Nat),A.1[k]? =some (Obj.cells c 244 fr)->B.1[k]? =some (Obj.cells c 244 fr)
def lT.Hf {A B:cw}{b:Nat}{c:Array cJ}{d:Nat×Nat}(h:A.1[b]? =V (bi c 244 d))(a:A.grownBy B<|V b)(f:c.size=8/\∃t,c[0]? =V (cd t):=by exact⟨rfl,_,rfl⟩):lT A B where
 os:=a.os
 tape:=a.tape
 output:=a.output
 size:=a.size
 block k o hk hne:=by rw[a.block k<|bO hk];exact hk;intro e;obtain rfl:=aI e;rw[h]at hk;exact hne _ _ (aI hk).symm f
structure Tl(l n₀:Nat)(J Jx:List PR->World->Prop)(X:List PR):Prop where
 hJ:∀pre A B,J pre A->lT A B->J pre B
 Dd:∀pre A B,Jx pre A->lT A B->Jx pre B
 hY:∀pre x W1,J pre W1->(pre++[x])<+:X->YieldAt Fence.wide 0 prog l (Mf x) W1 λe W'=>(e= .returned (.bool true)/\J (pre++[x]) W'/\zR n₀ W1 W')∨(e= .returned (.bool false)/\Jx (pre++[x]) W'/\zR n₀ W1 W')
structure Rs(w:World)(rb:Nat)(s:bc)(l:Nat)(J Jx:List PR->World->Prop)(X:List PR)(p:RP)(st:Bool)(pre:List PR):Prop where
 rd:Rd w rb s (.func (.yield l) #[] #[]) p st
 go:st=false->J pre w
 no:st=true->∃q,q<+:X/\Jx q w
def dS(k t:Nat)(p:RP):List PR:=if p.from_=p.at_+t then []else [⟨p.line,k,p.from_ - p.start,p.at_+t - p.start,if k=0 then 0 else p.body - p.start,if k=0 then 0 else p.at_ - p.start⟩]
def cQ(t:Nat)(p:RP):RP:=if p.from_=p.at_+t then⟨p.line,p.start,p.from_,p.body,p.at_+t⟩else⟨p.line,p.start,p.at_+t,p.at_+t,p.at_+t⟩
def iO(t:Nat)(p:RP)(a:Bool):RP:=if a then⟨p.line,p.start,p.from_,p.body,p.at_+t⟩else cQ t p
section
variable{w w':World}{rb:Nat}{s:ByteArray}{l n₀:Nat}{J Jx:List PR->World->Prop}{X:List PR}{p p':RP}{st st':Bool}{pre:List PR}
def Rs.nR(h:Rs w rb s l J Jx X p st pre)(T:Tl l n₀ J Jx X)(a:lT w w')(c:Rd w' rb s (.func (.yield l) #[] #[]) p' st):Rs w' rb s l J Jx X p' st pre:=
 ⟨c,λe=>T.hJ _ _ _ (h.go e) a,λe=>by obtain⟨q,b,hx⟩:=h.no e;exact⟨q,b,T.Dd _ _ _ hx a⟩⟩
def Rs.grown(h:Rs w rb s l J Jx X p st pre)(T:Tl l n₀ J Jx X)(a:w.grownBy w'<|V rb)(b:Rd w' rb s (.func (.yield l) #[] #[]) p' st):Rs w' rb s l J Jx X p' st pre:=
 h.nR T (lT.Hf h.rd a) b
end
def Jk {a b:cw}{r:Option Nat}(h:a.grownBy b r)(o:Obj):a.grownBy (b.alloc o) r:=⟨h.os,h.tape,h.output,by have:=h.size;simp;omega,λk d c=>(dh _ _ _ (by have:=h.size;omega)).trans (h.block k d c)⟩
def Below.Fa {c:Nat}{a b:cw}{d:Nat}(h:a.grownBy b<|V d)(f:c<=d)(g:c<=a.1.size):cD c a b:=(aA c a).grown h g (λk e=>by obtain rfl:=aI e;exact f)
def Ew(n:Nat):Code->Option Code
 | .region id ops d=>if id=n then V (.region id ops d)else U
 |.seq a b=>match Ew n a with
  |some c=>V c
  |none=>Ew n b
 | .block _ c=>Ew n c
 | .scope c=>Ew n c
 | .loop c=>Ew n c
 |.cond _ a b=>match Ew n a with
  |some c=>V c
  |none=>Ew n b
 |_=>U
noncomputable def aly:Code:=((Tryz.f179.body.bind<|Ew 6).getD .skip)
def D3(w:cw)(h o:Nat)(s:bc)(l a:Nat)(J u:List PR->cw->Prop)(X:List PR)(T:Tl l a J u X)(hn:a<=h)(p:RP)(c:List PR)(k F G B D:Nat)(d:cw) (q:d.1[o]? =V (bi #[Y Z k,Y Z F,Y Z G,Y Z B,Y Z D] 75 (0,0))) (z:cD a w d) (t:Rs d h s l J u X p da c) (hX:(c++[(⟨p.line,k,F,G,B,D⟩:PR)])<+:X) (K:Act->cw->Prop) (R0:Ending->cw->Prop) (u1 u2 u3 u4 u5 u6 u8 u9 vI wQ wR wT wU wV u16 wW wX wY wZ w9 xd u23 u24 xg u26 xh u28 xm xo xq u32 u33 xu xw xx xy xz xA xB xC xD xE u44 xG xH xI xJ xK xL xM xN xO xP xQ xR xS xU xV xW xX xY xZ u64 x8 x9 ya yc yg yh yj ym yo zm zn zo zq zu zw zx zy zz zA zB zC zD u87 u88 u89 u90 u91 u92 u93 u94 u95 u96 u97 u98 u99 y x:cJ) (hK:∀(b:Bool)(v:cw)(N O P Q R W aa ab ac ad ZG ae ZH af:cJ),cD a w v->Rd v h s (.func (.yield l) #[] #[]) p (!b)->(b=db->J (c++[⟨p.line,k,F,G,B,D⟩]) v)->(b=da->u (c++[⟨p.line,k,F,G,B,D⟩]) v)->K {tmps:=#[.pointer<|V<|S h 0 U,u1,u2,u3,u4,u5,u6,.pointer<|V<|S o 0 U,u8,u9,vI,wQ,wR,wT,wU,wV,u16,wW,wX,wY,wZ,w9,xd,u23,u24,xg,u26,xh,u28,xm,xo,xq,u32,u33,xu,xw,xx,xy,xz,xA,xB,xC,xD,xE,u44,xG,xH,xI,xJ,xK,xL,xM,xN,xO,xP,xQ,xR,xS,xU,xV,xW,xX,xY,xZ,u64,x8,x9,ya,yc,yg,yh,yj,ym,yo,N,O,P,Q,R,W,aa,ab,ac,ad,ZG,ae,ZH,af,u88,u89,u90,u91,u92,u93,u94,u95,u96,u97,u98,u99,y,x],defers:=[]} v):Code.wp prog aly (Exit.then K<|bodyPost prog Tryz.f179 R0) {tmps:=#[.pointer<|V<|S h 0 U,u1,u2,u3,u4,u5,u6,.pointer<|V<|S o 0 U,u8,u9,vI,wQ,wR,wT,wU,wV,u16,wW,wX,wY,wZ,w9,xd,u23,u24,xg,u26,xh,u28,xm,xo,xq,u32,u33,xu,xw,xx,xy,xz,xA,xB,xC,xD,xE,u44,xG,xH,xI,xJ,xK,xL,xM,xN,xO,xP,xQ,xR,xS,xU,xV,xW,xX,xY,xZ,u64,x8,x9,ya,yc,yg,yh,yj,ym,yo,zm,zn,zo,zq,zu,zw,zx,zy,zz,zA,zB,zC,zD,u87,u88,u89,u90,u91,u92,u93,u94,u95,u96,u97,u98,u99,y,x],defers:=[]} d:=by
 conv=>arg 2;whnf
 have HK:=ah hK;have HP:=ah q;have C:dd (cD a w d/\Rs d h s l J u X p da c):=⟨z,t⟩
 have HX:=ah hX;clear hK z hX;obtain⟨r,M,I,H,E⟩:=p;simp only at HX;have c1:=t.rd.c1;have c2:=t.rd.c2;simp only at c2;have q0:d.cell? (S o 0 U)=V (Y Z k):=az q 0;have q1:d.cell? (S o 1 U)=V (Y Z F):=az q 1;have q2:d.cell? (S o 2 U)=V (Y Z G):=az q 2;have q3:d.cell? (S o 3 U)=V (Y Z B):=az q 3;have q4:d.cell? (S o 4 U)=V (Y Z D):=az q 4;clear q t;obtain⟨fn,tmps,g,m,hy,hR⟩:=T.hY c ⟨r,k,F,G,B,D⟩ d.drew (T.hJ _ _ _ (C.out.2.go rfl) (lT.Hf C.out.2.rd<|Ey<|pZ _ _)) HX.out;have A:RoundIn Fence.wide 0 prog l fn tmps g m d.drew λe j=>∃b,e=bj (ce b)/\j.cell? (S h 7 U)=V (ce da)/\j.frozen? (S h 7 U)=da/\dd (cD a w j/\Rd j h s (.func (.yield l) #[] #[]) ⟨r,M,I,H,E⟩ da/\(b=db->J (c++[⟨r,k,F,G,B,D⟩]) j)/\(b=da->u (c++[⟨r,k,F,G,B,D⟩]) j)):=by refine hR.mono ?_;have z:=C.out.1;have t:=C.out.2.rd;rintro e j (⟨rfl,L,i⟩|⟨rfl,L,i⟩);have f:Rd j h s (.func (.yield l) #[] #[]) ⟨r,M,I,H,E⟩ da:=i.rd _ _ _ t;exact⟨db,rfl,f.c7,f.fz 7,z.drew.trans i.below,f,λ_=>L,λe=>by cases e⟩;have f:Rd j h s (.func (.yield l) #[] #[]) ⟨r,M,I,H,E⟩ da:=i.rd _ _ _ t;exact⟨da,rfl,f.c7,f.fz 7,z.drew.trans i.below,f,(λe=>by cases e),λ_=>L⟩
 have ai:(Instr.yield l #[Y Z r,df #[Y Z k,Y Z F,Y Z G,Y Z B,Y Z D]]).run prog d.drew= .ok (.round l fn tmps g m) d.drew:=hy;clear hR hy;have ag:Fence.wide.depth=U:=rfl;refine(Oo (n:=0)).1 ?_
 gi_region_with (first|((first|refine A.mono ?_|refine⟨rfl,A.mono ?_⟩);rintro ev W4 ⟨b,rfl,v7,g7,H4⟩))
 all_goals
  obtain⟨k1,k2,k3,k4⟩:=H4.out;have ka:lT W4 (W4.setCell (S h 7 U)<|ce (!b)):=lT.Hf k2<|nU<|pZ _ _;exact HK.out b _ _ _ _ _ _ _ _ _ _ _ _ _ _ _ (k1.setCell (p:=(S h 7 U)) hn _) (k2.s7 _) (λe=>T.hJ _ _ _ (k3 e) ka) (λe=>T.Dd _ _ _ (k4 e) ka)
def EC(w:cw)(d:Nat)(s:bc)(l a:Nat)(J I:List PR->cw->Prop)(X:List PR)(T:Tl l a J I X)(hn:a<=d)(p:RP)(st:Bool)(f:List PR)(h:Rs w d s l J I X p st f)(k t:Nat)(hk:k<=2)(ht:t<=2) (h1:p.start<=p.from_) (h2:p.start<=p.body) (h3:p.start<=p.at_) (h4:p.at_<=100000) (h5:p.from_<=100000) (h6:p.body<=100000) (hX:st=da->(f++dS k t p)<+:X):cP prog 179 #[.pointer<|V<|S d 0 U,Y Z k,Y Z t] w λe w'=>(∃v,e=bj v)/\cD a w w'/\∃L,(st=db->L=db)/\Rs w' d s l J I X (iO t p st) L (f++dS k t p):=by
 obtain⟨j,g,n,u,pg⟩:=p;simp only at h1 h2 h3 h4 h5 h6;have aw:=h.rd.lt;have O:=h.rd.c6;have f6:=h.rd.fz 6;simp only at O;obtain⟨c,r⟩:=ac<|pg+t;have HA:=ah r;have HH:=ah h;have A:=h.rd.s6 c;have W:w.grownBy (w.setCell (S d 6 U)<|Y Z c) (V d):=nU<|pZ _ _;have eN:Rs (w.setCell (S d 6 U)<|Y Z c) d s l J I X ⟨j,g,n,u,c⟩ st f:=h.grown T W A;have R:cD a w (w.setCell (S d 6 U)<|Y Z c):=Below.Fa W hn (by omega);have e0:((pg:Int)+(t:Int))=(c:Int):=by omega
 cases st with
 |true=>
  have M:dd (cD a w (w.setCell (S d 6 U)<|Y Z c)/\Rs (w.setCell (S d 6 U)<|Y Z c) d s l J I X ⟨j,g,n,u,c⟩ db f):=⟨R,eN⟩
  have c7:=A.c7;have y:iO t ⟨j,g,n,u,pg⟩ db=⟨j,g,n,u,c⟩:=by rw[iO,aj rfl,r]
  rw[y];clear y h A W eN R r hX;go_enter func179,ntmps179;go_wp2;go_quiet(fail);go_wp2;refine bU (Cg rfl _ _ _) rfl ?_;refine⟨⟨_,rfl⟩,gY M.out.1 _,db,λ_=>rfl,⟨M.out.2.rd.drewN _,(λe=>by cases e),λ_=> ?_⟩⟩;obtain⟨q,hq,hx⟩:=M.out.2.no rfl;exact⟨q,hq,T.Dd _ _ _ hx (lT.Hf M.out.2.rd<|Ez<|pZ _ _)⟩
 |false=>
  have M:dd (cD a w (w.setCell (S d 6 U)<|Y Z c)/\Rs (w.setCell (S d 6 U)<|Y Z c) d s l J I X ⟨j,g,n,u,c⟩ da f):=⟨R,eN⟩
  have c7:=A.c7;have N:=A.c4;have LY:=A.c6;simp only at N LY;by_cases H:n=c
  .have y:iO t ⟨j,g,n,u,pg⟩ da=⟨j,g,n,u,c⟩:=(by rw[iO,ai<|by decide,cQ,aj<|by rw[<-r];exact H,r]);have z:dS k t ⟨j,g,n,u,pg⟩=[]:=(by rw[dS,aj<|by rw[<-r];exact H]);rw[y,z,mH];have ad:((n:Int)==(c:Int))=db:=(by simp[H]);clear y z h A W eN R r hX H;go_enter func179,ntmps179;go_wp2;go_quiet(fail);go_wp2;refine bU (Cg rfl _ _ _) rfl ?_;exact⟨⟨_,rfl⟩,gY M.out.1 _,da,λe=>e,M.out.2.grown T (Ez<|pZ _ _)<|M.out.2.rd.drewN _⟩
  have y:iO t ⟨j,g,n,u,pg⟩ da=⟨j,g,c,c,c⟩:=(by rw[iO,ai<|by decide,cQ,ai<|by rw[<-r];exact H,r]);have ad:((n:Int)==(c:Int))=da:=(by simp;omega);have Q:=A.c3;obtain⟨F,hF⟩:∃F,n - g=F:=⟨_,rfl⟩
  obtain⟨G,hG⟩:∃G,pg+t - g=G:=⟨_,rfl⟩
  have eF:(n:Int) - (g:Int)=(F:Int):=(by omega);have eG:(c:Int) - (g:Int)=(G:Int):=(by omega);by_cases aa:k=0
  .subst aa;have z:dS 0 t ⟨j,g,n,u,pg⟩=[⟨j,0,F,G,0,0⟩]:=(by rw[dS,ai<|by rw[<-r];exact H,hF,hG,aj rfl,aj rfl]);have rG:=hX rfl;rw[z]at rG;rw[y,z];have HX:=ah rG;clear y z h A W eN R r hX rG H hF hG;go_enter func179,ntmps179;go_wp2;go_quiet(fail);go_wp2;obtain⟨m,P⟩:=ac<|(w.setCell (S d 6 U)<|Y Z c).drewN nq;have E:dd (cD a w m/\Rs m d s l J I X ⟨j,g,n,u,c⟩ da f):=(by rw[P];exact⟨gY M.out.1 _,M.out.2.grown T (Ez<|pZ _ _)<|M.out.2.rd.drewN _⟩);rw[<-P];clear P M c7 N LY Q O f6;have hz:d<m.1.size:=E.out.2.rd.lt;have Q:=E.out.2.rd.c3;have N:=E.out.2.rd.c4;have O:=E.out.2.rd.c6;simp only at Q N O;have z3:(m.alloc<|bi #[Y Z 0,Y Z 0,Y Z 0,Y Z 0,Y Z 0] 75).cell? (S d 3 U)=V (Y Z g):=(uY _ _ _ hz).trans Q;have z4:(m.alloc<|bi #[Y Z 0,Y Z 0,Y Z 0,Y Z 0,Y Z 0] 75).cell? (S d 4 U)=V (Y Z n):=(uY _ _ _ hz).trans N;have z6:(m.alloc<|bi #[Y Z 0,Y Z 0,Y Z 0,Y Z 0,Y Z 0] 75).cell? (S d 6 U)=V (Y Z c):=(uY _ _ _ hz).trans O;go_region;all_goals
    go_wp2;obtain⟨W3,x⟩:=ac<|(m.alloc<|bi #[Y Z 0,Y Z F,Y Z G,Y Z 0,Y Z 0] 75).drew;have HP:dd (W3.1[m.1.size]? =V (bi #[Y Z 0,Y Z F,Y Z G,Y Z 0,Y Z 0] 75 (0,0))):=(by rw[x];exact World.alloc_heap_new m _);have K:m.grownBy W3 (V d):=(by rw[x];exact Ey<|Jk (pZ _ _) _);have yA:dd (cD a w W3/\Rs W3 d s l J I X ⟨j,g,n,u,c⟩ da f):=(by refine⟨E.out.1.trans<|Below.Fa K hn<|by omega,E.out.2.grown T K ?_⟩;rw[x];exact(dh _ _ _ hz).trans E.out.2.rd);rw[<-x];clear x K z3 z4 z6 Q N O hz E;generalize m.1.size=pb at*;refine D3 w d pb s l a J I X T hn ⟨j,g,n,u,c⟩ f 0 F G 0 0 W3 HP yA.out.1 yA.out.2 HX _ _ _ _ _ _ _ _ _ _ _ _ _ _ _ _ _ _ _ _ _ _ _ _ _ _ _ _ _ _ _ _ _ _ _ _ _ _ _ _ _ _ _ _ _ _ _ _ _ _ _ _ _ _ _ _ _ _ _ _ _ _ _ _ _ _ _ _ _ _ _ _ _ _ _ _ _ _ _ _ _ _ _ _ _ _ _ _ _ _ _ _ _ _ _ _ _ _ _ _ _ _ ?_;clear HP yA;intro b W5 ae af ag ak al am an ao ap aq ZG ar ZH au k1 C k3 k4;have H5:dd (cD a w W5/\Rd W5 d s (.func (.yield l) #[] #[]) ⟨j,g,n,u,c⟩ (!b)/\(b=db->J (f++[⟨j,0,F,G,0,0⟩]) W5)/\(b=da->I (f++[⟨j,0,F,G,0,0⟩]) W5)):=⟨k1,C,k3,k4⟩
    have N:=C.c4;have c5:=C.c5;have O:=C.c6;have f4:=C.fz 4;have f5:=C.fz 5;simp only at N c5 O;clear k1 C k3 k4;go_wp2;go_region;all_goals
     go_wp2;go_end0;have key:∀W6,W5.grownBy W6 (V d)->Rd W6 d s (.func (.yield l) #[] #[]) ⟨j,g,c,c,c⟩ (!b)->(∃v,Ending.returned (Value.tuple #[])=Ending.returned v)/\cD a w W6/\∃L,(da=db->L=db)/\Rs W6 d s l J I X ⟨j,g,c,c,c⟩ L (f++[⟨j,0,F,G,0,0⟩]):=λW6 hg hr=>by obtain⟨k1,C,k3,k4⟩:=H5.out;have ka:=lT.Hf C hg;refine⟨⟨_,rfl⟩,k1.trans<|Below.Fa hg hn<|by have:=C.lt;omega,!b,(λe=>by cases e),hr,λe=>T.hJ _ _ _ (k3<|by simpa using e) ka,λe=>⟨_,HX.out,T.Dd _ _ _ (k4<|by simpa using e) ka⟩⟩
     first
      |exact key _ (Ey (nU (nU (pZ _ _)))) ((H5.out.2.1.s4 c).s5 c)
      |exact key _ (Ey (nU (nU (pZ _ _)))) ((H5.out.2.1.s5 c).s4 c)
  have av:((k:Int)==0)=da:=(by simp;omega);obtain⟨B,hB⟩:∃B,u - g=B:=⟨_,rfl⟩
  obtain⟨D,hD⟩:∃D,pg - g=D:=⟨_,rfl⟩
  have eB:(u:Int) - (g:Int)=(B:Int):=(by omega);have eD:(pg:Int) - (g:Int)=(D:Int):=(by omega);have z:dS k t ⟨j,g,n,u,pg⟩=[⟨j,k,F,G,B,D⟩]:=(by rw[dS,ai<|by rw[<-r];exact H,hF,hG,ai aa,ai aa,hB,hD]);have rG:=hX rfl;rw[z]at rG;rw[y,z];have HX:=ah rG;clear y z h A W eN R r hX rG H hF hG hB hD aa;go_enter func179,ntmps179;go_wp2;go_quiet(fail);go_wp2;obtain⟨m,P⟩:=ac<|(w.setCell (S d 6 U)<|Y Z c).drewN nq;have E:dd (cD a w m/\Rs m d s l J I X ⟨j,g,n,u,c⟩ da f):=by rw[P];exact⟨gY M.out.1 _,M.out.2.grown T (Ez<|pZ _ _)<|M.out.2.rd.drewN _⟩
  rw[<-P];clear P M c7 N LY Q O f6;have hz:d<m.1.size:=E.out.2.rd.lt;have Q:=E.out.2.rd.c3;have N:=E.out.2.rd.c4;have O:=E.out.2.rd.c6;simp only at Q N O;have z3:(m.alloc<|bi #[Y Z 0,Y Z 0,Y Z 0,Y Z 0,Y Z 0] 75).cell? (S d 3 U)=V (Y Z g):=(uY _ _ _ hz).trans Q;have z4:(m.alloc<|bi #[Y Z 0,Y Z 0,Y Z 0,Y Z 0,Y Z 0] 75).cell? (S d 4 U)=V (Y Z n):=(uY _ _ _ hz).trans N;have z6:(m.alloc<|bi #[Y Z 0,Y Z 0,Y Z 0,Y Z 0,Y Z 0] 75).cell? (S d 6 U)=V (Y Z c):=(uY _ _ _ hz).trans O;go_region;all_goals
   go_wp2;obtain⟨W7,BL⟩:=ac<|(m.alloc<|bi #[Y Z k,Y Z F,Y Z G,Y Z 0,Y Z 0] 75).drew;have vM:dd (W7.1[m.1.size]? =V (bi #[Y Z k,Y Z F,Y Z G,Y Z 0,Y Z 0] 75 (0,0))):=(by rw[BL];exact World.alloc_heap_new m _);have iy:m.grownBy W7 (V d):=(by rw[BL];exact Ey<|Jk (pZ _ _) _);have CI:dd (a<=m.1.size/\m.1.size≠d):=⟨by omega,by omega⟩
   have FE:dd (cD a w W7/\Rs W7 d s l J I X ⟨j,g,n,u,c⟩ da f):=(by refine⟨E.out.1.trans<|Below.Fa iy hn<|by omega,E.out.2.grown T iy ?_⟩;rw[BL];exact(dh _ _ _ hz).trans E.out.2.rd);have Z4:dd (∀W8,W7.grownBy W8 (V m.1.size)->lT m W8):=λW8 jH=>by have a1:=lT.Hf E.out.2.rd iy;exact⟨jH.os.trans a1.os,jH.tape.trans a1.tape,jH.output.trans a1.output,bM a1.size jH.size,λi o hi ho=>(jH.block i (lW (bO hi) a1.size) λe=>by have:=bO hi;have:=aI e;omega).trans (a1.block i o hi ho)⟩
   rw[<-BL];clear BL iy z3 z4 z6 Q N O hz;generalize m.1.size=pb at*;have Q:=FE.out.2.rd.c3;have c5:=FE.out.2.rd.c5;simp only at Q c5;have q3:W7.cell? (S pb 3 U)=V (Y Z 0):=az vM 3;have q4:W7.cell? (S pb 4 U)=V (Y Z 0):=az vM 4;have g3:=cB vM 3;have g4:=cB vM 4;have ab:pb≠d:=CI.out.2;go_region;all_goals
    go_wp2;obtain⟨W3,x⟩:=ac<|((W7.setCell (S pb 3 U)<|Y Z B).setCell (S pb 4 U) (Y Z D)).drew;have K:W7.grownBy W3 (V pb):=(by rw[x];exact Ey<|nU<|nU<|pZ _ _);have HP:dd (W3.1[pb]? =V (bi #[Y Z k,Y Z F,Y Z G,Y Z B,Y Z D] 75 (0,0))):=(by rw[x];show((W7.setCell (S pb 3 U)<|Y Z B).setCell (S pb 4 U) (Y Z D)).1[pb]? =_;rw[fe<|fe vM.out _];rfl);have yA:dd (cD a w W3/\Rs W3 d s l J I X ⟨j,g,n,u,c⟩ da f):=(by refine⟨FE.out.1.trans<|Below.Fa K CI.out.1<|by have:=bO vM;have:=CI.out.1;omega,E.out.2.nR T (Z4.out W3 K)<|FE.out.2.rd.other K λe=>ab (aI e).symm⟩);rw[<-x];clear x K vM FE Z4 E CI ab q3 q4 g3 g4 Q c5;refine D3 w d pb s l a J I X T hn ⟨j,g,n,u,c⟩ f k F G B D W3 HP yA.out.1 yA.out.2 HX _ _ _ _ _ _ _ _ _ _ _ _ _ _ _ _ _ _ _ _ _ _ _ _ _ _ _ _ _ _ _ _ _ _ _ _ _ _ _ _ _ _ _ _ _ _ _ _ _ _ _ _ _ _ _ _ _ _ _ _ _ _ _ _ _ _ _ _ _ _ _ _ _ _ _ _ _ _ _ _ _ _ _ _ _ _ _ _ _ _ _ _ _ _ _ _ _ _ _ _ _ _ ?_;clear HP yA;intro b W5 ae af ag ak al am an ao ap aq ZG ar ZH au k1 C k3 k4;have H5:dd (cD a w W5/\Rd W5 d s (.func (.yield l) #[] #[]) ⟨j,g,n,u,c⟩ (!b)/\(b=db->J (f++[⟨j,k,F,G,B,D⟩]) W5)/\(b=da->I (f++[⟨j,k,F,G,B,D⟩]) W5)):=⟨k1,C,k3,k4⟩
    have N:=C.c4;have c5:=C.c5;have O:=C.c6;have f4:=C.fz 4;have f5:=C.fz 5;simp only at N c5 O;clear k1 C k3 k4;go_wp2;go_region;all_goals
     go_wp2;go_end0;have key:∀W6,W5.grownBy W6 (V d)->Rd W6 d s (.func (.yield l) #[] #[]) ⟨j,g,c,c,c⟩ (!b)->(∃v,Ending.returned (Value.tuple #[])=Ending.returned v)/\cD a w W6/\∃L,(da=db->L=db)/\Rs W6 d s l J I X ⟨j,g,c,c,c⟩ L (f++[⟨j,k,F,G,B,D⟩]):=λW6 hg hr=>by obtain⟨k1,C,k3,k4⟩:=H5.out;have ka:=lT.Hf C hg;refine⟨⟨_,rfl⟩,k1.trans<|Below.Fa hg hn<|by have:=C.lt;omega,!b,(λe=>by cases e),hr,λe=>T.hJ _ _ _ (k3<|by simpa using e) ka,λe=>⟨_,HX.out,T.Dd _ _ _ (k4<|by simpa using e) ka⟩⟩
     first
      |exact key _ (Ey (nU (nU (pZ _ _)))) ((H5.out.2.1.s4 c).s5 c)
      |exact key _ (Ey (nU (nU (pZ _ _)))) ((H5.out.2.1.s5 c).s4 c)
def dz(b:Nat)(p:RP)(a:Bool):RP:=⟨(iO 0 p a).line,(iO 0 p a).start,(iO 0 p a).from_,(iO 0 p a).at_+b,(iO 0 p a).at_+b⟩
structure tP(s:bc)(p:RP):Prop where
 a:p.start<=p.from_
 b:p.from_<=p.at_
 c:p.start<=p.body
 d:p.body<=s.size
 e:p.at_<=s.size
 f:p.line<=p.at_
section
variable{s:ByteArray}{p:RP}{st:Bool}{t:Nat}
def L6:(iO t p st).at_=p.at_+t:=by unfold iO cQ;split;rfl;split<;>rfl
def EA:(iO t p st).line=p.line:=by unfold iO cQ;split;rfl;split<;>rfl
def tP.cut(h:tP s p)(g:p.at_+t<=s.size):tP s (iO t p st):=by
 obtain⟨a,b,c,d,e,f⟩:=h;unfold iO cQ;split;constructor<;>simp only<;>omega
 split;constructor<;>simp only<;>omega
 constructor<;>simp only<;>omega
def tP.feed(h:tP s p)(g:p.at_+1<=s.size):tP s (pX p):=by obtain⟨a,b,c,d,e,f⟩:=h;unfold pX;constructor<;>simp only<;>omega
def tP.to(h:tP s p){j:Nat}(g:p.at_<=j)(i:j<=s.size):tP s ⟨p.line,p.start,p.from_,p.body,j⟩:=by obtain⟨a,b,c,d,e,f⟩:=h;constructor<;>simp only<;>omega
def tP.open(h:tP s p){g:Nat}(k:p.at_+g<=s.size):tP s (dz g p st):=by have i:=h.cut (t:=0) (st:=st) (by omega);obtain⟨a,b,c,d,e,f⟩:=i;have j:(iO 0 p st).at_=p.at_+0:=L6;unfold dz;constructor<;>simp only<;>omega
def NW {hd:Nat}:(dz hd p st).at_=p.at_+hd:=by show(iO 0 p st).at_+hd=_;rw[L6];omega
end
def ap4(w:cw)(f:Nat)(s:bc)(l a:Nat)(J m:List PR->cw->Prop)(X:List PR)(T:Tl l a J m X)(F:a<=f)(p:RP)(g:Bool)(c:List PR)(h:Rs w f s l J m X p g c)(o:Nat)(O:o<=2) (d:tP s p) (hs:s.size<=1000) (D:g=da->(c++dS 0 0 p)<+:X):cP prog 181 #[.pointer<|V<|S f 0 U,Y Z o] w λe r=>(∃v,e=bj v)/\cD a w r/\∃b,(g=db->b=db)/\Rs r f s l J m X (dz o p g) b (c++dS 0 0 p):=by
 have A:=EC w f s l a J m X T F p g c h 0 0 (by omega) (by omega) d.a d.c (by have:=d.a;have:=d.b;omega) (by have:=d.e;omega) (by have:=d.b;have:=d.e;omega) (by have:=d.d;omega) D;have B:=d.cut (t:=0) (st:=g) (by have:=d.e;omega);have G:(iO 0 p g).at_=p.at_:=L6;unfold dz;generalize iO 0 p g=q at*;generalize dS 0 0 p=C at*;have y:dd (cP prog 179 #[.pointer<|V<|S f 0 U,Y Z 0,Y Z 0] w λe r=>(∃v,e=bj v)/\cD a w r/\∃b,(g=db->b=db)/\Rs r f s l J m X q b (c++C)):=A;have I:q.at_<=1000:=by have:=B.e;omega
 clear A h D B G d;obtain⟨P,Q,N,K,z⟩:=q;simp only at I ⊢;obtain⟨k,n⟩:∃k,z+o=k:=⟨_,rfl⟩
 rw[n];have R:((z:Int)+(o:Int))=(k:Int):=by omega
 clear n;go_enter func181,ntmps181;go_wp2_with(go_at_call 179;refine y.out.mono ?_;rintro W u ⟨⟨v,rfl⟩,x,b,j,i⟩;(have M:=i.rd.c6);(have L:=i.rd.c5);(have f6:=i.rd.fz 6);(have f5:=i.rd.fz 5);simp only at M L;(have H:dd (cD a w u/\(g=db->b=db)/\Rs u f s l J m X ⟨P,Q,N,K,z⟩ b (c++C)):=⟨x,j,i⟩);clear x j i);go_end0;obtain⟨x,j,i⟩:=H.out;have E:u.grownBy ((u.setCell (S f 6 U)<|Y Z k).setCell (S f 5 U) (Y Z k)) (V f):=nU<|nU<|pZ _ _;exact⟨⟨_,rfl⟩,x.trans<|Below.Fa E F<|by have:=i.rd.lt;omega,b,j,i.grown T E<|(i.rd.s6 k).s5 k⟩
def qR(s:bc)(i:Nat):Nat×Bool:=
 if i<s.size/\bt s i≠10 then
  if bt s i=34 then(i,db)
  else if bt s i=92/\bt s (i+1)≠10 then qR s (i+2)
  else qR s (i+1)
 else(i,da)
termination_by s.size - i
def sw {s:bc}{i:Nat}(h:bt s i≠10):i<s.size:=by rcases dc i s.size with a|a;exact a;exact absurd (BB<|by omega) h
def NF(s:bc)(i:Nat):i<=(qR s i).1:=by fun_induction qR s i<;>simp_all<;>omega
def arj {s:bc}{i:Nat}(h:i<=s.size):(qR s i).1<=s.size:=by
 fun_induction qR s i with
 |case1 i a b=>exact h
 |case2 i a b c ih=>exact ih<|by have:=sw c.2;omega
 |case3 i a b c ih=>exact ih<|by omega
 |case4 i a=>exact h
def RS {s:bc}{i:Nat}(h:(qR s i).2=db):(qR s i).1<s.size/\bt s (qR s i).1=34:=by
 fun_induction qR s i with
 |case1 i a b=>exact⟨a.1,b⟩
 |case2 i a b c ih=>exact ih h
 |case3 i a b c ih=>exact ih h
 |case4 i a=>cases h
def qT(s:bc)(i:Nat):Nat:=if(qR s i).2 then 1 else 0
def RR {s:bc}{i:Nat}(h:i<=s.size):(qR s i).1+qT s i<=s.size:=by unfold qT;split;have:=(RS<|by assumption).1;omega;have:=arj h;omega
def dm(p:RP)(j:Nat):RP:=⟨p.line,p.start,p.from_,p.body,j⟩
def kK {t:Nat}{p:RP}:(cQ t p).at_=p.at_+t:=by unfold cQ;split<;>rfl
def BF {t:Nat}{p:RP}:iO t p da=cQ t p:=by unfold iO;rfl
def cI(s:bc)(a:Bool)(p:RP):List PR:=
 if p.at_<s.size then
  if a=db then
   if bt s p.at_=42/\bt s (p.at_+1)=47 then dS 2 2 p++cI s da (cQ 2 p)
   else if bt s p.at_=10 then dS 2 0 p++cI s db (pX<|cQ 0 p)
   else cI s db (dm p<|p.at_+1)
  else if bt s p.at_=34 then
   dS 0 0 p++(dS 1 (qT s<|p.at_+1) (dm (dz 1 p da) (qR s<|p.at_+1).1)++cI s da (cQ (qT s<|p.at_+1)<|dm (dz 1 p da) (qR s<|p.at_+1).1))
  else if bt s p.at_=47/\bt s (p.at_+1)=47 then
   dS 0 0 p++(dS 2 0 (dm (dz 2 p da)<|bY s<|p.at_+2)++cI s da (cQ 0<|dm (dz 2 p da)<|bY s<|p.at_+2))
  else if bt s p.at_=47/\bt s (p.at_+1)=42 then dS 0 0 p++cI s db (dz 2 p da)
  else if bt s p.at_=10 then dS 0 0 p++cI s da (pX<|cQ 0 p)
  else cI s da (dm p<|p.at_+1)
 else dS (if a then 2 else 0) 0 p
termination_by s.size - p.at_
decreasing_by
 .rw[kK];omega
 .show _ - ((cQ 0 p).at_+1)<_;rw[kK];omega
 .show _ - (p.at_+1)<_;omega
 .rw[kK];show _ - ((qR s<|p.at_+1).1+_)<_;have:=NF s<|p.at_+1;omega
 .rw[kK];show _ - (bY s (p.at_+2)+0)<_;have:=G7 s<|p.at_+2;omega
 .rw[NW];omega
 .show _ - ((cQ 0 p).at_+1)<_;rw[kK];omega
 show _ - (p.at_+1)<_;omega
structure Tk where
 k:Nat
 F:Nat
 T:Nat
 B:Nat
 E:Nat
def bR(s:bc)(q:Nat):Nat×Bool:=
 if q<s.size then if bt s q=42/\bt s (q+1)=47 then(q,db)else bR s (q+1)else(q,da)
termination_by s.size - q
def bT(s:bc)(q:Nat):Nat:=if(bR s q).2 then 2 else 0
def Rk(s:bc)(q:Nat):q<=(bR s q).1:=by fun_induction bR s q<;>simp_all<;>omega
def td {s:bc}{q:Nat}(h:q<=s.size):(bR s q).1+bT s q<=s.size:=by
 unfold bT
 fun_induction bR s q with
 |case1 q a b=>have:=sw (s:=s) (i:=q+1) (by rw[b.2];decide);simp;omega
 |case2 q a b ih=>exact ih<|by omega
 |case3 q a=>simp;omega
def dD(s:bc)(p:Nat):Tk:=
 if bt s p=34 then⟨1,p,(qR s<|p+1).1+qT s (p+1),p+1,(qR s<|p+1).1⟩
 else if bt s p=47/\bt s (p+1)=47 then⟨2,p,bY s p,p+2,bY s p⟩
 else if bt s p=47/\bt s (p+1)=42 then⟨2,p,(bR s<|p+2).1+bT s (p+2),p+2,(bR s<|p+2).1⟩
 else⟨0,p,p+1,0,0⟩
def NI {s:bc}{p:Nat}(h:bt s p≠10):bY s p=bY s (p+1):=by rw[bY,aj ⟨sw h,h⟩]
def Cs(s:bc)(p:Nat):p<(dD s p).T:=by unfold dD;split;have:=NF s<|p+1;simp only;omega;split;rename_i h;simp only;rw[NI<|by rw[h.1];decide];have:=G7 s<|p+1;omega;split;have:=Rk s<|p+2;simp only;omega;simp
def ZK(s:bc)(p:Nat):(dD s p).F=p:=by unfold dD;repeat (first|rfl|split)
def ZL(s:bc)(p:Nat)(h:(dD s p).k=0):dD s p=⟨0,p,p+1,0,0⟩:=by unfold dD at h ⊢;by_cases a:bt s p=34;rw[aj a]at h;cases h;rw[ai a]at h ⊢;by_cases b:bt s p=47/\bt s (p+1)=47;rw[aj b]at h;cases h;rw[ai b]at h ⊢;by_cases c:bt s p=47/\bt s (p+1)=42;rw[aj c]at h;cases h;rw[ai c]
def lG(t:Tk)(a:List Tk):List Tk:=
 if t.k=0 then
  match a with
  |u::us=>if u.k=0 then⟨0,t.F,u.T,0,0⟩::us else t::u::us
  |[]=>[t]
 else t::a
def dM(s:bc)(p:Nat):List Tk:=if p<s.size then lG (dD s p) (dM s (dD s p).T)else []
termination_by s.size - p
decreasing_by have:=Cs s p;omega
def wi(p b a:Nat):Nat:=if p<b then b else if a<p then a else p
def dZ(c k a b p B E:Nat):List PR:=if b<p then [⟨c,k,b - a,p - a,if k=0 then 0 else wi B b p - a,if k=0 then 0 else wi E b p - a⟩]else []
def lQ(s:bc)(k T B E a b c p:Nat):List PR:=
 if p<T then if bt s p=10 then dZ a k b c p B E++lQ s k T B E (a+1) (p+1) (p+1) (p+1)else lQ s k T B E a b c (p+1)
 else dZ a k b c p B E
termination_by T - p
def jR(s:bc)(T a b p:Nat):Nat×Nat:=
 if p<T then if bt s p=10 then jR s T (a+1) (p+1) (p+1)else jR s T a b (p+1)
 else(a,b)
termination_by T - p
section
variable{s:ByteArray}{k T B E ln bg fr p:Nat}
def Ht(h:p<T)(a:bt s p=10):lQ s k T B E ln bg fr p=dZ ln k bg fr p B E++lQ s k T B E (ln+1) (p+1) (p+1) (p+1):=by rw[lQ,aj h,aj a]
def Cj(h:p<T)(a:¬bt s p=10):lQ s k T B E ln bg fr p=lQ s k T B E ln bg fr (p+1):=by rw[lQ,aj h,ai a]
def Ci(h:¬p<T):lQ s k T B E ln bg fr p=dZ ln k bg fr p B E:=by rw[lQ,ai h]
def Ji(h:p<T)(a:bt s p=10):jR s T ln bg p=jR s T (ln+1) (p+1) (p+1):=by rw[jR,aj h,aj a]
def C8(h:p<T)(a:¬bt s p=10):jR s T ln bg p=jR s T ln bg (p+1):=by rw[jR,aj h,ai a]
def Jh(h:¬p<T):jR s T ln bg p=(ln,bg):=by rw[jR,ai h]
end
def gw(s:bc):List Tk->Nat->Nat->List PR
 |[],_,_=>[]
 |t::ts,ln,bg=>lQ s t.k t.T t.B t.E ln bg t.F t.F++gw s ts (jR s t.T ln bg t.F).1 (jR s t.T ln bg t.F).2
def Eu(s:bc)(c b d a:Nat):List Tk->List PR
 |[]=>dZ c 0 b d a 0 0
 |u::us=>if u.k=0 then lQ s 0 u.T 0 0 c b d a++gw s us (jR s u.T c b a).1 (jR s u.T c b a).2 else dZ c 0 b d a 0 0++gw s (u::us) c b
def Oj(s:bc)(p:Nat):∀u g,dM s p=u::g->u.F=p/\p<u.T/\(u.k=0->u.B=0/\u.E=0):=by intro u g h;rw[dM]at h;split at h;unfold lG at h;have d:=Cs s p;have hF:=ZK s p;split at h;rename_i c;have i:(dD s p).B=0/\(dD s p).E=0:=(by rw[ZL s p c];exact⟨rfl,rfl⟩);split at h;rename_i k f j;split at h;injection h with a b;subst a;refine⟨hF,?_,λ_=>⟨rfl,rfl⟩⟩;have:=Oj s (dD s p).T k f j;simp only;omega;injection h with a b;subst a;exact⟨hF,d,λ_=>i⟩;injection h with a b;subst a;exact⟨hF,d,λ_=>i⟩;injection h with a b;subst a;rename_i c;exact⟨hF,d,λe=>absurd e c⟩;cases h
termination_by s.size - p
decreasing_by have:=Cs s p;omega
def SH(b k a p B E:Nat):dZ b k a p p B E=[]:=ai<|by omega
def EK(s:bc)(c b p:Nat):Eu s c b p p (dM s p)=gw s (dM s p) c b:=by
 cases h:dM s p with
 |nil=>exact SH _ _ _ _ _ _
 |cons u f=>obtain⟨hF,i,g⟩:=Oj s p u f h;show(if u.k=0 then _ else _)=_;by_cases a:u.k=0;obtain⟨d,e⟩:=g a;rw[aj a,gw,hF,a,d,e];rw[ai a,SH,r8]
def alH(s:bc)(b c e a:Nat)(h:List Tk)(j:∀u f,h=u::f->a+1<u.T/\u.F=a+1):Eu s b c e a (lG ⟨0,a,a+1,0,0⟩ h)=if bt s a=10 then dZ b 0 c e a 0 0++Eu s (b+1) (a+1) (a+1) (a+1) h else Eu s b c e (a+1) h:=by
 unfold lG;rw[aj rfl];cases h with
 |nil=>show lQ s 0 (a+1) 0 0 b c e a++gw s [] _ _=_;rw[gw,mH];by_cases d:bt s a=10;rw[aj d,Ht (by omega) d,Ci<|by omega];rfl;rw[ai d,Cj (by omega) d,Ci<|by omega];rfl
 |cons u f=>
  obtain⟨k,_⟩:=j u f rfl;simp only;by_cases i:u.k=0
  .rw[aj i];show lQ s 0 u.T 0 0 b c e a++gw s f (jR s u.T b c a).1 (jR s u.T b c a).2=_;have g:∀b c e,Eu s b c e (a+1) (u::f)=lQ s 0 u.T 0 0 b c e (a+1)++gw s f (jR s u.T b c<|a+1).1 (jR s u.T b c<|a+1).2:=λ_ _ _=>aj i
   rw[g,g];by_cases d:bt s a=10;rw[aj d,Ht (by omega) d,Ji (by omega) d,dY];rw[ai d,Cj (by omega) d,C8 (by omega) d]
  rw[ai i];show lQ s 0 (a+1) 0 0 b c e a++gw s (u::f) (jR s (a+1) b c a).1 (jR s (a+1) b c a).2=_;have g:∀b c e,Eu s b c e (a+1) (u::f)=dZ b 0 c e (a+1) 0 0++gw s (u::f) b c:=λ_ _ _=>ai i
  rw[g,g];by_cases d:bt s a=10;rw[aj d,Ht (by omega) d,Ji (by omega) d,Ci<|by omega,Jh<|by omega,dY];rw[ai d,Cj (by omega) d,C8 (by omega) d,Ci<|by omega,Jh<|by omega]
def RV {s:bc}{k T B E ln bg fr:Nat}:∀(d p:Nat),T=p+d->(∀i,p<=i->i<T->bt s i≠10)->lQ s k T B E ln bg fr p=dZ ln k bg fr T B E/\jR s T ln bg p=(ln,bg)
 |0,p,hT,_=>by
  have:¬p<T:=by omega
  obtain rfl:p=T:=by omega
  exact⟨Ci this,Jh this⟩
 |d+1,p,hT,hb=>by have h:=hb p (au _) (by omega);rw[Cj (by omega) h,C8 (by omega) h];exact RV d (p+1) (by omega) λi b a=>hb i (by omega) a
def C5 {k t:Nat}{p:RP}(e:p.from_<=p.at_)(B E:Nat)(c:k≠0->wi B p.from_ (p.at_+t)=p.body)(d:k≠0->wi E p.from_ (p.at_+t)=p.at_):dS k t p=dZ p.line k p.start p.from_ (p.at_+t) B E:=by
 unfold dS dZ;by_cases h:p.from_=p.at_+t;rw[aj h,ai<|by omega];have b:p.from_<p.at_+t:=by omega
 by_cases a:k=0;simp[h,b,a];simp[h,b,a,c a,d a]
def ari {s:bc}{i:Nat}:∀j,i<=j->j<(qR s i).1+qT s i->bt s j≠10:=by
 unfold qT
 fun_induction qR s i with
 |case1 i a d=>intro j c b;simp at b;obtain rfl:j=i:=(by omega);rw[d];decide
 |case2 i a d c ih=>intro j b e;by_cases f:j=i;rw[f];exact a.2;by_cases g:j=i+1;rw[g];exact c.2;exact ih j (by omega) e
 |case3 i a d c ih=>intro j b e;by_cases f:j=i;rw[f];exact a.2;exact ih j (by omega) e
 |case4 i a=>intro j c b;simp at b;omega
def apb {s:bc}{i:Nat}:∀j,i<=j->j<bY s i->bt s j≠10:=by
 fun_induction bY s i with
 |case1 i a ih=>intro j c b;by_cases d:j=i;rw[d];exact a.2;exact ih j (by omega) b
 |case2 i a=>intro j c b;omega
def UE {s:bc}{a:Nat}(h:a<s.size)(b:bt s a=42/\bt s (a+1)=47):bR s a=(a,db):=by rw[bR,aj h,aj b]
def sL {s:bc}{a:Nat}(h:a<s.size)(b:¬(bt s a=42/\bt s (a+1)=47)):bR s a=bR s (a+1):=by rw[bR,aj h,ai b]
def LL {s:bc}{a:Nat}(h:¬a<s.size):bR s a=(a,da):=by rw[bR,ai h]
def Kq {s:bc}{a:Nat}(h:¬a<s.size):dM s a=[]:=by rw[dM,ai h]
def AV {p a b:Nat}(h:p<=b):wi p a b=if p<a then a else p:=by unfold wi;split;rfl;rw[ai<|by omega]
def atZ {p b a:Nat}(h:b<=a)(c:a<=p):wi p b a=a:=by unfold wi;split;omega;split<;>omega
def akw(s:bc)(c:Nat)(H:∀e f o,c<o->o<=s.size->cI s da ⟨e,f,o,o,o⟩=gw s (dM s o) e f):∀(d a e f b g B:Nat),s.size - a<=d->c<a->b<=a->a<=s.size->B<=a->g=(if B<b then b else B)->cI s db ⟨e,f,b,g,a⟩=lQ s 2 ((bR s a).1+bT s a) B (bR s a).1 e f b a++gw s (dM s<|(bR s a).1+bT s a) (jR s ((bR s a).1+bT s a) e f a).1 (jR s ((bR s a).1+bT s a) e f a).2:=by
 intro d
 induction d with
 |zero=>
  intro a e f b g B D C u A z q;have l:¬a<s.size:=by omega
  have n:(bR s a).1+bT s a=a:=by unfold bT;rw[LL l];simp
  have r:(bR s a).1=a:=by rw[LL l]
  rw[n,r,cI,ai l,Ci<|by omega,Kq l,gw,mH];exact C5 u B a (λ_=>by show wi B b (a+0)=g;rw[AV<|by omega,q]) λ_=>by show wi a b (a+0)=a;rw[AV<|by omega,ai<|by omega]
 |succ d ih=>intro a e f b g B D C u A z q;by_cases j:a<s.size;by_cases m:bt s a=42/\bt s (a+1)=47;have r:(bR s a).1=a:=(by rw[UE j m]);have n:(bR s a).1+bT s a=a+2:=(by unfold bT;rw[UE j m];simp);have v:=sw (s:=s) (i:=a+1) (by rw[m.2];decide);obtain⟨f1,f2⟩:=RV (s:=s) (k:=2) (T:=a+2) (B:=B) (E:=a) (ln:=e) (bg:=f) (fr:=b) 2 a rfl (λi F G=>by by_cases y:i=a;rw[y,m.1];decide;rw[show i=a+1 by omega,m.2];decide);rw[n,r,f1,f2,cI,aj j,aj rfl,aj m];have hcut:cQ 2 ⟨e,f,b,g,a⟩=⟨e,f,a+2,a+2,a+2⟩:=(by unfold cQ;rw[ai<|by simp only;omega]);rw[hcut,H e f (a+2) (by omega)<|by omega];congr 1;exact C5 u B a (λ_=>by show wi B b (a+2)=g;rw[AV<|by omega,q]) (λ_=>by show wi a b (a+2)=a;rw[AV<|by omega,ai<|by omega]);have w:=sL j m;have n:(bR s a).1+bT s a=(bR s<|a+1).1+bT s (a+1):=(by unfold bT;rw[w]);have I:=Rk s<|a+1;rw[n,w,cI,aj j,aj rfl,ai m];by_cases h:bt s a=10;rw[aj h,Ht (by omega) h,Ji (by omega) h,dY];have hcut:pX (cQ 0 ⟨e,f,b,g,a⟩)=⟨e+1,a+1,a+1,a+1,a+1⟩:=(by have x:=kK (t:=0) (p:=⟨e,f,b,g,a⟩);have v:(cQ 0 ⟨e,f,b,g,a⟩).line=e:=(by rw[<-BF,EA]);unfold pX;rw[x,v]);rw[hcut,ih (a+1) (e+1) (a+1) (a+1) (a+1) B (by omega) (by omega) (by omega) (by omega) (by omega)<|by rw[aj<|by omega]];congr 1;exact C5 u B _ (λ_=>by show wi B b (a+0)=g;rw[AV<|by omega,q]) (λ_=>by show wi _ b (a+0)=a;rw[atZ (by omega)<|by omega];rfl);rw[ai h,Cj (by omega) h,C8 (by omega) h];exact ih (a+1) e f b g B (by omega) (by omega) (by omega) (by omega) (by omega) q;have l:¬a<s.size:=j;have n:(bR s a).1+bT s a=a:=(by unfold bT;rw[LL l];simp);have r:(bR s a).1=a:=(by rw[LL l]);rw[n,r,cI,ai l,Ci<|by omega,Kq l,gw,mH];exact C5 u B a (λ_=>by show wi B b (a+0)=g;rw[AV<|by omega,q]) λ_=>by show wi a b (a+0)=a;rw[AV<|by omega,ai<|by omega]
def Zk {s:bc}{a:Nat}(h:a<s.size)(b:(dD s a).k≠0):dM s a=dD s a::dM s (dD s a).T:=by rw[dM,aj h];unfold lG;exact ai b
def U5 {b:Nat}{d c f e a:Nat}:dz b ⟨d,c,f,e,a⟩ da=⟨d,c,a,a+b,a+b⟩:=by unfold dz;rw[BF];unfold cQ;split;rename_i h;simp only at h;simp only[qE]at h ⊢;rw[h];simp only[qE]
def arX(s:bc):∀(d b c g v a:Nat),s.size - a<=d->g<=a->a<=s.size->cI s da ⟨b,c,g,v,a⟩=Eu s b c g a (dM s a):=by
 intro d
 induction d with
 |zero=>
  intro b c g v a O A N;have y:¬a<s.size:=by omega
  rw[Kq y,cI,ai y];exact C5 A 0 0 (λh=>absurd rfl h) λh=>absurd rfl h
 |succ d ih=>
  intro b c g v a O A N;have H:∀b c m,a<m->m<=s.size->cI s da ⟨b,c,m,m,m⟩=gw s (dM s m) b c:=λb c m w o=>by rw[ih b c m m m (by omega) (au _) o,EK]
  have q:dS 0 0 ⟨b,c,g,v,a⟩=dZ b 0 c g a 0 0:=C5 A 0 0 (λh=>absurd rfl h) (λh=>absurd rfl h);have C:∀(u:Tk) z,u.k≠0->Eu s b c g a (u::z)=dZ b 0 c g a 0 0++gw s (u::z) b c:=λu z P=>ai P
  by_cases f:a<s.size;by_cases r:bt s a=34;have l:dD s a=⟨1,a,(qR s<|a+1).1+qT s (a+1),a+1,(qR s<|a+1).1⟩:=(by unfold dD;rw[aj r]);have G:=NF s<|a+1;have D:=RR (s:=s) (i:=a+1) (by omega);rw[Zk f<|by rw[l];exact LD _,C _ _ (by rw[l];exact LD _),l,gw,cI,aj f,ai<|by decide,aj r,q];obtain⟨f1,f2⟩:=RV (s:=s) (k:=1) (T:=(qR s<|a+1).1+qT s (a+1)) (B:=a+1) (E:=(qR s<|a+1).1) (ln:=b) (bg:=c) (fr:=a) ((qR s<|a+1).1+qT s (a+1) - a) a (by omega) (λi w o=>by by_cases M:i=a;rw[M,r];decide;exact ari i (by omega) o);simp only;rw[f1,f2,U5];have hcut:cQ (qT s<|a+1) (dm ⟨b,c,a,a+1,a+1⟩ (qR s<|a+1).1)=⟨b,c,(qR s<|a+1).1+qT s (a+1),(qR s<|a+1).1+qT s (a+1),(qR s<|a+1).1+qT s (a+1)⟩:=(by unfold cQ dm;rw[ai<|by simp only;omega]);rw[hcut,H _ _ _ (by omega) D];congr 2;exact C5 (p:=dm ⟨b,c,a,a+1,a+1⟩ (qR s<|a+1).1) (by show a<=(qR s<|a+1).1;omega) (a+1) (qR s<|a+1).1 (λ_=>by show wi (a+1) a ((qR s<|a+1).1+_)=a+1;rw[AV<|by omega,ai<|by omega]) (λ_=>by show wi (qR s<|a+1).1 a ((qR s<|a+1).1+_)=(qR s<|a+1).1;rw[AV<|by omega,ai<|by omega]);by_cases e:bt s a=47/\bt s (a+1)=47;have x:bY s a=bY s (a+2):=(by rw[NI<|by rw[e.1];decide,NI<|by rw[e.2];decide]);have l:dD s a=⟨2,a,bY s<|a+2,a+2,bY s<|a+2⟩:=(by unfold dD;rw[ai r,aj e,x]);have o:=sw (s:=s) (i:=a+1) (by rw[e.2];decide);have G:=G7 s<|a+2;have D:=NH (s:=s) (i:=a+2) (by omega);rw[Zk f<|by rw[l];exact LD _,C _ _ (by rw[l];exact LD _),l,gw,cI,aj f,ai<|by decide,ai r,aj e,q];obtain⟨f1,f2⟩:=RV (s:=s) (k:=2) (T:=bY s<|a+2) (B:=a+2) (E:=bY s<|a+2) (ln:=b) (bg:=c) (fr:=a) (bY s (a+2) - a) a (by omega) (λi w o=>apb (i:=a) i w<|by rw[x];exact o);simp only;rw[f1,f2,U5];have hcut:cQ 0 (dm ⟨b,c,a,a+2,a+2⟩<|bY s<|a+2)=⟨b,c,bY s<|a+2,bY s<|a+2,bY s<|a+2⟩:=(by unfold cQ dm;rw[ai<|by simp only;omega];rfl);rw[hcut,H _ _ _ (by omega) D];congr 2;exact C5 (p:=dm ⟨b,c,a,a+2,a+2⟩<|bY s<|a+2) (by show a<=bY s (a+2);omega) (a+2) (bY s<|a+2) (λ_=>by show wi (a+2) a (bY s (a+2)+0)=a+2;rw[AV<|by omega,ai<|by omega]) (λ_=>by show wi (bY s<|a+2) a (bY s (a+2)+0)=bY s (a+2);rw[AV<|by omega,ai<|by omega]);by_cases j:bt s a=47/\bt s (a+1)=42;have l:dD s a=⟨2,a,(bR s<|a+2).1+bT s (a+2),a+2,(bR s<|a+2).1⟩:=(by unfold dD;rw[ai r,ai e,aj j]);have o:=sw (s:=s) (i:=a+1) (by rw[j.2];decide);have G:=Rk s<|a+2;have I:¬bt s a=10:=(by rw[j.1];decide);have J:¬bt s (a+1)=10:=(by rw[j.2];decide);rw[Zk f<|by rw[l];exact LD _,C _ _ (by rw[l];exact LD _),l,gw,cI,aj f,ai<|by decide,ai r,ai e,aj j,q,U5];simp only;rw[akw s a H (s.size - (a+2)) (a+2) b c a (a+2) (a+2) (au _) (by omega) (by omega) (by omega) (au _)<|by rw[ai<|by omega]];rw[Cj (p:=a) (by omega) I,Cj (p:=a+1) (by omega) J,C8 (p:=a) (by omega) I,C8 (p:=a+1) (by omega) J];have l:dD s a=⟨0,a,a+1,0,0⟩:=(by unfold dD;rw[ai r,ai e,ai j]);have F:dM s a=lG ⟨0,a,a+1,0,0⟩ (dM s<|a+1):=(by rw[dM,aj f,l]);rw[F,alH s b c g a (dM s<|a+1) (λu z h=>by obtain⟨K,L,_⟩:=Oj s (a+1) u z h;exact⟨L,K⟩),cI,aj f,ai<|by decide,ai r,ai e,ai j];by_cases n:bt s a=10;rw[aj n,aj n,q];have hcut:pX (cQ 0 ⟨b,c,g,v,a⟩)=⟨b+1,a+1,a+1,a+1,a+1⟩:=(by have w:=kK (t:=0) (p:=⟨b,c,g,v,a⟩);have o:(cQ 0 ⟨b,c,g,v,a⟩).line=b:=(by rw[<-BF,EA]);unfold pX;rw[w,o]);rw[hcut,ih (b+1) (a+1) (a+1) (a+1) (a+1) (by omega) (au _)<|by omega];rw[ai n,ai n];exact ih b c g v (a+1) (by omega) (by omega) (by omega);have y:¬a<s.size:=f;rw[Kq y,cI,ai y];exact C5 A 0 0 (λh=>absurd rfl h) λh=>absurd rfl h
def RI(s:bc):cI s da ⟨0,0,0,0,0⟩=gw s (dM s 0) 0 0:=by rw[arX s s.size 0 0 0 0 0 (by omega) (au _)<|lB _,EK]
def Si(p b a:Nat)(w:cw):cP prog 76 #[Y Z p,Y Z b,Y Z a] w λe h=>e=bj (Y Z (wi p b a:Nat))/\h=w:=by
 unfold wi;by_cases c:p<b
 .have f:(p:Int)<(b:Int):=by omega
  rw[aj c];clear c;go_enter func76,ntmps76;go_wp2;go_ret;exact⟨rfl,rfl⟩
 have f:¬(p:Int)<(b:Int):=by omega
 rw[ai c];clear c;by_cases d:a<p
 .have g:(a:Int)<(p:Int):=(by omega);rw[aj d];clear d;go_enter func76,ntmps76;go_wp2;go_ret;exact⟨rfl,rfl⟩
 have g:¬(a:Int)<(p:Int):=(by omega);rw[ai d];clear d;go_enter func76,ntmps76;go_wp2;go_ret;exact⟨rfl,rfl⟩
def amo(s:bc)(p:Nat)(h:p+2<=s.size):(s.extract p<|p+2).toList=[s[p]'(by omega),s[p+1]'(by omega)]:=by
 rw[ByteArray.toList_eq,ByteArray.data_extract,Array.toList_extract];have a:s.data.toList.length=s.size:=Ov;have e:s.data.toList.drop p=s[p]'(by omega)::s[p+1]'(by omega)::s.data.toList.drop (p+2):=by rw[lV<|by omega,lV<|by omega];rfl
 rw[List.extract_eq_take_drop];rw[e,show p+2 - p=2 by omega];rfl
def amq(s:bc)(p:Nat)(x y:UInt8)(h:p+2<=s.size):((s.extract p<|p+2).toList==[x,y])=decide (bt s p=x.toNat/\bt s (p+1)=y.toNat):=by rw[amo s p h,pV<|by omega,pV<|by omega,Cv,vS,decide_eq_true_iff];simp only[List.cons.injEq,and_true,Int.natCast_inj,j5]
def UH(s:bc)(p:Nat)(x y:UInt8)(w:cw)(j:s.size<=1000)(g:p<=s.size)(i:y.toNat≠10):cP prog 193 #[cd s,Y Z p,cd ⟨#[x,y]⟩] w λe d=>e=bj (ce<|decide (bt s p=x.toNat/\bt s (p+1)=y.toNat))/\d=w:=by
 have f:(⟨#[x,y]⟩:bc).size=2:=rfl;by_cases h:p+2<=s.size
 .have b:(p:Int)+2<=(s.size:Int):=by omega
  go_enter func193,ntmps193;go_wp2;go_ret;exact⟨YH<|amq s p x y h,rfl⟩
 have b:¬(p:Int)+2<=(s.size:Int):=by omega
 have a:decide (bt s p=x.toNat/\bt s (p+1)=y.toNat)=da:=by rw[C2];rintro⟨_,c⟩;rw[BB<|by omega]at c;omega
 rw[a];clear a;go_enter func193,ntmps193;go_wp2;go_ret;exact⟨rfl,rfl⟩
def PB(s:bc)(p:Nat)(w:cw)(b:s.size<=1000)(a:p<=s.size):cP prog 193 #[cd s,Y Z p,cd ⟨#[47,47]⟩] w λe c=>e=bj (ce<|decide (bt s p=47/\bt s (p+1)=47))/\c=w:=UH s p 47 47 w b a<|by decide
def PA(s:bc)(p:Nat)(w:cw)(b:s.size<=1000)(a:p<=s.size):cP prog 193 #[cd s,Y Z p,cd ⟨#[47,42]⟩] w λe c=>e=bj (ce<|decide (bt s p=47/\bt s (p+1)=42))/\c=w:=UH s p 47 42 w b a<|by decide
def akp(s:bc)(p:Nat)(w:cw)(b:s.size<=1000)(a:p<=s.size):cP prog 193 #[cd s,Y Z p,cd ⟨#[42,47]⟩] w λe c=>e=bj (ce<|decide (bt s p=42/\bt s (p+1)=47))/\c=w:=UH s p 42 47 w b a<|by decide
def Cq(t:Tk):cJ:=df #[Y Z t.k,Y Z t.F,Y Z t.T,Y Z t.B,Y Z t.E]
def aud(s:bc)(p:Nat)(w:cw)(i:s.size<=1000)(h:p<s.size)(g:¬bt s p=34)(b:¬(bt s p=47/\bt s (p+1)=47))(a:¬(bt s p=47/\bt s (p+1)=42)):cP prog 130 #[cd s,Y Z p] w λe m=>e=bj (Cq ⟨0,p,p+1,0,0⟩)/\cD w.1.size w m:=by
 have d:=PB s p (w.alloc<|bi #[Y Z 0,Y Z 0,Y Z 0,Y Z 0,Y Z 0] 125) i (by omega);have f:=PA s p (w.alloc<|bi #[Y Z 0,Y Z 0,Y Z 0,Y Z 0,Y Z 0] 125) i (by omega);rw[sB b]at d;rw[sB a]at f;obtain⟨c,k⟩:∃c,s[p]'h=c:=⟨_,rfl⟩
 have o:((c.toNat:Int)==34)=da:=by rw[pV h,k]at g;simpa using g
 have l:(p:Int)<(s.size:Int):=by omega
 clear g b a;unfold Cq;go_enter func130,ntmps130;go_wp2_with fail;refine d.mono ?_;rintro j n ⟨rfl,rfl⟩;clear d;go_wp2_with fail;refine f.mono ?_;rintro j n ⟨rfl,rfl⟩;clear f;go_wp2;exact bU (v:=df #[Y Z 0,Y Z p,Y Z<|(p:Int)+1,Y Z 0,Y Z 0]) (by simp[results,results130,Tryz.isAgg125,Tryz.sizeOf125,go_sem]) rfl ⟨rfl,(aA _ _).alloc (au _) _⟩
def aue(s:bc)(p:Nat)(w:cw)(u:s.size<=1000)(t:p<s.size)(b:bt s p=47/\bt s (p+1)=47):cP prog 130 #[cd s,Y Z p] w λe G=>e=bj (Cq ⟨2,p,bY s p,p+2,bY s p⟩)/\cD w.1.size w G:=by
 have j:=PB s p (w.alloc<|bi #[Y Z 0,Y Z 0,Y Z 0,Y Z 0,Y Z 0] 125) u (by omega);have m:=PA s p (w.alloc<|bi #[Y Z 0,Y Z 0,Y Z 0,Y Z 0,Y Z 0] 125) u (by omega);rw[nB b]at j;obtain⟨c,C⟩:∃c,s[p]'t=c:=⟨_,rfl⟩
 have I:((c.toNat:Int)==34)=da:=by have:=b.1;rw[pV t,C]at this;rw[this];rfl
 have D:(p:Int)<(s.size:Int):=by omega
 clear b;obtain⟨E,k⟩:∃E,bY s p=E:=⟨_,rfl⟩
 rw[k];have y:=ah k;clear k;unfold Cq;go_enter func130,ntmps130;go_wp2_with fail;refine j.mono ?_;rintro z H ⟨rfl,rfl⟩;clear j;go_wp2_with fail;refine m.mono ?_;rintro z H ⟨rfl,rfl⟩;clear m;go_wp2;go_loopg [7] (s.size - p) (λA F W=>∃q:Nat,F=Y Z q/\A=s.size - q/\p<=q/\q<=s.size/\bY s q=E/\W=w.alloc (bi #[Y Z 0,Y Z 0,Y Z 0,Y Z 0,Y Z 0] 125));exact⟨p,rfl,rfl,au _,by omega,y,rfl⟩;obtain⟨q,rfl,rfl,n,B,o,rfl⟩:=hrel;have i:dd (bY s q=E/\p<=q/\q<=s.size):=⟨o,n,B⟩
 clear n o;by_cases f:q<s.size
 .have l:(q:Int)<(s.size:Int):=by omega
  obtain⟨d,r⟩:∃d,s[q]'f=d:=⟨_,rfl⟩
  by_cases a:(d.toNat:Int)=10
  .have g:dd (q=E):=(by have:=i.out.1;rw[bY,ai<|by rintro⟨_,h⟩;exact h<|by rw[pV f,r];exact a]at this;exact this);have x:((d.toNat:Int)==10)=db:=(by simpa using a);clear a;go_wp2;exact bU (v:=df #[Y Z 2,Y Z p,Y Z q,Y Z<|(p:Int)+2,Y Z q]) (by simp[results,results130,Tryz.isAgg125,Tryz.sizeOf125,go_sem]) rfl ⟨by rw[<-g.out]<;>rfl,(aA _ _).alloc (au _) _⟩
  have g:dd (bY s (q+1)=E):=by have:=i.out.1;rw[bY,aj ⟨f,by rw[pV f,r];exact a⟩]at this;exact this
  have x:((d.toNat:Int)==10)=da:=(by simpa using a);clear a;go_wp2;go_roundg (s.size - (q+1));exact⟨q+1,by go_num,rfl,by have:=i.out.2.1;omega,by omega,g.out,rfl⟩;omega
 have l:¬(q:Int)<(s.size:Int):=by omega
 have g:dd (q=E):=by have:=i.out.1;rw[bY,ai<|by rintro⟨h,_⟩;exact f h]at this;exact this
 clear f;go_wp2;exact bU (v:=df #[Y Z 2,Y Z p,Y Z q,Y Z<|(p:Int)+2,Y Z q]) (by simp[results,results130,Tryz.isAgg125,Tryz.sizeOf125,go_sem]) rfl ⟨by rw[<-g.out]<;>rfl,(aA _ _).alloc (au _) _⟩
def auc(s:bc)(p:Nat)(w:cw)(y:s.size<=1000)(G:p<s.size)(a:bt s p=47/\bt s (p+1)=42):cP prog 130 #[cd s,Y Z p] w λe M=>e=bj (Cq ⟨2,p,(bR s<|p+2).1+bT s (p+2),p+2,(bR s<|p+2).1⟩)/\cD w.1.size w M:=by
 have r:=PB s p (w.alloc<|bi #[Y Z 0,Y Z 0,Y Z 0,Y Z 0,Y Z 0] 125) y (by omega);have t:=PA s p (w.alloc<|bi #[Y Z 0,Y Z 0,Y Z 0,Y Z 0,Y Z 0] 125) y (by omega);rw[nB a]at t;rw[sB<|by rw[a.2];rintro⟨_,h⟩;exact absurd h<|by decide]at r;obtain⟨c,J⟩:∃c,s[p]'G=c:=⟨_,rfl⟩
 have N:((c.toNat:Int)==34)=da:=by have:=a.1;rw[pV G,J]at this;rw[this];rfl
 have K:(p:Int)<(s.size:Int):=by omega
 have C:=sw (s:=s) (i:=p+1) (by rw[a.2];decide);clear a;obtain⟨E,l⟩:∃E,bR s (p+2)=E:=⟨_,rfl⟩
 have F:bT s (p+2)=if E.2 then 2 else 0:=by unfold bT;rw[l]
 rw[l,F];obtain⟨j,o⟩:∃j,E.1+(if E.2=db then 2 else 0)=j:=⟨_,rfl⟩
 obtain⟨g,n⟩:∃g,E.1=g:=⟨_,rfl⟩
 rw[o,n];have A:dd (E.1+(if E.2=db then 2 else 0)=j/\E.1=g):=⟨o,n⟩
 have H:=ah l;clear l F o n;unfold Cq;go_enter func130,ntmps130;go_wp2_with fail;refine r.mono ?_;rintro u z ⟨rfl,rfl⟩;clear r;go_wp2_with fail;refine t.mono ?_;rintro u z ⟨rfl,rfl⟩;clear t;go_wp2;go_loopg [7] (s.size - (p+2)) (λI L W=>∃q:Nat,L=Y Z q/\I=s.size - q/\p<=q/\q<=s.size/\bR s q=E/\W=w.alloc (bi #[Y Z 0,Y Z 0,Y Z 0,Y Z 0,Y Z 0] 125));exact⟨p+2,by go_num,rfl,by omega,by omega,H,rfl⟩;obtain⟨q,rfl,rfl,B,C,D,rfl⟩:=hrel;have k:dd (bR s q=E/\p<=q/\q<=s.size):=⟨D,B,C⟩
 clear B D;by_cases m:q<s.size
 .have x:(q:Int)<(s.size:Int):=by omega
  have d:=akp s q (w.alloc<|bi #[Y Z 0,Y Z 0,Y Z 0,Y Z 0,Y Z 0] 125) y (by omega);by_cases f:bt s q=42/\bt s (q+1)=47
  .rw[nB f]at d;have b:dd (j=q+2/\g=q):=(by have e:E=(q,db):=(by rw[<-k.out.1,UE m f]);have h:=A.out;rw[e]at h;exact⟨h.1.symm,h.2.symm⟩);clear f;go_wp2_with fail;refine d.mono ?_;rintro u z ⟨rfl,rfl⟩;clear d;go_wp2;exact bU (v:=df #[Y Z 2,Y Z p,Y Z<|(q:Int)+2,Y Z<|(p:Int)+2,Y Z q]) (by simp[results,results130,Tryz.isAgg125,Tryz.sizeOf125,go_sem]) rfl ⟨by rw[b.out.1,b.out.2]<;>rfl,(aA _ _).alloc (au _) _⟩
  rw[sB f]at d;have b:dd (bR s (q+1)=E):=(by show _=_;rw[<-sL m f];exact k.out.1);clear f;go_wp2_with fail;refine d.mono ?_;rintro u z ⟨rfl,rfl⟩;clear d;go_wp2;go_roundg (s.size - (q+1));exact⟨q+1,by go_num,rfl,by have:=k.out.2.1;omega,by omega,b.out,rfl⟩;omega
 have x:¬(q:Int)<(s.size:Int):=by omega
 have b:dd (j=q/\g=q):=by have e:E=(q,da):=(by rw[<-k.out.1,LL m]);have h:=A.out;rw[e]at h;exact⟨h.1.symm,h.2.symm⟩
 clear m;go_wp2;exact bU (v:=df #[Y Z 2,Y Z p,Y Z q,Y Z<|(p:Int)+2,Y Z q]) (by simp[results,results130,Tryz.isAgg125,Tryz.sizeOf125,go_sem]) rfl ⟨by rw[b.out.1,b.out.2]<;>rfl,(aA _ _).alloc (au _) _⟩
def auf(s:bc)(p:Nat)(w:cw)(J:s.size<=1000)(I:p<s.size)(r:bt s p=34):cP prog 130 #[cd s,Y Z p] w λe X=>e=bj (Cq ⟨1,p,(qR s<|p+1).1+qT s (p+1),p+1,(qR s<|p+1).1⟩)/\cD w.1.size w X:=by
 have z:=PB s p (w.alloc<|bi #[Y Z 0,Y Z 0,Y Z 0,Y Z 0,Y Z 0] 125) J (by omega);have A:=PA s p (w.alloc<|bi #[Y Z 0,Y Z 0,Y Z 0,Y Z 0,Y Z 0] 125) J (by omega);obtain⟨c,O⟩:∃c,s[p]'I=c:=⟨_,rfl⟩
 have DB:((c.toNat:Int)==34)=db:=by have:=r;rw[pV I,O]at this;rw[this];rfl
 have S:(p:Int)<(s.size:Int):=by omega
 rw[sB<|by rw[r];rintro⟨h,_⟩;exact absurd h<|by decide]at z;rw[sB<|by rw[r];rintro⟨h,_⟩;exact absurd h<|by decide]at A;clear r;obtain⟨Q,o⟩:∃Q,qR s (p+1)=Q:=⟨_,rfl⟩
 have G:qT s (p+1)=if Q.2 then 1 else 0:=by unfold qT;rw[o]
 rw[o,G];obtain⟨n,u⟩:∃n,Q.1+(if Q.2=db then 1 else 0)=n:=⟨_,rfl⟩
 obtain⟨m,t⟩:∃m,Q.1=m:=⟨_,rfl⟩
 rw[u,t];have x:dd (Q.1+(if Q.2=db then 1 else 0)=n/\Q.1=m):=⟨u,t⟩
 have K:=ah o;clear o G u t;unfold Cq;go_enter func130,ntmps130;go_wp2_with fail;refine z.mono ?_;rintro L wx ⟨rfl,rfl⟩;clear z;go_wp2_with fail;refine A.mono ?_;rintro L wx ⟨rfl,rfl⟩;clear A;go_wp2;go_loopg [7] (s.size - (p+1)) (λM V W=>∃q:Nat,V=Y Z q/\M=s.size - q/\p<=q/\q<=s.size/\qR s q=Q/\W=w.alloc (bi #[Y Z 0,Y Z 0,Y Z 0,Y Z 0,Y Z 0] 125));exact⟨p+1,by go_num,rfl,by omega,by omega,K,rfl⟩;obtain⟨q,rfl,rfl,E,N,F,rfl⟩:=hrel;have i:dd (qR s q=Q/\p<=q/\q<=s.size):=⟨F,E,N⟩
 clear E F;by_cases j:q<s.size
 .have C:(q:Int)<(s.size:Int):=by omega
  obtain⟨d,P⟩:∃d,s[q]'j=d:=⟨_,rfl⟩
  have H:bt s q=(d.toNat:Int):=by rw[pV j,P]
  have f:=ah H;clear H;by_cases g:(d.toNat:Int)=34
  .have b:dd (n=q+1/\m=q):=(by have e:Q=(q,db):=(by rw[<-i.out.1,qR,aj ⟨j,by rw[f.out,g];decide⟩,aj<|by rw[f.out];exact g]);have h:=x.out;rw[e]at h;exact⟨h.1.symm,h.2.symm⟩);go_wp2;exact bU (v:=df #[Y Z 1,Y Z p,Y Z<|(q:Int)+1,Y Z<|(p:Int)+1,Y Z q]) (by simp[results,results130,Tryz.isAgg125,Tryz.sizeOf125,go_sem]) rfl ⟨by rw[b.out.1,b.out.2]<;>rfl,(aA _ _).alloc (au _) _⟩
  have t34:((d.toNat:Int)==34)=da:=(by simpa using g);by_cases a:(d.toNat:Int)=10
  .have b:dd (n=q/\m=q):=(by have e:Q=(q,da):=(by rw[<-i.out.1,qR,ai<|by rintro⟨_,h⟩;exact h<|by rw[f.out];exact a]);have h:=x.out;rw[e]at h;exact⟨h.1.symm,h.2.symm⟩);clear g;go_wp2;exact bU (v:=df #[Y Z 1,Y Z p,Y Z q,Y Z<|(p:Int)+1,Y Z q]) (by simp[results,results130,Tryz.isAgg125,Tryz.sizeOf125,go_sem]) rfl ⟨by rw[b.out.1,b.out.2]<;>rfl,(aA _ _).alloc (au _) _⟩
  have t10:((d.toNat:Int)==10)=da:=(by simpa using a);by_cases y:(d.toNat:Int)=92
  .by_cases l:q+1<s.size
   .have B:(q:Int)+1<(s.size:Int):=(by omega);obtain⟨e,R⟩:∃e,s[q+1]'l=e:=⟨_,rfl⟩
    have D:dd (bt s (q+1)=(e.toNat:Int)):=(by show _=_;rw[pV l,R]);by_cases k:(e.toNat:Int)=10
    .have b:dd (qR s (q+1)=Q):=by
      show _=_;rw[<-i.out.1]
      conv=>rhs;rw[qR,aj ⟨j,by rw[f.out];exact a⟩,ai<|by rw[f.out];exact g,ai<|by rintro⟨_,h⟩;exact h<|by rw[D.out];exact k]
     clear g a;go_wp2;go_roundg (s.size - (q+1));exact⟨q+1,by go_num,rfl,by have:=i.out.2.1;omega,by omega,b.out,rfl⟩;omega
    have vI:((e.toNat:Int)==10)=da:=(by simpa using k);have b:dd (qR s (q+2)=Q):=by
     show _=_;rw[<-i.out.1]
     conv=>rhs;rw[qR,aj ⟨j,by rw[f.out];exact a⟩,ai<|by rw[f.out];exact g,aj ⟨by rw[f.out];exact y,by rw[D.out];exact k⟩]
    clear g a k;go_wp2;go_roundg (s.size - (q+2));exact⟨q+2,by go_num,rfl,by have:=i.out.2.1;omega,by omega,b.out,rfl⟩;omega
   have B:¬(q:Int)+1<(s.size:Int):=(by omega);have b:dd (qR s (q+1)=Q):=by
    show _=_;rw[<-i.out.1]
    conv=>rhs;rw[qR,aj ⟨j,by rw[f.out];exact a⟩,ai<|by rw[f.out];exact g,ai<|by rintro⟨_,h⟩;exact h<|BB l]
   clear g a;go_wp2;go_roundg (s.size - (q+1));exact⟨q+1,by go_num,rfl,by have:=i.out.2.1;omega,by omega,b.out,rfl⟩;omega
  have t92:((d.toNat:Int)==92)=da:=(by simpa using y);have b:dd (qR s (q+1)=Q):=by
   show _=_;rw[<-i.out.1]
   conv=>rhs;rw[qR,aj ⟨j,by rw[f.out];exact a⟩,ai<|by rw[f.out];exact g,ai<|by rintro⟨h,_⟩;exact y<|by rw[<-f.out];exact h]
  have U:((d.toNat:Int) !=34)=db:=(by simpa using g);have T:((d.toNat:Int) !=10)=db:=(by simpa using a);go_wp2;go_roundg (s.size - (q+1));exact⟨q+1,by go_num,rfl,by have:=i.out.2.1;omega,by omega,b.out,rfl⟩;omega
 have C:¬(q:Int)<(s.size:Int):=by omega
 have b:dd (n=q/\m=q):=by have e:Q=(q,da):=(by rw[<-i.out.1,qR,ai<|by rintro⟨h,_⟩;exact j h]);have h:=x.out;rw[e]at h;exact⟨h.1.symm,h.2.symm⟩
 clear j;go_wp2;exact bU (v:=df #[Y Z 1,Y Z p,Y Z q,Y Z<|(p:Int)+1,Y Z q]) (by simp[results,results130,Tryz.isAgg125,Tryz.sizeOf125,go_sem]) rfl ⟨by rw[b.out.1,b.out.2]<;>rfl,(aA _ _).alloc (au _) _⟩
def aub(s:bc)(p:Nat)(w:cw)(d:s.size<=1000)(c:p<s.size):cP prog 130 #[cd s,Y Z p] w λe g=>e=bj (Cq<|dD s p)/\cD w.1.size w g:=by unfold dD;by_cases f:bt s p=34;rw[aj f];exact auf s p w d c f;rw[ai f];by_cases b:bt s p=47/\bt s (p+1)=47;rw[aj b];exact aue s p w d c b;rw[ai b];by_cases a:bt s p=47/\bt s (p+1)=42;rw[aj a];exact auc s p w d c a;rw[ai a];exact aud s p w d c f b a
def ZN {s:bc}{p:Nat}(a:p<s.size):(dD s p).T<=s.size:=by unfold dD;split;exact RR (by omega);split;exact NH (by omega);split;rename_i h;have:=sw (s:=s) (i:=p+1) (by rw[h.2];decide);exact td (by omega);simp only;omega
def aua {s:bc}{p:Nat}(d:p<s.size):(dD s p).B<=s.size+2/\(dD s p).E<=s.size+2:=by have h:=ZN d;unfold dD at h ⊢;split;rename_i a;rw[aj a]at h;simp only at h ⊢;omega;rename_i a;rw[ai a]at h;split;rename_i b;rw[aj b]at h;simp only at h ⊢;omega;rename_i b;rw[ai b]at h;split;rename_i c;rw[aj c]at h;simp only at h ⊢;omega;simp
def BX(l:List Tk)(a:List Tk):List Tk:=match l.getLast? with|some u=>l.dropLast++lG u a|none=>a
def aoL(a:List Tk):BX [] a=a:=rfl
def JV(l:List Tk)(u:Tk)(a:List Tk):BX (l++[u]) a=l++lG u a:=by simp[BX]
def DU {u:Tk}(h:u.k≠0)(a:List Tk):lG u a=u::a:=ai h
def aoK(l:List Tk):BX l []=l:=by rcases Bh l with rfl|⟨a,u,rfl⟩;rfl;rw[CX,JV];unfold lG;split<;>rfl
def Xp(l:List Tk)(t:Tk)(d:List Tk)(h:∀b u,l=b++[u]->u.k≠0∨t.k≠0):BX l (lG t d)=BX (l++[t]) d:=by rcases Bh l with rfl|⟨b,u,rfl⟩;rw[aoL,JV];rfl;rw[CX]at h ⊢;rw[JV,JV];rcases h b u rfl with a|c;rw[DU a,dY];rfl;rw[DU c,dY];unfold lG;by_cases a:u.k=0;rw[aj a];simp only;rw[ai c];rfl;rw[ai a];rfl
def aoM(l:List Tk)(u t:Tk)(b:List Tk)(c:u.k=0)(a:t.k=0)(e:u.B=0)(f:u.E=0):BX (l++[u]) (lG t b)=BX (l++[⟨u.k,u.F,t.T,u.B,u.E⟩]) b:=by
 rw[JV,JV];congr 1;unfold lG;rw[aj c,aj a];simp only[c,e,f];cases b with
 |nil=>simp[a]
 |cons v g=>by_cases d:v.k=0;simp[d];simp[d,a]
def TC(s:bc):Nat->List Tk->Prop
 |_,[]=>True
 |p,t::ts=>p<=t.F/\t.F<t.T/\t.T<=s.size/\t.B<=s.size+2/\t.E<=s.size+2/\TC s t.T ts
def TC.mono {s:bc}{p q:Nat}{l:List Tk}(h:TC s p l)(a:q<=p):TC s q l:=by
 cases l with
 |nil=>trivial
 |cons t b=>exact⟨bM a h.1,h.2⟩
def TC.cons {s:bc}{p:Nat}{t:Tk}{f:List Tk}(h:TC s t.T f)(a:p<=t.F)(b:t.F<t.T)(c:t.T<=s.size)(d:t.B<=s.size+2)(e:t.E<=s.size+2):TC s p (lG t f):=by
 unfold lG;split
 .cases f with
  |nil=>exact⟨a,b,c,d,e,trivial⟩
  |cons u n=>obtain⟨j,k,g,l,m,i⟩:=h;simp only;split;exact⟨a,by simp only;omega,g,by simp,by simp,i⟩;exact⟨a,b,c,d,e,j,k,g,l,m,i⟩
 exact⟨a,b,c,d,e,h⟩
def tT(s:bc)(p:Nat):TC s p (dM s p):=by rw[dM];split;rename_i h;have b:=tT s (dD s p).T;have hF:=ZK s p;have a:=aua h;exact TC.cons b (by omega) (by have:=Cs s p;omega) (ZN h) a.1 a.2;trivial
termination_by s.size - p
decreasing_by have:=Cs s p;omega
def TC.len {s:bc}:∀{l:List Tk}{p:Nat},TC s p l->l.length<=s.size - p
 |[],_,_=>by simp
 |t::ts,p,h=>by obtain⟨b,c,d,e,f,a⟩:=h;have:=TC.len a;simp only[eU];omega
def mR(l:List Tk):List cJ:=l.flatMap λt=>[Y Z t.k,Y Z t.F,Y Z t.T,Y Z t.B,Y Z t.E]
def Ol(l:List Tk)(t:Tk):mR (l++[t])=mR l++[Y Z t.k,Y Z t.F,Y Z t.T,Y Z t.B,Y Z t.E]:=by simp[mR]
def ahH(l:List Tk):(mR l).length=l.length*5:=by
 induction l with
 |nil=>rfl
 |cons t l ih=>simp[mR,List.length_flatMap]at ih ⊢;omega
def Zl:∀(l:List Tk)(i:Nat)(b:i<l.length),(mR l)[i*5]? =V (Y Z l[i].k)/\(mR l)[i*5+1]? =V (Y Z l[i].F)/\(mR l)[i*5+2]? =V (Y Z l[i].T)/\(mR l)[i*5+3]? =V (Y Z l[i].B)/\(mR l)[i*5+4]? =V (Y Z l[i].E):=by
 intro l
 induction l with
 |nil=>intro i b;simp at b
 |cons a l ih=>
  intro i b;have e:mR (a::l)=[Y Z a.k,Y Z a.F,Y Z a.T,Y Z a.B,Y Z a.E]++mR l:=by simp[mR]
  cases i with
  |zero=>rw[e];simp
  |succ i=>have:=ih i (by simpa using b);rw[e,show(i+1)*5=i*5+5 by omega];simpa using this
def atl(l:List Tk)(u:Tk)(T:Nat):(mR<|l++[u]).set (l.length*5+2) (Y Z T)=mR (l++[⟨u.k,u.F,T,u.B,u.E⟩]):=by rw[Ol,Ol,yH (h:=by rw[ahH];omega),ahH];simp[show l.length*5+2 - l.length*5=2 by omega]
def kL(l:List PR):List cJ:=l.flatMap λt=>[Y Z t.line,Y Z t.kind,Y Z t.from_,Y Z t.dR,Y Z t.body,Y Z t.end_]
