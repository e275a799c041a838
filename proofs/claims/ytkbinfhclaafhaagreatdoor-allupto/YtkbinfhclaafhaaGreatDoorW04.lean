import Derived.Test.YtkbinfhclaafhaaGreatDoorW03
namespace Go.Proofs.YtkbinfhclaafhaaGreatDoor
open Go.RowKit
open Go.Proofs.Tryz
set_option maxRecDepth 100000
set_option maxHeartbeats 32000000
set_option linter.all false
open Go.Value renaming int->Y,slice->R,bool->ce,tuple->de,agg->df
open Go.IntKind renaming i64->Z
open Option renaming none->U,some->V
open Go.Addr renaming mk->S
open Go.Obj renaming cells->bi
open Go.Ending renaming returned->bj
open Go renaming World->cw,Value->cJ,Calls->cP
open Go.RowKit renaming Below->cD,Hid->dd
open Bool renaming false->da,true->db
structure Bl(w:World)(lb gt gm n ct cm:Nat)(r c l:Value)(p:Int)(cs:aw):Prop where
 cell:w.1[lb]? =some (.cells #[r,.slice (some ⟨gt,0,none⟩) n ct,c,l,.slice (some ⟨gm,0,none⟩) n cm,.int .i64 p] 141 (0,0))
 tb:bJ w gt 0 cs
 ms:bJ w gm 0<|oD cs
 len:cs.length=n
def Bl.below {w j:cw}{i g f n e b:Nat}{r c l:cJ}{p:Int}{d:aw}(h:Bl w i g f n e b r c l p d)(a:cD w.1.size w j):Bl j i g f n e b r c l p d:=
 ⟨aR a h.cell,h.tb.below a,h.ms.below a,h.len⟩
def Gg(a:aw)(i:Nat):Int:=if(oD a).getD i 0= -1 then(a.length:Int)else(oD a).getD i 0
def TT {a:aw}{i:Nat}(b:i<a.length)(h:aU (a.getD i 0)=db):Gg a i=(mt a i:Int):=by unfold Gg;rw[XI b h];have:=vz a i<|gV b;by_cases c:mt a i<a.length;rw[aj c,ai<|by omega];rw[ai c,aj rfl];omega
def aeJ(w:cw)(b k d n j g:Nat)(r c l:cJ)(p:Int)(a:aw)(h:Bl w b k d n j g r c l p a)(i:Nat)(o:i<n):cP prog 236 #[.pointer<|V<|S b 0 U,Y Z i] w λe t=>e=bj (Y Z<|Gg a i)/\t=w:=by
 have u:w.cell? (S b 1 U)=V (.slice (V<|S k 0 U) n j):=az h.cell 1;have v:w.cell? (S b 4 U)=V (.slice (V<|S d 0 U) n g):=az h.cell 4;have x:w.cell? (S d i U)=V (Y Z<|(oD a).getD i 0):=by have:=h.ms i (by rw[afh,h.len];exact o);simpa using this
 have q:(i:Int)<(n:Int):=by omega
 unfold Gg;rw[h.len];generalize(oD a).getD i 0=m at*;clear h;by_cases f:m= -1
 .subst f;rw[aj rfl];go_enter func236,ntmps236;go_wp2;go_ret;exact⟨rfl,rfl⟩
 rw[ai f];have s:(m== -1)=da:=by simpa using f
 go_enter func236,ntmps236;go_wp2;go_ret;exact⟨rfl,rfl⟩
def aqI(b:aw)(a:Nat):∀f i,¬i<a->rO b a f i=0
 |0,_,_=>rfl
 |f+1,i,h=>by rw[rO,ai h]
def Yp(b:aw)(a:Nat):∀f i,rO b a f i=0∨rO b a f i=1
 |0,_=> .inl rfl
 |f+1,i=>by rw[rO];split;split;exact .inl rfl;split;exact .inr rfl;split;exact Yp b a f _;exact Yp b a f _;exact .inl rfl
def OQ(w:cw)(u v N n C K:Nat)(r c l:cJ)(p:Int)(d:aw)(h:Bl w u v N n C K r c l p d)(hn:n<=1000)(j b f:Nat)(ak:b<=n)(H:j<=n+1)(hf:n+1 - j<=f):cP prog 199 #[.pointer<|V<|S u 0 U,Y Z j,Y Z b] w λe I=>e=bj (Y Z<|rO d b f j)/\I=w:=by
 have y:dd (∀i:Nat,i<n->cP prog 236 #[.pointer<|V<|S u 0 U,Y Z i] w λe I=>e=bj (Y Z<|Gg d i)/\I=w):=λi hi=>aeJ w u v N n C K r c l p d h i hi
 have c1:w.cell? (S u 1 U)=V (.slice (V<|S v 0 U) n C):=az h.cell 1;have X:dd (∀k:Nat,k<n->w.cell? (S v k U)=V (Y Z<|d.getD k 0)):=λk Q=>by have:=h.tb k (by rw[h.len];exact Q);simpa using this
 have A:=ah h.len;obtain⟨P,F⟩:=ac<|rO d b f j;rw[<-F];have g:=ah F.symm;clear h F;go_enter func199,ntmps199;go_wp2;go_loopg [7] (n+1 - j) (λM kv W=>∃(k o:Nat),k<=n+1/\M=n+1 - k/\M<=o/\kv=Y Z k/\W=w/\rO d b o k=P);exact⟨j,f,H,rfl,hf,rfl,rfl,g⟩;obtain⟨k,o,Q,rfl,vW,rfl,hW,a⟩:=hrel;have G:=hW.symm;subst G;clear g;by_cases s:k<b
 .obtain⟨f2,rfl⟩:∃f2,o=f2+1:=⟨o - 1,by omega⟩
  rw[rO,aj s]at a;have m:k<n:=by omega
  have ck:=X.out k m;have J:=ah<|y k m;have T:dd (aU (d.getD k 0)=db->Gg d k=(mt d k:Int)/\k<=mt d k/\mt d k<=n):=λhh=>⟨TT (by rw[A.out];exact m) hh,by have:=vz d k (by rw[A.out];omega);rw[A.out]at this;exact this⟩
  have t:(k:Int)<(b:Int):=by omega
  generalize d.getD k 0=q at*;by_cases x:q=0
  .rw[aj x]at a;subst x;have g:=ah a;clear a;go_wp2;go_ret;exact⟨dX g,rfl⟩
  rw[ai x]at a;have aa:=ae x;by_cases D:q=1
  .rw[aj (.inl D)]at a;subst D;have g:=ah a;clear a;go_wp2;go_ret;exact⟨dX g,rfl⟩
  have ab:=ae D;by_cases E:q=2
  .rw[aj (.inr E)]at a;subst E;have g:=ah a;clear a;go_wp2;go_ret;exact⟨dX g,rfl⟩
  rw[ai<|by omega]at a;have ad:=ae E;cases bK:aU q
  .rw[ai<|by rw[bK];decide]at a;have g:=ah a;have B:=ah bK;clear a bK;go_wp2_with fail;refine(pG q _).mono ?_;rintro L R ⟨rfl,hx⟩;subst hx;rw[B.out];go_wp2;go_roundg (n+1 - (k+1));exact⟨k+1,f2,by omega,rfl,by omega,by go_num,rfl,g⟩;omega
  rw[aj bK]at a;have g:=ah a;have B:=ah bK;obtain⟨O,af,ag⟩:=T.out bK;rw[O]at J;generalize mt d k=z at*;clear a bK O;go_wp2_with fail;refine(pG q _).mono ?_;rintro L R ⟨rfl,hx⟩;subst hx;rw[B.out];go_wp2_with fail;refine J.out.mono ?_;rintro L R ⟨rfl,hx⟩;subst hx;go_wp2;go_roundg (n+1 - (z+1));exact⟨z+1,f2,by omega,rfl,by omega,by go_num,rfl,g⟩;omega
 have g:dd ((0:Int)=P):=by show _=_;rw[<-a,aqI _ _ _ _ s]
 have t:¬(k:Int)<(b:Int):=by omega
 clear a;go_wp2;go_ret;exact⟨dX g,rfl⟩
def aoH(w:cw)(s g j A n t y:Nat)(r c l:cJ)(p:Int)(a:aw)(h:Bl w g j A n t y r c l p a)(J:n<=1000)(M:w.cell? (S s 0 U)=V (.pointer<|V<|S g 0 U))(_hs:s<w.1.size)(i:Nat)(u:i<n)(D:a.getD i 0=18∨a.getD i 0=19∨a.getD i 0=20):cP prog 205 #[.pointer<|V<|S s 0 U,Y Z i] w λe o=>e=bj (Y Z (if a.getD i 0=18 then 0 else if a.getD i 0=19 then 1 else tX a i))/\cD w.1.size w o:=by
 have K:w.cell? (S g 1 U)=V (.slice (V<|S j 0 U) n t):=az h.cell 1;have L:w.cell? (S j i U)=V (Y Z<|a.getD i 0):=by have:=h.tb i (by rw[h.len];exact u);simpa using this
 have I:(i:Int)<(n:Int):=by omega
 have G:=ah h;have x:aU (a.getD i 0)=db:=by rcases D with e|e|e<;>rw[e]<;>rfl
 have b:Gg a i=(mt a i:Int):=TT (by rw[h.len];exact u) x;have f:=vz a i (by rw[h.len];omega);rw[h.len]at f;have v:rO a (mt a i) (n+1) (i+1)=tX a i:=amL (by rw[h.len];exact u) x (n+1) (by omega);have F:dd (∀W,cD w.1.size w W->cP prog 199 #[.pointer<|V<|S g 0 U,Y Z<|(i:Int)+1,Y Z<|mt a i] W λe o=>e=bj (Y Z<|tX a i)/\o=W):=λW B=>by rw[<-v];have:=OQ W g j A n t y r c l p a (h.below B) J (i+1) (mt a i) (n+1) f.2 (by omega) (by omega);rw[Int.natCast_add]at this;exact this
 have E:dd (∀W,cD w.1.size w W->cP prog 236 #[.pointer<|V<|S g 0 U,Y Z i] W λe o=>e=bj (Y Z<|mt a i)/\o=W):=λW B=>by rw[<-b];exact aeJ W g j A n t y r c l p a (h.below B) i u
 have H:tX a i=0∨tX a i=1:=by rw[<-v];exact Yp _ _ _ _
 clear h x b f v G;generalize tX a i=d at*;generalize mt a i=z at*;generalize a.getD i 0=q at*;rcases D with rfl|rfl|rfl
 .rw[aj rfl];go_enter func205,ntmps205;go_wp2;go_ret;exact⟨rfl,aA _ _⟩
 .rw[ai<|by decide,aj rfl];go_enter func205,ntmps205;go_wp2;go_ret;exact⟨rfl,aA _ _⟩
 rw[ai<|by decide,ai<|by decide];have m:d%2=d:=by omega
 have k:0<=d:=by omega
 have C:dd (d%2=d/\0<=d):=⟨m,k⟩
 clear m k H;go_enter func205,ntmps205;go_wp2_with fail;go_quiet(first
  |(go_at_call 236;refine Cx (E _ ?_);exact gY (aA _ _) _)
  |(go_at_call 199;refine Cx (F _ ?_);exact gY (aA _ _) _)
  |(go_at_call 96;refine Cx (DI d _ C.out.2)))
 go_wp2;go_ret;exact⟨dX C.out.1,gY (aA _ _) _⟩
structure LP where
 B:Nat
 lb:Nat
 gr:Nat
 gt:Nat
 gc:Nat
 gl:Nat
 gm:Nat
 n:Nat
 cr:Nat
 ct:Nat
 p:Int
 rs:aw
 cs:aw
def LP.rv(L:LP):cJ:= .slice (V<|S L.gr 0 U) L.n L.cr
def LP.has(L:LP)(g:Nat):Prop:=g=L.lb∨g=L.gr∨g=L.gt∨g=L.gc∨g=L.gl∨g=L.gm
structure LX(w:World)(L:LP)(ks ls:aw):Prop where
 cell:w.1[L.lb]? =some (.cells #[L.rv,.slice (some ⟨L.gt,0,none⟩) L.n L.ct,.slice (some ⟨L.gc,0,none⟩) L.n L.n,.slice (some ⟨L.gl,0,none⟩) L.n L.n,.slice (some ⟨L.gm,0,none⟩) L.n L.n,.int .i64 L.p] 141 (0,0))
 ru:∀k,k<L.n->w.cell? ⟨L.gr,k,none⟩=some (.int .i32<|L.rs.getD k 0)
 tb:bJ w L.gt 0 L.cs
 ms:bJ w L.gm 0<|oD L.cs
 len:L.cs.length=L.n
 rc:aW w L.B 108 L.gc L.n<|iv ks
 rl:aW w L.B 3 L.gl L.n<|iv ls
 lt:∀g,L.has g->g<w.1.size
 nl:L.gl≠L.lb/\L.gl≠L.gr/\L.gl≠L.gt/\L.gl≠L.gc/\L.gl≠L.gm
 nc:L.gc≠L.lb/\L.gc≠L.gr/\L.gc≠L.gt/\L.gc≠L.gm
structure XP(w:World)(L:LP)(s:Nat)(v:Value)(ks ls:aw)(x:XS):Prop where
 wk:cN w L.B s v (.pointer<|some ⟨L.lb,0,none⟩) x
 ln:LX w L ks ls
 ap:∀g,L.has g->g≠s/\v.ownBlock≠some g
section
variable{w w':World}{L:LP}{s:Nat}{v v':Value}{ks ls:List Int}{x x':XS}
def bJ.He {w c:cw}{b a:Nat}{l:aw}(h:bJ w b a l)(d:c.1[b]? =w.1[b]?):bJ c b a l:=λi e=>by have:=h i e;simp only[World.cell?]at this ⊢;rw[d];exact this
def LX.lnR(h:LX w L ks ls):Bl w L.lb L.gt L.gm L.n L.ct L.n L.rv (.slice (V<|S L.gc 0 U) L.n L.n) (.slice (V<|S L.gl 0 U) L.n L.n) L.p L.cs:=⟨h.cell,h.tb,h.ms,h.len⟩
def LX.same(h:LX w L ks ls)(e:w.1.size<=w'.1.size)(a:∀g,L.has g->w'.1[g]? =w.1[g]?):LX w' L ks ls:=by
 have u:∀g,L.has g->∀k,w'.cell? (S g k U)=w.cell? (S g k U):=λg c k=>by simp only[World.cell?];rw[a g c]
 refine⟨by rw[a L.lb<|by simp[LP.has]];exact h.cell,λk b=>by rw[u L.gr<|by simp[LP.has]];exact h.ru k b,h.tb.He<|a L.gt<|by simp[LP.has],h.ms.He<|a L.gm<|by simp[LP.has],h.len,?_,?_,λg c=>lW (h.lt g c) e,h.nl,h.nc⟩;exact kS h.rc λk o b d=>by obtain rfl:L.gc=k:=(by simpa [Value.ownBlock]using b);rw[a L.gc<|by simp[LP.has]];exact d
 exact kS h.rl λk o b d=>by obtain rfl:L.gl=k:=(by simpa [Value.ownBlock]using b);rw[a L.gl<|by simp[LP.has]];exact d
def LX.below(h:LX w L ks ls)(a:cD w.1.size w w'):LX w' L ks ls:=h.same a.size λg b=>a.block g<|h.lt g b
def XP.below(h:XP w L s v ks ls x)(a:cD w.1.size w w'):XP w' L s v ks ls x:=⟨h.wk.below a,h.ln.below a,h.ap⟩
def XP.Ex(h:XP w L s v ks ls x)(c:cN w' L.B s v' (.pointer<|V<|S L.lb 0 U) x')(b:bS w w' s v v'):XP w' L s v' ks ls x':=
 ⟨c,h.ln.same b.size λg a=>b.block g (h.ln.lt g a) (h.ap g a).1 (h.ap g a).2,λg a=>⟨(h.ap g a).1,b.I1 (h.ln.lt g a) (h.ap g a).2⟩⟩
def LX.Hv(h:LX w L ks ls)(k:Nat)(a:Int):LX (w.setCell (S L.gl k U)<|Y Z a) L ks (ls.set k a):=by
 have b:∀g,g≠L.gl->(w.setCell (S L.gl k U)<|Y Z a).1[g]? =w.1[g]? :=λg c=>iX _ _ _ _ c
 have u:∀g,g≠L.gl->∀j,(w.setCell (S L.gl k U)<|Y Z a).cell? (S g j U)=w.cell? (S g j U):=λg c j=>by simp only[World.cell?];rw[b g c]
 obtain⟨e,f,i,l,m⟩:=h.nl;exact⟨by rw[b L.lb e.symm];exact h.cell,λj d=>by rw[u L.gr f.symm];exact h.ru j d,h.tb.He<|b L.gt i.symm,h.ms.He<|b L.gm m.symm,h.len,h.rc.setOther L.gl k _ l.symm,by rw[<-JU];exact h.rl.set k _,λg c=>by simpa using h.lt g c,h.nl,h.nc⟩
def LX.Y0(h:LX w L ks ls)(k:Nat)(a:Int):LX (w.setCell (S L.gc k U)<|Y Z a) L (ks.set k a) ls:=by
 have b:∀g,g≠L.gc->(w.setCell (S L.gc k U)<|Y Z a).1[g]? =w.1[g]? :=λg c=>iX _ _ _ _ c
 have u:∀g,g≠L.gc->∀j,(w.setCell (S L.gc k U)<|Y Z a).cell? (S g j U)=w.cell? (S g j U):=λg c j=>by simp only[World.cell?];rw[b g c]
 obtain⟨e,f,i,l⟩:=h.nc;exact⟨by rw[b L.lb e.symm];exact h.cell,λj d=>by rw[u L.gr f.symm];exact h.ru j d,h.tb.He<|b L.gt i.symm,h.ms.He<|b L.gm l.symm,h.len,by rw[<-JU];exact h.rc.set k _,h.rl.setOther L.gc k _ h.nl.2.2.2.1,λg c=>by simpa using h.lt g c,h.nl,h.nc⟩
def XP.Hv(h:XP w L s v ks ls x)(k:Nat)(a:Int):XP (w.setCell (S L.gl k U)<|Y Z a) L s v ks (ls.set k a) x:=
 ⟨h.wk.setOther (h.ap L.gl<|by simp[LP.has]).1 (h.ap L.gl<|by simp[LP.has]).2 k _,h.ln.Hv k a,h.ap⟩
def XP.Y0(h:XP w L s v ks ls x)(k:Nat)(a:Int):XP (w.setCell (S L.gc k U)<|Y Z a) L s v (ks.set k a) ls x:=
 ⟨h.wk.setOther (h.ap L.gc<|by simp[LP.has]).1 (h.ap L.gc<|by simp[LP.has]).2 k _,h.ln.Y0 k a,h.ap⟩
def XP.drew(h:XP w L s v ks ls x):XP w.drew L s v ks ls x:=h.below (aA _ _).drew
end
def AB(c o:Int):Int:=if o= -1 then c else o
def asA(w:cw)(L:LP)(s:Nat)(v:cJ)(j m:aw)(x:XS)(h:XP w L s v j m x)(A:x.st≠[])(R:x.st.length<=1000)(i:Nat)(E:i<L.n):cP prog 201 #[.pointer<|V<|S s 0 U,Y Z i] w λr F=>r=bj (de #[])/\XP F L s v (j.set i<|AB (j.getD i 0) (bq x.st).o) (m.set i (bq x.st).l) x/\cD L.B w F:=by
 have q:dd (cP prog 238 #[.pointer<|V<|S s 1 U] w λr F=>r=bj (df #[Y Z (bq x.st).l,Y Z (bq x.st).o,ce (bq x.st).i])/\cD w.1.size w F):=Zn w L.B s v _ x _ h.wk (ahJ A) (by omega);have C:dd (∀W,cD w.1.size w W->XP W L s v j m x):=λW g=>h.below g
 have y:L.B<=w.1.size:=bM h.wk.low<|gV<|dg h.wk.cell;have u:L.B<=L.gl:=h.ln.rl.ge.1;have M:L.B<=L.gc:=h.ln.rc.ge.1;have B:dd (j.length=L.n/\m.length=L.n):=⟨by have:=h.ln.rc.1;simpa [iv]using this,by have:=h.ln.rl.1;simpa [iv]using this⟩
 have Q:(i:Int)<(L.n:Int):=by omega
 clear h A R;generalize bq x.st=t at*;obtain⟨b,a,d⟩:=t;simp only at q ⊢;unfold AB;by_cases N:a= -1
 .subst N;rw[aj rfl];go_enter func201,ntmps201;go_wp2_with fail;refine q.out.mono ?_;rintro r c ⟨rfl,g⟩;have k:cD w.1.size w (c.alloc<|bi #[Y Z b,Y Z (-1),ce d] 215):=g.alloc g.size _;have f:=C.out _ k;have H:(c.alloc<|bi #[Y Z b,Y Z (-1),ce d] 215).cell? (S s 0 U)=V (.pointer<|V<|S L.lb 0 U):=az f.wk.cell 0;have O:(c.alloc<|bi #[Y Z b,Y Z (-1),ce d] 215).cell? (S L.lb 3 U)=V (.slice (V<|S L.gl 0 U) L.n L.n):=az f.ln.cell 3;have J:(c.alloc<|bi #[Y Z b,Y Z (-1),ce d] 215).cell? (S L.gl i U)=V (Y Z<|m.getD i 0):=jx f.ln.rl i (by rw[B.out.2];exact E);have K:(c.alloc<|bi #[Y Z b,Y Z (-1),ce d] 215).frozen? (S L.gl i U)=da:=f.ln.rl.frozen i;have z:L.gl≠c.1.size:=by have:=(C _ g).ln.rl.ge.2;omega
  have I:=ah k;have G:dd _:=f;clear g k f q;go_wp2;go_region;all_goals
   go_wp2;go_end0;refine⟨rfl,?_,(I.out.mono y).drew.setCell (p:=(S L.gl i U)) u _⟩;have e:j.set i (j.getD i 0)=j:=(by rw[aN,aK<|by rw[B.out.1];exact E];exact List.set_getElem_self _);rw[e];exact G.out.drew.Hv i b
 rw[ai N];have T:(a != -1)=db:=by simpa using N
 go_enter func201,ntmps201;go_wp2_with fail;refine q.out.mono ?_;rintro r c ⟨rfl,g⟩;have k:cD w.1.size w (c.alloc<|bi #[Y Z b,Y Z a,ce d] 215):=g.alloc g.size _;have f:=C.out _ k;have H:(c.alloc<|bi #[Y Z b,Y Z a,ce d] 215).cell? (S s 0 U)=V (.pointer<|V<|S L.lb 0 U):=az f.wk.cell 0;have O:(c.alloc<|bi #[Y Z b,Y Z a,ce d] 215).cell? (S L.lb 3 U)=V (.slice (V<|S L.gl 0 U) L.n L.n):=az f.ln.cell 3;have J:(c.alloc<|bi #[Y Z b,Y Z a,ce d] 215).cell? (S L.gl i U)=V (Y Z<|m.getD i 0):=jx f.ln.rl i (by rw[B.out.2];exact E);have K:(c.alloc<|bi #[Y Z b,Y Z a,ce d] 215).frozen? (S L.gl i U)=da:=f.ln.rl.frozen i;have z:L.gl≠c.1.size:=by have:=(C _ g).ln.rl.ge.2;omega
 have I:=ah k;have G:dd _:=f;clear g k f q;go_wp2;go_region;all_goals
  have n:=ah<|(G.out.Hv i b).drew;have P:dd (cD L.B w ((c.alloc<|bi #[Y Z b,Y Z a,ce d] 215).setCell (S L.gl i U) (Y Z b)).drew):=((I.out.mono y).setCell (p:=(S L.gl i U)) u _).drew;have b1:((c.alloc<|bi #[Y Z b,Y Z a,ce d] 215).setCell (S L.gl i U) (Y Z b)).drew.cell? (S c.1.size 1 U)=V (Y Z a):=by show((c.alloc<|bi #[Y Z b,Y Z a,ce d] 215).setCell (S L.gl i U) (Y Z b)).cell? (S c.1.size 1 U)=_;rw[World.cell?_setCell_other _ _ _ _ (by intro e;exact z<|congrArg Addr.block e)];go_simp
  clear H O J K;generalize((c.alloc<|bi #[Y Z b,Y Z a,ce d] 215).setCell (S L.gl i U) (Y Z b)).drew=D at*;have H:D.cell? (S s 0 U)=V (.pointer<|V<|S L.lb 0 U):=az n.out.wk.cell 0;have X:D.cell? (S L.lb 2 U)=V (.slice (V<|S L.gc 0 U) L.n L.n):=az n.out.ln.cell 2;have J:D.cell? (S L.gc i U)=V (Y Z<|j.getD i 0):=jx n.out.ln.rc i (by rw[B.out.1];exact E);have K:D.frozen? (S L.gc i U)=da:=n.out.ln.rc.frozen i;go_wp2;go_region;all_goals
   go_wp2;go_end0;exact⟨rfl,n.out.drew.Y0 i a,P.out.drew.setCell (p:=(S L.gc i U)) M _⟩
def al1(w:cw)(B s:Nat)(v b:cJ)(x:XS)(m:Int)(h:cN w B s v b x)(a:eH m x)(o:m<=100000):cP prog 200 #[.pointer<|V<|S s 0 U] w λf e=>f=bj (de #[])/\∃d,cN e B s d b (jE x)/\bS w e s v d:=by
 have g:=a.aM;by_cases j:0<x.aM∨x.valid=0;exact al3 w B s v b x h ⟨g.1,by omega⟩ j;have k:=a.cnt;have n:=a.len;have l:=Bk (·.i) x.st;have c:1<=x.valid:=by omega
 have:=al2 w B s v b x h (by omega) (by omega) ⟨c,by omega⟩<|a.Vc c;unfold jE;rw[ai<|by omega,ai<|by omega];exact this
def asW(w:cw)(L:LP)(s:Nat)(v:cJ)(F N:aw)(x:XS)(m:Int)(h:XP w L s v F N x)(B:eH m x)(hm:m<=1000)(hn:L.n<=1000)(i:Nat)(hi:i<L.n):cP prog 143 #[.pointer<|V<|S s 0 U,Y Z i] w λa t=>a=bj (de #[])/\∃v',XP t L s v' (F.set i<|AB (F.getD i 0) (bq (eP x<|L.cs.getD i 0).st).o) (N.set i (bq (eP x<|L.cs.getD i 0).st).l) (gi L.cs i (eP x<|L.cs.getD i 0)<|L.cs.getD i 0)/\cD L.B w t:=by
 have P:w.cell? (S s 0 U)=V (.pointer<|V<|S L.lb 0 U):=az h.wk.cell 0;have Q:w.cell? (S L.lb 1 U)=V (.slice (V<|S L.gt 0 U) L.n L.ct):=az h.ln.cell 1;have f:w.cell? (S L.gt i U)=V (Y Z<|L.cs.getD i 0):=by have:=h.ln.tb i (by rw[h.ln.len];exact hi);simpa using this
 have ad:(i:Int)<(L.n:Int):=by omega
 have k:=B.pre<|L.cs.getD i 0;have z:=k.len;have p:=k.top;have CQ:dd (∀W v0 K m0,XP W L s v0 F N K->eH m0 K->cP prog 201 #[.pointer<|V<|S s 0 U,Y Z i] W λa t=>a=bj (de #[])/\XP t L s v0 (F.set i<|AB (F.getD i 0) (bq K.st).o) (N.set i (bq K.st).l) K/\cD L.B W t):=
  λW v0 K m0 hx h0=>asA W L s v0 F N K hx h0.ne (by have:=h0.len;omega) i hi
 have HX:=ah h;have HO:=ah B;obtain⟨aa,g⟩:=ac<|F.set i<|AB (F.getD i 0) (bq (eP x<|L.cs.getD i 0).st).o;obtain⟨ab,j⟩:=ac<|N.set i (bq (eP x<|L.cs.getD i 0).st).l;rw[<-g,<-j];by_cases c:L.cs.getD i 0=21
 .rw[c]at f g j k ⊢;have r:gi L.cs i (eP x 21) 21=eP x 21:=by simp[gi]
  rw[r];have C:dd (cP prog 200 #[.pointer<|V<|S s 0 U] w λa t=>a=bj (de #[])/\∃v',cN t L.B s v' (.pointer<|V<|S L.lb 0 U) (eP x 21)/\bS w t s v v'):=al1 w L.B s v _ x m h.wk B (by omega);have HP:=ah k;have HK:=ah g;have HL:=ah j;clear h B k g j c z p;go_enter func143,ntmps143;go_wp2_with fail;refine C.out.mono ?_;rintro a O ⟨rfl,v2,hW,hF⟩;have b:=ah<|HX.out.Ex hW hF;have D:dd (cD L.B w O):=hF.I7 HX.out.wk<|aA _ _;clear hW hF C P Q f;go_wp2_with fail;refine(CQ O v2 _ m b HP).mono ?_;rintro a w3 ⟨rfl,Aj,cA⟩;have E:=ah Aj;have H:=ah cA;clear Aj cA;go_wp2_with fail;refine(Gf 21 _).mono ?_;rintro a G ⟨rfl,hx⟩;subst hx;rw[show nC 21=da from rfl];go_wp2_with fail;refine(pG 21 _).mono ?_;rintro a G ⟨rfl,hx⟩;subst hx;rw[show aU 21=da from rfl];go_wp2;go_end0;refine⟨rfl,v2,?_,D.out.trans H⟩;rw[HK.out,HL.out];exact E.out
 have DA:(L.cs.getD i 0==21)=da:=by simpa using c
 have R:eP x (L.cs.getD i 0)=x:=by rw[eP,ai c]
 rw[R]at g j k z p ⊢;have HS:dd (cP prog 201 #[.pointer<|V<|S s 0 U,Y Z i] w λa t=>a=bj (de #[])/\XP t L s v aa ab x/\cD L.B w t):=by rw[g,j];exact CQ.out w v x m h B
 have n:dd ((x.st≠[]/\x.st.length<=1000)/\(0<=(bq x.st).l/\(bq x.st).l<=1000)/\(0<=x.aM/\x.aM<=100000)/\(0<=x.aV/\x.aV<=100000)/\0<=x.valid/\x.valid<=100000):=by have h1:=B.aM;have T:=B.aV;have h3:=B.cnt;have h5:=Bk (·.i) x.st;exact⟨⟨B.ne,by omega⟩,⟨p.2.1,by omega⟩,⟨h1.1,by omega⟩,⟨T.1,by omega⟩,by omega,by omega⟩
 have dO:=ah<|dg h.wk.cell;clear h B k g j z p R CQ HO;cases he:nC<|L.cs.getD i 0
 .cases bK:aU<|L.cs.getD i 0
  .by_cases M:L.cs.getD i 0=17
   .have r:gi L.cs i x (L.cs.getD i 0)=kZ x:=(by rw[M];simp[gi]);rw[r];rw[M]at f;clear he bK DA c M r;go_enter func143,ntmps143;go_wp2_with fail;refine HS.out.mono ?_;rintro a O ⟨rfl,A,u⟩;have b:=ah A;have D:=ah u;clear A u P Q f;go_wp2_with fail;refine(Gf 17 _).mono ?_;rintro a G ⟨rfl,hx⟩;subst hx;rw[show nC 17=da from rfl];go_wp2_with fail;refine(pG 17 _).mono ?_;rintro a G ⟨rfl,hx⟩;subst hx;rw[show aU 17=da from rfl];go_wp2_with fail;refine(aq2 _ L.B s v _ x b.out.wk n.out.1.1 n.out.1.2 n.out.2.2.2.1.2).mono ?_;rintro a w3 ⟨rfl,v3,y,J⟩;have E:dd _:=b.out.Ex y J;have H:dd _:=J.I7 b.out.wk D;clear y J;go_wp2;go_end0;exact⟨rfl,v3,E,H⟩
   have r:gi L.cs i x (L.cs.getD i 0)=x:=(by have h1:¬(L.cs.getD i 0=13∨L.cs.getD i 0=14∨L.cs.getD i 0=15∨L.cs.getD i 0=16):=(by intro hh;have:nC (L.cs.getD i 0)=db:=(by simpa [nC]using hh);rw[he]at this;cases this);have T:¬L.cs.getD i 0=18/\¬L.cs.getD i 0=19/\¬L.cs.getD i 0=20:=(by refine⟨λe=> ?_,λe=> ?_,λe=> ?_⟩<;>(rw[e]at bK;cases bK));rw[gi,ai h1,ai T.1,ai T.2.1,ai T.2.2,ai M]);rw[r];have ae:(L.cs.getD i 0==17)=da:=(by simpa using M);have C:=ah he;have HI:=ah bK;clear he bK c M r;generalize L.cs.getD i 0=q at*;go_enter func143,ntmps143;go_wp2_with fail;refine HS.out.mono ?_;rintro a O ⟨rfl,A,u⟩;have b:=ah A;have D:=ah u;clear A u P Q f;go_wp2_with fail;refine(Gf q _).mono ?_;rintro a G ⟨rfl,hx⟩;subst hx;rw[C.out];go_wp2_with fail;refine(pG q _).mono ?_;rintro a G ⟨rfl,hx⟩;subst hx;rw[HI.out];go_wp2;go_end0;exact⟨rfl,v,b,D⟩
  have hq:=aeI bK;have r:gi L.cs i x (L.cs.getD i 0)=jP x (if L.cs.getD i 0=18 then 0 else if L.cs.getD i 0=19 then 1 else tX L.cs i):=by rcases hq with e|e|e<;>rw[e]<;>simp[gi]
  rw[r];have rX:dd (∀W,Bl W L.lb L.gt L.gm L.n L.ct L.n L.rv (.slice (V<|S L.gc 0 U) L.n L.n) (.slice (V<|S L.gl 0 U) L.n L.n) L.p L.cs->W.cell? (S s 0 U)=V (.pointer<|V<|S L.lb 0 U)->s<W.1.size->cP prog 205 #[.pointer<|V<|S s 0 U,Y Z i] W λe t=>e=bj (Y Z (if L.cs.getD i 0=18 then 0 else if L.cs.getD i 0=19 then 1 else tX L.cs i))/\cD W.1.size W t):=λW hr hc hs=>aoH W s L.lb L.gt L.gm L.n L.ct L.n L.rv _ _ L.p L.cs hr hn hc hs i hi hq
  have C:=ah he;have HI:=ah bK;clear he bK c r hq;generalize(if L.cs.getD i 0=18 then(0:Int)else if L.cs.getD i 0=19 then 1 else tX L.cs i)=d at*;generalize L.cs.getD i 0=q at*;go_enter func143,ntmps143;go_wp2_with fail;refine HS.out.mono ?_;rintro a O ⟨rfl,A,u⟩;have b:=ah A;have D:=ah u;clear A u P Q f;go_wp2_with fail;refine(Gf q _).mono ?_;rintro a G ⟨rfl,hx⟩;subst hx;rw[C.out];go_wp2_with fail;refine(pG q _).mono ?_;rintro a G ⟨rfl,hx⟩;subst hx;rw[HI.out];go_wp2_with fail;refine(rX _ b.out.ln.lnR (az b.out.wk.cell 0) (dg b.out.wk.cell)).mono ?_;rintro a w3 ⟨rfl,I⟩;have E:=ah<|b.out.below I;have H:=ah<|D.out.trans<|I.mono<|bM b.out.wk.low<|gV<|dg b.out.wk.cell;clear I;go_wp2_with fail;refine(aoI _ L.B s v _ x d E.out.wk n.out.1.1 n.out.1.2 n.out.2.1.1 n.out.2.1.2 n.out.2.2.1 n.out.2.2.2.2).mono ?_;rintro a w4 ⟨rfl,v4,X,qG⟩;have FV:dd _:=E.out.Ex X qG;have cW:dd _:=qG.I7 E.out.wk H;clear X qG;go_wp2;go_end0;exact⟨rfl,v4,FV,cW⟩
 have r:gi L.cs i x (L.cs.getD i 0)=lH x (L.cs.getD i 0):=by have:L.cs.getD i 0=13∨L.cs.getD i 0=14∨L.cs.getD i 0=15∨L.cs.getD i 0=16:=(by simpa [nC]using he);rw[gi,aj this]
 rw[r];have C:=ah he;clear he c r;generalize L.cs.getD i 0=q at*;go_enter func143,ntmps143;go_wp2_with fail;refine HS.out.mono ?_;rintro a O ⟨rfl,A,u⟩;have b:=ah A;have D:=ah u;clear A u P Q f;go_wp2_with fail;refine(Gf q _).mono ?_;rintro a G ⟨rfl,hx⟩;subst hx;rw[C.out];go_wp2_with fail;refine(alY _ L.B s v _ x q C b.out.wk n.out.1.1 n.out.1.2 n.out.2.1.1 n.out.2.1.2 n.out.2.2.2.1).mono ?_;rintro a w3 ⟨rfl,v3,y,J⟩;have E:dd _:=b.out.Ex y J;have H:dd _:=J.I7 b.out.wk D;clear y J;go_wp2;go_end0;exact⟨rfl,v3,E,H⟩
def uR(a:List aY):Prop:=∀e∈a,e.o= -1∨0<=e.o
def uR.app {b:List aY}{e:aY}(h:uR b)(c:e.o= -1∨0<=e.o):uR (b++[e]):=λy a=>by rcases ji.1 a with a|a;exact h y a;rw[r7.1 a];exact c
def uR.sub {b a:List aY}(h:uR b)(d:∀e∈a,e∈b):uR a:=λe c=>h e<|d e c
def Yy(a:List aY):∀e∈iW a,e∈a:=by
 intro e b;unfold iW at b;have c:=ajk.1 b;have d:e∈a.reverse.dropWhile λe=> !e.i:=List.mem_of_mem_drop c
 have f:e∈a.reverse:=(List.dropWhile_sublist _).mem d;exact ajk.1 f
def uR.pre {x:XS}(h:uR x.st)(c:Int):uR (eP x c).st:=by unfold eP;split;unfold jE;split;exact h;split;exact h;exact h.sub<|Yy _;exact h
def uR.post {x:XS}(h:uR x.st)(d:aw)(i:Nat)(c:Int):uR (gi d i x c).st:=by
 have a:∀b,uR (jP x b).st:=λb=>by unfold jP;simp only;split;exact h.app (.inl rfl);exact h
 unfold gi;split
 .have g:(if c=15 then(0:Int)else if c=16 then 1 else -1)= -1∨0<=(if c=15 then(0:Int)else if c=16 then 1 else -1):=by split;exact .inr (by decide);split;exact .inr (by decide);exact .inl rfl
  unfold lH;simp only;generalize(if c=15 then(0:Int)else if c=16 then 1 else -1)=o at*;generalize jt (bq x.st).l _=n;split;exact h.app g;split<;>exact h
 split;exact a _;split;exact a _;split;exact a _;split
 .unfold kZ;split;exact h;split;exact h;split;exact h.sub λe f=>mg _ f
  exact h
 exact h
def aid(b:aw)(a:Int):∀i,uR (fE b a i).st
 |0=>by intro e c;rw[fE]at c;rw[r7.1 c];exact .inl rfl
 |i+1=>by rw[fE];exact((aid b a i).pre _).post b i _
def R9 {a:List aY}(h:a≠[]):bq a∈a:=by unfold bq;rw[tK,ID h];exact ajg h
def aul(b:aw)(a:Int)(c:0<=a/\a<=125)(i:Nat):(iM b a i).o= -1∨0<=(iM b a i).o:=
 ((aid b a i).pre _) _ (R9 ((zF b a c i).pre _).ne)
def kP(b:aw)(a:Int):aw:=(List.range b.length).map λi=>AB (b.getD i 0) (iM b a i).o
def Ho {a:Type}(n:Nat)(f:Nat->a)(d:a)(j:Nat)(b:j<n):((List.range n).map f).getD j d=f j:=by rw[aN,jC,IB b];rfl
def aoN {b:aw}{a:Int}(e:0<=a/\a<=125){i:Nat}(c:i<b.length)(d:bX (b.getD i 0)=db):(kP b a).getD i 0=(je b a).getD i 0:=by rw[kP,je,Ho _ _ _ _ c,Ho _ _ _ _ c,kindOf,AB];rcases aul b a e i with h|h;rw[aj h,ai<|by omega];rw[ai<|by omega,aj ⟨d,h⟩]
def oW(n k:Nat)(l:aw)(f g:Nat->Int):Prop:=l.length=n/\∀j,j<n->l.getD j 0=if j<k then f j else g j
def oW.step {n k:Nat}{l:aw}{f g:Nat->Int}(h:oW n k l f g)(d:k<n):oW n (k+1) (l.set k<|f k) f g:=by refine⟨by rw[mE];exact h.1,λj c=> ?_⟩;by_cases a:j=k;subst a;rw[Ac<|by rw[h.1];exact d,aj<|by omega];rw[getD_set_ne λe=>a e.symm,h.2 j c];by_cases b:j<k;rw[aj b,aj<|by omega];rw[ai b,ai<|by omega]
def oW.done {n:Nat}{l:aw}{f g:Nat->Int}(h:oW n n l f g):l=(List.range n).map f:=by apply Lr;intro j;rcases dc j n with a|a;have:=h.2 j a;rw[aj a,aN,aK<|by rw[h.1];exact a]at this;rw[aK<|by rw[h.1];exact a,jC,IB a];exact congrArg V this;rw[tI<|by rw[h.1];exact a,tI<|by simp;exact a]
def ZQ {a:aw}{k:Nat}(b:k<a.length):(aO a).getD k da=bX (a.getD k 0):=by rw[aO,aN,jC,aN,aK b];rfl
section
variable{w:World}{L:LP}{ks ls:List Int}
def LX.ct(h:LX w L ks ls)(k:Nat)(a:k<L.n):w.cell? (S L.gt k U)=V (Y Z<|L.cs.getD k 0):=by have:=h.tb k (by rw[h.len];exact a);simpa using this
def LX.cm(h:LX w L ks ls)(k:Nat)(a:k<L.n):w.cell? (S L.gm k U)=V (Y Z<|(oD L.cs).getD k 0):=by have:=h.ms k (by rw[afh,h.len];exact a);simpa using this
def LX.kl(h:LX w L ks ls):ks.length=L.n/\ls.length=L.n:=⟨by have:=h.rc.1;simpa [iv]using this,by have:=h.rl.1;simpa [iv]using this⟩
def LX.cl(h:LX w L ks ls)(k:Nat)(a:k<L.n):w.cell? (S L.gl k U)=V (Y Z<|ls.getD k 0):=jx h.rl k<|by rw[h.kl.2];exact a
def LX.ck(h:LX w L ks ls)(k:Nat)(a:k<L.n):w.cell? (S L.gc k U)=V (Y Z<|ks.getD k 0):=jx h.rc k<|by rw[h.kl.1];exact a
def LX.f1(h:LX w L ks ls):w.cell? (S L.lb 1 U)=V (.slice (V<|S L.gt 0 U) L.n L.ct):=az h.cell 1
def LX.f2(h:LX w L ks ls):w.cell? (S L.lb 2 U)=V (.slice (V<|S L.gc 0 U) L.n L.n):=az h.cell 2
def LX.f3(h:LX w L ks ls):w.cell? (S L.lb 3 U)=V (.slice (V<|S L.gl 0 U) L.n L.n):=az h.cell 3
def LX.f4(h:LX w L ks ls):w.cell? (S L.lb 4 U)=V (.slice (V<|S L.gm 0 U) L.n L.n):=az h.cell 4
def LX.f5(h:LX w L ks ls):w.cell? (S L.lb 5 U)=V (Y Z L.p):=az h.cell 5
end
def amU(w:cw)(L:LP)(p r:aw)(h:LX w L p r)(f:Nat)(d:f<L.n):cP prog 157 #[.pointer<|V<|S L.lb 0 U,Y Z f] w λe s=>e=bj (ce<|L.cs.getD f 0==21&&decide (0<=opener L.cs f))/\s=w:=by
 have t:=h.f1;have u:=h.f4;have k:=h.ct f d;have v:=h.cm f d;have n:(f:Int)<(L.n:Int):=by omega
 have g:L.cs.getD f 0=21->((oD L.cs).getD f 0≠ -1↔0<=opener L.cs f):=λe=>api (by rw[h.len];exact d) e
 generalize opener L.cs f=o at*;generalize L.cs.getD f 0=c at*;generalize(oD L.cs).getD f 0=m at*;clear h;by_cases a:c=21
 .subst a;have i:(m != -1)=decide (0<=o):=by
   have:=g rfl;by_cases e:m= -1
   .have:¬0<=o:=λh=>this.2 h e
    simp[e,this]
   have:0<=o:=this.1 e;simp[e,this]
  have j:=ah i;clear g i;generalize l:decide (0<=o)=b at*;clear l;cases hq:(m != -1)
  all_goals
   go_enter func157,ntmps157;go_wp2;go_ret;exact⟨iA<|by rw[<-j.out,hq];rfl,rfl⟩
 have q:=ae a;clear g;go_enter func157,ntmps157;go_wp2;go_ret;exact⟨iA<|by rw[q];rfl,rfl⟩
def um(b:aw)(a:Nat):Int:=if aU (b.getD a 0)=db then(if mt b a<b.length then(mt b a:Int)else -1)else -1
def apK(w:cw)(L:LP)(n p:aw)(h:LX w L n p)(f:Nat)(d:f<L.n):cP prog 156 #[.pointer<|V<|S L.lb 0 U,Y Z f] w λe q=>e=bj (Y Z<|um L.cs f)/\q=w:=by
 have s:=h.f1;have t:=h.f4;have j:=h.ct f d;have u:=h.cm f d;have l:(f:Int)<(L.n:Int):=by omega
 have g:aU (L.cs.getD f 0)=db->(oD L.cs).getD f 0=um L.cs f:=λe=>by rw[um,aj e,XI (by rw[h.len];exact d) e]
 have i:aU (L.cs.getD f 0)=da->um L.cs f= -1:=λe=>by rw[um,ai<|by rw[e];decide]
 generalize um L.cs f=o at*;generalize L.cs.getD f 0=c at*;generalize(oD L.cs).getD f 0=m at*;clear h;cases hi:aU c
 .have:=i hi;subst this;have b:=ah hi;clear g i hi;go_enter func156,ntmps156;go_wp2_with fail;refine(pG c _).mono ?_;rintro k r ⟨rfl,hx⟩;have a:=hx.symm;subst a;rw[b.out];go_wp2;go_ret;exact⟨rfl,rfl⟩
 have:=g hi;subst this;have b:=ah hi;clear g i hi;go_enter func156,ntmps156;go_wp2_with fail;refine(pG c _).mono ?_;rintro k r ⟨rfl,hx⟩;have a:=hx.symm;subst a;rw[b.out];go_wp2;go_ret;exact⟨rfl,rfl⟩
def ajF(w:cw)(L:LP)(x d:aw)(h:LX w L x d)(H:L.n<=1000)(f:Nat)(G:f<L.n):cP prog 219 #[.pointer<|V<|S L.lb 0 U,Y Z f] w λe z=>e=bj (Y Z<|lD d (aO L.cs) L.p f)/\z=w:=by
 have B:=h.f1;have C:=h.f3;have D:=h.f5;have p:dd (∀k:Nat,k<L.n->w.cell? (S L.gt k U)=V (Y Z<|L.cs.getD k 0)/\w.cell? (S L.gl k U)=V (Y Z<|d.getD k 0)/\(aO L.cs).getD k da=bX (L.cs.getD k 0)):=λk g=>⟨h.ct k g,h.cl k g,ZQ<|by rw[h.len];exact g⟩
 obtain⟨P,l⟩:=ac<|lD d (aO L.cs) L.p f;rw[<-l];have b:=ah l.symm;clear h l;go_enter func219,ntmps219;go_wp2;go_loopg [5] f (λs y W=>∃k:Nat,k<=f/\s=k/\y=Y Z ((k:Int) - 1)/\W=w/\lD d (aO L.cs) L.p k=P);exact⟨f,au _,rfl,rfl,rfl,b⟩;obtain⟨k,g,rfl,rfl,t,a⟩:=hrel;have m:=t.symm;subst m;clear b;cases gk with
 |zero=>have o:L.p=P:=a;subst o;go_wp2;go_ret;exact⟨rfl,rfl⟩
 |succ k=>
  have n:k<L.n:=by omega
  obtain⟨E,F,j⟩:=p.out k n;have q:((k+1:Nat):Int) - 1=(k:Int):=by omega
  rw[q];rw[lD,j]at a;have u:(k:Int)<(L.n:Int):=by omega
  have v:(0:Int)<=(k:Int):=by omega
  generalize L.cs.getD k 0=c at*;cases hl:bX c
  .rw[hl,ai<|by decide]at a;have i:dd ((!bX c)=db):=(by show _=_;rw[hl];rfl);have b:=ah a;clear a hl j;go_wp2_with fail;refine(zl c _).mono ?_;rintro r A ⟨rfl,hx⟩;subst hx;rw[i.out];go_wp2;go_roundg k;exact⟨k,by omega,rfl,by go_num,rfl,b⟩;omega
  rw[hl,aj rfl]at a;have i:dd ((!bX c)=da):=(by show _=_;rw[hl];rfl);have b:=ah a;clear a hl j;go_wp2_with fail;refine(zl c _).mono ?_;rintro r A ⟨rfl,hx⟩;subst hx;rw[i.out];go_wp2;go_ret;exact⟨dX b,rfl⟩
def aks(w:cw)(L:LP)(T j:aw)(h:LX w L T j)(hn:L.n<=1000)(f:Nat)(E:f<L.n):cP prog 220 #[.pointer<|V<|S L.lb 0 U,Y Z f] w λe X=>e=bj (Y Z<|rz L.cs j (aO L.cs) L.p f)/\X=w:=by
 have a1:=h.f1;have a3:=h.f3;have a4:=h.f4;have a5:=h.f5;have K:=h.cm f E;have s:=h.ct f E;have R:(f:Int)<(L.n:Int):=by omega
 have J:dd (∀k:Nat,k<L.n->w.cell? (S L.gt k U)=V (Y Z<|L.cs.getD k 0)/\w.cell? (S L.gl k U)=V (Y Z<|j.getD k 0)/\(aO L.cs).getD k da=bX (L.cs.getD k 0)):=λk x=>⟨h.ct k x,h.cl k x,ZQ<|by rw[h.len];exact x⟩
 have v:aU (L.cs.getD f 0)=db->((oD L.cs).getD f 0= -1↔mt L.cs f=L.cs.length):=λe=>by rw[XI (by rw[h.len];exact E) e];have:=vz L.cs f (by rw[h.len];omega);by_cases z:mt L.cs f<L.cs.length;rw[aj z];omega;rw[ai z];simp;omega
 have i:=h.len;unfold rz;rw[i]at v ⊢;clear h i;generalize(oD L.cs).getD f 0=m at*;by_cases hx:aU (L.cs.getD f 0)=db/\mt L.cs f=L.n
 .rw[aj hx];have z:m= -1:=(v hx.1).2 hx.2;subst z;have M:=ah hx.1;clear v hx;generalize L.cs.getD f 0=c at*;go_enter func220,ntmps220;go_wp2_with fail;refine(pG c _).mono ?_;rintro t A ⟨rfl,hx⟩;have r:=hx.symm;subst r;rw[M.out];go_wp2;go_ret;exact⟨rfl,rfl⟩
 rw[ai hx];obtain⟨P,C⟩:=ac<|nu j (aO L.cs) L.p L.n<|L.n - (f+1);rw[<-C];have d:=ah C.symm;clear C;have B:dd (aU (L.cs.getD f 0)=db->(m== -1)=da):=λe=>by have:=v e;simp only[LN];intro Q;exact hx ⟨e,this.1 Q⟩
 clear v hx;generalize L.cs.getD f 0=c at*;go_enter func220,ntmps220;go_wp2_with fail;refine(pG c _).mono ?_;rintro t A ⟨rfl,hx⟩;have r:=hx.symm;subst r;cases hi:aU c;case false=>
  clear hi B;go_wp2;clear s K;go_loopg [5] (L.n - (f+1)) (λu I W=>∃k:Nat,f+1<=k/\k<=L.n/\u=L.n - k/\I=Y Z k/\W=w/\nu j (aO L.cs) L.p L.n u=P);exact⟨f+1,au _,by omega,rfl,by go_num,rfl,d⟩;obtain⟨k,F,x,rfl,rfl,D,a⟩:=hrel;have o:=D.symm;subst o;clear d;by_cases p:k<L.n
  .obtain⟨N,O,n⟩:=J.out k p;obtain⟨g2,b⟩:∃g2,L.n - k=g2+1:=⟨L.n - k - 1,by omega⟩
   rw[b,nu,show L.n - (g2+1)=k by omega,n]at a;have G:(k:Int)<(L.n:Int):=(by omega);generalize L.cs.getD k 0=g at*;cases hl:bX g
   .rw[hl,ai<|by decide]at a;have l:dd ((!bX g)=db):=(by show _=_;rw[hl];rfl);have d:dd (nu j (aO L.cs) L.p L.n (L.n - (k+1))=P):=(by show _=_;rw[show L.n - (k+1)=g2 by omega];exact a);clear a hl n b;go_wp2_with fail;refine(zl g _).mono ?_;rintro t A ⟨rfl,hx⟩;subst hx;rw[l.out];go_wp2;go_roundg (L.n - (k+1));exact⟨k+1,by omega,by omega,rfl,by go_num,rfl,d⟩;omega
   rw[hl,aj rfl]at a;have l:dd ((!bX g)=da):=(by show _=_;rw[hl];rfl);have d:=ah a;clear a hl n b;go_wp2_with fail;refine(zl g _).mono ?_;rintro t A ⟨rfl,hx⟩;subst hx;rw[l.out];go_wp2;go_ret;exact⟨dX d,rfl⟩
  have H:L.n - k=0:=(by omega);rw[H]at a;have q:L.p=P:=a;subst q;have y:¬(k:Int)<(L.n:Int):=(by omega);go_wp2;go_ret;exact⟨rfl,rfl⟩
 case true=>
  have z:=B.out hi;clear hi B;go_wp2;clear s K;go_loopg [5] (L.n - (f+1)) (λu I W=>∃k:Nat,f+1<=k/\k<=L.n/\u=L.n - k/\I=Y Z k/\W=w/\nu j (aO L.cs) L.p L.n u=P);exact⟨f+1,au _,by omega,rfl,by go_num,rfl,d⟩;obtain⟨k,F,x,rfl,rfl,D,a⟩:=hrel;have o:=D.symm;subst o;clear d;by_cases p:k<L.n
  .obtain⟨N,O,n⟩:=J.out k p;obtain⟨g2,b⟩:∃g2,L.n - k=g2+1:=⟨L.n - k - 1,by omega⟩
   rw[b,nu,show L.n - (g2+1)=k by omega,n]at a;have G:(k:Int)<(L.n:Int):=(by omega);generalize L.cs.getD k 0=g at*;cases hl:bX g
   .rw[hl,ai<|by decide]at a;have l:dd ((!bX g)=db):=(by show _=_;rw[hl];rfl);have d:dd (nu j (aO L.cs) L.p L.n (L.n - (k+1))=P):=(by show _=_;rw[show L.n - (k+1)=g2 by omega];exact a);clear a hl n b;go_wp2_with fail;refine(zl g _).mono ?_;rintro t A ⟨rfl,hx⟩;subst hx;rw[l.out];go_wp2;go_roundg (L.n - (k+1));exact⟨k+1,by omega,by omega,rfl,by go_num,rfl,d⟩;omega
   rw[hl,aj rfl]at a;have l:dd ((!bX g)=da):=(by show _=_;rw[hl];rfl);have d:=ah a;clear a hl n b;go_wp2_with fail;refine(zl g _).mono ?_;rintro t A ⟨rfl,hx⟩;subst hx;rw[l.out];go_wp2;go_ret;exact⟨dX d,rfl⟩
  have H:L.n - k=0:=(by omega);rw[H]at a;have q:L.p=P:=a;subst q;have y:¬(k:Int)<(L.n:Int):=(by omega);go_wp2;go_ret;exact⟨rfl,rfl⟩
def ao0(a:List Bool)(k:Nat):jJ a (k+1)=jJ a k++(if l8 a k=db then [k]else []):=by rw[jJ,IJ,tD,tG,IA];rfl
def Xy(a:List Bool)(k:Nat):(jJ a k).length<=k:=by have:=Bk (l8 a)<|List.range k;rw[Pn]at this;exact this
def aeU {a:List Bool}{n p:Nat}(h:p∈jJ a n):p<n/\l8 a p=db:=⟨IG.1 (uN.1 h).1,(uN.1 h).2⟩
def ao1(w:cw)(L:LP)(J M:aw)(h:LX w L J M)(hn:L.n<=1000):cP prog 218 #[.pointer<|V<|S L.lb 0 U] w λe u=>∃v,e=bj v/\u.ownsRow w.1.size 3 1 v (jJ (aO L.cs) L.n).length (iv<|nl<|jJ (aO L.cs) L.n)/\cD w.1.size w u:=by
 obtain⟨F,B,G,H,I⟩:=fP Tryz.sQ;have z:=h.f1;have o:=ah h;clear h;go_enter func218,ntmps218;go_wp2;clear z;go_loopg [3,11] L.n (λC P K W=>∃k:Nat,k<=L.n/\C=L.n - k/\K=Y Z k/\W.ownsRow w.1.size 3 1 P (jJ (aO L.cs) k).length (iv<|nl<|jJ (aO L.cs) k)/\cD w.1.size w W);exact⟨0,by omega,rfl,rfl,fh _ _ _ _,aA _ _⟩;obtain⟨k,X,rfl,rfl,a,b⟩:=hrel;obtain⟨N,O,rfl⟩:=eV a;have l:=b.size;have D:=Xy (aO L.cs) k;by_cases m:k<L.n
 .have s:=o.out.below b;have T:=s.ct k m;have t:(k:Int)<(L.n:Int):=by omega
  have d:=ao0 (aO L.cs) k;have j:l8 (aO L.cs) k=bX (L.cs.getD k 0):=ZQ (by rw[o.out.len];exact m);rw[j]at d;clear s j;generalize L.cs.getD k 0=c at*;cases hl:bX c
  .rw[hl,ai<|by decide,mH]at d;have n:dd ((!bX c)=db):=(by show _=_;rw[hl];rfl);have i:dd (wr.ownsRow w.1.size 3 1 (.slice N (jJ (aO L.cs) k).length O) (jJ (aO L.cs)<|k+1).length (iv<|nl<|jJ (aO L.cs)<|k+1)):=(by rw[d];exact a);have g:=ah b;clear hl d a b;go_wp2_with fail;refine(zl c _).mono ?_;rintro A R ⟨rfl,hx⟩;have f:=hx.symm;subst f;rw[n.out];go_wp2;go_roundg (L.n - (k+1));exact⟨k+1,by omega,rfl,by go_num,i,g⟩;omega
  rw[hl,aj rfl]at d;have n:dd ((!bX c)=da):=(by show _=_;rw[hl];rfl);have y:=ah d;clear hl d;go_wp2_with fail;refine(zl c _).mono ?_;rintro A R ⟨rfl,hx⟩;have f:=hx.symm;subst f;rw[n.out];go_wp2_with(at_builtin;refine rT _ rfl _ _ 31 rfl w.1.size 3 F (Y Z 0) 8 underlying31 B G H I rfl (by decide) _ _ _ rfl a _ _ rfl rfl (by omega) l ?_);intro Q x r p;have i:dd (x.ownsRow w.1.size 3 1 Q (jJ (aO L.cs)<|k+1).length (iv<|nl<|jJ (aO L.cs)<|k+1)):=by rw[y.out];have e:iv (nl<|jJ (aO L.cs) k++[k])=iv (nl<|jJ (aO L.cs) k)++[Y Z (k:Int)]:=(by simp[iv,nl]);rw[e,bG];exact r
  have g:dd (cD w.1.size w x):=b.grown p l λq E=>(a.lt q E).1
  clear r p a b;go_wp2;go_roundg (L.n - (k+1));exact⟨k+1,by omega,rfl,by go_num,i,g⟩;omega
 obtain rfl:k=L.n:=by omega
 have i:=ah a;have g:=ah b;clear a b;go_wp2;go_ret;exact⟨_,rfl,i,g⟩
def qh(g:Nat)(a:Nat×Nat):cJ:= .slice (V<|S g a.1 U) (a.2 - a.1) (a.2 - a.1)
def ey(left:ba)(a:Nat×Nat):ba:=(left.take a.2).drop a.1
structure Ek(w:World)(B:Nat)(v:Value)(g:Nat)(left:ba)(aH:List<|Nat×Nat):Prop where
 row:w.ownsRow B 31 1 v aH.length<|aH.map<|qh g
 lf:bJ w g 0<|nl left
 ok:∀ab∈aH,ab.1<ab.2/\ab.2<=left.length
 lt:left≠[]->B<=g/\g<w.1.size
 ty:left≠[]->∃cs,w.1[g]? =some (.cells cs 3 (0,0))
def asc(w:cw)(L:LP)(ks c:aw)(h:LX w L ks c)(hn:L.n<=1000):cP prog 154 #[.pointer<|V<|S L.lb 0 U] w λe w'=>∃v g b,e=bj v/\Ek w' w.1.size v g (jJ (aO L.cs) L.n) b/\b.map (ey<|jJ (aO L.cs) L.n)=dB c (aO L.cs)/\cD w.1.size w w':=by
 obtain⟨iS,MP,Ny,Nz,NA⟩:=fP Tryz.Xb;have HX:=ah h;have O:=ah<|ao1 w L ks c h hn;have aA:=Xy (aO L.cs) L.n;have Ig:dd (qj c (jJ (aO L.cs) L.n) (dB c<|aO L.cs) [] 0):=by have:=qj.start c<|aO L.cs;rw[h.kl.2]at this;exact this
 have HM:dd (∀k,k<(jJ (aO L.cs) L.n).length->(jJ (aO L.cs) L.n).getD k 0<L.n):=λk M=>(aeU<|dP M).1
 clear h;generalize jJ (aO L.cs) L.n=left at*;generalize dB c (aO L.cs)=K at*;go_enter func154,ntmps154;go_wp2_with fail;refine O.out.mono ?_;rintro ev w2 ⟨lv,rfl,a,ae⟩;obtain⟨la,u,rfl⟩:=eV a;obtain⟨g,hg⟩:∃g,0<left.length->la=V (S g 0 U):=by by_cases B:0<left.length;obtain⟨g,X,hv,_⟩:=iq a B;exact⟨g,λ_=>by simpa using(by simpa using hv:la=V (S g 0 U)/\u=X).1⟩;exact⟨0,λh=>absurd h B⟩
 have Q:=ah a;have aG:=ah ae;have OH:=ah hg;clear a ae O hg;go_wp2;go_loopg [4,5] left.length (λgh rv fv W=>∃(f:Nat)(b:List<|Nat×Nat),f<=left.length/\gh=left.length - f/\fv=Y Z f/\b.length<=f/\W.ownsRow w.1.size 31 1 rv b.length (b.map<|qh g)/\W.ownsRow w.1.size 3 1 (R la left.length u) left.length (iv<|nl left)/\cD w.1.size w W/\(∀n∈b,n.1<n.2/\n.2<=left.length)/\qj c left K (b.map<|ey left) f);exact⟨0,[],by omega,rfl,rfl,by simp,fh _ _ _ _,Q,aG,by simp,Ig⟩;clear Q aG Ig;obtain⟨f,b,hf,rfl,rfl,aB,l,a,D,s,hG⟩:=hrel;obtain⟨z,A,rfl⟩:=eV l;have E:=D.size;by_cases p:f<left.length
 .have ag:(f:Int)<(left.length:Int):=by omega
  have ap:=OH.out (by omega);subst ap;have Tu:=ah l;have y:=ah a;have au:left.length<=u:=(iq a<|by omega).choose_spec.choose_spec.2.1|>λh=>by obtain⟨g',c',hv,hc,_⟩:=iq a (show 0<left.length by omega);have:u=c':=(by have:=hv;simp at this;exact this.2);omega
  have HB:=ah D;have P:=ah s;have HI:=ah<|hG.opn p;have HC:dd (∀k,k<left.length->wr.cell? (S g k U)=V (Y Z ((left.getD k 0:Nat):Int))/\wr.cell? (S L.gl (left.getD k 0) U)=V (Y Z<|c.getD (left.getD k 0) 0)/\left.getD k 0<L.n):=λk M=>by have h1:=jx a k (by rw[iz];exact M);rw[pH _ _ M]at h1;exact⟨h1,(HX.out.below D).cl _ (HM k M),HM k M⟩
  have a3:=(HX.out.below D).f3;obtain⟨ax,ay,az⟩:=HC.out f p;clear l a D s hG;obtain⟨o,an⟩:=ac wr;subst an;go_wp2;go_loopg [6] (left.length - (f+1)) (λgh tv W=>∃(t m:Nat),f+1<=t/\t<=left.length/\gh=left.length - t/\tv=Y Z t/\W=o.drewN m/\yE c left K (b.map<|ey left) f t);exact⟨f+1,0,by omega,by omega,rfl,by go_num,rfl,HI⟩;obtain⟨t,m,af,ht,rfl,rfl,rfl,hI⟩:=hrel;clear HI;have Jq:((left.getD f 0:Nat):Int)<(L.n:Int):=by omega
  by_cases d:t<left.length/\c.getD (left.getD t 0) 0=c.getD (left.getD f 0) 0
  .obtain⟨aj,ak,al⟩:=HC.out t d.1;have CD:dd (yE c left K (b.map<|ey left) f (t+1)):=hI.more (by omega) d.1 d.2;have H:=d.1;have G:(t:Int)<(left.length:Int):=(by omega);have MD:((left.getD t 0:Nat):Int)<(L.n:Int):=(by omega);have ao:(c.getD (left.getD t 0) 0==c.getD (left.getD f 0) 0)=db:=(by simpa using d.2);clear d hI;generalize c.getD (left.getD t 0) 0=ar at*;generalize c.getD (left.getD f 0) 0=aq at*;generalize left.getD t 0=pt at*;generalize left.getD f 0=pf at*;go_wp2_with fail;go_quiet(fail);go_wp2;go_roundg (left.length - (t+1));exact⟨t+1,_,by omega,by omega,rfl,by go_num,rfl,CD⟩;omega
  have N:dd (qj c left K (b.map (ey left)++[(left.take t).drop f]) t):=hI.shut (by omega) ht (by
   by_cases h:t<left.length;exact .inr λe=>d ⟨h,e⟩
   exact .inl h)
  have ai:(o.drewN m).ownsRow w.1.size 31 1 (R z b.length A) b.length (b.map<|qh g):=eW Tu (yN (r:=U)) (by cases(Value.slice z b.length A).ownBlock<;>simp);have Jr:w.1.size<=(o.drewN m).1.size:=E;have j:(Value.slice z b.length A).ownBlock=U∨(Value.slice z b.length A).ownBlock≠U:=(by cases(Value.slice z b.length A).ownBlock<;>simp);have av:(f:Int)<=(t:Int):=(by omega);have BU:(t:Int)<=(u:Int):=(by omega);have T:dd (b.length<=1000):=(by show _<=_;omega);by_cases H:t<left.length;case pos=>
   obtain⟨aj,ak,al⟩:=HC.out t H;have G:(t:Int)<(left.length:Int):=(by omega);have MD:((left.getD t 0:Nat):Int)<(L.n:Int):=(by omega);have ao:(c.getD (left.getD t 0) 0==c.getD (left.getD f 0) 0)=da:=(by simp only[LN];exact λe=>d ⟨H,e⟩);clear d hI;generalize c.getD (left.getD t 0) 0=ar at*;generalize c.getD (left.getD f 0) 0=aq at*;generalize left.getD t 0=pt at*;generalize left.getD f 0=pf at*;go_wp2_with fail;go_quiet(fail);have x:((o.drewN m).drewN nq).ownsRow w.1.size 31 1 (R z b.length A) b.length (b.map<|qh g):=eW (eW Tu (yN (r:=U)) j) (yN (r:=U)) j;have kC:dd (((o.drewN m).drewN nq).ownsRow w.1.size 3 1 (.slice (V<|S g 0 U) left.length u) left.length (iv<|nl left)):=eW (eW y (yN (r:=U)) (.inr<|by simp[Value.ownBlock])) (yN (r:=U)) (.inr<|by simp[Value.ownBlock]);have bF:dd (cD w.1.size w<|(o.drewN m).drewN nq):=gY (gY HB _) _;have iJ:w.1.size<=((o.drewN m).drewN nq).1.size:=E;generalize(o.drewN m).drewN nq=W5 at*;clear ai Jr;go_wp2_with(at_builtin;refine rT _ rfl _ _ 127 rfl w.1.size 31 iS (R U 0 0) 24 underlying127 MP Ny Nz NA rfl (by decide) _ _ _ rfl x _ _ rfl rfl (by have:=T.out;omega) iJ ?_);intro v6 J oh I;have Tp:dd (J.ownsRow w.1.size 31 1 v6 (b++[(f,t)]).length ((b++[(f,t)]).map (qh g))):=(by rw[gu,bG];exact oh);have KY:dd (J.ownsRow w.1.size 3 1 (.slice (V<|S g 0 U) left.length u) left.length<|iv<|nl left):=eW kC I (mP kC x<|by decide);have dU:dd (cD w.1.size w J):=bF.out.grown I iJ λq hq=>(x.lt q hq).1
   have Tc:dd (∀n∈b++[(f,t)],n.1<n.2/\n.2<=left.length):=λn C=>by rcases ji.1 C with h|h;exact P.out n h;rw[r7.1 h];exact⟨af,ht⟩
   have KH:dd (qj c left K ((b++[(f,t)]).map (ey left)) t):=(by rw[gu];exact N.out);clear oh I x;go_wp2;go_roundg (left.length - t);exact⟨t,b++[(f,t)],ht,rfl,by go_num,by rw[bG,fL];omega,Tp.out,KY.out,dU.out,Tc.out,KH.out⟩;omega
  case neg=>
   have G:¬(t:Int)<(left.length:Int):=(by omega);have aC:decide ((t:Int)<(left.length:Int))=da:=(by simpa using G);clear d hI;go_wp2_with fail;go_quiet(fail);have x:((o.drewN m).drewN nq).ownsRow w.1.size 31 1 (R z b.length A) b.length (b.map<|qh g):=eW (eW Tu (yN (r:=U)) j) (yN (r:=U)) j;have kC:dd (((o.drewN m).drewN nq).ownsRow w.1.size 3 1 (.slice (V<|S g 0 U) left.length u) left.length (iv<|nl left)):=eW (eW y (yN (r:=U)) (.inr<|by simp[Value.ownBlock])) (yN (r:=U)) (.inr<|by simp[Value.ownBlock]);have bF:dd (cD w.1.size w<|(o.drewN m).drewN nq):=gY (gY HB _) _;have iJ:w.1.size<=((o.drewN m).drewN nq).1.size:=E;generalize(o.drewN m).drewN nq=W5 at*;clear ai Jr;go_wp2_with(at_builtin;refine rT _ rfl _ _ 127 rfl w.1.size 31 iS (R U 0 0) 24 underlying127 MP Ny Nz NA rfl (by decide) _ _ _ rfl x _ _ rfl rfl (by have:=T.out;omega) iJ ?_);intro v6 J oh I;have Tp:dd (J.ownsRow w.1.size 31 1 v6 (b++[(f,t)]).length ((b++[(f,t)]).map (qh g))):=(by rw[gu,bG];exact oh);have KY:dd (J.ownsRow w.1.size 3 1 (.slice (V<|S g 0 U) left.length u) left.length<|iv<|nl left):=eW kC I (mP kC x<|by decide);have dU:dd (cD w.1.size w J):=bF.out.grown I iJ λq hq=>(x.lt q hq).1
   have Tc:dd (∀n∈b++[(f,t)],n.1<n.2/\n.2<=left.length):=λn C=>by rcases ji.1 C with h|h;exact P.out n h;rw[r7.1 h];exact⟨af,ht⟩
   have KH:dd (qj c left K ((b++[(f,t)]).map (ey left)) t):=(by rw[gu];exact N.out);clear oh I x;go_wp2;go_roundg (left.length - t);exact⟨t,b++[(f,t)],ht,rfl,by go_num,by rw[bG,fL];omega,Tp.out,KY.out,dU.out,Tc.out,KH.out⟩;omega
 have ad:=hG.done p;obtain rfl:f=left.length:=by omega
 have HR:dd (Ek wr w.1.size (R z b.length A) g left b):=by refine⟨l,?_,s,λF=> ?_,λF=> ?_⟩;by_cases B:0<left.length;have:=OH.out B;subst this;intro i hi;rw[iz]at hi;have h1:=jx a i (by rw[iz];exact hi);simpa using h1;have:left=[]:=Ua.1 (by omega);rw[this];intro i hi;simp[nl]at hi;have B:=kF.2 F;have:=OH.out B;subst this;obtain⟨g',c',hv,hc,p,hB⟩:=iq a B;have e:g=g':=(by have:=hv;simp at this;exact this.1);subst e;exact⟨hB,p⟩;have:=OH.out<|kF.2 F;subst this;rcases a.2 with⟨e1,_⟩|⟨g',X,am,e1,_,hh,_⟩;cases e1;injection e1 with e2;injection e2 with e3;injection e3 with e4;subst e4;exact⟨am,hh⟩
 have HB:=ah D;have HE:=ah ad;have ag:¬(left.length:Int)<(left.length:Int):=by omega
 clear l a D s hG ad p;go_wp2;go_ret;exact⟨_,rfl,g,b,HR,HE,HB⟩
section
open Go.Maps
section
variable{P:Program}{w:World}{t k e:TypeId}{b clock:Nat}{es:Array MapEntry}{key val z:Value}
def ag1(f:P.underlying t=V (.map k e))(a:w.1[b]? =V (.map es clock))(c:(Instr.checkKey da 10000 k key).run P w= .ok () w)(d:(Instr.findKey k key es.toList).run P w= .ok U w):(Instr.mapUpdate t (.map<|V b) key val).run P w= .ok () (ChangeMaps.setBlock w b (.map (es.push ⟨key,val,clock⟩)<|clock+1)):=by simp[Instr.mapUpdate,Ch f,jb a,c,d,MapKept.run_setObj_map _ a,Result.andThen,ChangeMaps.setBlock]
def agY(c:Bool)(h:P.underlying t=V (.map k e))(i:(zeroValue e).run P w= .ok z w)(d:w.1[b]? =V (.map es clock))(f:∀a,(Instr.checkKey a 10000 k key).run P w= .ok () w)(g:(Instr.findKey k key es.toList).run P w= .ok U w):(Instr.lookup t (.map<|V b) key c).run P w= .ok (if c then de #[z,ce da]else z) w:=by simp[Instr.lookup,Ch h,jb d,f,g,i,Result.andThen]
def agZ(c:Bool){j:Nat}{v:cJ}(h:P.underlying t=V (.map k e))(d:w.1[b]? =V (.map es clock))(f:∀a,(Instr.checkKey a 10000 k key).run P w= .ok () w)(g:(Instr.findKey k key es.toList).run P w= .ok (V (j,v)) w):(Instr.lookup t (.map<|V b) key c).run P w= .ok (if c then de #[v,ce db]else v) w:=by simp[Instr.lookup,Ch h,jb d,f,g,Result.andThen]
def ar3(w:cw)(k:TypeId)(x:cJ)(i:Nat):(Instr.findAsking k x [] i).run P w= .ok U w:=by simp[Instr.findAsking]
def ar2 {x:cJ}{m:MapEntry}{r:List MapEntry}{q:Bool}(i:Nat)(h:(Op.equal k x m.key).run P w= .ok q w):(Instr.findAsking k x (m::r) i).run P w=if q=db then .ok (V (i,m.val)) w else(Instr.findAsking k x r<|i+1).run P w:=by cases q<;>simp[Instr.findAsking,h,Result.andThen]
def agX(v:P.underlying k=V (.int .i64))(a:Int):∀(f:List MapEntry)(i:Nat),(∀m∈f,∃x,m.key=Y Z x)->∃r,Instr.findNow (.int .i64) (Y Z a) f i=V r/\((r=U/\∀m∈f,m.key≠Y Z a)∨∃j m,r=V (i+j,m.val)/\f[j]? =V m/\m.key=Y Z a/\∀d l,d<j->f[d]? =V l->l.key≠Y Z a)
 |[],i,_=>⟨U,rfl,.inl ⟨rfl,by simp⟩⟩
 |m::r,i,h=>by
  obtain⟨x,hx⟩:=h m (by simp);by_cases b:a=x;refine⟨V (i,m.val),by simp[Instr.findNow,hx,Instr.sameNow,b],.inr ⟨0,m,by simp,by simp,by rw[hx,b],λd _ p=>by omega⟩⟩;obtain⟨q,w,z⟩:=agX v a r (i+1) (λy g=>h y<|by simp[g]);have s:(a==x)=da:=(by simpa using b);refine⟨q,by simp[Instr.findNow,hx,Instr.sameNow,s,w],?_⟩;rcases z with⟨n,o⟩|⟨j,y,n,o,t,u⟩;refine .inl ⟨n,λy g=> ?_⟩;rcases gI.1 g with rfl|g;rw[hx];intro e;cases e;exact b rfl;exact o y g;refine .inr ⟨j+1,y,by rw[n];congr 2;omega,by simpa using o,t,?_⟩;intro d l p c;cases d with
  |zero=>simp at c;subst c;rw[hx];intro e;cases e;exact b rfl
  |succ d=>exact u d l (by omega)<|by simpa using c
def YN(c:P.underlying k=V (.int .i64))(w:cw)(a:Int)(b:Bool):(Instr.checkKey b 10000 k<|Y Z a).run P w= .ok () w:=by unfold Instr.checkKey;simp[Ch c]
def agW(e:P.underlying k=V (.int .i64))(w:cw)(a:Int)(b:List MapEntry)(h:∀m∈b,∃x,m.key=Y Z x):((Instr.findKey k (Y Z a) b).run P w= .ok U w/\∀m∈b,m.key≠Y Z a)∨∃j m,(Instr.findKey k (Y Z a) b).run P w= .ok (V (j,m.val)) w/\b[j]? =V m/\m.key=Y Z a:=by
 obtain⟨r,i,f⟩:=agX e a b 0 h;have d:(Instr.findKey k (Y Z a) b).run P w= .ok r w:=by simp[Instr.findKey,Ch e,i]
 rcases f with⟨rfl,c⟩|⟨j,m,rfl,c,g,_⟩;exact .inl ⟨d,c⟩;exact .inr ⟨j,m,by simpa using d,c,g⟩
end
end
structure aZ(w:World)(B sb gc n cc:Nat)(pv rv bv:Value)(ax aq ay:Int)(t:aw):Prop where
 cell:w.1[sb]? =some (.cells #[pv,rv,.slice (some ⟨gc,0,none⟩) n cc,bv,.int .i64 ax,.int .i64 aq,.int .i64 ay] 220 (0,0))
 row:w.ownsRow B 108 1 (.slice (some ⟨gc,0,none⟩) n cc) n<|iv t
section
variable{w w':World}{B sb gc n cc:Nat}{pv rv bv:Value}{ax aq ay:Int}{t:List Int}
def aZ.len(h:aZ w B sb gc n cc pv rv bv ax aq ay t):t.length=n:=by have:=h.row.1;simpa [iv]using this
def aZ.ne(h:aZ w B sb gc n cc pv rv bv ax aq ay t):sb≠gc:=by rcases h.row.2 with⟨e,_⟩|⟨g,i,a,e,_,f,_⟩;cases e;injection e with b;injection b with c;injection c with d;subst d;intro e;have:=h.cell;rw[e,f]at this;simp at this
def aZ.at(h:aZ w B sb gc n cc pv rv bv ax aq ay t)(k:Nat)(a:k<n):w.cell? (S gc k U)=V (Y Z<|t.getD k 0):=jx h.row k<|by rw[h.len];exact a
def aZ.frozen(h:aZ w B sb gc n cc pv rv bv ax aq ay t)(k:Nat):w.frozen? (S gc k U)=da:=Em h.row k
def aZ.f2(h:aZ w B sb gc n cc pv rv bv ax aq ay t):w.cell? (S sb 2 U)=V (.slice (V<|S gc 0 U) n cc):=az h.cell 2
def aZ.f4(h:aZ w B sb gc n cc pv rv bv ax aq ay t):w.cell? (S sb 4 U)=V (Y Z ax):=az h.cell 4
def aZ.f5(h:aZ w B sb gc n cc pv rv bv ax aq ay t):w.cell? (S sb 5 U)=V (Y Z aq):=az h.cell 5
def aZ.f6(h:aZ w B sb gc n cc pv rv bv ax aq ay t):w.cell? (S sb 6 U)=V (Y Z ay):=az h.cell 6
def aZ.set(h:aZ w B sb gc n cc pv rv bv ax aq ay t)(k:Nat)(a:Int):aZ (w.setCell (S gc k U)<|Y Z a) B sb gc n cc pv rv bv ax aq ay (t.set k a):=
 ⟨by rw[iX _ _ _ _ h.ne];exact h.cell,by rw[<-JU];exact(C0 h.row k<|Y Z a).1⟩
def aZ.grown(h:aZ w B sb gc n cc pv rv bv ax aq ay t)(k:Nat)(a:Int):w.grownBy (w.setCell (S gc k U)<|Y Z a) (V gc):=(C0 h.row k<|Y Z a).2
def aZ.ready {d:Type}{f:d->Int->aw->Int}{g:d->Int->aw->d}{i s:d}{t b:aw}{k:Nat}(h:aZ w B sb gc n cc pv rv bv ax aq ay b)(e:bC f g i t k s b)(l:t.length=n)(j:k<n):∃c rest,w.cell? (S gc k U)=V (Y Z c)/\w.frozen? (S gc k U)=da/\w.cell? (S sb 2 U)=V (.slice (V<|S gc 0 U) n cc)/\(k:Int)<(n:Int)/\(∀a,c=f s c rest->a=g s c rest->dd (bC f g i t (k+1) a b))/\∀v a,v=f s c rest->a=g s c rest->dd (bC f g i t (k+1) a<|b.set k v):=
 ⟨_,_,by rw[<-e.at k (au _)];exact h.at k j,h.frozen k,h.f2,by omega,λa=>e.stay (by omega) a,λv a=>e.step (by omega) v a⟩
def aZ.below(h:aZ w B sb gc n cc pv rv bv ax aq ay t)(a:cD w.1.size w w'):aZ w' B sb gc n cc pv rv bv ax aq ay t:=⟨aR a h.cell,fS h.row a⟩
end
def gX(a b:Int)(t:aw)(j:Int):Int:=if j<0 then a else if(t.length:Int)<=j then b else t.getD j.toNat 0
def UD(w:cw)(B g m n l:Nat)(p q bv:cJ)(i a b:Int)(t:aw)(h:aZ w B g m n l p q bv i a b t)(j:Int):cP prog 207 #[.pointer<|V<|S g 0 U,Y Z j] w λe r=>e=bj (Y Z<|gX a b t j)/\r=w:=by
 have s:=h.f2;have u:=h.f5;have v:=h.f6;unfold gX;rw[h.len];by_cases d:j<0
 .rw[aj d];clear h;go_enter func207,ntmps207;go_wp2;go_ret;exact⟨rfl,rfl⟩
 rw[ai d];by_cases f:(n:Int)<=j
 .rw[aj f];clear h;go_enter func207,ntmps207;go_wp2;go_ret;exact⟨rfl,rfl⟩
 rw[ai f];obtain⟨k,rfl⟩:∃k:Nat,j=k:=⟨j.toNat,by omega⟩
 have o:k<n:=(by omega);have x:=h.at k o;rw[Bg];clear h;generalize t.getD k 0=c at*;go_enter func207,ntmps207;go_wp2;go_ret;exact⟨rfl,rfl⟩
def f2(s c:Int)(_:aw):Int:=if c=3/\s=2 then 6 else c
def g2(s c:Int)(_:aw):Int:=if c=0∨c=1∨c=2 then c else s
def af9:∀(t:aw)(s:Int),pass f2 g2 s t=mO 2 6 s t
 |[],_=>rfl
 |c::r,s=>by rw[pass,mO,af9 r,f2,g2];by_cases h:c=0∨c=1∨c=2;rw[aj h,ai<|by omega,ai<|by omega];rw[ai h]
def f7(s c:Int)(_:aw):Int:=if c=3/\s=0 then 0 else c
def g7(s c:Int)(_:aw):Int:=if c=0∨c=1 then c else s
def agc:∀(t:aw)(s:Int),pass f7 g7 s t=NQ s t
 |[],_=>rfl
 |c::r,s=>by rw[pass,NQ,agc r,f7,g7];by_cases h:c=0∨c=1;rw[aj h,aj h,ai<|by omega];rw[ai h,ai h]
def Da(e:Int)(_:Unit)(c:Int)(_:aw):Int:=E6 e c
def agf(e:Int):∀t:aw,pass (Da e) g3 () t=t.map (E6 e)
 |[]=>rfl
 |c::r=>by rw[pass,ni,agf e r];rfl
def atQ(w:cw)(B i a n p:Nat)(u v bv:cJ)(m l o:Int)(t:aw)(h:aZ w B i a n p u v bv m l o t)(M:n<=1000):cP prog 146 #[.pointer<|V<|S i 0 U] w λe I=>e=bj (de #[])/\aZ I B i a n p u v bv m l o (pass f3 g3 () t)/\w.grownBy I (V a):=by
 have H:=ah h;have F:=ah h.len;have G:=h.f2;have J:=h.f5;clear h;go_enter func146,ntmps146;go_wp2;clear G J;go_loopg [9] n (λgk iv wr=>∃(k:Nat)(s:Unit)(x:aw),k<=n/\gk=n - k/\iv=Y Z k/\aZ wr B i a n p u v bv m l o x/\w.grownBy wr (V a)/\bC f3 g3 () t k s x);exact⟨0,(),t,by omega,rfl,rfl,H,kI _ _,bC.start _ _ _ _⟩;clear H;obtain⟨k,s,x,L,rfl,rfl,d,q,r⟩:=hrel;by_cases f:k<n
 .obtain⟨c,rest,D,K,G,E,A,z⟩:=d.ready r F.out f;have b:=ah d;have j:=ah q;clear d q r;by_cases C:c=2
  .subst C;have y:=z 1 () rfl rfl;clear A z;go_wp2;go_roundg (n - (k+1));exact⟨k+1,(),_,by omega,rfl,by go_num,b.out.set k 1,j.out.trans<|b.out.grown k 1,y.out⟩;omega
  have N:=ae C;have y:=A () (V4 C).symm rfl;clear A z;go_wp2;go_roundg (n - (k+1));exact⟨k+1,(),_,by omega,rfl,by go_num,b,j,y.out⟩;omega
 have g:x=pass f3 g3 () t:=r.stop (by rw[F.out];exact f);have b:dd (aZ wr B i a n p u v bv m l o<|pass f3 g3 () t):=by rw[<-g];exact d
 have j:=ah q;have E:¬(k:Int)<(n:Int):=by omega
 clear d q r g;go_wp2;go_end0;exact⟨rfl,b,j⟩
def atV(w:cw)(B o g n u:Nat)(y z bv:cJ)(q p r:Int)(t:aw)(h:aZ w B o g n u y z bv q p r t)(O:n<=1000):cP prog 149 #[.pointer<|V<|S o 0 U] w λe K=>e=bj (de #[])/\aZ K B o g n u y z bv q p r (pass f6 g3 () t)/\w.grownBy K (V g):=by
 have G:=ah h;have E:=ah h.len;have F:=h.f2;have L:=h.f5;clear h;go_enter func149,ntmps149;go_wp2;clear F L;go_loopg [9] n (λgk iv wr=>∃(k:Nat)(s:Unit)(A:aw),k<=n/\gk=n - k/\iv=Y Z k/\aZ wr B o g n u y z bv q p r A/\w.grownBy wr (V g)/\bC f6 g3 () t k s A);exact⟨0,(),t,by omega,rfl,rfl,G,kI _ _,bC.start _ _ _ _⟩;clear G;obtain⟨k,s,A,N,rfl,rfl,j,v,x⟩:=hrel;by_cases l:k<n
 .obtain⟨c,rest,C,M,F,D,i,d⟩:=j.ready x E.out l;have a:=ah j;have f:=ah v;clear j v x;by_cases H:c=4
  .subst H;have b:=d 12 () rfl rfl;clear i d;go_wp2;go_roundg (n - (k+1));exact⟨k+1,(),_,by omega,rfl,by go_num,a.out.set k 12,f.out.trans<|a.out.grown k 12,b.out⟩;omega
  have P:=ae H;by_cases I:c=5
  .subst I;have b:=d 12 () rfl rfl;clear i d;go_wp2;go_roundg (n - (k+1));exact⟨k+1,(),_,by omega,rfl,by go_num,a.out.set k 12,f.out.trans<|a.out.grown k 12,b.out⟩;omega
  have Q:=ae I;by_cases J:c=7
  .subst J;have b:=d 12 () rfl rfl;clear i d;go_wp2;go_roundg (n - (k+1));exact⟨k+1,(),_,by omega,rfl,by go_num,a.out.set k 12,f.out.trans<|a.out.grown k 12,b.out⟩;omega
  have R:=ae J;have b:=i () (V7<|by omega).symm rfl;clear i d;go_wp2;go_roundg (n - (k+1));exact⟨k+1,(),_,by omega,rfl,by go_num,a,f,b.out⟩;omega
 have m:A=pass f6 g3 () t:=x.stop (by rw[E.out];exact l);have a:dd (aZ wr B o g n u y z bv q p r<|pass f6 g3 () t):=by rw[<-m];exact j
 have f:=ah v;have D:¬(k:Int)<(n:Int):=by omega
 clear j v x m;go_wp2;go_end0;exact⟨rfl,a,f⟩
def atO(w:cw)(B p j n u:Nat)(y z bv:cJ)(q f r:Int)(t:aw)(h:aZ w B p j n u y z bv q f r t)(W:n<=1000):cP prog 145 #[.pointer<|V<|S p 0 U] w λe N=>e=bj (de #[])/\aZ N B p j n u y z bv q f r (pass f2 g2 f t)/\w.grownBy N (V j):=by
 have G:=ah h;have E:=ah h.len;have F:=h.f2;have O:=h.f5;clear h;go_enter func145,ntmps145;go_wp2;clear F O;go_loopg [2,14] n (λgk R iv wr=>∃(k:Nat)(s:Int)(A:aw),k<=n/\gk=n - k/\R=Y Z s/\iv=Y Z k/\aZ wr B p j n u y z bv q f r A/\w.grownBy wr (V j)/\bC f2 g2 f t k s A);exact⟨0,f,t,by omega,rfl,rfl,rfl,G,kI _ _,bC.start _ _ _ _⟩;clear G;obtain⟨k,s,A,T,rfl,rfl,rfl,l,v,x⟩:=hrel;by_cases m:k<n
 .obtain⟨c,rest,C,P,F,D,b,i⟩:=l.ready x E.out m;have d:=ah l;have g:=ah v;clear l v x;by_cases H:c=0
  .subst H;have a:=b 0 rfl rfl;clear b i;go_wp2;go_roundg (n - (k+1));exact⟨k+1,0,_,by omega,rfl,rfl,by go_num,d,g,a.out⟩;omega
  have X:=ae H;by_cases I:c=1
  .subst I;have a:=b 1 rfl rfl;clear b i;go_wp2;go_roundg (n - (k+1));exact⟨k+1,1,_,by omega,rfl,rfl,by go_num,d,g,a.out⟩;omega
  have q1:=ae I;by_cases J:c=2
  .subst J;have a:=b 2 rfl rfl;clear b i;go_wp2;go_roundg (n - (k+1));exact⟨k+1,2,_,by omega,rfl,rfl,by go_num,d,g,a.out⟩;omega
  have q2:=ae J;have L:g2 s c rest=s:=by rw[g2,ai<|by omega]
  by_cases K:c=3
  .subst K;by_cases M:s=2
   .subst M;have a:=i 6 2 rfl rfl;clear b i;go_wp2;go_roundg (n - (k+1));exact⟨k+1,2,_,by omega,rfl,rfl,by go_num,d.out.set k 6,g.out.trans<|d.out.grown k 6,a.out⟩;omega
   have Q:=ae M;have a:=b s (by rw[f2,ai<|by omega]) L.symm;clear b i;go_wp2;go_roundg (n - (k+1));exact⟨k+1,s,_,by omega,rfl,rfl,by go_num,d,g,a.out⟩;omega
  have q3:=ae K;have a:=b s (by rw[f2,ai<|by omega]) L.symm;clear b i;go_wp2;go_roundg (n - (k+1));exact⟨k+1,s,_,by omega,rfl,rfl,by go_num,d,g,a.out⟩;omega
 have o:A=pass f2 g2 f t:=x.stop (by rw[E.out];exact m);have d:dd (aZ wr B p j n u y z bv q f r<|pass f2 g2 f t):=by rw[<-o];exact l
 have g:=ah v;have D:¬(k:Int)<(n:Int):=by omega
 clear l v x o;go_wp2;go_end0;exact⟨rfl,d,g⟩
def atW(w:cw)(B p j n u:Nat)(y z bv:cJ)(q b r:Int)(t:aw)(h:aZ w B p j n u y z bv q b r t)(T:n<=1000):cP prog 150 #[.pointer<|V<|S p 0 U] w λe M=>e=bj (de #[])/\aZ M B p j n u y z bv q b r (pass f7 g7 b t)/\w.grownBy M (V j):=by
 have G:=ah h;have E:=ah h.len;have F:=h.f2;have N:=h.f5;clear h;go_enter func150,ntmps150;go_wp2;clear F N;go_loopg [2,14] n (λgk Q iv wr=>∃(k:Nat)(s:Int)(A:aw),k<=n/\gk=n - k/\Q=Y Z s/\iv=Y Z k/\aZ wr B p j n u y z bv q b r A/\w.grownBy wr (V j)/\bC f7 g7 b t k s A);exact⟨0,b,t,by omega,rfl,rfl,rfl,G,kI _ _,bC.start _ _ _ _⟩;clear G;obtain⟨k,s,A,R,rfl,rfl,rfl,l,v,x⟩:=hrel;by_cases m:k<n
 .obtain⟨c,rest,C,O,F,D,d,i⟩:=l.ready x E.out m;have f:=ah l;have g:=ah v;clear l v x;by_cases H:c=0
  .subst H;have a:=d 0 rfl rfl;clear d i;go_wp2;go_roundg (n - (k+1));exact⟨k+1,0,_,by omega,rfl,rfl,by go_num,f,g,a.out⟩;omega
  have W:=ae H;by_cases I:c=1
  .subst I;have a:=d 1 rfl rfl;clear d i;go_wp2;go_roundg (n - (k+1));exact⟨k+1,1,_,by omega,rfl,rfl,by go_num,f,g,a.out⟩;omega
  have X:=ae I;have K:g7 s c rest=s:=by rw[g7,ai<|by omega]
  by_cases J:c=3
  .subst J;by_cases L:s=0
   .subst L;have a:=i 0 0 rfl rfl;clear d i;go_wp2;go_roundg (n - (k+1));exact⟨k+1,0,_,by omega,rfl,rfl,by go_num,f.out.set k 0,g.out.trans<|f.out.grown k 0,a.out⟩;omega
   have P:=ae L;have a:=d s (by rw[f7,ai<|by omega]) K.symm;clear d i;go_wp2;go_roundg (n - (k+1));exact⟨k+1,s,_,by omega,rfl,rfl,by go_num,f,g,a.out⟩;omega
  have q3:=ae J;have a:=d s (by rw[f7,ai<|by omega]) K.symm;clear d i;go_wp2;go_roundg (n - (k+1));exact⟨k+1,s,_,by omega,rfl,rfl,by go_num,f,g,a.out⟩;omega
 have o:A=pass f7 g7 b t:=x.stop (by rw[E.out];exact m);have f:dd (aZ wr B p j n u y z bv q b r<|pass f7 g7 b t):=by rw[<-o];exact l
 have g:=ah v;have D:¬(k:Int)<(n:Int):=by omega
 clear l v x o;go_wp2;go_end0;exact⟨rfl,f,g⟩
def apy(w:cw)(B l f n q:Nat)(v x bv:cJ)(a o p:Int)(t:aw)(h:aZ w B l f n q v x bv a o p t)(R:n<=1000)(O:0<=a):cP prog 153 #[.pointer<|V<|S l 0 U] w λe K=>e=bj (de #[])/\aZ K B l f n q v x bv a o p (pass (Da<|a%2) g3 () t)/\w.grownBy K (V f):=by
 have I:=ah h;have G:=ah h.len;have H:=h.f2;have M:=h.f5;clear h;go_enter func153,ntmps153;go_wp2;clear H M;go_loopg [9] n (λgk iv wr=>∃(k:Nat)(s:Unit)(y:aw),k<=n/\gk=n - k/\iv=Y Z k/\aZ wr B l f n q v x bv a o p y/\w.grownBy wr (V f)/\bC (Da<|a%2) g3 () t k s y);exact⟨0,(),t,by omega,rfl,rfl,I,kI _ _,bC.start _ _ _ _⟩;clear I;obtain⟨k,s,y,Q,rfl,rfl,g,r,u⟩:=hrel;by_cases i:k<n
 .obtain⟨c,rest,E,N,H,F,D,C⟩:=g.ready u G.out i;have d:=ah g;have m:=ah r;clear g r u;have P:=d.out.f4;cases hb:qf c
  .have z:=ah hb;have A:=D () (by rw[Da,E6,ai<|by rw[hb];decide]) rfl;clear D C hb;go_wp2_with fail;refine(UK c _).mono ?_;rintro J L ⟨rfl,hx⟩;have b:=hx.symm;subst b;rw[z.out];go_wp2;go_roundg (n - (k+1));exact⟨k+1,(),_,by omega,rfl,by go_num,d,m,A.out⟩;omega
  have z:=ah hb;have A:=C (a%2) () (by rw[Da,E6,aj hb]) rfl;clear D C hb;go_wp2_with fail;refine(UK c _).mono ?_;rintro J L ⟨rfl,hx⟩;have b:=hx.symm;subst b;rw[z.out];go_wp2_with fail
  go_region_with (go_at_call 96;refine(DI a _ O).mono ?_;rintro J L ⟨rfl,hx⟩;subst hx)
  all_goals
   go_wp2;go_roundg (n - (k+1));exact⟨k+1,(),_,by omega,rfl,by go_num,(d.out.below (aA _ _).drew).set k (a%2),(m.out.trans C3).trans ((d.out.below (aA _ _).drew).grown k (a%2)),A.out⟩;omega
 have j:y=pass (Da<|a%2) g3 () t:=u.stop (by rw[G.out];exact i);have d:dd (aZ wr B l f n q v x bv a o p<|pass (Da<|a%2) g3 () t):=by rw[<-j];exact g
 have m:=ah r;have F:¬(k:Int)<(n:Int):=by omega
 clear g r u j;go_wp2;go_end0;exact⟨rfl,d,m⟩
def atN(w:cw)(B D z n J:Nat)(P Q bv:cJ)(I b G:Int)(t:aw)(h:aZ w B D z n J P Q bv I b G t)(hn:n<=1000)(wu:b=0∨b=1):cP prog 144 #[.pointer<|V<|S D 0 U] w λe X=>e=bj (de #[])/\aZ X B D z n J P Q bv I b G (pass (f1 b) (g1 b) U t)/\w.grownBy X (V z):=by
 have di:=ah h;have HL:=ah h.len;have c2:=h.f2;have c5:=h.f5;clear h;go_enter func144,ntmps144;go_wp2;clear c2 c5;go_loopg [10] n (λgk iv wr=>∃(k:Nat)(s:Option Int)(f:aw),k<=n/\gk=n - k/\iv=Y Z k/\aZ wr B D z n J P Q bv I b G f/\w.grownBy wr (V z)/\bC (f1 b) (g1 b) U t k s f/\jO f k s);exact⟨0,U,t,by omega,rfl,rfl,di,kI _ _,bC.start _ _ _ _,jO.start _⟩;clear di;obtain⟨k,s,f,hk,rfl,rfl,i,W,A,hA⟩:=hrel;by_cases m:k<n
 .have r:k<t.length:=by rw[HL.out];exact m
  have C:=i.at k m;rw[A.at k<|au _]at C;have ab:=i.frozen k;have c2:=i.f2;have aa:(k:Int)<(n:Int):=by omega
  have j:=ah i;have F:=ah W;have K:∀o,t.getD k 0=(f1 b) s (t.getD k 0) (t.drop<|k+1)->o=(g1 b) s (t.getD k 0) (t.drop<|k+1)->dd (bC (f1 b) (g1 b) U t (k+1) o f):=λo h1 h2=>A.stay r o h1 h2
  have y:∀v o,v=(f1 b) s (t.getD k 0) (t.drop<|k+1)->o=(g1 b) s (t.getD k 0) (t.drop<|k+1)->dd (bC (f1 b) (g1 b) U t (k+1) o<|f.set k v):=λv o h1 h2=>A.step r v o h1 h2
  have ad:f.length=n:=i.len;have M:gX b G f ((k:Int) - 1)=s.getD b:=by rcases hA with⟨rfl,rfl⟩|⟨h0,rfl⟩;rfl;rw[gX,ai<|by omega,ai<|by rw[i.len];omega,show((k:Int) - 1).toNat=k - 1 by omega];rfl
  have E:∀v,jO (f.set k v) (k+1) (V v):=λv=>jO.set v<|by rw[i.len];exact m
  have H:jO f (k+1) (V<|t.getD k 0):=by have:=jO.stay (t':=f) (k:=k);rw[A.at k<|au _]at this;exact this
  have O:dd (cP prog 207 #[.pointer<|V<|S D 0 U,Y Z<|(k:Int) - 1] wr λe X=>e=bj (Y Z<|s.getD b)/\X=wr):=by rw[<-M];exact UD wr B D z n J P Q bv I b G f i _
  clear M hA;clear i W A;generalize t.drop (k+1)=rest at*;generalize t.getD k 0=c at*;by_cases T:c=8
  .subst T;obtain⟨a,q⟩:=ac<|(s.getD b);rw[<-q]at O;have g:f1 b s 8 rest=if aU a=db∨a=21 then 12 else a:=by
    unfold f1;rw[aj rfl];cases s with
    |none=>rw[Option.getD_none]at q;subst q;rw[ai];rintro(h|h);(rcases wu with rfl|rfl<;>cases h);omega
    |some p=>rw[uV]at q;subst q;rfl
   cases hi:aU a
   .by_cases l:a=21
    .rw[aj (.inr l)]at g;subst l;have x:=y 12 (V 12) g.symm (by rw[g1,g]);have u:dd _:=E 12;clear K y E H g q hi;go_wp2_with fail;refine O.out.mono ?_;rintro L R ⟨rfl,hx⟩;have d:=hx.symm;subst d;go_wp2_with fail;refine(pG 21 _).mono ?_;rintro L R ⟨rfl,hx⟩;have d:=hx.symm;subst d;rw[show aU 21=da from rfl];go_wp2;go_roundg (n - (k+1));exact⟨k+1,V 12,_,by omega,rfl,by go_num,j.out.set k 12,F.out.trans<|j.out.grown k 12,x.out,u⟩;omega
    rw[ai<|by rw[hi];rintro(h|h);cases h;exact l h]at g;have DA:=ae l;have x:=y a (V a) g.symm (by rw[g1,g]);have u:dd _:=E a;have HI:=ah hi;clear K y E H g q hi;go_wp2_with fail;refine O.out.mono ?_;rintro L R ⟨rfl,hx⟩;have d:=hx.symm;subst d;go_wp2_with fail;refine(pG a _).mono ?_;rintro L R ⟨rfl,hx⟩;have d:=hx.symm;subst d;rw[HI.out];go_wp2;go_roundg (n - (k+1));exact⟨k+1,V a,_,by omega,rfl,by go_num,j.out.set k a,F.out.trans<|j.out.grown k a,x.out,u⟩;omega
   rw[aj (.inl hi)]at g;have x:=y 12 (V 12) g.symm (by rw[g1,g]);have u:dd _:=E 12;have HI:=ah hi;clear K y E H g q hi;go_wp2_with fail;refine O.out.mono ?_;rintro L R ⟨rfl,hx⟩;have d:=hx.symm;subst d;go_wp2_with fail;refine(pG a _).mono ?_;rintro L R ⟨rfl,hx⟩;have d:=hx.symm;subst d;rw[HI.out];go_wp2;go_roundg (n - (k+1));exact⟨k+1,V 12,_,by omega,rfl,by go_num,j.out.set k 12,F.out.trans<|j.out.grown k 12,x.out,u⟩;omega
  have q8:(c !=8)=db:=(by simpa using T);have x:=K (V c) (Qo T).symm (by rw[g1,Qo T]);have u:=ah H;clear K y E H O;go_wp2;go_roundg (n - (k+1));exact⟨k+1,V c,_,by omega,rfl,by go_num,j,F,x.out,u⟩;omega
 have N:f=pass (f1 b) (g1 b) U t:=A.stop (by rw[HL.out];exact m);have j:dd (aZ wr B D z n J P Q bv I b G<|pass (f1 b) (g1 b) U t):=by rw[<-N];exact i
 have F:=ah W;have aa:¬(k:Int)<(n:Int):=by omega
 clear i W A N;go_wp2;go_end0;exact⟨rfl,j,F⟩
structure LG(n kb kt:Nat)(cb ct:Array Value){σ:Type}(J:Nat->σ->World->Prop)(Bv:σ->Nat->Bool):Prop where
 asks:∀x a W (i:Nat),J a x W->a<=i->i<n->Calls prog kb (#[.int .i64 i]++cb) W λe W'=>e= .returned (.bool<|Bv x i)/\J a x W'
 skip:∀x a W,J a x W->a<n->Bv x a=false->∃x',J (a+1) x' W
 tell:∀x a b W,J a x W->a<b->b<=n->(∀j,a<=j->j<b->Bv x j=true)->(b<n->Bv x b=false)->Calls prog kt (#[.int .i64 a,.int .i64 b]++ct) W λe W'=>e= .returned (.tuple #[])/\∃x',J (b+1) x' W'
def Qe(n m z:Nat)(B F:Array cJ){D:Type}(J:Nat->D->cw->Prop)(o:D->Nat->Bool)(hn:n<=1000)(h:LG n m z B F J o)(eb:∀args w,(callFunc m args).run prog w= .ok (.enter m args) w)(et:∀args w,(callFunc z args).run prog w= .ok (.enter z args) w)(S:D)(w:cw)(P:J 0 S w):cP prog 97 #[Y Z n,.func (.func m) #[] B,.func (.func z) #[] F] w λe w'=>e=bj (de #[])/\∃k x,n<=k/\J k x w':=by
 have q:=ah h;have l:=ah P;clear h P;go_enter func97,ntmps97;go_wp2;go_loopg [6] (n+1) (λH U W=>∃(a:Nat)(x:D),a<=n+1/\H=n+1 - a/\U=Y Z a/\J a x W);exact⟨0,S,by omega,rfl,rfl,l⟩;clear l;obtain⟨a,x,ha,rfl,rfl,f⟩:=hrel;have l:=ah f;clear f;by_cases M:a<n
 .have i:(a:Int)<(n:Int):=by omega
  obtain⟨W1,I⟩:=ac wr;subst I;go_wp2;go_loopg [7] (n - a) (λH X W=>∃b:Nat,a<=b/\b<=n/\H=n - b/\X=Y Z b/\J a x W/\∀j,a<=j->j<b->o x j=db);exact⟨a,by omega,by omega,rfl,rfl,l,λj Q V=>by omega⟩;clear l;obtain⟨b,v,R,rfl,rfl,f,g⟩:=hrel;have E:=ah g;clear g;by_cases y:b<n
  .have K:(b:Int)<(n:Int):=(by omega);cases hq:o x b
   .have p:dd (cP prog m (#[Y Z b]++B) wr λe t=>e=bj (ce da)/\J a x t):=(by have:=q.out.asks x a wr b f v y;rw[hq]at this;exact this);have O:dd (b<n->o x b=da):=λ_=>hq
    clear f hq;go_wp2_with fail;refine p.out.mono ?_;rintro G N ⟨rfl,d⟩;have C:=ah d;clear d p;by_cases L:a<b
    .have u:(a:Int)<(b:Int):=(by omega);have r:=ah<|q.out.tell x a b N C L R E O;go_wp2_with fail;refine r.out.mono ?_;rintro G w3 ⟨rfl,A,c⟩;have s:=ah c;clear c r;go_wp2;go_roundg (n+1 - (b+1));exact⟨b+1,A,by omega,rfl,by go_num,s⟩;omega
    have u:¬(a:Int)<(b:Int):=(by omega);obtain rfl:a=b:=(by omega);obtain⟨A,c⟩:=q.out.skip x a N C.out y<|O.out y;have s:=ah c;clear c;go_wp2;go_roundg (n+1 - (a+1));exact⟨a+1,A,by omega,rfl,by go_num,s⟩;omega
   have p:dd (cP prog m (#[Y Z b]++B) wr λe t=>e=bj (ce db)/\J a x t):=(by have:=q.out.asks x a wr b f v y;rw[hq]at this;exact this);have T:dd (∀j,a<=j->j<b+1->o x j=db):=λj Q V=>by rcases dc j b with h|h;exact E.out j Q h;rw[show j=b by omega];exact hq
   clear f hq;go_wp2_with fail;refine p.out.mono ?_;rintro G N ⟨rfl,d⟩;have C:=ah d;clear d p;go_wp2;go_roundg (n - (b+1));exact⟨b+1,by omega,by omega,rfl,by go_num,C,T⟩;omega
  obtain rfl:b=n:=(by omega);have u:(a:Int)<(b:Int):=i;have K:¬(b:Int)<(b:Int):=(by omega);have r:dd (cP prog z (#[Y Z a,Y Z b]++F) wr λe t=>e=bj (de #[])/\∃x',J (b+1) x' t):=q.out.tell x a b wr f M R E (λh=>absurd h y);clear f;go_wp2_with fail;refine r.out.mono ?_;rintro G w3 ⟨rfl,A,c⟩;have s:=ah c;clear c r;go_wp2;go_roundg (b+1 - (b+1));exact⟨b+1,A,by omega,rfl,by go_num,s⟩;omega
 have i:¬(a:Int)<(n:Int):=by omega
 go_wp2;go_end0;exact⟨rfl,a,by omega,x,l⟩
def KM(t:aw)(k:Nat):∀m,z7 t k m=dV t k 3 m
 |0=>rfl
 |m+1=>by rw[z7,dV,KM t k m]
def ahj(w:cw)(B g f n o:Nat)(r s bv:cJ)(k j l:Int)(t:aw)(h:aZ w B g f n o r s bv k j l t)(I:n<=1000)(a b:Nat)(c:Int)(A:a<=b)(G:b<=n):cP prog 210 #[.pointer<|V<|S g 0 U,Y Z a,Y Z b,Y Z c] w λe y=>e=bj (de #[])/\aZ y B g f n o r s bv k j l (dV t a c<|b - a)/\w.grownBy y (V f):=by
 have x:=ah h;clear h;go_enter func210,ntmps210;go_wp2;go_loopg [8] (b - a) (λgk iv wr=>∃m:Nat,a+m<=b/\gk=b - a - m/\iv=Y Z ((a+m:Nat):Int)/\aZ wr B g f n o r s bv k j l (dV t a c m)/\w.grownBy wr (V f));exact⟨0,by omega,rfl,rfl,x,kI _ _⟩;clear x;obtain⟨m,H,rfl,rfl,d,p⟩:=hrel;by_cases D:a+m<b
 .have v:=d.at (a+m) (by omega);have C:=d.frozen<|a+m;have E:=d.f2;have i:=ah d;have u:=ah p;have z:(a:Int)+(m:Int)<(b:Int):=by omega
  have F:(a:Int)+(m:Int)<(n:Int):=by omega
  clear d p;generalize(dV t a c m).getD (a+m) 0=q at*;go_wp2;go_roundg (b - a - (m+1));exact⟨m+1,by omega,rfl,by go_num,i.out.set (a+m) c,u.out.trans<|i.out.grown (a+m) c⟩;omega
 have z:¬(a:Int)+(m:Int)<(b:Int):=by omega
 have e:m=b - a:=by omega
 have i:dd (aZ wr B g f n o r s bv k j l<|dV t a c<|b - a):=by rw[<-e];exact d
 have u:=ah p;clear d p;go_wp2;go_end0;exact⟨rfl,i,u⟩
def aZ.boxed {w:cw}{B d b n k a:Nat}{r s bv:cJ}{i f j:Int}{t:aw}(h:aZ w B d b n k r s bv i f j t)(q:w.1[a]? =V (bi #[.pointer<|V<|S d 0 U] 146 (0,0))):b≠a:=by rcases h.row.2 with⟨e,_⟩|⟨g,u,l,e,_,c,_⟩;cases e;injection e with m;injection m with o;injection o with p;subst p;intro e;rw[e,q]at c;simp at c
def aoE(w:cw)(B b l n k a:Nat)(p q bv:cJ)(g f j:Int)(t:aw)(h:aZ w B b l n k p q bv g f j t)(d:w.1[a]? =V (bi #[.pointer<|V<|S b 0 U] 146 (0,0)))(i:Nat)(m:i<n):cP prog 208 #[Y Z i,.pointer<|V<|S a 0 U] w λe r=>e=bj (ce<|t.getD i 0==5)/\r=w:=by
 have s:=h.f2;have v:=h.at i m;have u:w.cell? (S a 0 U)=V (.pointer<|V<|S b 0 U):=az d 0;have o:(i:Int)<(n:Int):=by omega
 clear h d;generalize t.getD i 0=c at*;go_enter func208,ntmps208;go_wp2;go_ret;exact⟨rfl,rfl⟩
def atg(w:cw)(B g m n r D:Nat)(s u bv:cJ)(q d f:Int)(t:aw)(h:aZ w B g m n r s u bv q d f t)(K:n<=1000)(I:w.1[D]? =V (bi #[.pointer<|V<|S g 0 U] 146 (0,0)))(a b:Nat)(E:a<=b)(L:b<=n):cP prog 209 #[Y Z a,Y Z b,.pointer<|V<|S D 0 U] w λe i=>e=bj (de #[])/\aZ i B g m n r s u bv q d f (if gX d f t ((a:Int) - 1)=3∨gX d f t b=3 then dV t a 3 (b - a)else t)/\w.grownBy i (V m):=by
 have N:w.cell? (S D 0 U)=V (.pointer<|V<|S g 0 U):=az I 0;have A:dd (∀j:Int,cP prog 207 #[.pointer<|V<|S g 0 U,Y Z j] w λe i=>e=bj (Y Z<|gX d f t j)/\i=w):=λj=>UD w B g m n r s u bv q d f t h j
 have H:=ah<|ahj w B g m n r s u bv q d f t h K a b 3 E L;have J:=ah h;clear h I;have z:dd (cP prog 207 #[.pointer<|V<|S g 0 U,Y Z<|(a:Int) - 1] w λe i=>e=bj (Y Z<|gX d f t<|(a:Int) - 1)/\i=w):=A.out _;have G:dd (cP prog 207 #[.pointer<|V<|S g 0 U,Y Z b] w λe i=>e=bj (Y Z<|gX d f t b)/\i=w):=A.out _;clear A;generalize gX d f t ((a:Int) - 1)=x at*;generalize gX d f t b=y at*;by_cases hx:x=3
 .rw[aj (.inl hx)];subst hx;go_enter func209,ntmps209;go_wp2_with fail;refine z.out.mono ?_;rintro l v ⟨rfl,hx⟩;have c:=hx.symm;subst c;go_wp2_with fail;refine H.out.mono ?_;rintro l M ⟨rfl,o,p⟩;have C:=ah o;have k:=ah p;clear o p;go_wp2;go_end0;exact⟨rfl,C,k⟩
 have O:=ae hx;by_cases F:y=3
 .rw[aj (.inr F)];subst F;go_enter func209,ntmps209;go_wp2_with fail;refine z.out.mono ?_;rintro l v ⟨rfl,hx⟩;have c:=hx.symm;subst c;go_wp2_with fail;refine G.out.mono ?_;rintro l v ⟨rfl,hx⟩;have c:=hx.symm;subst c;go_wp2_with fail;refine H.out.mono ?_;rintro l M ⟨rfl,o,p⟩;have C:=ah o;have k:=ah p;clear o p;go_wp2;go_end0;exact⟨rfl,C,k⟩
 rw[ai<|by omega];have P:=ae F;go_enter func209,ntmps209;go_wp2_with fail;refine z.out.mono ?_;rintro l v ⟨rfl,hx⟩;have c:=hx.symm;subst c;go_wp2_with fail;refine G.out.mono ?_;rintro l v ⟨rfl,hx⟩;have c:=hx.symm;subst c;go_wp2;go_end0;exact⟨rfl,J,kI _ _⟩
def aoA(w:cw)(B d m n l a:Nat)(q r bv:cJ)(j g k:Int)(t:aw)(h:aZ w B d m n l q r bv j g k t)(f:w.1[a]? =V (bi #[.pointer<|V<|S d 0 U] 146 (0,0)))(i:Nat)(o:i<n):cP prog 214 #[Y Z i,.pointer<|V<|S a 0 U] w λe s=>e=bj (ce<|qf<|t.getD i 0)/\s=w:=by
 have u:=h.f2;have x:=h.at i o;have v:w.cell? (S a 0 U)=V (.pointer<|V<|S d 0 U):=az f 0;have p:(i:Int)<(n:Int):=by omega
 clear h f;generalize t.getD i 0=c at*;go_enter func214,ntmps214;go_wp2_with fail;refine(UK c _).mono ?_;rintro y z ⟨rfl,hx⟩;have b:=hx.symm;subst b;go_wp2;go_ret;exact⟨rfl,rfl⟩
def atf(w:cw)(B k m n q z:Nat)(r s bv:cJ)(p g i:Int)(t:aw)(h:aZ w B k m n q r s bv p g i t)(O:n<=1000)(G:w.1[z]? =V (bi #[.pointer<|V<|S k 0 U] 146 (0,0)))(a b:Nat)(A:a<=b)(P:b<=n):cP prog 216 #[Y Z a,Y Z b,.pointer<|V<|S z 0 U] w λe f=>e=bj (de #[])/\aZ f B k m n q r s bv p g i (if bH (gX g i t<|(a:Int) - 1)=bH (gX g i t b)then dV t a (bH<|gX g i t<|(a:Int) - 1) (b - a)else t)/\w.grownBy f (V m):=by
 have Q:w.cell? (S z 0 U)=V (.pointer<|V<|S k 0 U):=az G 0;have u:dd (∀j:Int,cP prog 207 #[.pointer<|V<|S k 0 U,Y Z j] w λe f=>e=bj (Y Z<|gX g i t j)/\f=w):=λj=>UD w B k m n q r s bv p g i t h j
 have M:dd (∀d:Int,cP prog 210 #[.pointer<|V<|S k 0 U,Y Z a,Y Z b,Y Z d] w λe f=>e=bj (de #[])/\aZ f B k m n q r s bv p g i (dV t a d<|b - a)/\w.grownBy f (V m)):=λd=>ahj w B k m n q r s bv p g i t h O a b d A P
 have L:=ah h;clear h G;have C:dd (cP prog 207 #[.pointer<|V<|S k 0 U,Y Z<|(a:Int) - 1] w λe f=>e=bj (Y Z<|gX g i t<|(a:Int) - 1)/\f=w):=u.out _;have D:dd (cP prog 207 #[.pointer<|V<|S k 0 U,Y Z b] w λe f=>e=bj (Y Z<|gX g i t b)/\f=w):=u.out _;clear u;generalize gX g i t ((a:Int) - 1)=x at*;generalize gX g i t b=y at*;have E:dd (∀W,cP prog 217 #[Y Z x] W λe f=>e=bj (Y Z<|bH x)/\f=W):=λW=>PD x W
 have F:dd (∀W,cP prog 217 #[Y Z y] W λe f=>e=bj (Y Z<|bH y)/\f=W):=λW=>PD y W
 generalize bH x=J at*;generalize bH y=K at*;by_cases hx:J=K
 .rw[aj hx];subst hx;go_enter func216,ntmps216;go_wp2_with fail;refine C.out.mono ?_;rintro l o ⟨rfl,hx⟩;have c:=hx.symm;subst c;go_wp2_with fail;refine(E _).mono ?_;rintro l o ⟨rfl,hx⟩;have c:=hx.symm;subst c;go_wp2_with fail;refine D.out.mono ?_;rintro l o ⟨rfl,hx⟩;have c:=hx.symm;subst c;go_wp2_with fail;refine(F _).mono ?_;rintro l o ⟨rfl,hx⟩;have c:=hx.symm;subst c;go_wp2_with fail;refine(M _).mono ?_;rintro l T ⟨rfl,H,I⟩;have N:=ah H;have v:=ah I;clear H I;go_wp2;go_end0;exact⟨rfl,N,v⟩
 rw[ai hx];have R:(J==K)=da:=by simpa using hx
 go_enter func216,ntmps216;go_wp2_with fail;refine C.out.mono ?_;rintro l o ⟨rfl,hx⟩;have c:=hx.symm;subst c;go_wp2_with fail;refine(E _).mono ?_;rintro l o ⟨rfl,hx⟩;have c:=hx.symm;subst c;go_wp2_with fail;refine D.out.mono ?_;rintro l o ⟨rfl,hx⟩;have c:=hx.symm;subst c;go_wp2_with fail;refine(F _).mono ?_;rintro l o ⟨rfl,hx⟩;have c:=hx.symm;subst c;go_wp2;go_end0;exact⟨rfl,L,kI _ _⟩
def nA(r:Int):Int:=if r=9001 then 12296 else if r=9002 then 12297 else r
def cH:aw:=[40,41,91,93,123,125,12296,12297]
def uX:Array cJ:=#[Y .i32 40,Y .i32 41,Y .i32 91,Y .i32 93,Y .i32 123,Y .i32 125,Y .i32 12296,Y .i32 12297]
def WW:∀(k:Nat)(_:k<4)(w:cw),(Instr.index 304 (.agg uX)<|Y Z k).run prog w= .ok (df #[Y .i32<|cH.getD (2*k) 0,Y .i32<|cH.getD (2*k+1) 0]) w
 |0,_,w=>by kernel_rfl
 |1,_,w=>by kernel_rfl
 |2,_,w=>by kernel_rfl
 |3,_,w=>by kernel_rfl
 |k+4,h,_=>by omega
def Tryz.Y5:(prog.info? 304).map (·.size)=V uX.size:=by kernel_rfl
def U4(r:Int)(w:cw):cP prog 266 #[Y .i32 r] w λe c=>e=bj (Y .i32<|nA r)/\c=w:=by
 unfold nA;by_cases a:r=9001
 .subst a;rw[aj rfl];go_enter func266,ntmps266;go_wp2;go_ret;exact⟨rfl,rfl⟩
 rw[ai a];have d:=ae a;by_cases b:r=9002
 .subst b;rw[aj rfl];go_enter func266,ntmps266;go_wp2;go_ret;exact⟨rfl,rfl⟩
 rw[ai b];have f:=ae b;go_enter func266,ntmps266;go_wp2;go_ret;exact⟨rfl,rfl⟩
def BW(a:Nat)(r:Int):Bool:=nA r==cH.getD a 0||(nA r==cH.getD (2+a) 0||(nA r==cH.getD (4+a) 0||nA r==cH.getD (6+a) 0))
def aow(r:Int)(w:cw)(x:TypeId)(v:Nat×Nat)(l:w.1[11]? =V (bi uX x v)):cP prog 265 #[Y .i32 r,Y Z 0] w λe o=>e=bj (ce<|BW 0 r)/\cD w.1.size w o:=by
 have s:=ah WW;have q:=ah l;have u:=Tryz.Y5;clear l;generalize uX=L at s q u;have p:dd (∀W,cP prog 266 #[Y .i32 r] W λe o=>e=bj (Y .i32<|nA r)/\o=W):=λW=>U4 r W
 have t:dd (BW 0 r=(nA r==cH.getD 0 0||(nA r==cH.getD (2+0) 0||(nA r==cH.getD (4+0) 0||nA r==cH.getD (6+0) 0)))):=rfl;generalize BW 0 r=P at*;generalize nA r=c at*;go_enter func265,ntmps265;go_wp2_with(refine ZO rfl 304 _ rfl 11 rfl x _ v _ q.out underlying304 rfl u ?_);go_loopg [8] 4 (λgk iv W=>∃k:Nat,k<=4/\gk=4 - k/\iv=Y Z k/\cD w.1.size w W/\∀i,i<k->¬cH.getD (2*i) 0=c);exact⟨0,by omega,rfl,rfl,aA _ _,λi h=>by omega⟩;obtain⟨k,K,rfl,rfl,d,a⟩:=hrel;have f:=d.size;by_cases g:k<4
 .have j:(k:Int)<4:=by omega
  have I:=λH=>s.out k g H
  have y:=ah a;have m:=ah d;clear a d;by_cases b:cH.getD (2*k) 0=c
  .have n:dd (P=db):=by
    show _=_;rw[t.out,<-b]
    match k,g with
    |0,_=>rfl
    |1,_=>rfl
    |2,_=>rfl
    |3,_=>rfl
   have G:(cH.getD (2*k) 0==c)=db:=(by simpa using b);clear b;generalize cH.getD (2*k+1) 0=A at*;generalize cH.getD (2*k) 0=z at*;go_wp2_with fail;go_quiet(first|(go_at_call 266;refine Cx<|p _));go_wp2;go_ret;exact⟨iA n.out.symm,gY (m.out.alloc f _) _⟩
  have G:(cH.getD (2*k) 0==c)=da:=(by simpa using b);have F:dd (∀i,i<k+1->¬cH.getD (2*i) 0=c):=λi J=>by rcases dc i k with h|h;exact y.out i h;rw[show i=k by omega];exact b
  clear b;generalize cH.getD (2*k+1) 0=A at*;generalize cH.getD (2*k) 0=z at*;go_wp2_with fail;go_quiet(first|(go_at_call 266;refine Cx<|p _));go_wp2;go_roundg (4 - (k+1));exact⟨k+1,by omega,rfl,by go_num,gY (m.out.alloc f _) _,F⟩;omega
 have j:¬(k:Int)<4:=by omega
 have n:dd (P=da):=by show _=_;have B:=a 0 (by omega);have C:=a 1 (by omega);have D:=a 2 (by omega);have E:=a 3 (by omega);rw[t.out];simp[cH]at B C D E ⊢;omega
 have m:=ah d;clear a d;go_wp2;go_ret;exact⟨iA n.out.symm,m⟩
def aox(r:Int)(w:cw)(x:TypeId)(v:Nat×Nat)(l:w.1[11]? =V (bi uX x v)):cP prog 265 #[Y .i32 r,Y Z 1] w λe o=>e=bj (ce<|BW 1 r)/\cD w.1.size w o:=by
 have s:=ah WW;have q:=ah l;have u:=Tryz.Y5;clear l;generalize uX=L at s q u;have p:dd (∀W,cP prog 266 #[Y .i32 r] W λe o=>e=bj (Y .i32<|nA r)/\o=W):=λW=>U4 r W
 have t:dd (BW 1 r=(nA r==cH.getD 1 0||(nA r==cH.getD (2+1) 0||(nA r==cH.getD (4+1) 0||nA r==cH.getD (6+1) 0)))):=rfl;generalize BW 1 r=P at*;generalize nA r=c at*;go_enter func265,ntmps265;go_wp2_with(refine ZO rfl 304 _ rfl 11 rfl x _ v _ q.out underlying304 rfl u ?_);go_loopg [8] 4 (λgk iv W=>∃k:Nat,k<=4/\gk=4 - k/\iv=Y Z k/\cD w.1.size w W/\∀i,i<k->¬cH.getD (2*i+1) 0=c);exact⟨0,by omega,rfl,rfl,aA _ _,λi h=>by omega⟩;obtain⟨k,K,rfl,rfl,d,a⟩:=hrel;have f:=d.size;by_cases g:k<4
 .have j:(k:Int)<4:=by omega
  have I:=λH=>s.out k g H
  have y:=ah a;have m:=ah d;clear a d;by_cases b:cH.getD (2*k+1) 0=c
  .have n:dd (P=db):=by
    show _=_;rw[t.out,<-b]
    match k,g with
    |0,_=>rfl
    |1,_=>rfl
    |2,_=>rfl
    |3,_=>rfl
   have G:(cH.getD (2*k+1) 0==c)=db:=(by simpa using b);clear b;generalize cH.getD (2*k+1) 0=A at*;generalize cH.getD (2*k) 0=z at*;go_wp2_with fail;go_quiet(first|(go_at_call 266;refine Cx<|p _));go_wp2;go_ret;exact⟨iA n.out.symm,gY (m.out.alloc f _) _⟩
  have G:(cH.getD (2*k+1) 0==c)=da:=(by simpa using b);have F:dd (∀i,i<k+1->¬cH.getD (2*i+1) 0=c):=λi J=>by rcases dc i k with h|h;exact y.out i h;rw[show i=k by omega];exact b
  clear b;generalize cH.getD (2*k+1) 0=A at*;generalize cH.getD (2*k) 0=z at*;go_wp2_with fail;go_quiet(first|(go_at_call 266;refine Cx<|p _));go_wp2;go_roundg (4 - (k+1));exact⟨k+1,by omega,rfl,by go_num,gY (m.out.alloc f _) _,F⟩;omega
 have j:¬(k:Int)<4:=by omega
 have n:dd (P=da):=by show _=_;have B:=a 0 (by omega);have C:=a 1 (by omega);have D:=a 2 (by omega);have E:=a 3 (by omega);rw[t.out];simp[cH]at B C D E ⊢;omega
 have m:=ah d;clear a d;go_wp2;go_ret;exact⟨iA n.out.symm,m⟩
def Jd(r:Int):nA r=canon r:=rfl
def aoz(r:Int):BW 0 r=decide ((brk r).1=1):=by unfold BW brk;rw[Jd];generalize canon r=c;rw[Cv];simp only[cH,mz,Pf,Fz,vS,Es];by_cases h:c=40∨c=91∨c=123∨c=12296;rw[aj h];simp;exact h;rw[ai h];constructor;intro a;exact absurd a h;intro a;split at a;cases a;split at a;cases a;split at a;cases a;split at a<;>cases a
def aoy(r:Int):BW 1 r=decide ((brk r).1=2):=by
 unfold BW brk;rw[Jd];generalize canon r=c;rw[Cv];simp only[cH,mz,Pf,Fz,vS,Es];by_cases h:c=40∨c=91∨c=123∨c=12296;rw[aj h];simp;omega;rw[ai h];constructor;intro a;rcases a with rfl|rfl|rfl|rfl<;>simp
 intro a;split at a;omega;split at a;omega;split at a;omega;split at a;omega;cases a
def afM(r:Int)(w:cw)(g:TypeId)(d:Nat×Nat)(a:w.1[11]? =V (bi uX g d)):cP prog 243 #[Y .i32 r] w λe c=>e=bj (ce<|decide ((brk r).1=1))/\cD w.1.size w c:=by
 have i:dd (cP prog 265 #[Y .i32 r,Y Z 0] w λe c=>e=bj (ce<|decide ((brk r).1=1))/\cD w.1.size w c):=by rw[<-aoz];exact aow r w g d a
 clear a;generalize decide ((brk r).1=1)=b at*;go_enter func243,ntmps243;go_wp2_with fail;refine i.out.mono ?_;rintro j k ⟨rfl,f⟩;have h:=ah f;clear f;go_wp2;go_ret;exact⟨rfl,h⟩
def zM(r:Int)(w:cw)(g:TypeId)(d:Nat×Nat)(a:w.1[11]? =V (bi uX g d)):cP prog 245 #[Y .i32 r] w λe c=>e=bj (ce<|decide ((brk r).1=2))/\cD w.1.size w c:=by
 have i:dd (cP prog 265 #[Y .i32 r,Y Z 1] w λe c=>e=bj (ce<|decide ((brk r).1=2))/\cD w.1.size w c):=by rw[<-aoy];exact aox r w g d a
 clear a;generalize decide ((brk r).1=2)=b at*;go_enter func245,ntmps245;go_wp2_with fail;refine i.out.mono ?_;rintro j k ⟨rfl,f⟩;have h:=ah f;clear f;go_wp2;go_ret;exact⟨rfl,h⟩
def C9(x y:Int):Bool:=(x==40&&y==41)||((x==91&&y==93)||((x==123&&y==125)||(x==12296&&y==12297)))
def amB {a r:Int}(b:(brk a).1=1)(c:(brk r).1=2):C9 (canon a) (canon r)=decide ((brk a).2=(brk r).2):=by
 unfold brk at*;generalize canon a=x at*;generalize canon r=y at*;by_cases hx:x=40∨x=91∨x=123∨x=12296
 .rw[aj hx];by_cases d:y=40∨y=91∨y=123∨y=12296;rw[aj d]at c;cases c;rw[ai d]at c ⊢;by_cases e:y=41;subst e;unfold C9;rcases hx with rfl|rfl|rfl|rfl<;>decide
  rw[ai e]at c ⊢;by_cases f:y=93;subst f;unfold C9;rcases hx with rfl|rfl|rfl|rfl<;>decide
  rw[ai f]at c ⊢;by_cases g:y=125;subst g;unfold C9;rcases hx with rfl|rfl|rfl|rfl<;>decide
  rw[ai g]at c ⊢;by_cases h:y=12297;subst h;unfold C9;rcases hx with rfl|rfl|rfl|rfl<;>decide
  rw[ai h]at c;cases c
 rw[ai hx]at b;exfalso;split at b;cases b;split at b;cases b;split at b;cases b;split at b<;>cases b
def F6(b:aw)(c:ba):Prop:=∀a∈c,(brk<|b.getD a 0).1=1
def F6.step {t d:aw}{i:Nat}{x y:ba×List (Nat×Nat)}(h:F6 d x.1)(b:qg t d i x=V y):F6 d y.1:=by
 unfold qg at b;split at b
 .split at b;split at b;cases b;obtain rfl:=aI b;intro a c;simp at c;rcases c with c|rfl;exact h a c;assumption;split at b
  .split at b;obtain rfl:=aI b;exact λa c=>h a<|Lu c
   obtain rfl:=aI b;exact h
  obtain rfl:=aI b;exact h
 obtain rfl:=aI b;exact h
def N1 {t a:aw}{n i:Nat}{x y:ba×List (Nat×Nat)}(h:qg t a i x=V y):dW t a (n+1) i x=dW t a n (i+1) y:=by rw[dW,h]
def aqi {t a:aw}{n i:Nat}{x:ba×List (Nat×Nat)}(h:qg t a i x=U):dW t a (n+1) i x=U:=by rw[dW,h]
