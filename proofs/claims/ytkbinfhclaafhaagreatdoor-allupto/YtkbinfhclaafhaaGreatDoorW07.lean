import Derived.Test.YtkbinfhclaafhaaGreatDoorW06
import Derived.Deep.RegionHeld3
import Derived.Deep.DrawnRows
namespace Go.Proofs.YtkbinfhclaafhaaGreatDoor
open Go.RowKit
open Go.Proofs.Tryz
set_option maxRecDepth 100000
set_option maxHeartbeats 32000000
set_option linter.all false
open Go.Value renaming int->Y,slice->R
open Go.IntKind renaming i64->Z
open Option renaming none->U,some->V
open Go.Addr renaming mk->S
open Go.Obj renaming cells->bi
open Go.Ending renaming returned->bj
open Go renaming World->cw,Value->cJ,Calls->cP
open Go.RowKit renaming Below->cD,Hid->dd
open Bool renaming false->da
section
attribute [local go_sem ↓] Go.wp_at_zero Go.wp_at_succ
def uE(w:cw)(a:Obj)(r:Option Nat):w.grownBy (w.alloc a).drew r:=⟨rfl,rfl,rfl,by simp,λk b _=>dh w a k b⟩
def afv(w:cw)(y:cJ)(e:TypeId):∀j u,[y][j]? =V u->(w.alloc<|bi #[y] e).drew.cell? (((S w.1.size 0 U):Addr).add j)=V u:=by
 intro j u a
 match j,a with
 |0,a=>simp at a;subst a;simp[Addr.add]
def Ra(l:aw)(a:ba)(j:Nat)(b:j<a.length):bz l (a.take<|j+1)=bz l (a.take j)++[l.getD (a.getD j 0) 0]:=by rw[bz,uO,aK b,gu,aN (l:=a),aK b];rfl
def tA {c:aw}{d:List Bool}{a:Int}(h:∀p,0<=c.getD p 0)(b:0<=a):∀k,0<=lD c d a k
 |0=>b
 |k+1=>by rw[lD];split;exact h _;exact tA h b k
def EY {d:aw}{e:List Bool}{a:Int}{b:Nat}(h:∀p,0<=d.getD p 0)(c:0<=a):∀k,0<=nu d e a b k
 |0=>c
 |k+1=>by rw[nu];split;exact h _;exact EY h c k
def akr {e d:aw}{f:List Bool}{a:Int}{b:Nat}(h:∀p,0<=d.getD p 0)(c:0<=a):0<=rz e d f a b:=by unfold rz;split;exact c;exact EY h c _
def ahm {a b m:Int}(c:(if a<b then b else a)=m)(_h0:0<=m):jA a b=m%2:=by unfold jA;rw[c];split<;>omega
def SB(W:cw)(h:Nat)(a b c d e f g:cJ):Prop:=W.1[h]? =V (bi #[a,b,c,d,e,f,g] 220 (0,0))
section
variable{W W':World}{sb:Nat}{a0 a1 a2 a3 a4 a5 a6:Value}
def SB.c2(h:SB W sb a0 a1 a2 a3 a4 a5 a6):W.cell? (S sb 2 U)=V a2:=az h 2
def SB.c3(h:SB W sb a0 a1 a2 a3 a4 a5 a6):W.cell? (S sb 3 U)=V a3/\W.frozen? (S sb 3 U)=da:=⟨az h 3,cB h 3⟩
def SB.c4(h:SB W sb a0 a1 a2 a3 a4 a5 a6):W.cell? (S sb 4 U)=V a4:=az h 4
def SB.c5(h:SB W sb a0 a1 a2 a3 a4 a5 a6):W.cell? (S sb 5 U)=V a5/\W.frozen? (S sb 5 U)=da:=⟨az h 5,cB h 5⟩
def SB.c6(h:SB W sb a0 a1 a2 a3 a4 a5 a6):W.cell? (S sb 6 U)=V a6/\W.frozen? (S sb 6 U)=da:=⟨az h 6,cB h 6⟩
def SB.grown {r:Option Nat}(h:SB W sb a0 a1 a2 a3 a4 a5 a6)(b:W.grownBy W' r)(a:V sb≠r):SB W' sb a0 a1 a2 a3 a4 a5 a6:=(b.block sb (dg h) a).trans h
def SB.s3(h:SB W sb a0 a1 a2 a3 a4 a5 a6)(v:cJ):SB (W.setCell (S sb 3 U) v) sb a0 a1 a2 v a4 a5 a6:=by unfold SB;rw[fe h];rfl
def SB.s5(h:SB W sb a0 a1 a2 a3 a4 a5 a6)(v:cJ):SB (W.setCell (S sb 5 U) v) sb a0 a1 a2 a3 a4 v a6:=by unfold SB;rw[fe h];rfl
def SB.s6(h:SB W sb a0 a1 a2 a3 a4 a5 a6)(v:cJ):SB (W.setCell (S sb 6 U) v) sb a0 a1 a2 a3 a4 a5 v:=by unfold SB;rw[fe h];rfl
end
def apH(w:cw)(L:LP)(c t:aw)(h:LX w L c t)(hn:L.n<=1000)(o r m H:Nat)(a:ba)(hP:bJ w o r<|nl a)(hl:a.length=m)(hm:0<m)(nZ:m<=1000)(ap:∀p∈a,p<L.n)(X:∀p,0<=t.getD p 0/\t.getD p 0<=1000)(hp:0<=L.p/\L.p<=1000):cP prog 158 #[.pointer<|V<|S L.lb 0 U,.slice (V<|S o r U) m H] w λe n=>∃b J I Q cc D,e=bj (.pointer<|V<|S b 0 U)/\aZ n w.1.size b Q m cc (.slice (V<|S o r U) m H) (.slice (V<|S J 0 U) m I) (.slice (V<|S D 0 U) m m) (t.getD (a.headD 0) 0) (jA (t.getD (a.headD 0) 0)<|lD t (aO L.cs) L.p<|a.headD 0) (jA (t.getD (a.headD 0) 0)<|rz L.cs t (aO L.cs) L.p<|a.getLastD 0) (bz c a)/\n.ownsRow w.1.size 21 1 (.slice (V<|S J 0 U) m I) m (qN<|bz L.rs a)/\aW n w.1.size 108 D m (iv<|bz c a)/\D≠Q/\w.1.size<=b/\b<n.1.size/\cD w.1.size w n:=by
 obtain⟨a6,Wf,a1,a2,a4⟩:=fP Tryz.aeD;obtain⟨iC,Wh,aQ,aR,aS⟩:=fP Tryz.JQ;have h0:a.getD 0 0=a.headD 0:=by cases a<;>rfl
 have ag:a.headD 0<L.n:=by rw[<-h0];exact ap _ (dP<|by omega)
 have Je:w.cell? (S o r U)=V (Y Z ((a.headD 0:Nat):Int)):=by have:=hP 0 (by rw[iz];omega);rw[pH _ _ (by omega),h0]at this;simpa using this
 have a3:=h.f3;have al:=h.cl _ ag;have aL:((a.headD 0:Nat):Int)<(L.n:Int):=by omega
 have a':(0:Int)<(m:Int):=by omega
 have HX:dd (∀W,cD w.1.size w W->LX W L c t):=λW M=>h.below M
 have HP:dd (∀W,cD w.1.size w W->∀j,j<m->W.cell? (S o (r+j) U)=V (Y Z ((a.getD j 0:Nat):Int))/\a.getD j 0<L.n):=λW M j hj=>by have h1:=(hP.below M) j (by rw[iz];omega);rw[pH _ _ (by omega)]at h1;exact⟨h1,ap _ (dP<|by omega)⟩
 have HL:=ah hl;clear h hP h0 hl;obtain⟨d,nG⟩:=ac<|t.getD (a.headD 0) 0;rw[<-nG]at al ⊢;obtain⟨p0,Q6⟩:=ac<|a.headD 0;rw[<-Q6]at al Je aL ag ⊢;have KD:dd (d=t.getD p0 0/\p0=a.headD 0):=⟨by rw[Q6];exact nG,Q6⟩
 clear nG Q6;go_enter func158,ntmps158;go_wp2;go_region;have aq:cD w.1.size w (w.alloc<|bi #[.slice (V<|S o r U) m H,R U 0 0,R U 0 0,R U 0 0,Y Z d,Y Z 0,Y Z 0] 220).drew:=((aA _ _).alloc (au _) _).drew;have mD:dd (NS (w.alloc<|bi #[.slice (V<|S o r U) m H,R U 0 0,R U 0 0,R U 0 0,Y Z d,Y Z 0,Y Z 0] 220).drew w.1.size w.1.size (.slice (V<|S o r U) m H) (R U 0 0) (R U 0 0) d (bz L.rs<|a.take 0) (bz c<|a.take 0)):=
  ⟨pM,fh _ _ _ _,fh _ _ _ _,au _⟩
 have aD:=ah aq;clear aq a3 al Je;generalize(w.alloc<|bi #[.slice (V<|S o r U) m H,R U 0 0,R U 0 0,R U 0 0,Y Z d,Y Z 0,Y Z 0] 220).drew=W1 at*;obtain⟨b,GW⟩:=ac w.1.size;have Iq:dd (w.1.size<=b):=by rw[GW];exact au _
 have KV:dd (NS W1 w.1.size b (.slice (V<|S o r U) m H) (R U 0 0) (R U 0 0) d (bz L.rs<|a.take 0)<|bz c<|a.take 0):=by rw[GW];exact mD.out
 rw[<-GW];clear GW mD;go_wp2;go_loopg [22] m (λgk iv W=>∃(j:Nat)(vr vc:cJ),j<=m/\gk=m - j/\iv=Y Z j/\NS W w.1.size b (.slice (V<|S o r U) m H) vr vc d (bz L.rs<|a.take j) (bz c<|a.take j)/\cD w.1.size w W);exact⟨0,R U 0 0,R U 0 0,by omega,rfl,rfl,KV,aD⟩;clear KV aD;obtain⟨j,vr,vc,hj,rfl,rfl,i,K⟩:=hrel;by_cases aC:j<m
 .obtain⟨cj,uh⟩:=HP.out wr K j aC;have hX:=HX.out wr K;have aB:j<a.length:=by rw[HL.out];exact aC
  have c0:wr.cell? (S L.lb 0 U)=V L.rv:=az hX.cell 0;have I:=hX.ru _ uh;have s1:wr.cell? (S b 1 U)=V vr:=az i.cell 1;have aY:(j:Int)<(m:Int):=by omega
  have a9:((a.getD j 0:Nat):Int)<(L.n:Int):=by omega
  have eR:=Ra L.rs a j aB;have eC:=Ra c a j aB;have lR:(bz L.rs<|a.take j).length=j:=by rw[bz,jh,tM];omega
  have lC:(bz c<|a.take j).length=j:=by rw[bz,jh,tM];omega
  have HEq:dd (bz L.rs (a.take<|j+1)=bz L.rs (a.take j)++[L.rs.getD (a.getD j 0) 0]/\bz c (a.take<|j+1)=bz c (a.take j)++[c.getD (a.getD j 0) 0]):=⟨eR,eC⟩
  have HN:=ah i;have HB:=ah K;have aP:=K.size;obtain⟨ra,rc,aF⟩:=eV i.rr;rw[lR]at aF;subst aF;obtain⟨ca,am,BV⟩:=eV i.rc;rw[lC]at BV;subst BV;have vk:=i.rr;rw[lR]at vk;have TY:dd ((bz L.rs<|a.take j).length=j/\(bz c<|a.take j).length=j):=⟨lR,lC⟩
  clear lR lC;clear hX i K eR eC;unfold LP.rv at c0;generalize a.getD j 0=pj at*;have aH:dd (∀W,cD w.1.size w W->W.cell? (S L.lb 2 U)=V (.slice (V<|S L.gc 0 U) L.n L.n)/\W.cell? (S L.gc pj U)=V (Y Z<|c.getD pj 0)):=λW M=>⟨(HX W M).f2,(HX W M).ck pj uh⟩
  generalize L.rs.getD pj 0=y at*;generalize c.getD pj 0=z at*;have a8:(wr.alloc<|bi #[Y .i32 y] 21).cell? (S b 1 U)=V (R ra j rc):=(gW _ _ (S b 1 U) (dg HN.out.cell)).trans s1;go_wp2
  go_region_law (refine Hy rfl _ _ 138 rfl w.1.size 21 a6 (Y .i32 0) 1 4 underlying138 Wf a1 a2 a4 rfl (by decide) (by decide) _ _ (qN<|bz L.rs<|a.take j) rfl (lZ vk<|bi #[Y .i32 y] 21) _ [Y .i32 y] rfl rfl (afv wr _ _) (by intro u hu;simp at hu;subst hu;rfl) (by omega) (by simp;omega) ?_;intro v5 w5 cG bQ _;obtain⟨a5,BC,rfl⟩:=eV cG;obtain⟨Mu,c5,f5⟩:=HN.out.N5 (by rw[TY.out.1];exact cG)<|(uE wr _ _).trans bQ;have bF:dd (cD w.1.size w w5):=(HB.out.alloc aP _).drew.grown bQ (by simp;omega) (λq hq=>(vk.lt q hq).1);clear cG bQ)
  all_goals
   have dU:dd (cD w.1.size w<|w5.setCell (S b 1 U)<|R a5 (j+1) BC):=bF.out.setCell (p:=(S b 1 U)) Iq.out _;have vL:=ah Mu;clear c5 f5 Mu s1 a8 c0 I cj vk bF;generalize w5.setCell (S b 1 U) (R a5 (j+1) BC)=G at*;obtain⟨d2,dk⟩:=aH.out G dU.out;have s2:G.cell? (S b 2 U)=V (R ca j am):=az vL.out.cell 2;have E:=vL.out.rc;rw[TY.out.2]at E;have yU:=dU.out.size;have bb:(G.alloc<|bi #[Y Z z] 108).cell? (S b 2 U)=V (R ca j am):=(gW _ _ (S b 2 U) (dg vL.out.cell)).trans s2;go_wp2
   go_region_law (refine Hy rfl _ _ 139 rfl w.1.size 108 iC (Y Z 0) 1 8 underlying139 Wh aQ aR aS rfl (by decide) (by decide) _ _ (iv<|bz c<|a.take j) rfl (lZ E<|bi #[Y Z z] 108) _ [Y Z z] rfl rfl (afv G _ _) (by intro u hu;simp at hu;subst hu;rfl) (by omega) (by simp;omega) ?_;intro v7 w7 Di iy _;obtain⟨a7,PF,rfl⟩:=eV Di;obtain⟨ao,c7,f7⟩:=vL.out.ara (by rw[TY.out.2];exact Di)<|(uE G _ _).trans iy;have mS:dd (cD w.1.size w w7):=(dU.out.alloc yU _).drew.grown iy (by simp;omega) (λq hq=>(E.lt q hq).1);clear Di iy)
   all_goals
    have aG:dd (NS (w7.setCell (S b 2 U)<|R a7 (j+1) PF) w.1.size b (.slice (V<|S o r U) m H) (R a5 (j+1) BC) (R a7 (j+1) PF) d (bz L.rs<|a.take<|j+1)<|bz c<|a.take<|j+1):=(by rw[HEq.out.1,HEq.out.2];exact ao);have sX:dd (cD w.1.size w<|w7.setCell (S b 2 U)<|R a7 (j+1) PF):=mS.out.setCell (p:=(S b 2 U)) Iq.out _;clear ao c7 f7 mS;go_wp2;go_roundg (m - (j+1));exact⟨j+1,_,_,by omega,rfl,by go_num,aG,sX⟩;omega
 obtain rfl:j=m:=by omega
 have aE:a.take j=a:=jY (by rw[HL.out];exact au _);rw[aE]at i;have C:∀l:aw,(bz l a).length=j:=λl=>by rw[bz,jh,HL.out]
 obtain⟨J,I,rfl,_,ay,Wb⟩:=iq i.rr (by rw[C];exact hm);obtain⟨Q,cc,rfl,_,kR,Wa⟩:=iq i.rc (by rw[C];exact hm);rw[C,C]at i;have vk:wr.ownsRow w.1.size 21 1 (.slice (V<|S J 0 U) j I) j (qN<|bz L.rs a):=by have:=i.rr;rw[C]at this;exact this
 have E:wr.ownsRow w.1.size 108 1 (.slice (V<|S Q 0 U) j cc) j (iv<|bz c a):=by have:=i.rc;rw[C]at this;exact this
 have E8:J≠b:=λe=>kq i.rr i.cell (by decide)<|by rw[e];rfl
 have XQ:Q≠b:=λe=>kq i.rc i.cell (by decide)<|by rw[e];rfl
 have yR:SB wr b (.slice (V<|S o r U) j H) (.slice (V<|S J 0 U) j I) (.slice (V<|S Q 0 U) j cc) (R U 0 0) (Y Z d) (Y Z 0) (Y Z 0):=i.cell;have ak:b<wr.1.size:=dg i.cell;have a0:=run_make_row' (P:=prog) 139 108 (Y Z 0) 8 underlying139 Tryz.JQ rfl .i64 .i64 j (by omega) (by omega);have aY:¬(j:Int)<(j:Int):=by omega
 clear i;have ad:SB (wr.alloc<|bi (madeCells #[Y Z 0] j) 108) b _ _ _ _ _ _ _:=yR.grown (En wr _ U) (by simp);have c2:=yR.c2;obtain⟨d3,e3⟩:=ad.c3;have Mv:aW (wr.alloc<|bi (madeCells #[Y Z 0] j) 108) w.1.size 108 wr.1.size j (List.replicate j<|Y Z 0):=aW.made K.size (by omega);have ae:wr.grownBy ((wr.alloc<|bi (madeCells #[Y Z 0] j) 108).setCell (S b 3 U) (.slice (V<|S wr.1.size 0 U) j j)) (V b):=(En wr _ _).trans (Hw _ b 3 _);have iH:=ad.s3 (.slice (V<|S wr.1.size 0 U) j j);have qI:aW ((wr.alloc<|bi (madeCells #[Y Z 0] j) 108).setCell (S b 3 U) (.slice (V<|S wr.1.size 0 U) j j)) w.1.size 108 wr.1.size j (List.replicate j<|Y Z 0):=Mv.setOther b 3 _ (by omega);have bN:cD w.1.size w ((wr.alloc<|bi (madeCells #[Y Z 0] j) 108).setCell (S b 3 U) (.slice (V<|S wr.1.size 0 U) j j)):=(K.alloc K.size _).setCell (p:=(S b 3 U)) Iq.out _;have Al:=jw vk ae E8;have JI:=jw E ae XQ;have h2:=And.intro iH<|And.intro qI<|And.intro bN<|And.intro Al JI;have H2:=ah h2;have O:dd (J<wr.1.size/\Q<wr.1.size/\b<wr.1.size/\w.1.size<=wr.1.size):=⟨ay,kR,ak,K.size⟩
 clear yR ad Mv ae iH qI bN Al JI vk E K ay kR ak h2 aE;obtain⟨D,av⟩:=ac wr.1.size;go_wp2;generalize((wr.alloc<|bi (madeCells #[Y Z 0] j) 108).setCell (S b 3 U) (.slice (V<|S wr.1.size 0 U) j j))=W2 at*;rw[<-av]at H2 O ⊢;clear av c2 d3 e3;obtain⟨iH,qI,bN,Al,JI⟩:=H2.out;clear H2;obtain⟨F,pE,EO,ar⟩:=U2 (P:=prog) (w:=W2.drew) (sT:=139) (e:=108) (ty:=3) (g:=D) underlying139 Tryz.Y6 (aW.heap qI) (by simp) (IW JI) (λv hv=>by simp only[iv,jX]at hv;obtain⟨x,_,rfl⟩:=hv;rfl);have s:W2.grownBy F (V D):=(show W2.grownBy W2.drew (V D)from⟨rfl,rfl,rfl,au _,λ_ _ _=>rfl⟩).trans ar;have jo:SB F b _ _ _ _ _ _ _:=iH.grown s (by have:=O.out;simp;omega);have lK:aW F w.1.size 108 D j (iv<|bz c a):=aW.Rw EO (by have:=O.out;omega) (by rw[oC,C]) (by omega);have cA:cD w.1.size w F:=bN.grown s bN.size (λk hk=>by cases hk;have:=O.out;omega);have Am:=jw Al s (by have:=O.out;omega);have M4:=jw JI s (by have:=O.out;omega);have c2:=iH.c2;have c3:=iH.c3.1;have h3:=And.intro jo<|And.intro lK<|And.intro cA<|And.intro Am M4;have H3:=ah h3;clear iH qI bN Al JI EO ar s jo lK cA Am M4 h3;go_region;all_goals
  clear c2 c3 pE a0;obtain⟨jo,lK,cA,Am,M4⟩:=H3.out;clear H3;obtain⟨Je,_⟩:=HP.out F cA 0 (by omega);rw[qE]at Je;have ab:a.getD 0 0=p0:=(by rw[KD.out.2];cases a<;>rfl);rw[ab]at Je;obtain⟨bA,yS⟩:=ac<|lD t (aO L.cs) L.p p0;obtain⟨A,QZ⟩:∃A,(if d<bA then bA else d)=A:=⟨_,rfl⟩
  have af:0<=d:=(by rw[KD.out.1];exact(X _).1);have Qw:0<=bA:=(by rw[yS];exact tA (λp=>(X p).1) hp.1 _);have GL:0<=A:=(by rw[<-QZ];split<;>omega);have Lm:dd (max d bA=A):=show max d bA=A by rw[<-QZ];split<;>omega
  have Z5:dd (∀W,cD w.1.size w W->cP prog 219 #[.pointer<|V<|S L.lb 0 U,Y Z p0] W λe n=>e=bj (Y Z bA)/\n=W):=λW M=>by rw[yS];exact ajF W L c t (HX W M) hn p0 ag
  have rX:dd (∀W,cP prog 96 #[Y Z A] W λe n=>e=bj (Y Z<|A%2)/\n=W):=λW=>DI A W GL
  have aI:dd (jA d (lD t (aO L.cs) L.p p0)=A%2):=(by rw[<-yS];exact ahm QZ GL);have c4:=jo.c4;obtain⟨c5,f5⟩:=jo.c5;have N:=jo.s5<|Y Z<|A%2;have T:F.grownBy (F.setCell (S b 5 U)<|Y Z<|A%2) (V b):=Hw _ b 5 _;have f:cD w.1.size w (F.setCell (S b 5 U)<|Y Z<|A%2):=cA.setCell (p:=(S b 5 U)) Iq.out _;have sJ:aW (F.setCell (S b 5 U)<|Y Z<|A%2) w.1.size 108 D j (iv<|bz c a):=jw lK T (by have:=O.out;omega);have GU:=jw Am T E8;have GP:=jw M4 T XQ;have y4:=N.c4;have yp:(F.setCell (S b 5 U)<|Y Z<|A%2).cell? (S o r U)=V (Y Z ((p0:Nat):Int)):=by have:=(HP _ f 0 (by omega)).1;rw[qE,ab]at this;exact this
  have h4:=And.intro N<|And.intro sJ<|And.intro f<|And.intro GU GP;have H4:=ah h4;have aJ:=ah cA;clear jo lK cA Am M4 N T f sJ GU GP h4 yS ab af Qw GL;go_wp2
  go_region_held3 (λn=>n.cell? (S b 4 U)=V (Y Z d)/\n.cell? (S o r U)=V (Y Z ((p0:Nat):Int))) (first|go_keep|exact⟨y4,yp⟩)
   (first
    |(go_at_call 219;refine(Z5 _ aJ.out.drew).mono ?_;rintro ev wx ⟨rfl,rfl⟩)
    |(go_at_call 96;(try rw[Lm.out]);refine(rX _).mono ?_;rintro ev wx ⟨rfl,rfl⟩))
  all_goals
   generalize F.setCell (S b 5 U) (Y Z<|A%2)=W4 at*;clear y4 yp c4 c5 f5 Je Z5 rX aJ QZ Lm;obtain⟨N,sJ,f,GU,GP⟩:=H4.out;clear H4;have N:SB W4.drew b _ _ _ _ _ _ _:=N;have sJ:aW W4.drew w.1.size 108 D j (iv<|bz c a):=sJ;have f:cD w.1.size w W4.drew:=f.drew;have GU:=IW GU;have GP:=IW GP;generalize W4.drew=W5 at*;obtain⟨an,ai⟩:=HP.out W5 f (j - 1) (by omega);obtain⟨p1,aa⟩:=ac<|a.getD (j - 1) 0;have kB:dd (a.getLastD 0=p1):=(by show _=_;rw[aa,tK,IC,HL.out,aN]);rw[<-aa]at an ai;obtain⟨bE,QH⟩:=ac<|rz L.cs t (aO L.cs) L.p p1;obtain⟨B,JC⟩:∃B,(if d<bE then bE else d)=B:=⟨_,rfl⟩
   have af:0<=d:=(by rw[KD.out.1];exact(X _).1);have aM:0<=bE:=(by rw[QH];exact akr (λp=>(X p).1) hp.1);have GL:0<=B:=(by rw[<-JC];split<;>omega);have Lm:dd (max d bE=B):=show max d bE=B by rw[<-JC];split<;>omega
   have aj:dd (∀W,cD w.1.size w W->cP prog 220 #[.pointer<|V<|S L.lb 0 U,Y Z p1] W λe n=>e=bj (Y Z bE)/\n=W):=λW M=>by rw[QH];exact aks W L c t (HX W M) hn p1 ai
   have rX:dd (∀W,cP prog 96 #[Y Z B] W λe n=>e=bj (Y Z<|B%2)/\n=W):=λW=>DI B W GL
   have aK:dd (jA d (rz L.cs t (aO L.cs) L.p p1)=B%2):=(by rw[<-QH];exact ahm JC GL);have c4:=N.c4;obtain⟨c6,f6⟩:=N.c6;have Gr:=N.s6<|Y Z<|B%2;have i7:W5.grownBy (W5.setCell (S b 6 U)<|Y Z<|B%2) (V b):=Hw _ b 6 _;have qF:cD w.1.size w (W5.setCell (S b 6 U)<|Y Z<|B%2):=f.setCell (p:=(S b 6 U)) Iq.out _;have sK:aW (W5.setCell (S b 6 U)<|Y Z<|B%2) w.1.size 108 D j (iv<|bz c a):=jw sJ i7 (by have:=O.out;omega);have Na:=jw GU i7 E8;have M5:=jw GP i7 XQ;have y4:=Gr.c4;have yp:(W5.setCell (S b 6 U)<|Y Z<|B%2).cell? ⟨o,r+(j - 1),U⟩=V (Y Z ((p1:Nat):Int)):=(by have:=(HP _ qF (j - 1) (by omega)).1;rw[<-aa]at this;exact this);have h6:=And.intro Gr<|And.intro sK<|And.intro qF<|And.intro Na M5;have H6:=ah h6;have cW:=ah f;clear N sJ f GU GP Gr i7 qF sK Na M5 h6 QH aa af aM GL ai;have aT:(1:Int)<=(j:Int):=(by omega);have aU:(0:Int)<=(j:Int) - 1:=(by omega);have aV:(j:Int) - 1<(j:Int):=(by omega);have Jy:(j:Int)<=(j:Int):=(by omega);have aX:(0:Int)<(j:Int):=(by omega);have hw:IntKind.i64.wrap ((j:Int) - 1)=(j:Int) - 1:=O7 _ ⟨by omega,by omega⟩;go_wp2
   go_region_held3 (λn=>n.cell? (S b 4 U)=V (Y Z d)/\n.cell? ⟨o,r+(j - 1),U⟩=V (Y Z ((p1:Nat):Int))) (first|go_keep|exact⟨y4,yp⟩)
    (first
     |(go_at_call 220;refine(aj _ cW.out.drew).mono ?_;rintro ev wx ⟨rfl,rfl⟩)
     |(go_at_call 96;(try rw[Lm.out]);refine(rX _).mono ?_;rintro ev wx ⟨rfl,rfl⟩))
   all_goals
    generalize W5.setCell (S b 6 U) (Y Z<|B%2)=G at*;clear y4 yp c4 c6 f6 an aj rX cW JC Lm aT aU aV Jy aX hw;obtain⟨Gr,sK,qF,Na,M5⟩:=H6.out;clear H6;have HF:dd (aZ G.drew w.1.size b Q j cc (.slice (V<|S o r U) j H) (.slice (V<|S J 0 U) j I) (.slice (V<|S D 0 U) j j) d (A%2) (B%2) (bz c a)/\G.drew.ownsRow w.1.size 21 1 (.slice (V<|S J 0 U) j I) j (qN<|bz L.rs a)/\aW G.drew w.1.size 108 D j (iv<|bz c a)/\cD w.1.size w G.drew/\b<G.drew.1.size):=⟨⟨Gr,M5⟩,Na,sK,qF.drew,dg Gr⟩
    clear Gr sK qF Na M5;go_wp2;go_ret;refine⟨b,J,I,Q,cc,D,rfl,?_,HF.out.2.1,HF.out.2.2.1,by have:=O.out;omega,Iq.out,HF.out.2.2.2.2,HF.out.2.2.2.1⟩;rw[kB.out,aI.out,aK.out];exact HF.out.1
end
