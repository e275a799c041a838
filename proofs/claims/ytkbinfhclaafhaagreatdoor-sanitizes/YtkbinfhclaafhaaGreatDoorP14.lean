import Derived.Test.YtkbinfhclaafhaaGreatDoorP13
import Derived.Deep.RegionHeld3
import Derived.Deep.DrawnRows
namespace Go.Proofs.YtkbinfhclaafhaaGreatDoor
open Go.RowKit
open Go.Proofs.Tryz
set_option maxRecDepth 100000
set_option maxHeartbeats 32000000
set_option linter.all false
section
attribute [local go_sem ↓] Go.wp_at_zero Go.wp_at_succ
def uv(w:World)(a:Obj)(r:Option Nat):w.grownBy (w.alloc a).drew r:=⟨rfl,rfl,rfl,by simp,λk b _=>dw w a k b⟩
def aew(w:World)(y:Value)(e:TypeId):∀j u,[y][j]? =some u->(w.alloc (.cells #[y] e)).drew.cell? ((⟨w.heap.size,0,none⟩:Addr).add j)=some u:=by
 intro j u a
 match j,a with
 |0,a=>simp at a;subst a;simp[Addr.add]
def Cf(l:List Int)(a:List Nat)(j:Nat)(b:j<a.length):bB l (a.take<|j+1)=bB l (a.take j)++[l.getD (a.getD j 0) 0]:=by
 rw[bB,uM,aM b,fB,aO (l:=a),aM b];rfl
def yg {c:List Int}{d:List Bool}{a:Int}(h:∀p,0<=c.getD p 0)(b:0<=a):∀k,0<=kz c d a k
 |0=>b
 |k+1=>by rw[kz];split;exact h _;exact yg h b k
def yz {d:List Int}{e:List Bool}{a:Int}{b:Nat}(h:∀p,0<=d.getD p 0)(c:0<=a):∀k,0<=mj d e a b k
 |0=>c
 |k+1=>by rw[mj];split;exact h _;exact yz h c k
def aiT {e d:List Int}{f:List Bool}{a:Int}{b:Nat}(h:∀p,0<=d.getD p 0)(c:0<=a):0<=qh e d f a b:=by
 unfold qh;split;exact c;exact yz h c _
def af9 {a b m:Int}(c:(if a<b then b else a)=m)(_h0:0<=m):i6 a b=m%2:=by
 unfold i6;rw[c];split<;>omega
def SB(W:World)(h:Nat)(a b c d e f g:Value):Prop:=W.heap[h]? =some (.cells #[a,b,c,d,e,f,g] 220 (0,0))
section
variable{W W':World}{sb:Nat}{a0 a1 a2 a3 a4 a5 a6:Value}
def SB.c2(h:SB W sb a0 a1 a2 a3 a4 a5 a6):W.cell? ⟨sb,2,none⟩=some a2:=az h 2
def SB.c3(h:SB W sb a0 a1 a2 a3 a4 a5 a6):W.cell? ⟨sb,3,none⟩=some a3/\W.frozen? ⟨sb,3,none⟩=false:=⟨az h 3,cB h 3⟩
def SB.c4(h:SB W sb a0 a1 a2 a3 a4 a5 a6):W.cell? ⟨sb,4,none⟩=some a4:=az h 4
def SB.c5(h:SB W sb a0 a1 a2 a3 a4 a5 a6):W.cell? ⟨sb,5,none⟩=some a5/\W.frozen? ⟨sb,5,none⟩=false:=⟨az h 5,cB h 5⟩
def SB.c6(h:SB W sb a0 a1 a2 a3 a4 a5 a6):W.cell? ⟨sb,6,none⟩=some a6/\W.frozen? ⟨sb,6,none⟩=false:=⟨az h 6,cB h 6⟩
def SB.grown {r:Option Nat}(h:SB W sb a0 a1 a2 a3 a4 a5 a6)(b:W.grownBy W' r)(a:some sb≠r):SB W' sb a0 a1 a2 a3 a4 a5 a6:=(b.block sb (cJ h) a).trans h
def SB.s3(h:SB W sb a0 a1 a2 a3 a4 a5 a6)(v:Value):SB (W.setCell ⟨sb,3,none⟩ v) sb a0 a1 a2 v a4 a5 a6:=by unfold SB;rw[eW h];rfl
def SB.s5(h:SB W sb a0 a1 a2 a3 a4 a5 a6)(v:Value):SB (W.setCell ⟨sb,5,none⟩ v) sb a0 a1 a2 a3 a4 v a6:=by unfold SB;rw[eW h];rfl
def SB.s6(h:SB W sb a0 a1 a2 a3 a4 a5 a6)(v:Value):SB (W.setCell ⟨sb,6,none⟩ v) sb a0 a1 a2 a3 a4 a5 v:=by unfold SB;rw[eW h];rfl
end
def anY(w:World)(L:LP)(c t:List Int)(h:LX w L c t)(hn:L.n<=1000)(o r m H:Nat)(a:List Nat)(hP:bI w o r<|nl a)(hl:a.length=m)(hm:0<m)(nj:m<=1000)(an:∀p∈a,p<L.n)(S:∀p,0<=t.getD p 0/\t.getD p 0<=1000)(hp:0<=L.p/\L.p<=1000):
  Calls prog 158 #[.pointer<|some ⟨L.lb,0,none⟩,.slice (some ⟨o,r,none⟩) m H] w λe n=>∃b J I Q cc D,e= .returned (.pointer<|some ⟨b,0,none⟩)/\
   bf n w.heap.size b Q m cc (.slice (some ⟨o,r,none⟩) m H) (.slice (some ⟨J,0,none⟩) m I) (.slice (some ⟨D,0,none⟩) m m) (t.getD (a.headD 0) 0) (i6 (t.getD (a.headD 0) 0)<|kz t (aQ L.cs) L.p<|a.headD 0) (i6 (t.getD (a.headD 0) 0)<|qh L.cs t (aQ L.cs) L.p<|a.getLastD 0) (bB c a)/\
   n.ownsRow w.heap.size 21 1 (.slice (some ⟨J,0,none⟩) m I) m (pT<|bB L.rs a)/\aY n w.heap.size 108 D m (iv<|bB c a)/\D≠Q/\w.heap.size<=b/\b<n.heap.size/\Below w.heap.size w n:=by
 obtain⟨a0,UI,aW,aX,aZ⟩:=gu Tryz.Oc;obtain⟨iC,UK,aL,aM,aN⟩:=gu Tryz.Iu;have h0:a.getD 0 0=a.headD 0:=by cases a<;>rfl
 have af:a.headD 0<L.n:=by rw[<-h0];exact an _ (dG<|by omega)
 have Ho:w.cell? ⟨o,r,none⟩=some (.int .i64 ((a.headD 0:Nat):Int)):=by
  have:=hP 0 (by rw[gW];omega);rw[oh _ _ (by omega),h0]at this;simpa using this
 have a3:=h.f3;have al:=h.cl _ af;have aI:((a.headD 0:Nat):Int)<(L.n:Int):=by omega
 have a4:(0:Int)<(m:Int):=by omega
 have HX:Hid (∀W,Below w.heap.size w W->LX W L c t):=λW M=>h.below M
 have HP:Hid (∀W,Below w.heap.size w W->∀j,j<m->W.cell? ⟨o,r+j,none⟩=some (.int .i64 ((a.getD j 0:Nat):Int))/\a.getD j 0<L.n):=λW M j hj=>by
  have h1:=(hP.below M) j (by rw[gW];omega);rw[oh _ _ (by omega)]at h1;exact⟨h1,an _ (dG<|by omega)⟩
 have HL:=ah hl;clear h hP h0 hl;obtain⟨d,mG⟩:=ac<|t.getD (a.headD 0) 0;rw[<-mG]at al ⊢;obtain⟨U,Pk⟩:=ac<|a.headD 0;rw[<-Pk]at al Ho aI af ⊢;have QU:Hid (d=t.getD U 0/\U=a.headD 0):=⟨by rw[Pk];exact mG,Pk⟩
 clear mG Pk;go_enter func158,ntmps158;go_wp2;go_region;have ao:Below w.heap.size w (w.alloc (.cells #[.slice (some ⟨o,r,none⟩) m H,.slice none 0 0,.slice none 0 0,.slice none 0 0,.int .i64 d,.int .i64 0,.int .i64 0] 220)).drew:=((aA _ _).alloc (au _) _).drew;have oH:Hid (NS (w.alloc (.cells #[.slice (some ⟨o,r,none⟩) m H,.slice none 0 0,.slice none 0 0,.slice none 0 0,.int .i64 d,.int .i64 0,.int .i64 0] 220)).drew w.heap.size w.heap.size (.slice (some ⟨o,r,none⟩) m H) (.slice none 0 0) (.slice none 0 0) d (bB L.rs<|a.take 0) (bB c<|a.take 0)):=
  ⟨oD,gQ _ _ _ _,gQ _ _ _ _,au _⟩
 have aD:=ah ao;clear ao a3 al Ho;generalize(w.alloc (.cells #[.slice (some ⟨o,r,none⟩) m H,.slice none 0 0,.slice none 0 0,.slice none 0 0,.int .i64 d,.int .i64 0,.int .i64 0] 220)).drew=W1 at*;obtain⟨b,FP⟩:=ac w.heap.size;have GC:Hid (w.heap.size<=b):=by rw[FP];exact au _
 have Jy:Hid (NS W1 w.heap.size b (.slice (some ⟨o,r,none⟩) m H) (.slice none 0 0) (.slice none 0 0) d (bB L.rs<|a.take 0)<|bB c<|a.take 0):=by rw[FP];exact oH.out
 rw[<-FP];clear FP oH;go_wp2;go_loopg [22] m (λgk iv W=>∃(j:Nat)(vr vc:Value),j<=m/\gk=m - j/\iv= .int .i64 j/\NS W w.heap.size b (.slice (some ⟨o,r,none⟩) m H) vr vc d (bB L.rs<|a.take j) (bB c<|a.take j)/\Below w.heap.size w W);exact⟨0,.slice none 0 0,.slice none 0 0,by omega,rfl,rfl,Jy.out,aD.out⟩;clear Jy aD;obtain⟨j,vr,vc,hj,rfl,rfl,i,K⟩:=hrel;by_cases aw:j<m
 .obtain⟨cj,sV⟩:=HP.out wr K j aw;have hX:=HX.out wr K;have av:j<a.length:=by rw[HL.out];exact aw
  have c0:wr.cell? ⟨L.lb,0,none⟩=some L.rv:=az hX.cell 0;have I:=hX.ru _ sV;have s1:wr.cell? ⟨b,1,none⟩=some vr:=az i.cell 1;have aU:(j:Int)<(m:Int):=by omega
  have a2:((a.getD j 0:Nat):Int)<(L.n:Int):=by omega
  have eR:=Cf L.rs a j av;have eC:=Cf c a j av;have lR:(bB L.rs<|a.take j).length=j:=by rw[bB,ja,r9];omega
  have lC:(bB c<|a.take j).length=j:=by rw[bB,ja,r9];omega
  have HEq:Hid (bB L.rs (a.take<|j+1)=bB L.rs (a.take j)++[L.rs.getD (a.getD j 0) 0]/\bB c (a.take<|j+1)=bB c (a.take j)++[c.getD (a.getD j 0) 0]):=⟨eR,eC⟩
  have HN:=ah i;have HB:=ah K;have aK:=K.size;obtain⟨ra,rc,aB⟩:=eH i.rr;rw[lR]at aB;subst aB;obtain⟨ca,aj,Pw⟩:=eH i.rc;rw[lC]at Pw;subst Pw;have ug:=i.rr;rw[lR]at ug;have R8:Hid ((bB L.rs<|a.take j).length=j/\(bB c<|a.take j).length=j):=⟨lR,lC⟩
  clear lR lC;clear hX i K eR eC;unfold LP.rv at c0;generalize a.getD j 0=pj at*;have aE:Hid (∀W,Below w.heap.size w W->W.cell? ⟨L.lb,2,none⟩=some (.slice (some ⟨L.gc,0,none⟩) L.n L.n)/\W.cell? ⟨L.gc,pj,none⟩=some (.int .i64<|c.getD pj 0)):=λW M=>⟨(HX.out W M).f2,(HX.out W M).ck pj sV⟩
  generalize L.rs.getD pj 0=y at*;generalize c.getD pj 0=z at*;have a1:(wr.alloc (.cells #[.int .i32 y] 21)).cell? ⟨b,1,none⟩=some (.slice ra j rc):=(kS _ _ ⟨b,1,none⟩ (cJ HN.out.cell)).trans s1;go_wp2
  go_region_law (refine Gh rfl _ _ 138 rfl w.heap.size 21 a0 (.int .i32 0) 1 4 underlying138 UI aW aX aZ rfl (by decide) (by decide) _ _ (pT<|bB L.rs<|a.take j) rfl (kT ug (.cells #[.int .i32 y] 21)) _ [.int .i32 y] rfl rfl (aew wr _ _) (by intro u hu;simp at hu;subst hu;rfl) (by omega) (by simp;omega) ?_;intro v5 w5 cK bU _;obtain⟨a5,AU,rfl⟩:=eH cK;obtain⟨KT,c5,f5⟩:=HN.out.MG (by rw[R8.out.1];exact cK)<|(uv wr _ _).trans bU;have bG:Hid (Below w.heap.size w w5):=(HB.out.alloc aK _).drew.grown bU (by simp;omega) (λq hq=>(ug.lt q hq).1);clear cK bU)
  all_goals
   have dR:Hid (Below w.heap.size w<|w5.setCell ⟨b,1,none⟩ (.slice a5 (j+1) AU)):=bG.out.setCell (p:=⟨b,1,none⟩) GC.out _;have uG:=ah KT;clear c5 f5 KT s1 a1 c0 I cj ug bG;generalize w5.setCell ⟨b,1,none⟩ (.slice a5 (j+1) AU)=G at*;obtain⟨d2,dk⟩:=aE.out G dR.out;have s2:G.cell? ⟨b,2,none⟩=some (.slice ca j aj):=az uG.out.cell 2;have E:=uG.out.rc;rw[R8.out.2]at E;have yc:=dR.out.size;have a6:(G.alloc (.cells #[.int .i64 z] 108)).cell? ⟨b,2,none⟩=some (.slice ca j aj):=(kS _ _ ⟨b,2,none⟩ (cJ uG.out.cell)).trans s2;go_wp2
   go_region_law (refine Gh rfl _ _ 139 rfl w.heap.size 108 iC (.int .i64 0) 1 8 underlying139 UK aL aM aN rfl (by decide) (by decide) _ _ (iv<|bB c<|a.take j) rfl (kT E (.cells #[.int .i64 z] 108)) _ [.int .i64 z] rfl rfl (aew G _ _) (by intro u hu;simp at hu;subst hu;rfl) (by omega) (by simp;omega) ?_;intro v7 w7 CD gS _;obtain⟨a7,S8,rfl⟩:=eH CD;obtain⟨am,c7,f7⟩:=uG.out.apl (by rw[R8.out.2];exact CD)<|(uv G _ _).trans gS;have lV:Hid (Below w.heap.size w w7):=(dR.out.alloc yc _).drew.grown gS (by simp;omega) (λq hq=>(E.lt q hq).1);clear CD gS)
   all_goals
    have aC:Hid (NS (w7.setCell ⟨b,2,none⟩ (.slice a7 (j+1) S8)) w.heap.size b (.slice (some ⟨o,r,none⟩) m H) (.slice a5 (j+1) AU) (.slice a7 (j+1) S8) d (bB L.rs<|a.take<|j+1)<|bB c<|a.take<|j+1):=(by rw[HEq.out.1,HEq.out.2];exact am);have rO:Hid (Below w.heap.size w<|w7.setCell ⟨b,2,none⟩ (.slice a7 (j+1) S8)):=lV.out.setCell (p:=⟨b,2,none⟩) GC.out _;clear am c7 f7 lV;go_wp2;go_roundg (m - (j+1));exact⟨j+1,_,_,by omega,rfl,by go_num,aC.out,rO.out⟩;omega
 .obtain rfl:j=m:=by omega
  have ay:a.take j=a:=ku (by rw[HL.out];exact au _);rw[ay]at i;have C:∀l:List Int,(bB l a).length=j:=λl=>by rw[bB,ja,HL.out]
  obtain⟨J,I,rfl,_,ar,UF⟩:=gI i.rr (by rw[C];exact hm);obtain⟨Q,cc,rfl,_,kY,UE⟩:=gI i.rc (by rw[C];exact hm);rw[C,C]at i;have ug:wr.ownsRow w.heap.size 21 1 (.slice (some ⟨J,0,none⟩) j I) j (pT<|bB L.rs a):=by have:=i.rr;rw[C]at this;exact this
  have E:wr.ownsRow w.heap.size 108 1 (.slice (some ⟨Q,0,none⟩) j cc) j (iv<|bB c a):=by have:=i.rc;rw[C]at this;exact this
  have Ec:J≠b:=λe=>jG i.rr i.cell (by decide)<|by rw[e];rfl
  have V2:Q≠b:=λe=>jG i.rc i.cell (by decide)<|by rw[e];rfl
  have mF:SB wr b (.slice (some ⟨o,r,none⟩) j H) (.slice (some ⟨J,0,none⟩) j I) (.slice (some ⟨Q,0,none⟩) j cc) (.slice none 0 0) (.int .i64 d) (.int .i64 0) (.int .i64 0):=i.cell;have ai:b<wr.heap.size:=cJ i.cell;have aV:=run_make_row' (P:=prog) 139 108 (.int .i64 0) 8 underlying139 Tryz.Iu rfl .i64 .i64 j (by omega) (by omega);have aU:¬(j:Int)<(j:Int):=by omega
  clear i;have ab:SB (wr.alloc (.cells (madeCells #[.int .i64 0] j) 108)) b _ _ _ _ _ _ _:=mF.grown (Dz wr _ none) (by simp);have c2:=mF.c2;obtain⟨d3,e3⟩:=ab.c3;have KU:aY (wr.alloc (.cells (madeCells #[.int .i64 0] j) 108)) w.heap.size 108 wr.heap.size j (List.replicate j (.int .i64 0)):=aY.made K.size (by omega);have ad:wr.grownBy ((wr.alloc (.cells (madeCells #[.int .i64 0] j) 108)).setCell ⟨b,3,none⟩ (.slice (some ⟨wr.heap.size,0,none⟩) j j)) (some b):=(Dz wr _ _).trans (Gg _ b 3 _);have ic:=ab.s3 (.slice (some ⟨wr.heap.size,0,none⟩) j j);have pN:aY ((wr.alloc (.cells (madeCells #[.int .i64 0] j) 108)).setCell ⟨b,3,none⟩ (.slice (some ⟨wr.heap.size,0,none⟩) j j)) w.heap.size 108 wr.heap.size j (List.replicate j (.int .i64 0)):=KU.setOther b 3 _ (by omega);have bw:Below w.heap.size w ((wr.alloc (.cells (madeCells #[.int .i64 0] j) 108)).setCell ⟨b,3,none⟩ (.slice (some ⟨wr.heap.size,0,none⟩) j j)):=(K.alloc K.size _).setCell (p:=⟨b,3,none⟩) GC.out _;have zK:=iY ug ad Ec;have Io:=iY E ad V2;have h2:=And.intro ic<|And.intro pN<|And.intro bw<|And.intro zK Io;have H2:=ah h2;have O:Hid (J<wr.heap.size/\Q<wr.heap.size/\b<wr.heap.size/\w.heap.size<=wr.heap.size):=⟨ar,kY,ai,K.size⟩
  clear mF ab KU ad ic pN bw zK Io ug E K ar kY ai h2 ay;obtain⟨D,aq⟩:=ac wr.heap.size;go_wp2;generalize((wr.alloc (.cells (madeCells #[.int .i64 0] j) 108)).setCell ⟨b,3,none⟩ (.slice (some ⟨wr.heap.size,0,none⟩) j j))=W2 at*;rw[<-aq]at H2 O ⊢;clear aq c2 d3 e3;obtain⟨ic,pN,bw,zK,Io⟩:=H2.out;clear H2;obtain⟨F,kj,D4,ap⟩:=Ti (P:=prog) (w:=W2.drew) (sT:=139) (e:=108) (ty:=3) (g:=D) underlying139 Tryz.Xn (aY.heap pN) (by simp) (G0 Io) (λv hv=>by simp only[iv,jM]at hv;obtain⟨x,_,rfl⟩:=hv;rfl);have s:W2.grownBy F (some D):=(show W2.grownBy W2.drew (some D)from⟨rfl,rfl,rfl,au _,λ_ _ _=>rfl⟩).trans ap;have mY:SB F b _ _ _ _ _ _ _:=ic.grown s (by have:=O.out;simp;omega);have kE:aY F w.heap.size 108 D j (iv<|bB c a):=aY.PT D4 (by have:=O.out;omega) (by rw[nZ,C]) (by omega);have dm:Below w.heap.size w F:=bw.grown s bw.size (λk hk=>by cases hk;have:=O.out;omega);have zL:=iY zK s (by have:=O.out;omega);have LF:=iY Io s (by have:=O.out;omega);have c2:=ic.c2;have c3:=ic.c3.1;have h3:=And.intro mY<|And.intro kE<|And.intro dm<|And.intro zL LF;have H3:=ah h3;clear ic pN bw zK Io D4 ap s mY kE dm zL LF h3;go_region;all_goals
   clear c2 c3 kj aV;obtain⟨mY,kE,dm,zL,LF⟩:=H3.out;clear H3;obtain⟨Ho,_⟩:=HP.out F dm 0 (by omega);rw[p9]at Ho;have aa:a.getD 0 0=U:=(by rw[QU.out.2];cases a<;>rfl);rw[aa]at Ho;obtain⟨bA,ya⟩:=ac<|kz t (aQ L.cs) L.p U;obtain⟨A,Pe⟩:∃A,(if d<bA then bA else d)=A:=⟨_,rfl⟩
   have ae:0<=d:=(by rw[QU.out.1];exact(S _).1);have OO:0<=bA:=(by rw[ya];exact yg (λp=>(S p).1) hp.1 _);have V:0<=A:=(by rw[<-Pe];split<;>omega);have JX:Hid (max d bA=A):=show max d bA=A by rw[<-Pe];split<;>omega
   have Ym:Hid (∀W,Below w.heap.size w W->Calls prog 219 #[.pointer<|some ⟨L.lb,0,none⟩,.int .i64 U] W λe n=>e= .returned (.int .i64 bA)/\n=W):=λW M=>by rw[ya];exact ain W L c t (HX.out W M) hn U af
   have qU:Hid (∀W,Calls prog 96 #[.int .i64 A] W λe n=>e= .returned (.int .i64<|A%2)/\n=W):=λW=>C2 A W V
   have aF:Hid (i6 d (kz t (aQ L.cs) L.p U)=A%2):=(by rw[<-ya];exact af9 Pe V);have c4:=mY.c4;obtain⟨c5,f5⟩:=mY.c5;have N:=mY.s5 (.int .i64<|A%2);have R:F.grownBy (F.setCell ⟨b,5,none⟩ (.int .i64<|A%2)) (some b):=Gg _ b 5 _;have f:Below w.heap.size w (F.setCell ⟨b,5,none⟩ (.int .i64<|A%2)):=dm.setCell (p:=⟨b,5,none⟩) GC.out _;have rG:aY (F.setCell ⟨b,5,none⟩ (.int .i64<|A%2)) w.heap.size 108 D j (iv<|bB c a):=iY kE R (by have:=O.out;omega);have Y:=iY zL R Ec;have X:=iY LF R V2;have y4:=N.c4;have yp:(F.setCell ⟨b,5,none⟩ (.int .i64<|A%2)).cell? ⟨o,r,none⟩=some (.int .i64 ((U:Nat):Int)):=by
    have:=(HP.out _ f 0 (by omega)).1;rw[p9,aa]at this;exact this
   have h4:=And.intro N<|And.intro rG<|And.intro f<|And.intro Y X;have H4:=ah h4;have aG:=ah dm;clear mY kE dm zL LF N R f rG Y X h4 ya aa ae OO V;go_wp2
   go_region_held3 (λn=>n.cell? ⟨b,4,none⟩=some (.int .i64 d)/\n.cell? ⟨o,r,none⟩=some (.int .i64 ((U:Nat):Int))) (first|go_keep|exact⟨y4,yp⟩)
    (first
     |(go_at_call 219;refine(Ym.out _ aG.out.drew).mono ?_;rintro ev wx ⟨rfl,rfl⟩)
     |(go_at_call 96;(try rw[JX.out]);refine(qU.out _).mono ?_;rintro ev wx ⟨rfl,rfl⟩))
   all_goals
    generalize F.setCell ⟨b,5,none⟩ (.int .i64<|A%2)=W4 at*;clear y4 yp c4 c5 f5 Ho Ym qU aG Pe JX;obtain⟨N,rG,f,Y,X⟩:=H4.out;clear H4;have N:SB W4.drew b _ _ _ _ _ _ _:=N;have rG:aY W4.drew w.heap.size 108 D j (iv<|bB c a):=rG;have f:Below w.heap.size w W4.drew:=f.drew;have Y:=G0 Y;have X:=G0 X;generalize W4.drew=W5 at*;obtain⟨ak,ag⟩:=HP.out W5 f (j - 1) (by omega);obtain⟨p1,T⟩:=ac<|a.getD (j - 1) 0;have oG:Hid (a.getLastD 0=p1):=by
     show _=_;rw[T,r8,GN,HL.out,aO]
    rw[<-T]at ak ag;obtain⟨bE,O0⟩:=ac<|qh L.cs t (aQ L.cs) L.p p1;obtain⟨B,Ii⟩:∃B,(if d<bE then bE else d)=B:=⟨_,rfl⟩
    have ae:0<=d:=(by rw[QU.out.1];exact(S _).1);have aJ:0<=bE:=(by rw[O0];exact aiT (λp=>(S p).1) hp.1);have V:0<=B:=(by rw[<-Ii];split<;>omega);have JX:Hid (max d bE=B):=show max d bE=B by rw[<-Ii];split<;>omega
    have Yu:Hid (∀W,Below w.heap.size w W->Calls prog 220 #[.pointer<|some ⟨L.lb,0,none⟩,.int .i64 p1] W λe n=>e= .returned (.int .i64 bE)/\n=W):=λW M=>by rw[O0];exact aiU W L c t (HX.out W M) hn p1 ag
    have qU:Hid (∀W,Calls prog 96 #[.int .i64 B] W λe n=>e= .returned (.int .i64<|B%2)/\n=W):=λW=>C2 B W V
    have aH:Hid (i6 d (qh L.cs t (aQ L.cs) L.p p1)=B%2):=(by rw[<-O0];exact af9 Ii V);have c4:=N.c4;obtain⟨c6,f6⟩:=N.c6;have Z:=N.s6 (.int .i64<|B%2);have iL:W5.grownBy (W5.setCell ⟨b,6,none⟩ (.int .i64<|B%2)) (some b):=Gg _ b 6 _;have sN:Below w.heap.size w (W5.setCell ⟨b,6,none⟩ (.int .i64<|B%2)):=f.setCell (p:=⟨b,6,none⟩) GC.out _;have rH:aY (W5.setCell ⟨b,6,none⟩ (.int .i64<|B%2)) w.heap.size 108 D j (iv<|bB c a):=iY rG iL (by have:=O.out;omega);have LM:=iY Y iL Ec;have LG:=iY X iL V2;have y4:=Z.c4;have yp:(W5.setCell ⟨b,6,none⟩ (.int .i64<|B%2)).cell? ⟨o,r+(j - 1),none⟩=some (.int .i64 ((p1:Nat):Int)):=by
     have:=(HP.out _ sN (j - 1) (by omega)).1;rw[<-T]at this;exact this
    have h6:=And.intro Z<|And.intro rH<|And.intro sN<|And.intro LM LG;have H6:=ah h6;have cT:=ah f;clear N rG f Y X Z iL sN rH LM LG h6 O0 T ae aJ V ag;have aP:(1:Int)<=(j:Int):=(by omega);have aR:(0:Int)<=(j:Int) - 1:=(by omega);have aS:(j:Int) - 1<(j:Int):=(by omega);have Ig:(j:Int)<=(j:Int):=(by omega);have aT:(0:Int)<(j:Int):=(by omega);have hw:IntKind.i64.wrap ((j:Int) - 1)=(j:Int) - 1:=Ny _ ⟨by omega,by omega⟩;go_wp2
    go_region_held3 (λn=>n.cell? ⟨b,4,none⟩=some (.int .i64 d)/\n.cell? ⟨o,r+(j - 1),none⟩=some (.int .i64 ((p1:Nat):Int))) (first|go_keep|exact⟨y4,yp⟩)
     (first
      |(go_at_call 220;refine(Yu.out _ cT.out.drew).mono ?_;rintro ev wx ⟨rfl,rfl⟩)
      |(go_at_call 96;(try rw[JX.out]);refine(qU.out _).mono ?_;rintro ev wx ⟨rfl,rfl⟩))
    all_goals
     generalize W5.setCell ⟨b,6,none⟩ (.int .i64<|B%2)=G at*;clear y4 yp c4 c6 f6 ak Yu qU cT Ii JX aP aR aS Ig aT hw;obtain⟨Z,rH,sN,LM,LG⟩:=H6.out;clear H6;have HF:Hid (bf G.drew w.heap.size b Q j cc (.slice (some ⟨o,r,none⟩) j H) (.slice (some ⟨J,0,none⟩) j I) (.slice (some ⟨D,0,none⟩) j j) d (A%2) (B%2) (bB c a)/\G.drew.ownsRow w.heap.size 21 1 (.slice (some ⟨J,0,none⟩) j I) j (pT<|bB L.rs a)/\aY G.drew w.heap.size 108 D j (iv<|bB c a)/\Below w.heap.size w G.drew/\b<G.drew.heap.size):=⟨⟨Z,LG⟩,LM,rH,sN.drew,cJ Z⟩
     clear Z rH sN LM LG;go_wp2;go_ret;refine⟨b,J,I,Q,cc,D,rfl,?_,HF.out.2.1,HF.out.2.2.1,by have:=O.out;omega,GC.out,HF.out.2.2.2.2,HF.out.2.2.2.1⟩;rw[oG.out,aF.out,aH.out];exact HF.out.1
end
