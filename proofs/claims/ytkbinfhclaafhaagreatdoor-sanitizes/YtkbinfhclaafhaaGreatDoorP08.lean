import Derived.Test.YtkbinfhclaafhaaGreatDoorP07
namespace Go.Proofs.YtkbinfhclaafhaaGreatDoor
open Go.RowKit
open Go.Proofs.Tryz
set_option maxRecDepth 100000
set_option maxHeartbeats 32000000
set_option linter.all false
structure LP where
 B:Nat
 lb:Nat
 gr:Nat
 gt:Nat
 gc:Nat
 gl:Nat
 gm:Nat
 n:Nat
 cr:Nat
 ct:Nat
 p:Int
 rs:List Int
 cs:List Int
def LP.rv(L:LP):Value:= .slice (some ⟨L.gr,0,none⟩) L.n L.cr
def LP.has(L:LP)(g:Nat):Prop:=g=L.lb∨g=L.gr∨g=L.gt∨g=L.gc∨g=L.gl∨g=L.gm
structure LX(w:World)(L:LP)(ks ls:List Int):Prop where
 cell:w.heap[L.lb]? =some (.cells #[L.rv,.slice (some ⟨L.gt,0,none⟩) L.n L.ct,.slice (some ⟨L.gc,0,none⟩) L.n L.n,.slice (some ⟨L.gl,0,none⟩) L.n L.n,.slice (some ⟨L.gm,0,none⟩) L.n L.n,.int .i64 L.p] 141 (0,0))
 ru:∀k,k<L.n->w.cell? ⟨L.gr,k,none⟩=some (.int .i32<|L.rs.getD k 0)
 tb:bI w L.gt 0 L.cs
 ms:bI w L.gm 0<|ny L.cs
 len:L.cs.length=L.n
 rc:aY w L.B 108 L.gc L.n<|iv ks
 rl:aY w L.B 3 L.gl L.n<|iv ls
 lt:∀g,L.has g->g<w.heap.size
 nl:L.gl≠L.lb/\L.gl≠L.gr/\L.gl≠L.gt/\L.gl≠L.gc/\L.gl≠L.gm
 nc:L.gc≠L.lb/\L.gc≠L.gr/\L.gc≠L.gt/\L.gc≠L.gm
structure XP(w:World)(L:LP)(s:Nat)(v:Value)(ks ls:List Int)(x:XS):Prop where
 wk:bQ w L.B s v (.pointer<|some ⟨L.lb,0,none⟩) x
 ln:LX w L ks ls
 ap:∀g,L.has g->g≠s/\v.ownBlock≠some g
section
variable{w w':World}{L:LP}{s:Nat}{v v':Value}{ks ls:List Int}{x x':XS}
def bI.FY {w c:World}{b a:Nat}{l:List Int}(h:bI w b a l)(d:c.heap[b]? =w.heap[b]?):bI c b a l:=λi e=>by
 have:=h i e;simp only[World.cell?]at this ⊢;rw[d];exact this
def LX.lnR(h:LX w L ks ls):Az w L.lb L.gt L.gm L.n L.ct L.n L.rv (.slice (some ⟨L.gc,0,none⟩) L.n L.n) (.slice (some ⟨L.gl,0,none⟩) L.n L.n) L.p L.cs:=⟨h.cell,h.tb,h.ms,h.len⟩
def LX.same(h:LX w L ks ls)(e:w.heap.size<=w'.heap.size)(a:∀g,L.has g->w'.heap[g]? =w.heap[g]?):LX w' L ks ls:=by
 have u:∀g,L.has g->∀k,w'.cell? ⟨g,k,none⟩=w.cell? ⟨g,k,none⟩:=λg c k=>by simp only[World.cell?];rw[a g c]
 refine⟨by rw[a L.lb<|by simp[LP.has]];exact h.cell,λk b=>by rw[u L.gr<|by simp[LP.has]];exact h.ru k b,h.tb.FY<|a L.gt<|by simp[LP.has],h.ms.FY<|a L.gm<|by simp[LP.has],h.len,?_,?_,λg c=>kQ (h.lt g c) e,h.nl,h.nc⟩
 .exact nB h.rc λk o b d=>by
   obtain rfl:L.gc=k:=(by simpa [Value.ownBlock]using b);rw[a L.gc<|by simp[LP.has]];exact d
 .exact nB h.rl λk o b d=>by
   obtain rfl:L.gl=k:=(by simpa [Value.ownBlock]using b);rw[a L.gl<|by simp[LP.has]];exact d
def LX.below(h:LX w L ks ls)(a:Below w.heap.size w w'):LX w' L ks ls:=h.same a.size λg b=>a.block g<|h.lt g b
def XP.below(h:XP w L s v ks ls x)(a:Below w.heap.size w w'):XP w' L s v ks ls x:=⟨h.wk.below a,h.ln.below a,h.ap⟩
def XP.DK(h:XP w L s v ks ls x)(c:bQ w' L.B s v' (.pointer<|some ⟨L.lb,0,none⟩) x')(b:bz w w' s v v'):XP w' L s v' ks ls x':=
 ⟨c,h.ln.same b.size λg a=>b.block g (h.ln.lt g a) (h.ap g a).1 (h.ap g a).2,λg a=>⟨(h.ap g a).1,b.G6 (h.ln.lt g a) (h.ap g a).2⟩⟩
def LX.Gf(h:LX w L ks ls)(k:Nat)(a:Int):LX (w.setCell ⟨L.gl,k,none⟩ (.int .i64 a)) L ks (ls.set k a):=by
 have b:∀g,g≠L.gl->(w.setCell ⟨L.gl,k,none⟩ (.int .i64 a)).heap[g]? =w.heap[g]? :=λg c=>iF _ _ _ _ c
 have u:∀g,g≠L.gl->∀j,(w.setCell ⟨L.gl,k,none⟩ (.int .i64 a)).cell? ⟨g,j,none⟩=w.cell? ⟨g,j,none⟩:=λg c j=>by simp only[World.cell?];rw[b g c]
 obtain⟨e,f,i,l,m⟩:=h.nl;exact⟨by rw[b L.lb e.symm];exact h.cell,λj d=>by rw[u L.gr f.symm];exact h.ru j d,h.tb.FY<|b L.gt i.symm,h.ms.FY<|b L.gm m.symm,h.len,h.rc.setOther L.gl k _ l.symm,by rw[<-Iz];exact h.rl.set k _,λg c=>by simpa using h.lt g c,h.nl,h.nc⟩
def LX.Xh(h:LX w L ks ls)(k:Nat)(a:Int):LX (w.setCell ⟨L.gc,k,none⟩ (.int .i64 a)) L (ks.set k a) ls:=by
 have b:∀g,g≠L.gc->(w.setCell ⟨L.gc,k,none⟩ (.int .i64 a)).heap[g]? =w.heap[g]? :=λg c=>iF _ _ _ _ c
 have u:∀g,g≠L.gc->∀j,(w.setCell ⟨L.gc,k,none⟩ (.int .i64 a)).cell? ⟨g,j,none⟩=w.cell? ⟨g,j,none⟩:=λg c j=>by simp only[World.cell?];rw[b g c]
 obtain⟨e,f,i,l⟩:=h.nc;exact⟨by rw[b L.lb e.symm];exact h.cell,λj d=>by rw[u L.gr f.symm];exact h.ru j d,h.tb.FY<|b L.gt i.symm,h.ms.FY<|b L.gm l.symm,h.len,by rw[<-Iz];exact h.rc.set k _,h.rl.setOther L.gc k _ h.nl.2.2.2.1,λg c=>by simpa using h.lt g c,h.nl,h.nc⟩
def XP.Gf(h:XP w L s v ks ls x)(k:Nat)(a:Int):XP (w.setCell ⟨L.gl,k,none⟩ (.int .i64 a)) L s v ks (ls.set k a) x:=
 ⟨h.wk.setOther (h.ap L.gl<|by simp[LP.has]).1 (h.ap L.gl<|by simp[LP.has]).2 k _,h.ln.Gf k a,h.ap⟩
def XP.Xh(h:XP w L s v ks ls x)(k:Nat)(a:Int):XP (w.setCell ⟨L.gc,k,none⟩ (.int .i64 a)) L s v (ks.set k a) ls x:=
 ⟨h.wk.setOther (h.ap L.gc<|by simp[LP.has]).1 (h.ap L.gc<|by simp[LP.has]).2 k _,h.ln.Xh k a,h.ap⟩
def XP.drew(h:XP w L s v ks ls x):XP w.drew L s v ks ls x:=h.below (aA _ _).drew
end
def zW(c o:Int):Int:=if o= -1 then c else o
def aqQ(w:World)(L:LP)(s:Nat)(v:Value)(j m:List Int)(x:XS)(h:XP w L s v j m x)(A:x.st≠[])(R:x.st.length<=1000)(i:Nat)(E:i<L.n):
  Calls prog 201 #[.pointer<|some ⟨s,0,none⟩,.int .i64 i] w λr F=>r= .returned (.tuple #[])/\XP F L s v (j.set i<|zW (j.getD i 0) (aS x.st).o) (m.set i (aS x.st).l) x/\Below L.B w F:=by
 have q:Hid (Calls prog 238 #[.pointer<|some ⟨s,1,none⟩] w λr F=>r= .returned (.agg #[.int .i64 (aS x.st).l,.int .i64 (aS x.st).o,.bool (aS x.st).i])/\Below w.heap.size w F):=XC w L.B s v _ x _ h.wk (agx A) (by omega);have C:Hid (∀W,Below w.heap.size w W->XP W L s v j m x):=λW g=>h.below g
 have y:L.B<=w.heap.size:=bP h.wk.low<|gF<|cJ h.wk.cell;have u:L.B<=L.gl:=h.ln.rl.ge.1;have M:L.B<=L.gc:=h.ln.rc.ge.1;have B:Hid (j.length=L.n/\m.length=L.n):=⟨by have:=h.ln.rc.1;simpa [iv]using this,by have:=h.ln.rl.1;simpa [iv]using this⟩
 have Q:(i:Int)<(L.n:Int):=by omega
 clear h A R;generalize aS x.st=t at*;obtain⟨b,a,d⟩:=t;simp only at q ⊢;unfold zW;by_cases N:a= -1
 .subst N;rw[aj rfl];go_enter func201,ntmps201;go_wp2_with fail;refine q.out.mono ?_;rintro r c ⟨rfl,g⟩;have k:Below w.heap.size w (c.alloc (.cells #[.int .i64 b,.int .i64 (-1),.bool d] 215)):=g.alloc g.size _;have f:=C.out _ k;have H:(c.alloc (.cells #[.int .i64 b,.int .i64 (-1),.bool d] 215)).cell? ⟨s,0,none⟩=some (.pointer<|some ⟨L.lb,0,none⟩):=az f.wk.cell 0;have O:(c.alloc (.cells #[.int .i64 b,.int .i64 (-1),.bool d] 215)).cell? ⟨L.lb,3,none⟩=some (.slice (some ⟨L.gl,0,none⟩) L.n L.n):=az f.ln.cell 3;have J:(c.alloc (.cells #[.int .i64 b,.int .i64 (-1),.bool d] 215)).cell? ⟨L.gl,i,none⟩=some (.int .i64<|m.getD i 0):=jk f.ln.rl i (by rw[B.out.2];exact E);have K:(c.alloc (.cells #[.int .i64 b,.int .i64 (-1),.bool d] 215)).frozen? ⟨L.gl,i,none⟩=false:=f.ln.rl.frozen i;have z:L.gl≠c.heap.size:=by
   have:=(C.out _ g).ln.rl.ge.2;omega
  have I:=ah k;have G:Hid _:=f;clear g k f q;go_wp2;go_region;all_goals
   go_wp2;go_end0;refine⟨rfl,?_,(I.out.mono y).drew.setCell (p:=⟨L.gl,i,none⟩) u _⟩;have e:j.set i (j.getD i 0)=j:=by
    rw[aO,aM<|by rw[B.out.1];exact E];exact List.set_getElem_self _
   rw[e];exact G.out.drew.Gf i b
 .rw[ai N];have S:(a != -1)=true:=by simpa using N
  go_enter func201,ntmps201;go_wp2_with fail;refine q.out.mono ?_;rintro r c ⟨rfl,g⟩;have k:Below w.heap.size w (c.alloc (.cells #[.int .i64 b,.int .i64 a,.bool d] 215)):=g.alloc g.size _;have f:=C.out _ k;have H:(c.alloc (.cells #[.int .i64 b,.int .i64 a,.bool d] 215)).cell? ⟨s,0,none⟩=some (.pointer<|some ⟨L.lb,0,none⟩):=az f.wk.cell 0;have O:(c.alloc (.cells #[.int .i64 b,.int .i64 a,.bool d] 215)).cell? ⟨L.lb,3,none⟩=some (.slice (some ⟨L.gl,0,none⟩) L.n L.n):=az f.ln.cell 3;have J:(c.alloc (.cells #[.int .i64 b,.int .i64 a,.bool d] 215)).cell? ⟨L.gl,i,none⟩=some (.int .i64<|m.getD i 0):=jk f.ln.rl i (by rw[B.out.2];exact E);have K:(c.alloc (.cells #[.int .i64 b,.int .i64 a,.bool d] 215)).frozen? ⟨L.gl,i,none⟩=false:=f.ln.rl.frozen i;have z:L.gl≠c.heap.size:=by
   have:=(C.out _ g).ln.rl.ge.2;omega
  have I:=ah k;have G:Hid _:=f;clear g k f q;go_wp2;go_region;all_goals
   have n:=ah<|(G.out.Gf i b).drew;have P:Hid (Below L.B w ((c.alloc (.cells #[.int .i64 b,.int .i64 a,.bool d] 215)).setCell ⟨L.gl,i,none⟩ (.int .i64 b)).drew):=((I.out.mono y).setCell (p:=⟨L.gl,i,none⟩) u _).drew;have U:((c.alloc (.cells #[.int .i64 b,.int .i64 a,.bool d] 215)).setCell ⟨L.gl,i,none⟩ (.int .i64 b)).drew.cell? ⟨c.heap.size,1,none⟩=some (.int .i64 a):=by
    show((c.alloc (.cells #[.int .i64 b,.int .i64 a,.bool d] 215)).setCell ⟨L.gl,i,none⟩ (.int .i64 b)).cell? ⟨c.heap.size,1,none⟩=_;rw[World.cell?_setCell_other _ _ _ _ (by intro e;exact z<|congrArg Addr.block e)];go_simp
   clear H O J K;generalize((c.alloc (.cells #[.int .i64 b,.int .i64 a,.bool d] 215)).setCell ⟨L.gl,i,none⟩ (.int .i64 b)).drew=D at*;have H:D.cell? ⟨s,0,none⟩=some (.pointer<|some ⟨L.lb,0,none⟩):=az n.out.wk.cell 0;have T:D.cell? ⟨L.lb,2,none⟩=some (.slice (some ⟨L.gc,0,none⟩) L.n L.n):=az n.out.ln.cell 2;have J:D.cell? ⟨L.gc,i,none⟩=some (.int .i64<|j.getD i 0):=jk n.out.ln.rc i (by rw[B.out.1];exact E);have K:D.frozen? ⟨L.gc,i,none⟩=false:=n.out.ln.rc.frozen i;go_wp2;go_region;all_goals
    go_wp2;go_end0;exact⟨rfl,n.out.drew.Xh i a,P.out.drew.setCell (p:=⟨L.gc,i,none⟩) M _⟩
def akr(w:World)(B s:Nat)(v b:Value)(x:XS)(m:Int)(h:bQ w B s v b x)(a:dU m x)(o:m<=100000):
  Calls prog 200 #[.pointer<|some ⟨s,0,none⟩] w λf e=>f= .returned (.tuple #[])/\∃d,bQ e B s d b (jd x)/\bz w e s v d:=by
 have g:=a.aK;by_cases j:0<x.aK∨x.valid=0
 .exact akt w B s v b x h ⟨g.1,by omega⟩ j
 .have k:=a.cnt;have n:=a.len;have l:=Ay (·.i) x.st;have c:1<=x.valid:=by omega
  have:=aks w B s v b x h (by omega) (by omega) ⟨c,by omega⟩<|a.Ty c;unfold jd;rw[ai<|by omega,ai<|by omega];exact this
def ard(w:World)(L:LP)(s:Nat)(v:Value)(F N:List Int)(x:XS)(m:Int)(h:XP w L s v F N x)(B:dU m x)(hm:m<=1000)(hn:L.n<=1000)(i:Nat)(hi:i<L.n):
  Calls prog 143 #[.pointer<|some ⟨s,0,none⟩,.int .i64 i] w λa t=>a= .returned (.tuple #[])/\∃V,XP t L s V (F.set i<|zW (F.getD i 0) (aS (dZ x<|L.cs.getD i 0).st).o) (N.set i (aS (dZ x<|L.cs.getD i 0).st).l) (fA L.cs i (dZ x<|L.cs.getD i 0)<|L.cs.getD i 0)/\Below L.B w t:=by
 have P:w.cell? ⟨s,0,none⟩=some (.pointer<|some ⟨L.lb,0,none⟩):=az h.wk.cell 0;have Q:w.cell? ⟨L.lb,1,none⟩=some (.slice (some ⟨L.gt,0,none⟩) L.n L.ct):=az h.ln.cell 1;have f:w.cell? ⟨L.gt,i,none⟩=some (.int .i64<|L.cs.getD i 0):=by
  have:=h.ln.tb i (by rw[h.ln.len];exact hi);simpa using this
 have ad:(i:Int)<(L.n:Int):=by omega
 have k:=B.pre<|L.cs.getD i 0;have z:=k.len;have p:=k.top;have Y:Hid (∀W X K m0,XP W L s X F N K->dU m0 K->Calls prog 201 #[.pointer<|some ⟨s,0,none⟩,.int .i64 i] W λa t=>a= .returned (.tuple #[])/\XP t L s X (F.set i<|zW (F.getD i 0) (aS K.st).o) (N.set i (aS K.st).l) K/\Below L.B W t):=
  λW X K m0 hx h0=>aqQ W L s X F N K hx h0.ne (by have:=h0.len;omega) i hi
 have HX:=ah h;have HO:=ah B;obtain⟨aa,g⟩:=ac<|F.set i<|zW (F.getD i 0) (aS (dZ x<|L.cs.getD i 0).st).o;obtain⟨ab,j⟩:=ac<|N.set i (aS (dZ x<|L.cs.getD i 0).st).l;rw[<-g,<-j];by_cases c:L.cs.getD i 0=21
 .rw[c]at f g j k ⊢;have r:fA L.cs i (dZ x 21) 21=dZ x 21:=by simp[fA]
  rw[r];have C:Hid (Calls prog 200 #[.pointer<|some ⟨s,0,none⟩] w λa t=>a= .returned (.tuple #[])/\∃V,bQ t L.B s V (.pointer<|some ⟨L.lb,0,none⟩) (dZ x 21)/\bz w t s v V):=akr w L.B s v _ x m h.wk B (by omega);have HP:=ah k;have HK:=ah g;have HL:=ah j;clear h B k g j c z p;go_enter func143,ntmps143;go_wp2_with fail;refine C.out.mono ?_;rintro a O ⟨rfl,v2,hW,hF⟩;have b:=ah<|HX.out.DK hW hF;have D:Hid (Below L.B w O):=hF.Hf HX.out.wk<|aA _ _;clear hW hF C P Q f;go_wp2_with fail;refine(Y.out O v2 _ m b.out HP.out).mono ?_;rintro a w3 ⟨rfl,zH,dm⟩;have E:=ah zH;have H:=ah dm;clear zH dm;go_wp2_with fail;refine(Ff 21 _).mono ?_;rintro a G ⟨rfl,hx⟩;subst hx;rw[show mD 21=false from rfl];go_wp2_with fail;refine(nY 21 _).mono ?_;rintro a G ⟨rfl,hx⟩;subst hx;rw[show aU 21=false from rfl];go_wp2;go_end0;refine⟨rfl,v2,?_,D.out.trans H.out⟩;rw[HK.out,HL.out];exact E.out
 .have CT:(L.cs.getD i 0==21)=false:=by simpa using c
  have R:dZ x (L.cs.getD i 0)=x:=by rw[dZ,ai c]
  rw[R]at g j k z p ⊢;have U:Hid (Calls prog 201 #[.pointer<|some ⟨s,0,none⟩,.int .i64 i] w λa t=>a= .returned (.tuple #[])/\XP t L s v aa ab x/\Below L.B w t):=by
   rw[g,j];exact Y.out w v x m h B
  have n:Hid ((x.st≠[]/\x.st.length<=1000)/\(0<=(aS x.st).l/\(aS x.st).l<=1000)/\(0<=x.aK/\x.aK<=100000)/\(0<=x.aN/\x.aN<=100000)/\0<=x.valid/\x.valid<=100000):=by
   have h1:=B.aK;have S:=B.aN;have h3:=B.cnt;have h5:=Ay (·.i) x.st;exact⟨⟨B.ne,by omega⟩,⟨p.2.1,by omega⟩,⟨h1.1,by omega⟩,⟨S.1,by omega⟩,by omega,by omega⟩
  have dF:=ah<|cJ h.wk.cell;clear h B k g j z p R Y HO;cases he:mD<|L.cs.getD i 0
  .cases bJ:aU<|L.cs.getD i 0
   .by_cases M:L.cs.getD i 0=17
    .have r:fA L.cs i x (L.cs.getD i 0)=ko x:=(by rw[M];simp[fA]);rw[r];rw[M]at f;clear he bJ CT c M r;go_enter func143,ntmps143;go_wp2_with fail;refine U.out.mono ?_;rintro a O ⟨rfl,A,u⟩;have b:=ah A;have D:=ah u;clear A u P Q f;go_wp2_with fail;refine(Ff 17 _).mono ?_;rintro a G ⟨rfl,hx⟩;subst hx;rw[show mD 17=false from rfl];go_wp2_with fail;refine(nY 17 _).mono ?_;rintro a G ⟨rfl,hx⟩;subst hx;rw[show aU 17=false from rfl];go_wp2_with fail;refine(apc _ L.B s v _ x b.out.wk n.out.1.1 n.out.1.2 n.out.2.2.2.1.2).mono ?_;rintro a w3 ⟨rfl,v3,y,J⟩;have E:Hid _:=b.out.DK y J;have H:Hid _:=J.Hf b.out.wk D.out;clear y J;go_wp2;go_end0;exact⟨rfl,v3,E.out,H.out⟩
    .have r:fA L.cs i x (L.cs.getD i 0)=x:=by
      have h1:¬(L.cs.getD i 0=13∨L.cs.getD i 0=14∨L.cs.getD i 0=15∨L.cs.getD i 0=16):=by
       intro hh;have:mD (L.cs.getD i 0)=true:=(by simpa [mD]using hh);rw[he]at this;cases this
      have S:¬L.cs.getD i 0=18/\¬L.cs.getD i 0=19/\¬L.cs.getD i 0=20:=by
       refine⟨λe=> ?_,λe=> ?_,λe=> ?_⟩<;>(rw[e]at bJ;cases bJ)
      rw[fA,ai h1,ai S.1,ai S.2.1,ai S.2.2,ai M]
     rw[r];have ae:(L.cs.getD i 0==17)=false:=(by simpa using M);have C:=ah he;have Z:=ah bJ;clear he bJ c M r;generalize L.cs.getD i 0=q at*;go_enter func143,ntmps143;go_wp2_with fail;refine U.out.mono ?_;rintro a O ⟨rfl,A,u⟩;have b:=ah A;have D:=ah u;clear A u P Q f;go_wp2_with fail;refine(Ff q _).mono ?_;rintro a G ⟨rfl,hx⟩;subst hx;rw[C.out];go_wp2_with fail;refine(nY q _).mono ?_;rintro a G ⟨rfl,hx⟩;subst hx;rw[Z.out];go_wp2;go_end0;exact⟨rfl,v,b.out,D.out⟩
   .have hq:=O3 bJ;have r:fA L.cs i x (L.cs.getD i 0)=jr x (if L.cs.getD i 0=18 then 0 else if L.cs.getD i 0=19 then 1 else sL L.cs i):=by
     rcases hq with e|e|e<;>rw[e]<;>simp[fA]
    rw[r];have qU:Hid (∀W,Az W L.lb L.gt L.gm L.n L.ct L.n L.rv (.slice (some ⟨L.gc,0,none⟩) L.n L.n) (.slice (some ⟨L.gl,0,none⟩) L.n L.n) L.p L.cs->W.cell? ⟨s,0,none⟩=some (.pointer<|some ⟨L.lb,0,none⟩)->s<W.heap.size->Calls prog 205 #[.pointer<|some ⟨s,0,none⟩,.int .i64 i] W λe t=>e= .returned (.int .i64 (if L.cs.getD i 0=18 then 0 else if L.cs.getD i 0=19 then 1 else sL L.cs i))/\Below W.heap.size W t):=λW hr hc hs=>amY W s L.lb L.gt L.gm L.n L.ct L.n L.rv _ _ L.p L.cs hr hn hc hs i hi hq
    have C:=ah he;have Z:=ah bJ;clear he bJ c r hq;generalize(if L.cs.getD i 0=18 then(0:Int)else if L.cs.getD i 0=19 then 1 else sL L.cs i)=d at*;generalize L.cs.getD i 0=q at*;go_enter func143,ntmps143;go_wp2_with fail;refine U.out.mono ?_;rintro a O ⟨rfl,A,u⟩;have b:=ah A;have D:=ah u;clear A u P Q f;go_wp2_with fail;refine(Ff q _).mono ?_;rintro a G ⟨rfl,hx⟩;subst hx;rw[C.out];go_wp2_with fail;refine(nY q _).mono ?_;rintro a G ⟨rfl,hx⟩;subst hx;rw[Z.out];go_wp2_with fail;refine(qU.out _ b.out.ln.lnR (az b.out.wk.cell 0) (cJ b.out.wk.cell)).mono ?_;rintro a w3 ⟨rfl,I⟩;have E:=ah<|b.out.below I;have H:=ah<|D.out.trans<|I.mono<|bP b.out.wk.low<|gF<|cJ b.out.wk.cell;clear I;go_wp2_with fail;refine(amZ _ L.B s v _ x d E.out.wk n.out.1.1 n.out.1.2 n.out.2.1.1 n.out.2.1.2 n.out.2.2.1 n.out.2.2.2.2).mono ?_;rintro a w4 ⟨rfl,v4,T,pL⟩;have E5:Hid _:=E.out.DK T pL;have cT:Hid _:=pL.Hf E.out.wk H.out;clear T pL;go_wp2;go_end0;exact⟨rfl,v4,E5.out,cT.out⟩
  .have r:fA L.cs i x (L.cs.getD i 0)=jF x (L.cs.getD i 0):=by
    have:L.cs.getD i 0=13∨L.cs.getD i 0=14∨L.cs.getD i 0=15∨L.cs.getD i 0=16:=(by simpa [mD]using he);rw[fA,aj this]
   rw[r];have C:=ah he;clear he c r;generalize L.cs.getD i 0=q at*;go_enter func143,ntmps143;go_wp2_with fail;refine U.out.mono ?_;rintro a O ⟨rfl,A,u⟩;have b:=ah A;have D:=ah u;clear A u P Q f;go_wp2_with fail;refine(Ff q _).mono ?_;rintro a G ⟨rfl,hx⟩;subst hx;rw[C.out];go_wp2_with fail;refine(akk _ L.B s v _ x q C.out b.out.wk n.out.1.1 n.out.1.2 n.out.2.1.1 n.out.2.1.2 n.out.2.2.2.1).mono ?_;rintro a w3 ⟨rfl,v3,y,J⟩;have E:Hid _:=b.out.DK y J;have H:Hid _:=J.Hf b.out.wk D.out;clear y J;go_wp2;go_end0;exact⟨rfl,v3,E.out,H.out⟩
def tS(a:List aV):Prop:=∀e∈a,e.o= -1∨0<=e.o
def tS.app {b:List aV}{e:aV}(h:tS b)(c:e.o= -1∨0<=e.o):tS (b++[e]):=λy a=>by
 rcases jL.1 a with a|a
 .exact h y a
 .rw[qX.1 a];exact c
def tS.sub {b a:List aV}(h:tS b)(d:∀e∈a,e∈b):tS a:=λe c=>h e<|d e c
def WH(a:List aV):∀e∈iz a,e∈a:=by
 intro e b;unfold iz at b;have c:=ah4.1 b;have d:e∈a.reverse.dropWhile λe=> !e.i:=List.mem_of_mem_drop c
 have f:e∈a.reverse:=(List.dropWhile_sublist _).mem d;exact ah4.1 f
def tS.pre {x:XS}(h:tS x.st)(c:Int):tS (dZ x c).st:=by
 unfold dZ;split
 .unfold jd;split
  .exact h
  .split
   .exact h
   .exact h.sub (WH _)
 .exact h
def tS.post {x:XS}(h:tS x.st)(d:List Int)(i:Nat)(c:Int):tS (fA d i x c).st:=by
 have a:∀b,tS (jr x b).st:=λb=>by
  unfold jr;simp only;split
  .exact h.app (.inl rfl)
  .exact h
 unfold fA;split
 .have g:(if c=15 then(0:Int)else if c=16 then 1 else -1)= -1∨0<=(if c=15 then(0:Int)else if c=16 then 1 else -1):=by
   split
   .exact .inr (by decide)
   .split
    .exact .inr (by decide)
    .exact .inl rfl
  unfold jF;simp only;generalize(if c=15 then(0:Int)else if c=16 then 1 else -1)=o at*;generalize gz (aS x.st).l _=n;split
  .exact h.app g
  .split<;>exact h
 .split
  .exact a _
  .split
   .exact a _
   .split
    .exact a _
    .split
     .unfold ko;split
      .exact h
      .split
       .exact h
       .split
        .exact h.sub λe f=>ZI _ f
        .exact h
     .exact h
def ag0(b:List Int)(a:Int):∀i,tS (eP b a i).st
 |0=>by intro e c;rw[eP]at c;rw[qX.1 c];exact .inl rfl
 |i+1=>by rw[eP];exact((ag0 b a i).pre _).post b i _
def Qq {a:List aV}(h:a≠[]):aS a∈a:=by
 unfold aS;rw[r8,GP h];exact ah0 h
def asA(b:List Int)(a:Int)(c:0<=a/\a<=125)(i:Nat):(iq b a i).o= -1∨0<=(iq b a i).o:=
 ((ag0 b a i).pre _) _ (Qq ((yT b a c i).pre _).ne)
def kP(b:List Int)(a:Int):List Int:=(List.range b.length).map λi=>zW (b.getD i 0) (iq b a i).o
def Ga {a:Type}(n:Nat)(f:Nat->a)(d:a)(j:Nat)(b:j<n):((List.range n).map f).getD j d=f j:=by
 rw[aO,jq,J2 b];rfl
def am4 {b:List Int}{a:Int}(e:0<=a/\a<=125){i:Nat}(c:i<b.length)(d:bV (b.getD i 0)=true):(kP b a).getD i 0=(iN b a).getD i 0:=by
 rw[kP,iN,Ga _ _ _ _ c,Ga _ _ _ _ c,kindOf,zW];rcases asA b a e i with h|h
 .rw[aj h,ai<|by omega]
 .rw[ai<|by omega,aj ⟨d,h⟩]
def nQ(n k:Nat)(l:List Int)(f g:Nat->Int):Prop:=l.length=n/\∀j,j<n->l.getD j 0=if j<k then f j else g j
def nQ.step {n k:Nat}{l:List Int}{f g:Nat->Int}(h:nQ n k l f g)(d:k<n):nQ n (k+1) (l.set k<|f k) f g:=by
 refine⟨by rw[ZN];exact h.1,λj c=> ?_⟩;by_cases a:j=k
 .subst a;rw[zC<|by rw[h.1];exact d,aj<|by omega]
 .rw[getD_set_ne λe=>a e.symm,h.2 j c];by_cases b:j<k
  .rw[aj b,aj<|by omega]
  .rw[ai b,ai<|by omega]
def nQ.done {n:Nat}{l:List Int}{f g:Nat->Int}(h:nQ n n l f g):l=(List.range n).map f:=by
 apply J0;intro j;rcases cP j n with a|a
 .have:=h.2 j a;rw[aj a,aO,aM<|by rw[h.1];exact a]at this;rw[aM<|by rw[h.1];exact a,jq,J2 a];exact congrArg some this
 .rw[rZ<|by rw[h.1];exact a,rZ<|by simp;exact a]
def X9 {a:List Int}{k:Nat}(b:k<a.length):(aQ a).getD k false=bV (a.getD k 0):=by
 rw[aQ,aO,jq,aO,aM b];rfl
section
variable{w:World}{L:LP}{ks ls:List Int}
def LX.ct(h:LX w L ks ls)(k:Nat)(a:k<L.n):w.cell? ⟨L.gt,k,none⟩=some (.int .i64<|L.cs.getD k 0):=by
 have:=h.tb k (by rw[h.len];exact a);simpa using this
def LX.cm(h:LX w L ks ls)(k:Nat)(a:k<L.n):w.cell? ⟨L.gm,k,none⟩=some (.int .i64<|(ny L.cs).getD k 0):=by
 have:=h.ms k (by rw[aei,h.len];exact a);simpa using this
def LX.kl(h:LX w L ks ls):ks.length=L.n/\ls.length=L.n:=⟨by have:=h.rc.1;simpa [iv]using this,by have:=h.rl.1;simpa [iv]using this⟩
def LX.cl(h:LX w L ks ls)(k:Nat)(a:k<L.n):w.cell? ⟨L.gl,k,none⟩=some (.int .i64<|ls.getD k 0):=jk h.rl k<|by rw[h.kl.2];exact a
def LX.ck(h:LX w L ks ls)(k:Nat)(a:k<L.n):w.cell? ⟨L.gc,k,none⟩=some (.int .i64<|ks.getD k 0):=jk h.rc k<|by rw[h.kl.1];exact a
def LX.f1(h:LX w L ks ls):w.cell? ⟨L.lb,1,none⟩=some (.slice (some ⟨L.gt,0,none⟩) L.n L.ct):=az h.cell 1
def LX.f2(h:LX w L ks ls):w.cell? ⟨L.lb,2,none⟩=some (.slice (some ⟨L.gc,0,none⟩) L.n L.n):=az h.cell 2
def LX.f3(h:LX w L ks ls):w.cell? ⟨L.lb,3,none⟩=some (.slice (some ⟨L.gl,0,none⟩) L.n L.n):=az h.cell 3
def LX.f4(h:LX w L ks ls):w.cell? ⟨L.lb,4,none⟩=some (.slice (some ⟨L.gm,0,none⟩) L.n L.n):=az h.cell 4
def LX.f5(h:LX w L ks ls):w.cell? ⟨L.lb,5,none⟩=some (.int .i64 L.p):=az h.cell 5
end
def ali(w:World)(L:LP)(p r:List Int)(h:LX w L p r)(f:Nat)(d:f<L.n):
  Calls prog 157 #[.pointer<|some ⟨L.lb,0,none⟩,.int .i64 f] w λe s=>e= .returned (.bool<|L.cs.getD f 0==21&&decide (0<=opener L.cs f))/\s=w:=by
 have t:=h.f1;have u:=h.f4;have k:=h.ct f d;have v:=h.cm f d;have n:(f:Int)<(L.n:Int):=by omega
 have g:L.cs.getD f 0=21->((ny L.cs).getD f 0≠ -1↔0<=opener L.cs f):=λe=>anB (by rw[h.len];exact d) e
 generalize opener L.cs f=o at*;generalize L.cs.getD f 0=c at*;generalize(ny L.cs).getD f 0=m at*;clear h;by_cases a:c=21
 .subst a;have i:(m != -1)=decide (0<=o):=by
   have:=g rfl;by_cases e:m= -1
   .have:¬0<=o:=λh=>this.2 h e
    simp[e,this]
   .have:0<=o:=this.1 e;simp[e,this]
  have j:=ah i;clear g i;generalize l:decide (0<=o)=b at*;clear l;cases hq:(m != -1)
  all_goals
   go_enter func157,ntmps157;go_wp2;go_ret;exact⟨gY<|by rw[<-j.out,hq];rfl,rfl⟩
 .have q:=ae a;clear g;go_enter func157,ntmps157;go_wp2;go_ret;exact⟨gY<|by rw[q];rfl,rfl⟩
def sY(b:List Int)(a:Nat):Int:=if aU (b.getD a 0)=true then(if mt b a<b.length then(mt b a:Int)else -1)else -1
def an1(w:World)(L:LP)(n p:List Int)(h:LX w L n p)(f:Nat)(d:f<L.n):
  Calls prog 156 #[.pointer<|some ⟨L.lb,0,none⟩,.int .i64 f] w λe q=>e= .returned (.int .i64<|sY L.cs f)/\q=w:=by
 have s:=h.f1;have t:=h.f4;have j:=h.ct f d;have u:=h.cm f d;have l:(f:Int)<(L.n:Int):=by omega
 have g:aU (L.cs.getD f 0)=true->(ny L.cs).getD f 0=sY L.cs f:=λe=>by rw[sY,aj e,VT (by rw[h.len];exact d) e]
 have i:aU (L.cs.getD f 0)=false->sY L.cs f= -1:=λe=>by rw[sY,ai<|by rw[e];decide]
 generalize sY L.cs f=o at*;generalize L.cs.getD f 0=c at*;generalize(ny L.cs).getD f 0=m at*;clear h;cases hi:aU c
 .have:=i hi;subst this;have b:=ah hi;clear g i hi;go_enter func156,ntmps156;go_wp2_with fail;refine(nY c _).mono ?_;rintro k r ⟨rfl,hx⟩;have a:=hx.symm;subst a;rw[b.out];go_wp2;go_ret;exact⟨rfl,rfl⟩
 .have:=g hi;subst this;have b:=ah hi;clear g i hi;go_enter func156,ntmps156;go_wp2_with fail;refine(nY c _).mono ?_;rintro k r ⟨rfl,hx⟩;have a:=hx.symm;subst a;rw[b.out];go_wp2;go_ret;exact⟨rfl,rfl⟩
def ain(w:World)(L:LP)(x d:List Int)(h:LX w L x d)(H:L.n<=1000)(f:Nat)(G:f<L.n):
  Calls prog 219 #[.pointer<|some ⟨L.lb,0,none⟩,.int .i64 f] w λe z=>e= .returned (.int .i64<|kz d (aQ L.cs) L.p f)/\z=w:=by
 have B:=h.f1;have C:=h.f3;have D:=h.f5;have p:Hid (∀k:Nat,k<L.n->w.cell? ⟨L.gt,k,none⟩=some (.int .i64<|L.cs.getD k 0)/\w.cell? ⟨L.gl,k,none⟩=some (.int .i64<|d.getD k 0)/\(aQ L.cs).getD k false=bV (L.cs.getD k 0)):=λk g=>⟨h.ct k g,h.cl k g,X9<|by rw[h.len];exact g⟩
 obtain⟨P,l⟩:=ac<|kz d (aQ L.cs) L.p f;rw[<-l];have b:=ah l.symm;clear h l;go_enter func219,ntmps219;go_wp2;go_loopg [5] f (λs y W=>∃k:Nat,k<=f/\s=k/\y= .int .i64 ((k:Int) - 1)/\W=w/\kz d (aQ L.cs) L.p k=P);exact⟨f,au _,rfl,rfl,rfl,b.out⟩;obtain⟨k,g,rfl,rfl,t,a⟩:=hrel;have m:=t.symm;subst m;clear b;cases gk with
 |zero=>
  have o:L.p=P:=a;subst o;go_wp2;go_ret;exact⟨rfl,rfl⟩
 |succ k=>
  have n:k<L.n:=by omega
  obtain⟨E,F,j⟩:=p.out k n;have q:((k+1:Nat):Int) - 1=(k:Int):=by omega
  rw[q];rw[kz,j]at a;have u:(k:Int)<(L.n:Int):=by omega
  have v:(0:Int)<=(k:Int):=by omega
  generalize L.cs.getD k 0=c at*;cases hl:bV c
  .rw[hl,ai<|by decide]at a;have i:Hid ((!bV c)=true):=(by show _=_;rw[hl];rfl);have b:=ah a;clear a hl j;go_wp2_with fail;refine(yF c _).mono ?_;rintro r A ⟨rfl,hx⟩;subst hx;rw[i.out];go_wp2;go_roundg k;exact⟨k,by omega,rfl,by go_num,rfl,b.out⟩;omega
  .rw[hl,aj rfl]at a;have i:Hid ((!bV c)=false):=(by show _=_;rw[hl];rfl);have b:=ah a;clear a hl j;go_wp2_with fail;refine(yF c _).mono ?_;rintro r A ⟨rfl,hx⟩;subst hx;rw[i.out];go_wp2;go_ret;exact⟨dM b.out,rfl⟩
def aiU(w:World)(L:LP)(S j:List Int)(h:LX w L S j)(Z:L.n<=1000)(f:Nat)(E:f<L.n):
  Calls prog 220 #[.pointer<|some ⟨L.lb,0,none⟩,.int .i64 f] w λe T=>e= .returned (.int .i64<|qh L.cs j (aQ L.cs) L.p f)/\T=w:=by
 have U:=h.f1;have V:=h.f3;have X:=h.f4;have Y:=h.f5;have K:=h.cm f E;have s:=h.ct f E;have R:(f:Int)<(L.n:Int):=by omega
 have J:Hid (∀k:Nat,k<L.n->w.cell? ⟨L.gt,k,none⟩=some (.int .i64<|L.cs.getD k 0)/\w.cell? ⟨L.gl,k,none⟩=some (.int .i64<|j.getD k 0)/\(aQ L.cs).getD k false=bV (L.cs.getD k 0)):=λk x=>⟨h.ct k x,h.cl k x,X9<|by rw[h.len];exact x⟩
 have v:aU (L.cs.getD f 0)=true->((ny L.cs).getD f 0= -1↔mt L.cs f=L.cs.length):=λe=>by
  rw[VT (by rw[h.len];exact E) e];have:=um L.cs f (by rw[h.len];omega);by_cases z:mt L.cs f<L.cs.length
  .rw[aj z];omega
  .rw[ai z];simp;omega
 have i:=h.len;unfold qh;rw[i]at v ⊢;clear h i;generalize(ny L.cs).getD f 0=m at*;by_cases hx:aU (L.cs.getD f 0)=true/\mt L.cs f=L.n
 .rw[aj hx];have z:m= -1:=(v hx.1).2 hx.2;subst z;have M:=ah hx.1;clear v hx;generalize L.cs.getD f 0=c at*;go_enter func220,ntmps220;go_wp2_with fail;refine(nY c _).mono ?_;rintro t A ⟨rfl,hx⟩;have r:=hx.symm;subst r;rw[M.out];go_wp2;go_ret;exact⟨rfl,rfl⟩
 .rw[ai hx];obtain⟨P,C⟩:=ac<|mj j (aQ L.cs) L.p L.n<|L.n - (f+1);rw[<-C];have d:=ah C.symm;clear C;have B:Hid (aU (L.cs.getD f 0)=true->(m== -1)=false):=λe=>by
   have:=v e;simp only[Kk];intro Q;exact hx ⟨e,this.1 Q⟩
  clear v hx;generalize L.cs.getD f 0=c at*;go_enter func220,ntmps220;go_wp2_with fail;refine(nY c _).mono ?_;rintro t A ⟨rfl,hx⟩;have r:=hx.symm;subst r;cases hi:aU c;case false=>
   clear hi B;go_wp2;clear s K;go_loopg [5] (L.n - (f+1)) (λu I W=>∃k:Nat,f+1<=k/\k<=L.n/\u=L.n - k/\I= .int .i64 k/\W=w/\mj j (aQ L.cs) L.p L.n u=P);exact⟨f+1,au _,by omega,rfl,by go_num,rfl,d.out⟩;obtain⟨k,F,x,rfl,rfl,D,a⟩:=hrel;have o:=D.symm;subst o;clear d;by_cases p:k<L.n
   .obtain⟨N,O,n⟩:=J.out k p;obtain⟨g2,b⟩:∃g2,L.n - k=g2+1:=⟨L.n - k - 1,by omega⟩
    rw[b,mj,show L.n - (g2+1)=k by omega,n]at a;have G:(k:Int)<(L.n:Int):=(by omega);generalize L.cs.getD k 0=g at*;cases hl:bV g
    .rw[hl,ai<|by decide]at a;have l:Hid ((!bV g)=true):=(by show _=_;rw[hl];rfl);have d:Hid (mj j (aQ L.cs) L.p L.n (L.n - (k+1))=P):=(by show _=_;rw[show L.n - (k+1)=g2 by omega];exact a);clear a hl n b;go_wp2_with fail;refine(yF g _).mono ?_;rintro t A ⟨rfl,hx⟩;subst hx;rw[l.out];go_wp2;go_roundg (L.n - (k+1));exact⟨k+1,by omega,by omega,rfl,by go_num,rfl,d.out⟩;omega
    .rw[hl,aj rfl]at a;have l:Hid ((!bV g)=false):=(by show _=_;rw[hl];rfl);have d:=ah a;clear a hl n b;go_wp2_with fail;refine(yF g _).mono ?_;rintro t A ⟨rfl,hx⟩;subst hx;rw[l.out];go_wp2;go_ret;exact⟨dM d.out,rfl⟩
   .have H:L.n - k=0:=(by omega);rw[H]at a;have q:L.p=P:=a;subst q;have y:¬(k:Int)<(L.n:Int):=(by omega);go_wp2;go_ret;exact⟨rfl,rfl⟩
  case true=>
   have z:=B.out hi;clear hi B;go_wp2;clear s K;go_loopg [5] (L.n - (f+1)) (λu I W=>∃k:Nat,f+1<=k/\k<=L.n/\u=L.n - k/\I= .int .i64 k/\W=w/\mj j (aQ L.cs) L.p L.n u=P);exact⟨f+1,au _,by omega,rfl,by go_num,rfl,d.out⟩;obtain⟨k,F,x,rfl,rfl,D,a⟩:=hrel;have o:=D.symm;subst o;clear d;by_cases p:k<L.n
   .obtain⟨N,O,n⟩:=J.out k p;obtain⟨g2,b⟩:∃g2,L.n - k=g2+1:=⟨L.n - k - 1,by omega⟩
    rw[b,mj,show L.n - (g2+1)=k by omega,n]at a;have G:(k:Int)<(L.n:Int):=(by omega);generalize L.cs.getD k 0=g at*;cases hl:bV g
    .rw[hl,ai<|by decide]at a;have l:Hid ((!bV g)=true):=(by show _=_;rw[hl];rfl);have d:Hid (mj j (aQ L.cs) L.p L.n (L.n - (k+1))=P):=(by show _=_;rw[show L.n - (k+1)=g2 by omega];exact a);clear a hl n b;go_wp2_with fail;refine(yF g _).mono ?_;rintro t A ⟨rfl,hx⟩;subst hx;rw[l.out];go_wp2;go_roundg (L.n - (k+1));exact⟨k+1,by omega,by omega,rfl,by go_num,rfl,d.out⟩;omega
    .rw[hl,aj rfl]at a;have l:Hid ((!bV g)=false):=(by show _=_;rw[hl];rfl);have d:=ah a;clear a hl n b;go_wp2_with fail;refine(yF g _).mono ?_;rintro t A ⟨rfl,hx⟩;subst hx;rw[l.out];go_wp2;go_ret;exact⟨dM d.out,rfl⟩
   .have H:L.n - k=0:=(by omega);rw[H]at a;have q:L.p=P:=a;subst q;have y:¬(k:Int)<(L.n:Int):=(by omega);go_wp2;go_ret;exact⟨rfl,rfl⟩
def anf(a:List Bool)(k:Nat):jh a (k+1)=jh a k++(if lq a k=true then [k]else []):=by
 rw[jh,J7,rW,rX,GM];rfl
def VK(a:List Bool)(k:Nat):(jh a k).length<=k:=by
 have:=Ay (lq a)<|List.range k;rw[NH]at this;exact this
def IQ {a:List Bool}{n p:Nat}(h:p∈jh a n):p<n/\lq a p=true:=⟨J4.1 (tQ.1 h).1,(tQ.1 h).2⟩
def ang(w:World)(L:LP)(J M:List Int)(h:LX w L J M)(U:L.n<=1000):
  Calls prog 218 #[.pointer<|some ⟨L.lb,0,none⟩] w λe u=>∃v,e= .returned v/\u.ownsRow w.heap.size 3 1 v (jh (aQ L.cs) L.n).length (iv<|nl<|jh (aQ L.cs) L.n)/\Below w.heap.size w u:=by
 obtain⟨I,B,C,D,E⟩:=gu Tryz.rL;have z:=h.f1;have o:=ah h;clear h;go_enter func218,ntmps218;go_wp2;clear z;go_loopg [3,11] L.n (λF P K W=>∃k:Nat,k<=L.n/\F=L.n - k/\K= .int .i64 k/\W.ownsRow w.heap.size 3 1 P (jh (aQ L.cs) k).length (iv<|nl<|jh (aQ L.cs) k)/\Below w.heap.size w W);exact⟨0,by omega,rfl,rfl,gQ _ _ _ _,aA _ _⟩;obtain⟨k,T,rfl,rfl,a,b⟩:=hrel;obtain⟨N,O,rfl⟩:=eH a;have l:=b.size;have G:=VK (aQ L.cs) k;by_cases m:k<L.n
 .have s:=o.out.below b;have S:=s.ct k m;have t:(k:Int)<(L.n:Int):=by omega
  have d:=anf (aQ L.cs) k;have j:lq (aQ L.cs) k=bV (L.cs.getD k 0):=X9 (by rw[o.out.len];exact m);rw[j]at d;clear s j;generalize L.cs.getD k 0=c at*;cases hl:bV c
  .rw[hl,ai<|by decide,l5]at d;have n:Hid ((!bV c)=true):=(by show _=_;rw[hl];rfl);have i:Hid (wr.ownsRow w.heap.size 3 1 (.slice N (jh (aQ L.cs) k).length O) (jh (aQ L.cs)<|k+1).length (iv<|nl<|jh (aQ L.cs)<|k+1)):=(by rw[d];exact a);have g:=ah b;clear hl d a b;go_wp2_with fail;refine(yF c _).mono ?_;rintro A R ⟨rfl,hx⟩;have f:=hx.symm;subst f;rw[n.out];go_wp2;go_roundg (L.n - (k+1));exact⟨k+1,by omega,rfl,by go_num,i.out,g.out⟩;omega
  .rw[hl,aj rfl]at d;have n:Hid ((!bV c)=false):=(by show _=_;rw[hl];rfl);have y:=ah d;clear hl d;go_wp2_with fail;refine(yF c _).mono ?_;rintro A R ⟨rfl,hx⟩;have f:=hx.symm;subst f;rw[n.out];go_wp2_with(at_builtin;refine qK _ rfl _ _ 31 rfl w.heap.size 3 I (.int .i64 0) 8 underlying31 B C D E rfl (by decide) _ _ _ rfl a _ _ rfl rfl (by omega) l ?_);intro Q x r p;have i:Hid (x.ownsRow w.heap.size 3 1 Q (jh (aQ L.cs)<|k+1).length (iv<|nl<|jh (aQ L.cs)<|k+1)):=by
    rw[y.out];have e:iv (nl<|jh (aQ L.cs) k++[k])=iv (nl<|jh (aQ L.cs) k)++[.int .i64 (k:Int)]:=(by simp[iv,nl]);rw[e,bH];exact r
   have g:Hid (Below w.heap.size w x):=b.grown p l λq H=>(a.lt q H).1
   clear r p a b;go_wp2;go_roundg (L.n - (k+1));exact⟨k+1,by omega,rfl,by go_num,i.out,g.out⟩;omega
 .obtain rfl:k=L.n:=by omega
  have i:=ah a;have g:=ah b;clear a b;go_wp2;go_ret;exact⟨_,rfl,i.out,g.out⟩
def o7(g:Nat)(a:Nat×Nat):Value:= .slice (some ⟨g,a.1,none⟩) (a.2 - a.1) (a.2 - a.1)
def dQ(left:List Nat)(a:Nat×Nat):List Nat:=(left.take a.2).drop a.1
structure Dv(w:World)(B:Nat)(v:Value)(g:Nat)(left:List Nat)(aH:List<|Nat×Nat):Prop where
 row:w.ownsRow B 31 1 v aH.length<|aH.map<|o7 g
 lf:bI w g 0<|nl left
 ok:∀ab∈aH,ab.1<ab.2/\ab.2<=left.length
 lt:left≠[]->B<=g/\g<w.heap.size
 ty:left≠[]->∃cs,w.heap[g]? =some (.cells cs 3 (0,0))
def aqh(w:World)(L:LP)(ks c:List Int)(h:LX w L ks c)(hn:L.n<=1000):
  Calls prog 154 #[.pointer<|some ⟨L.lb,0,none⟩] w λe w'=>∃v g b,e= .returned v/\Dv w' w.heap.size v g (jh (aQ L.cs) L.n) b/\b.map (dQ<|jh (aQ L.cs) L.n)=cZ c (aQ L.cs)/\Below w.heap.size w w':=by
 obtain⟨iS,Lj,Ma,Mb,Mc⟩:=gu Tryz.Vq;have HX:=ah h;have YQ:=ah<|ang w L ks c h hn;have ar:=VK (aQ L.cs) L.n;have Gr:Hid (o9 c (jh (aQ L.cs) L.n) (cZ c<|aQ L.cs) [] 0):=by have:=o9.start c<|aQ L.cs;rw[h.kl.2]at this;exact this
 have HM:Hid (∀k,k<(jh (aQ L.cs) L.n).length->(jh (aQ L.cs) L.n).getD k 0<L.n):=λk K=>(IQ<|dG K).1
 clear h;generalize jh (aQ L.cs) L.n=left at*;generalize cZ c (aQ L.cs)=R at*;go_enter func154,ntmps154;go_wp2_with fail;refine YQ.out.mono ?_;rintro ev w2 ⟨lv,rfl,a,S⟩;obtain⟨la,u,rfl⟩:=eH a;obtain⟨g,hg⟩:∃g,0<left.length->la=some ⟨g,0,none⟩:=by
  by_cases B:0<left.length
  .obtain⟨g,O,Y,_⟩:=gI a B;exact⟨g,λ_=>by simpa using(by simpa using Y:la=some ⟨g,0,none⟩/\u=O).1⟩
  .exact⟨0,λh=>absurd h B⟩
 have Y9:=ah a;have aI:=ah S;have Nc:=ah hg;clear a S YQ hg;go_wp2;go_loopg [4,5] left.length (λgh rv fv W=>∃(f:Nat)(b:List<|Nat×Nat),f<=left.length/\gh=left.length - f/\fv= .int .i64 f/\b.length<=f/\W.ownsRow w.heap.size 31 1 rv b.length (b.map<|o7 g)/\W.ownsRow w.heap.size 3 1 (.slice la left.length u) left.length (iv<|nl left)/\Below w.heap.size w W/\(∀n∈b,n.1<n.2/\n.2<=left.length)/\o9 c left R (b.map<|dQ left) f);exact⟨0,[],by omega,rfl,rfl,by simp,gQ _ _ _ _,Y9.out,aI.out,by simp,Gr.out⟩;clear Y9 aI Gr;obtain⟨f,b,hf,rfl,rfl,au,l,a,D,s,hG⟩:=hrel;obtain⟨z,A,rfl⟩:=eH l;have E:=D.size;by_cases p:f<left.length
 .have U:(f:Int)<(left.length:Int):=by omega
  have aj:=Nc.out (by omega);subst aj;have Rv:=ah l;have y:=ah a;have am:left.length<=u:=(gI a<|by omega).choose_spec.choose_spec.2.1|>λh=>by
   obtain⟨g',c',Y,hc,_⟩:=gI a (show 0<left.length by omega);have:u=c':=(by have:=Y;simp at this;exact this.2);omega
  have HB:=ah D;have Y3:=ah s;have HI:=ah<|hG.opn p;have HC:Hid (∀k,k<left.length->wr.cell? ⟨g,k,none⟩=some (.int .i64 ((left.getD k 0:Nat):Int))/\wr.cell? ⟨L.gl,left.getD k 0,none⟩=some (.int .i64<|c.getD (left.getD k 0) 0)/\left.getD k 0<L.n):=λk K=>by
   have h1:=jk a k (by rw[gW];exact K);rw[oh _ _ K]at h1;exact⟨h1,(HX.out.below D).cl _ (HM.out k K),HM.out k K⟩
  have a3:=(HX.out.below D).f3;obtain⟨ao,ap,aq⟩:=HC.out f p;clear l a D s hG;obtain⟨o,ag⟩:=ac wr;subst ag;go_wp2;go_loopg [6] (left.length - (f+1)) (λgh tv W=>∃(t m:Nat),f+1<=t/\t<=left.length/\gh=left.length - t/\tv= .int .i64 t/\W=o.drewN m/\xO c left R (b.map<|dQ left) f t);exact⟨f+1,0,by omega,by omega,rfl,by go_num,rfl,HI.out⟩;obtain⟨t,m,T,X,rfl,rfl,rfl,Q⟩:=hrel;clear HI;have H8:((left.getD f 0:Nat):Int)<(L.n:Int):=by omega
  by_cases d:t<left.length/\c.getD (left.getD t 0) 0=c.getD (left.getD f 0) 0
  .obtain⟨aa,ad,ae⟩:=HC.out t d.1;have BN:Hid (xO c left R (b.map<|dQ left) f (t+1)):=Q.more (by omega) d.1 d.2;have H:=d.1;have G:(t:Int)<(left.length:Int):=(by omega);have K6:((left.getD t 0:Nat):Int)<(L.n:Int):=(by omega);have ai:(c.getD (left.getD t 0) 0==c.getD (left.getD f 0) 0)=true:=(by simpa using d.2);clear d Q;generalize c.getD (left.getD t 0) 0=al at*;generalize c.getD (left.getD f 0) 0=ak at*;generalize left.getD t 0=pt at*;generalize left.getD f 0=pf at*;go_wp2_with fail;go_quiet(fail);go_wp2;go_roundg (left.length - (t+1));exact⟨t+1,_,by omega,by omega,rfl,by go_num,rfl,BN.out⟩;omega
  .have M:Hid (o9 c left R (b.map (dQ left)++[(left.take t).drop f]) t):=Q.shut (by omega) X (by
    by_cases h:t<left.length
    .exact .inr λe=>d ⟨h,e⟩
    .exact .inl h)
   have V:(o.drewN m).ownsRow w.heap.size 31 1 (.slice z b.length A) b.length (b.map<|o7 g):=eI Rv.out (xV (r:=none)) (by cases(Value.slice z b.length A).ownBlock<;>simp);have Um:w.heap.size<=(o.drewN m).heap.size:=E;have j:(Value.slice z b.length A).ownBlock=none∨(Value.slice z b.length A).ownBlock≠none:=(by cases(Value.slice z b.length A).ownBlock<;>simp);have an:(f:Int)<=(t:Int):=(by omega);have Bf:(t:Int)<=(u:Int):=(by omega);have N:Hid (b.length<=1000):=(by show _<=_;omega);by_cases H:t<left.length;case pos=>
    obtain⟨aa,ad,ae⟩:=HC.out t H;have G:(t:Int)<(left.length:Int):=(by omega);have K6:((left.getD t 0:Nat):Int)<(L.n:Int):=(by omega);have ai:(c.getD (left.getD t 0) 0==c.getD (left.getD f 0) 0)=false:=by
     simp only[Kk];exact λe=>d ⟨H,e⟩
    clear d Q;generalize c.getD (left.getD t 0) 0=al at*;generalize c.getD (left.getD f 0) 0=ak at*;generalize left.getD t 0=pt at*;generalize left.getD f 0=pf at*;go_wp2_with fail;go_quiet(fail);have x:((o.drewN m).drewN nq).ownsRow w.heap.size 31 1 (.slice z b.length A) b.length (b.map<|o7 g):=eI (eI Rv.out (xV (r:=none)) j) (xV (r:=none)) j;have kM:Hid (((o.drewN m).drewN nq).ownsRow w.heap.size 3 1 (.slice (some ⟨g,0,none⟩) left.length u) left.length (iv<|nl left)):=eI (eI y.out (xV (r:=none)) (.inr<|by simp[Value.ownBlock])) (xV (r:=none)) (.inr<|by simp[Value.ownBlock]);have bG:Hid (Below w.heap.size w<|(o.drewN m).drewN nq):=gH (gH HB.out _) _;have Z:w.heap.size<=((o.drewN m).drewN nq).heap.size:=E;generalize(o.drewN m).drewN nq=W5 at*;clear V Um;go_wp2_with(at_builtin;refine qK _ rfl _ _ 127 rfl w.heap.size 31 iS (.slice none 0 0) 24 underlying127 Lj Ma Mb Mc rfl (by decide) _ _ _ rfl x _ _ rfl rfl (by have:=N.out;omega) Z ?_);intro v6 J nk I;have Rt:Hid (J.ownsRow w.heap.size 31 1 v6 (b++[(f,t)]).length ((b++[(f,t)]).map (o7 g))):=by
     rw[fB,bH];exact nk
    have JB:Hid (J.ownsRow w.heap.size 3 1 (.slice (some ⟨g,0,none⟩) left.length u) left.length<|iv<|nl left):=eI kM.out I (lQ kM.out x<|by decide);have dR:Hid (Below w.heap.size w J):=bG.out.grown I Z λq hq=>(x.lt q hq).1
    have Rh:Hid (∀n∈b++[(f,t)],n.1<n.2/\n.2<=left.length):=λn C=>by
     rcases jL.1 C with h|h
     .exact Y3.out n h
     .rw[qX.1 h];exact⟨T,X⟩
    have Jn:Hid (o9 c left R ((b++[(f,t)]).map (dQ left)) t):=(by rw[fB];exact M.out);clear nk I x;go_wp2;go_roundg (left.length - t);exact⟨t,b++[(f,t)],X,rfl,by go_num,by rw[bH,ZO];omega,Rt.out,JB.out,dR.out,Rh.out,Jn.out⟩;omega
   case neg=>
    have G:¬(t:Int)<(left.length:Int):=(by omega);have av:decide ((t:Int)<(left.length:Int))=false:=(by simpa using G);clear d Q;go_wp2_with fail;go_quiet(fail);have x:((o.drewN m).drewN nq).ownsRow w.heap.size 31 1 (.slice z b.length A) b.length (b.map<|o7 g):=eI (eI Rv.out (xV (r:=none)) j) (xV (r:=none)) j;have kM:Hid (((o.drewN m).drewN nq).ownsRow w.heap.size 3 1 (.slice (some ⟨g,0,none⟩) left.length u) left.length (iv<|nl left)):=eI (eI y.out (xV (r:=none)) (.inr<|by simp[Value.ownBlock])) (xV (r:=none)) (.inr<|by simp[Value.ownBlock]);have bG:Hid (Below w.heap.size w<|(o.drewN m).drewN nq):=gH (gH HB.out _) _;have Z:w.heap.size<=((o.drewN m).drewN nq).heap.size:=E;generalize(o.drewN m).drewN nq=W5 at*;clear V Um;go_wp2_with(at_builtin;refine qK _ rfl _ _ 127 rfl w.heap.size 31 iS (.slice none 0 0) 24 underlying127 Lj Ma Mb Mc rfl (by decide) _ _ _ rfl x _ _ rfl rfl (by have:=N.out;omega) Z ?_);intro v6 J nk I;have Rt:Hid (J.ownsRow w.heap.size 31 1 v6 (b++[(f,t)]).length ((b++[(f,t)]).map (o7 g))):=by
     rw[fB,bH];exact nk
    have JB:Hid (J.ownsRow w.heap.size 3 1 (.slice (some ⟨g,0,none⟩) left.length u) left.length<|iv<|nl left):=eI kM.out I (lQ kM.out x<|by decide);have dR:Hid (Below w.heap.size w J):=bG.out.grown I Z λq hq=>(x.lt q hq).1
    have Rh:Hid (∀n∈b++[(f,t)],n.1<n.2/\n.2<=left.length):=λn C=>by
     rcases jL.1 C with h|h
     .exact Y3.out n h
     .rw[qX.1 h];exact⟨T,X⟩
    have Jn:Hid (o9 c left R ((b++[(f,t)]).map (dQ left)) t):=(by rw[fB];exact M.out);clear nk I x;go_wp2;go_roundg (left.length - t);exact⟨t,b++[(f,t)],X,rfl,by go_num,by rw[bH,ZO];omega,Rt.out,JB.out,dR.out,Rh.out,Jn.out⟩;omega
 .have P:=hG.done p;obtain rfl:f=left.length:=by omega
  have HR:Hid (Dv wr w.heap.size (.slice z b.length A) g left b):=by
   refine⟨l,?_,s,λF=> ?_,λF=> ?_⟩
   .by_cases B:0<left.length
    .have:=Nc.out B;subst this;intro i hi;rw[gW]at hi;have h1:=jk a i (by rw[gW];exact hi);simpa using h1
    .have:left=[]:=Sn.1 (by omega);rw[this];intro i hi;simp[nl]at hi
   .have B:=jK.2 F;have:=Nc.out B;subst this;obtain⟨g',c',Y,hc,p,hB⟩:=gI a B;have e:g=g':=(by have:=Y;simp at this;exact this.1);subst e;exact⟨hB,p⟩
   .have:=Nc.out<|jK.2 F;subst this;rcases a.2 with⟨e1,_⟩|⟨g',O,af,e1,_,hh,_⟩
    .cases e1
    .injection e1 with e2
     injection e2 with e3
     injection e3 with e4
     subst e4;exact⟨af,hh⟩
  have HB:=ah D;have HE:=ah P;have U:¬(left.length:Int)<(left.length:Int):=by omega
  clear l a D s hG P p;go_wp2;go_ret;exact⟨_,rfl,g,b,HR.out,HE.out,HB.out⟩
section
open Go.Maps
section
variable{P:Program}{w:World}{t k e:TypeId}{b clock:Nat}{es:Array MapEntry}{key val z:Value}
def afO(f:P.underlying t=some (.map k e))(a:w.heap[b]? =some (.map es clock))(c:(Instr.checkKey false 10000 k key).run P w= .ok () w)(d:(Instr.findKey k key es.toList).run P w= .ok none w):
  (Instr.mapUpdate t (.map<|some b) key val).run P w= .ok () (ChangeMaps.setBlock w b (.map (es.push ⟨key,val,clock⟩)<|clock+1)):=by
 simp[Instr.mapUpdate,Bv f,ZV a,c,d,MapKept.run_setObj_map _ a,Result.andThen,ChangeMaps.setBlock]
def afL(c:Bool)(h:P.underlying t=some (.map k e))(i:(zeroValue e).run P w= .ok z w)(d:w.heap[b]? =some (.map es clock))(f:∀a,(Instr.checkKey a 10000 k key).run P w= .ok () w)(g:(Instr.findKey k key es.toList).run P w= .ok none w):
  (Instr.lookup t (.map<|some b) key c).run P w= .ok (if c then .tuple #[z,.bool false]else z) w:=by
 simp[Instr.lookup,Bv h,ZV d,f,g,i,Result.andThen]
def afM(c:Bool){j:Nat}{v:Value}(h:P.underlying t=some (.map k e))(d:w.heap[b]? =some (.map es clock))(f:∀a,(Instr.checkKey a 10000 k key).run P w= .ok () w)(g:(Instr.findKey k key es.toList).run P w= .ok (some (j,v)) w):
  (Instr.lookup t (.map<|some b) key c).run P w= .ok (if c then .tuple #[v,.bool true]else v) w:=by
 simp[Instr.lookup,Bv h,ZV d,f,g,Result.andThen]
def ap9(w:World)(k:TypeId)(x:Value)(i:Nat):(Instr.findAsking k x [] i).run P w= .ok none w:=by
 simp[Instr.findAsking]
def ap8 {x:Value}{m:MapEntry}{r:List MapEntry}{q:Bool}(i:Nat)(h:(Op.equal k x m.key).run P w= .ok q w):
  (Instr.findAsking k x (m::r) i).run P w=if q=true then .ok (some (i,m.val)) w else(Instr.findAsking k x r<|i+1).run P w:=by
 cases q<;>simp[Instr.findAsking,h,Result.andThen]
def afK(v:P.underlying k=some (.int .i64))(a:Int):∀(f:List MapEntry)(i:Nat),(∀m∈f,∃x,m.key= .int .i64 x)->∃r,Instr.findNow (.int .i64) (.int .i64 a) f i=some r/\((r=none/\∀m∈f,m.key≠.int .i64 a)∨∃j m,r=some (i+j,m.val)/\f[j]? =some m/\m.key= .int .i64 a/\∀d l,d<j->f[d]? =some l->l.key≠.int .i64 a)
 |[],i,_=>⟨none,rfl,.inl ⟨rfl,by simp⟩⟩
 |m::r,i,h=>by
  obtain⟨x,hx⟩:=h m (by simp);by_cases b:a=x
  .refine⟨some (i,m.val),by simp[Instr.findNow,hx,Instr.sameNow,b],.inr ⟨0,m,by simp,by simp,by rw[hx,b],λd _ p=>by omega⟩⟩
  .obtain⟨q,w,z⟩:=afK v a r (i+1) (λy g=>h y<|by simp[g]);have s:(a==x)=false:=(by simpa using b);refine⟨q,by simp[Instr.findNow,hx,Instr.sameNow,s,w],?_⟩;rcases z with⟨n,o⟩|⟨j,y,n,o,t,u⟩
   .refine .inl ⟨n,λy g=> ?_⟩;rcases fW.1 g with rfl|g
    .rw[hx];intro e;cases e;exact b rfl
    .exact o y g
   .refine .inr ⟨j+1,y,by rw[n];congr 2;omega,by simpa using o,t,?_⟩;intro d l p c;cases d with
    |zero=>simp at c;subst c;rw[hx];intro e;cases e;exact b rfl
    |succ d=>exact u d l (by omega)<|by simpa using c
def WV(c:P.underlying k=some (.int .i64))(w:World)(a:Int)(b:Bool):(Instr.checkKey b 10000 k (.int .i64 a)).run P w= .ok () w:=by
 unfold Instr.checkKey;simp[Bv c]
def afJ(e:P.underlying k=some (.int .i64))(w:World)(a:Int)(b:List MapEntry)(h:∀m∈b,∃x,m.key= .int .i64 x):
  ((Instr.findKey k (.int .i64 a) b).run P w= .ok none w/\∀m∈b,m.key≠.int .i64 a)∨∃j m,(Instr.findKey k (.int .i64 a) b).run P w= .ok (some (j,m.val)) w/\b[j]? =some m/\m.key= .int .i64 a:=by
 obtain⟨r,i,f⟩:=afK e a b 0 h;have d:(Instr.findKey k (.int .i64 a) b).run P w= .ok r w:=by simp[Instr.findKey,Bv e,i]
 rcases f with⟨rfl,c⟩|⟨j,m,rfl,c,g,_⟩
 .exact .inl ⟨d,c⟩
 .exact .inr ⟨j,m,by simpa using d,c,g⟩
end
end
