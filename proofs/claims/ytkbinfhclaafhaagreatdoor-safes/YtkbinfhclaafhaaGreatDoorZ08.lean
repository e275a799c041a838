import Derived.Test.YtkbinfhclaafhaaGreatDoorZ07
import Derived.BigQuiet
import Derived.Maps.Keyed
import Derived.ChangeMaps4
namespace Go.Proofs.YtkbinfhclaafhaaGreatDoor
open Go.RowKit
open Go.Proofs.Tryz
set_option maxRecDepth 100000
set_option maxHeartbeats 32000000
set_option linter.all false
structure LP where
 B:Nat
 lb:Nat
 gr:Nat
 gt:Nat
 gc:Nat
 gl:Nat
 gm:Nat
 n:Nat
 cr:Nat
 ct:Nat
 p:Int
 rs:List Int
 cs:List Int
def LP.rv(L:LP):Value:= .slice (some ⟨L.gr,0,none⟩) L.n L.cr
def LP.has(L:LP)(g:Nat):Prop:=g=L.lb∨g=L.gr∨g=L.gt∨g=L.gc∨g=L.gl∨g=L.gm
structure LX(w:World)(L:LP)(ks ls:List Int):Prop where
 cell:w.heap[L.lb]? =some (.cells #[L.rv,.slice (some ⟨L.gt,0,none⟩) L.n L.ct,.slice (some ⟨L.gc,0,none⟩) L.n L.n,.slice (some ⟨L.gl,0,none⟩) L.n L.n,.slice (some ⟨L.gm,0,none⟩) L.n L.n,.int .i64 L.p] 141 (0,0))
 ru:∀k,k<L.n->w.cell? ⟨L.gr,k,none⟩=some (.int .i32 (L.rs.getD k 0))
 tb:bG w L.gt 0 L.cs
 ms:bG w L.gm 0 (lS L.cs)
 len:L.cs.length=L.n
 rc:bh w L.B 108 L.gc L.n (iv ks)
 rl:bh w L.B 3 L.gl L.n (iv ls)
 lt:∀g,L.has g->g<w.heap.size
 nl:L.gl≠L.lb/\L.gl≠L.gr/\L.gl≠L.gt/\L.gl≠L.gc/\L.gl≠L.gm
 nc:L.gc≠L.lb/\L.gc≠L.gr/\L.gc≠L.gt/\L.gc≠L.gm
structure XP(w:World)(L:LP)(s:Nat)(v:Value)(ks ls:List Int)(x:XS):Prop where
 wk:bM w L.B s v (.pointer (some ⟨L.lb,0,none⟩)) x
 ln:LX w L ks ls
 ap:∀g,L.has g->g≠s/\v.ownBlock≠some g
section
variable{w w':World}{L:LP}{s:Nat}{v v':Value}{ks ls:List Int}{x x':XS}
theorem bG.DC {w w':World}{b off:Nat}{l:List Int}(h:bG w b off l)(he:w'.heap[b]? =w.heap[b]?):bG w' b off l:=fun i hi=>by
 have:=h i hi;simp only [World.cell?]at this ⊢;rw [he];exact this
theorem LX.lnR(h:LX w L ks ls):yz w L.lb L.gt L.gm L.n L.ct L.n L.rv (.slice (some ⟨L.gc,0,none⟩) L.n L.n) (.slice (some ⟨L.gl,0,none⟩) L.n L.n) L.p L.cs:=⟨h.cell,h.tb,h.ms,h.len⟩
theorem LX.same(h:LX w L ks ls)(hs:w.heap.size<=w'.heap.size)(hb:∀g,L.has g->w'.heap[g]? =w.heap[g]?):LX w' L ks ls:=by
 have u:∀g,L.has g->∀k,w'.cell? ⟨g,k,none⟩=w.cell? ⟨g,k,none⟩:=fun g hg k=>by simp only [World.cell?];rw [hb g hg]
 refine⟨by rw [hb L.lb (by simp [LP.has])];exact h.cell,fun k hk=>by rw [u L.gr (by simp [LP.has])];exact h.ru k hk,h.tb.DC (hb L.gt (by simp [LP.has])),h.ms.DC (hb L.gm (by simp [LP.has])),h.len,?_,?_,fun g hg=>ku (h.lt g hg) hs,h.nl,h.nc⟩
 .exact nC h.rc fun k o hk ho=>by
   obtain rfl:L.gc=k:=by simpa [Value.ownBlock]using hk
   rw [hb L.gc (by simp [LP.has])];exact ho
 .exact nC h.rl fun k o hk ho=>by
   obtain rfl:L.gl=k:=by simpa [Value.ownBlock]using hk
   rw [hb L.gl (by simp [LP.has])];exact ho
theorem LX.below(h:LX w L ks ls)(hb:Below w.heap.size w w'):LX w' L ks ls:=h.same hb.size fun g hg=>hb.block g (h.lt g hg)
theorem XP.below(h:XP w L s v ks ls x)(hb:Below w.heap.size w w'):XP w' L s v ks ls x:=⟨h.wk.below hb,h.ln.below hb,h.ap⟩
theorem XP.BF(h:XP w L s v ks ls x)(hw:bM w' L.B s v' (.pointer (some ⟨L.lb,0,none⟩)) x')(hf:bw w w' s v v'):XP w' L s v' ks ls x':=
 ⟨hw,h.ln.same hf.size fun g hg=>hf.block g (h.ln.lt g hg) (h.ap g hg).1 (h.ap g hg).2,fun g hg=>⟨(h.ap g hg).1,hf.Ey (h.ln.lt g hg) (h.ap g hg).2⟩⟩
theorem LX.DT(h:LX w L ks ls)(k:Nat)(a:Int):LX (w.setCell ⟨L.gl,k,none⟩ (.int .i64 a)) L ks (ls.set k a):=by
 have hne:∀g,g≠L.gl->(w.setCell ⟨L.gl,k,none⟩ (.int .i64 a)).heap[g]? =w.heap[g]? :=fun g hg=>gK _ _ _ _ hg
 have u:∀g,g≠L.gl->∀j,(w.setCell ⟨L.gl,k,none⟩ (.int .i64 a)).cell? ⟨g,j,none⟩=w.cell? ⟨g,j,none⟩:=fun g hg j=>by simp only [World.cell?];rw [hne g hg]
 obtain⟨n1,n2,n3,n4,n5⟩:=h.nl;exact⟨by rw [hne L.lb n1.symm];exact h.cell,fun j hj=>by rw [u L.gr n2.symm];exact h.ru j hj,h.tb.DC (hne L.gt n3.symm),h.ms.DC (hne L.gm n5.symm),h.len,h.rc.setOther L.gl k _ n4.symm,by rw [<-Fg];exact h.rl.set k _,fun g hg=>by simpa using h.lt g hg,h.nl,h.nc⟩
theorem LX.Ti(h:LX w L ks ls)(k:Nat)(a:Int):LX (w.setCell ⟨L.gc,k,none⟩ (.int .i64 a)) L (ks.set k a) ls:=by
 have hne:∀g,g≠L.gc->(w.setCell ⟨L.gc,k,none⟩ (.int .i64 a)).heap[g]? =w.heap[g]? :=fun g hg=>gK _ _ _ _ hg
 have u:∀g,g≠L.gc->∀j,(w.setCell ⟨L.gc,k,none⟩ (.int .i64 a)).cell? ⟨g,j,none⟩=w.cell? ⟨g,j,none⟩:=fun g hg j=>by simp only [World.cell?];rw [hne g hg]
 obtain⟨n1,n2,n3,n4⟩:=h.nc;exact⟨by rw [hne L.lb n1.symm];exact h.cell,fun j hj=>by rw [u L.gr n2.symm];exact h.ru j hj,h.tb.DC (hne L.gt n3.symm),h.ms.DC (hne L.gm n4.symm),h.len,by rw [<-Fg];exact h.rc.set k _,h.rl.setOther L.gc k _ h.nl.2.2.2.1,fun g hg=>by simpa using h.lt g hg,h.nl,h.nc⟩
theorem XP.DT(h:XP w L s v ks ls x)(k:Nat)(a:Int):XP (w.setCell ⟨L.gl,k,none⟩ (.int .i64 a)) L s v ks (ls.set k a) x:=
 ⟨h.wk.setOther (h.ap L.gl (by simp [LP.has])).1 (h.ap L.gl (by simp [LP.has])).2 k _,h.ln.DT k a,h.ap⟩
theorem XP.Ti(h:XP w L s v ks ls x)(k:Nat)(a:Int):XP (w.setCell ⟨L.gc,k,none⟩ (.int .i64 a)) L s v (ks.set k a) ls x:=
 ⟨h.wk.setOther (h.ap L.gc (by simp [LP.has])).1 (h.ap L.gc (by simp [LP.has])).2 k _,h.ln.Ti k a,h.ap⟩
theorem XP.drew(h:XP w L s v ks ls x):XP w.drew L s v ks ls x:=h.below (aA _ _).drew
end
def xK(c o:Int):Int:=if o= -1 then c else o
theorem amc(w:World)(L:LP)(s:Nat)(v:Value)(ks ls:List Int)(x:XS)(h:XP w L s v ks ls x)(hne:x.st≠[])(hn:x.st.length<=1000)(i:Nat)(hi:i<L.n):
  Calls prog 201 #[.pointer (some ⟨s,0,none⟩),.int .i64 i] w fun ev w'=>ev= .returned (.tuple #[])/\XP w' L s v (ks.set i (xK (ks.getD i 0) (aR x.st).o)) (ls.set i (aR x.st).l) x/\Below L.B w w':=by
 have HT:Hid (Calls prog 238 #[.pointer (some ⟨s,1,none⟩)] w fun ev w'=>ev= .returned (.agg #[.int .i64 (aR x.st).l,.int .i64 (aR x.st).o,.bool (aR x.st).i])/\Below w.heap.size w w'):=TF w L.B s v _ x _ h.wk (acO hne) (by omega);have HX:Hid (∀W,Below w.heap.size w W->XP W L s v ks ls x):=fun W hb=>h.below hb
 have hBw:L.B<=w.heap.size:=bU h.wk.low (fW (bZ h.wk.cell));have hBl:L.B<=L.gl:=h.ln.rl.ge.1;have hBc:L.B<=L.gc:=h.ln.rc.ge.1;have HK:Hid (ks.length=L.n/\ls.length=L.n):=⟨by have:=h.ln.rc.1;simpa [iv]using this,by have:=h.ln.rl.1;simpa [iv]using this⟩
 have hi':(i:Int)<(L.n:Int):=by omega
 clear h hne hn;generalize aR x.st=t at*;obtain⟨tl,to',ti⟩:=t;simp only at HT ⊢;unfold xK;by_cases ho:to'= -1
 .subst ho;rw [aj rfl];go_enter func201,ntmps201;go_wp2_with fail;refine HT.out.mono ?_;rintro ev w2 ⟨rfl,hb⟩;have cV:Below w.heap.size w (w2.alloc (.cells #[.int .i64 tl,.int .i64 (-1),.bool ti] 215)):=hb.alloc hb.size _;have jC:=HX.out _ cV;have a0:(w2.alloc (.cells #[.int .i64 tl,.int .i64 (-1),.bool ti] 215)).cell? ⟨s,0,none⟩=some (.pointer (some ⟨L.lb,0,none⟩)):=az jC.wk.cell 0;have a3:(w2.alloc (.cells #[.int .i64 tl,.int .i64 (-1),.bool ti] 215)).cell? ⟨L.lb,3,none⟩=some (.slice (some ⟨L.gl,0,none⟩) L.n L.n):=az jC.ln.cell 3;have al:(w2.alloc (.cells #[.int .i64 tl,.int .i64 (-1),.bool ti] 215)).cell? ⟨L.gl,i,none⟩=some (.int .i64 (ls.getD i 0)):=iJ jC.ln.rl i (by rw [HK.out.2];exact hi);have fl:(w2.alloc (.cells #[.int .i64 tl,.int .i64 (-1),.bool ti] 215)).frozen? ⟨L.gl,i,none⟩=false:=jC.ln.rl.frozen i;have hgl:L.gl≠w2.heap.size:=by
   have:=(HX.out _ hb).ln.rl.ge.2;omega
  have aI:=ah cV;have Oo:Hid _:=jC;clear hb cV jC HT;go_wp2;go_region;all_goals
   go_wp2;go_end0;refine⟨rfl,?_,(aI.out.mono hBw).drew.setCell (p:=⟨L.gl,i,none⟩) hBl _⟩;have e:ks.set i (ks.getD i 0)=ks:=by
    rw [aO,aQ (by rw [HK.out.1];exact hi)];exact List.set_getElem_self _
   rw [e];exact Oo.out.drew.DT i tl
 .rw [ai ho];have ho':(to' != -1)=true:=by simpa using ho
  go_enter func201,ntmps201;go_wp2_with fail;refine HT.out.mono ?_;rintro ev w2 ⟨rfl,hb⟩;have cV:Below w.heap.size w (w2.alloc (.cells #[.int .i64 tl,.int .i64 to',.bool ti] 215)):=hb.alloc hb.size _;have jC:=HX.out _ cV;have a0:(w2.alloc (.cells #[.int .i64 tl,.int .i64 to',.bool ti] 215)).cell? ⟨s,0,none⟩=some (.pointer (some ⟨L.lb,0,none⟩)):=az jC.wk.cell 0;have a3:(w2.alloc (.cells #[.int .i64 tl,.int .i64 to',.bool ti] 215)).cell? ⟨L.lb,3,none⟩=some (.slice (some ⟨L.gl,0,none⟩) L.n L.n):=az jC.ln.cell 3;have al:(w2.alloc (.cells #[.int .i64 tl,.int .i64 to',.bool ti] 215)).cell? ⟨L.gl,i,none⟩=some (.int .i64 (ls.getD i 0)):=iJ jC.ln.rl i (by rw [HK.out.2];exact hi);have fl:(w2.alloc (.cells #[.int .i64 tl,.int .i64 to',.bool ti] 215)).frozen? ⟨L.gl,i,none⟩=false:=jC.ln.rl.frozen i;have hgl:L.gl≠w2.heap.size:=by
   have:=(HX.out _ hb).ln.rl.ge.2;omega
  have aI:=ah cV;have Oo:Hid _:=jC;clear hb cV jC HT;go_wp2;go_region;all_goals
   have CQ:=ah ((Oo.out.DT i tl).drew);have fB:Hid (Below L.B w ((w2.alloc (.cells #[.int .i64 tl,.int .i64 to',.bool ti] 215)).setCell ⟨L.gl,i,none⟩ (.int .i64 tl)).drew):=((aI.out.mono hBw).setCell (p:=⟨L.gl,i,none⟩) hBl _).drew;have b1:((w2.alloc (.cells #[.int .i64 tl,.int .i64 to',.bool ti] 215)).setCell ⟨L.gl,i,none⟩ (.int .i64 tl)).drew.cell? ⟨w2.heap.size,1,none⟩=some (.int .i64 to'):=by
    show((w2.alloc (.cells #[.int .i64 tl,.int .i64 to',.bool ti] 215)).setCell ⟨L.gl,i,none⟩ (.int .i64 tl)).cell? ⟨w2.heap.size,1,none⟩=_;rw [World.cell?_setCell_other _ _ _ _ (by intro e;exact hgl (congrArg Addr.block e))];go_simp
   clear a0 a3 al fl;generalize((w2.alloc (.cells #[.int .i64 tl,.int .i64 to',.bool ti] 215)).setCell ⟨L.gl,i,none⟩ (.int .i64 tl)).drew=W4 at*;have a0:W4.cell? ⟨s,0,none⟩=some (.pointer (some ⟨L.lb,0,none⟩)):=az CQ.out.wk.cell 0;have a2:W4.cell? ⟨L.lb,2,none⟩=some (.slice (some ⟨L.gc,0,none⟩) L.n L.n):=az CQ.out.ln.cell 2;have al:W4.cell? ⟨L.gc,i,none⟩=some (.int .i64 (ks.getD i 0)):=iJ CQ.out.ln.rc i (by rw [HK.out.1];exact hi);have fl:W4.frozen? ⟨L.gc,i,none⟩=false:=CQ.out.ln.rc.frozen i;go_wp2;go_region;all_goals
    go_wp2;go_end0;exact⟨rfl,CQ.out.drew.Ti i to',fB.out.drew.setCell (p:=⟨L.gc,i,none⟩) hBc _⟩
theorem agq(w:World)(B s:Nat)(v lp:Value)(x:XS)(m:Int)(h:bM w B s v lp x)(ho:dJ m x)(hm:m<=100000):
  Calls prog 200 #[.pointer (some ⟨s,0,none⟩)] w fun ev w'=>ev= .returned (.tuple #[])/\∃v',bM w' B s v' lp (iD x)/\bw w w' s v v':=by
 have h1:=ho.aH;by_cases hc:0<x.aH∨x.valid=0
 .exact ags w B s v lp x h ⟨h1.1,by omega⟩ hc
 .have hcn:=ho.cnt;have hl:=ho.len;have hfl:=yw (·.i) x.st;have hv:1<=x.valid:=by omega
  have:=agr w B s v lp x h (by omega) (by omega) ⟨hv,by omega⟩ (ho.Pz hv);unfold iD;rw [ai (by omega),ai (by omega)];exact this
theorem amW(w:World)(L:LP)(s:Nat)(v:Value)(ks ls:List Int)(x:XS)(m:Int)(h:XP w L s v ks ls x)(ho:dJ m x)(hm:m<=1000)(hn:L.n<=1000)(i:Nat)(hi:i<L.n):
  Calls prog 143 #[.pointer (some ⟨s,0,none⟩),.int .i64 i] w fun ev w'=>ev= .returned (.tuple #[])/\∃v',XP w' L s v' (ks.set i (xK (ks.getD i 0) (aR (dL x (L.cs.getD i 0)).st).o)) (ls.set i (aR (dL x (L.cs.getD i 0)).st).l) (eN L.cs i (dL x (L.cs.getD i 0)) (L.cs.getD i 0))/\Below L.B w w':=by
 have a0:w.cell? ⟨s,0,none⟩=some (.pointer (some ⟨L.lb,0,none⟩)):=az h.wk.cell 0;have a1:w.cell? ⟨L.lb,1,none⟩=some (.slice (some ⟨L.gt,0,none⟩) L.n L.ct):=az h.ln.cell 1;have at':w.cell? ⟨L.gt,i,none⟩=some (.int .i64 (L.cs.getD i 0)):=by
  have:=h.ln.tb i (by rw [h.ln.len];exact hi);simpa using this
 have hi':(i:Int)<(L.n:Int):=by omega
 have hop:=ho.pre (L.cs.getD i 0);have hlen:=hop.len;have htop:=hop.top;have zQ:Hid (∀W v0 x0 m0,XP W L s v0 ks ls x0->dJ m0 x0->Calls prog 201 #[.pointer (some ⟨s,0,none⟩),.int .i64 i] W fun ev w'=>ev= .returned (.tuple #[])/\XP w' L s v0 (ks.set i (xK (ks.getD i 0) (aR x0.st).o)) (ls.set i (aR x0.st).l) x0/\Below L.B W w'):=
  fun W v0 x0 m0 hx h0=>amc W L s v0 ks ls x0 hx h0.ne (by have:=h0.len;omega) i hi
 have HX:=ah h;have HO:=ah ho;obtain⟨ks',hks⟩:∃ks',ks'=ks.set i (xK (ks.getD i 0) (aR (dL x (L.cs.getD i 0)).st).o):=⟨_,rfl⟩
 obtain⟨ls',hls⟩:∃ls',ls'=ls.set i (aR (dL x (L.cs.getD i 0)).st).l:=⟨_,rfl⟩
 rw [<-hks,<-hls];by_cases h21:L.cs.getD i 0=21
 .rw [h21]at at' hks hls hop ⊢;have ep:eN L.cs i (dL x 21) 21=dL x 21:=by simp [eN]
  rw [ep];have HE:Hid (Calls prog 200 #[.pointer (some ⟨s,0,none⟩)] w fun ev w'=>ev= .returned (.tuple #[])/\∃v',bM w' L.B s v' (.pointer (some ⟨L.lb,0,none⟩)) (dL x 21)/\bw w w' s v v'):=agq w L.B s v _ x m h.wk ho (by omega);have HP:=ah hop;have HK:=ah hks;have HL:=ah hls;clear h ho hop hks hls h21 hlen htop;go_enter func143,ntmps143;go_wp2_with fail;refine HE.out.mono ?_;rintro ev w2 ⟨rfl,v2,hW,hF⟩;have iX:=ah (HX.out.BF hW hF);have aJ:Hid (Below L.B w w2):=hF.ED HX.out.wk (aA _ _);clear hW hF HE a0 a1 at';go_wp2_with fail;refine(zQ.out w2 v2 _ m iX.out HP.out).mono ?_;rintro ev w3 ⟨rfl,xq,cV⟩;have jC:=ah xq;have aI:=ah cV;clear xq cV;go_wp2_with fail;refine(C3 21 _).mono ?_;rintro ev wx ⟨rfl,hx⟩;subst hx;rw [show kS 21=false from rfl];go_wp2_with fail;refine(mG 21 _).mono ?_;rintro ev wx ⟨rfl,hx⟩;subst hx;rw [show aS 21=false from rfl];go_wp2;go_end0;refine⟨rfl,v2,?_,aJ.out.trans aI.out⟩;rw [HK.out,HL.out];exact jC.out
 .have AO:(L.cs.getD i 0==21)=false:=by simpa using h21
  have Xq:dL x (L.cs.getD i 0)=x:=by rw [dL,ai h21]
  rw [Xq]at hks hls hop hlen htop ⊢;have HS:Hid (Calls prog 201 #[.pointer (some ⟨s,0,none⟩),.int .i64 i] w fun ev w'=>ev= .returned (.tuple #[])/\XP w' L s v ks' ls' x/\Below L.B w w'):=by
   rw [hks,hls];exact zQ.out w v x m h ho
  have HQ:Hid ((x.st≠[]/\x.st.length<=1000)/\(0<=(aR x.st).l/\(aR x.st).l<=1000)/\(0<=x.aH/\x.aH<=100000)/\(0<=x.aM/\x.aM<=100000)/\0<=x.valid/\x.valid<=100000):=by
   have h1:=ho.aH;have h2:=ho.aM;have h3:=ho.cnt;have h5:=yw (·.i) x.st;exact⟨⟨ho.ne,by omega⟩,⟨htop.2.1,by omega⟩,⟨h1.1,by omega⟩,⟨h2.1,by omega⟩,by omega,by omega⟩
  have di:=ah (bZ h.wk.cell);clear h ho hop hks hls hlen htop Xq zQ HO;cases he:kS (L.cs.getD i 0)
  .cases bH:aS (L.cs.getD i 0)
   .by_cases yQ:L.cs.getD i 0=17
    .have ep:eN L.cs i x (L.cs.getD i 0)=jA x:=by rw [yQ];simp [eN]
     rw [ep];rw [yQ]at at';clear he bH AO h21 yQ ep;go_enter func143,ntmps143;go_wp2_with fail;refine HS.out.mono ?_;rintro ev w2 ⟨rfl,nj,bq⟩;have iX:=ah nj;have aJ:=ah bq;clear nj bq a0 a1 at';go_wp2_with fail;refine(C3 17 _).mono ?_;rintro ev wx ⟨rfl,hx⟩;subst hx;rw [show kS 17=false from rfl];go_wp2_with fail;refine(mG 17 _).mono ?_;rintro ev wx ⟨rfl,hx⟩;subst hx;rw [show aS 17=false from rfl];go_wp2_with fail;refine(akD _ L.B s v _ x iX.out.wk HQ.out.1.1 HQ.out.1.2 HQ.out.2.2.2.1.2).mono ?_;rintro ev w3 ⟨rfl,v3,hW3,oG⟩;have jC:Hid _:=iX.out.BF hW3 oG;have aI:Hid _:=oG.ED iX.out.wk aJ.out;clear hW3 oG;go_wp2;go_end0;exact⟨rfl,v3,jC.out,aI.out⟩
    .have ep:eN L.cs i x (L.cs.getD i 0)=x:=by
      have h1:¬(L.cs.getD i 0=13∨L.cs.getD i 0=14∨L.cs.getD i 0=15∨L.cs.getD i 0=16):=by
       intro hh;have:kS (L.cs.getD i 0)=true:=by simpa [kS]using hh
       rw [he]at this;cases this
      have h2:¬L.cs.getD i 0=18/\¬L.cs.getD i 0=19/\¬L.cs.getD i 0=20:=by
       refine⟨fun e=> ?_,fun e=> ?_,fun e=> ?_⟩<;>(rw [e]at bH;cases bH)
      rw [eN,ai h1,ai h2.1,ai h2.2.1,ai h2.2.2,ai yQ]
     rw [ep];have q17:(L.cs.getD i 0==17)=false:=by simpa using yQ
     have HE:=ah he;have HI:=ah bH;clear he bH h21 yQ ep;generalize L.cs.getD i 0=q at*;go_enter func143,ntmps143;go_wp2_with fail;refine HS.out.mono ?_;rintro ev w2 ⟨rfl,nj,bq⟩;have iX:=ah nj;have aJ:=ah bq;clear nj bq a0 a1 at';go_wp2_with fail;refine(C3 q _).mono ?_;rintro ev wx ⟨rfl,hx⟩;subst hx;rw [HE.out];go_wp2_with fail;refine(mG q _).mono ?_;rintro ev wx ⟨rfl,hx⟩;subst hx;rw [HI.out];go_wp2;go_end0;exact⟨rfl,v,iX.out,aJ.out⟩
   .have hq:=aam bH;have ep:eN L.cs i x (L.cs.getD i 0)=iO x (if L.cs.getD i 0=18 then 0 else if L.cs.getD i 0=19 then 1 else qg L.cs i):=by
     rcases hq with e|e|e<;>rw [e]<;>simp [eN]
    rw [ep];have o5:Hid (∀W,yz W L.lb L.gt L.gm L.n L.ct L.n L.rv (.slice (some ⟨L.gc,0,none⟩) L.n L.n) (.slice (some ⟨L.gl,0,none⟩) L.n L.n) L.p L.cs->W.cell? ⟨s,0,none⟩=some (.pointer (some ⟨L.lb,0,none⟩))->s<W.heap.size->Calls prog 205 #[.pointer (some ⟨s,0,none⟩),.int .i64 i] W fun e w'=>e= .returned (.int .i64 (if L.cs.getD i 0=18 then 0 else if L.cs.getD i 0=19 then 1 else qg L.cs i))/\Below W.heap.size W w'):=fun W hr hc hs=>aiv W s L.lb L.gt L.gm L.n L.ct L.n L.rv _ _ L.p L.cs hr hn hc hs i hi hq
    have HE:=ah he;have HI:=ah bH;clear he bH h21 ep hq;generalize(if L.cs.getD i 0=18 then(0:Int)else if L.cs.getD i 0=19 then 1 else qg L.cs i)=d at*;generalize L.cs.getD i 0=q at*;go_enter func143,ntmps143;go_wp2_with fail;refine HS.out.mono ?_;rintro ev w2 ⟨rfl,nj,bq⟩;have iX:=ah nj;have aJ:=ah bq;clear nj bq a0 a1 at';go_wp2_with fail;refine(C3 q _).mono ?_;rintro ev wx ⟨rfl,hx⟩;subst hx;rw [HE.out];go_wp2_with fail;refine(mG q _).mono ?_;rintro ev wx ⟨rfl,hx⟩;subst hx;rw [HI.out];go_wp2_with fail;refine(o5.out _ iX.out.ln.lnR (az iX.out.wk.cell 0) (bZ iX.out.wk.cell)).mono ?_;rintro ev w3 ⟨rfl,hb3⟩;have jC:=ah (iX.out.below hb3);have aI:=ah (aJ.out.trans (hb3.mono (bU iX.out.wk.low (fW (bZ iX.out.wk.cell)))));clear hb3;go_wp2_with fail;refine(aiw _ L.B s v _ x d jC.out.wk HQ.out.1.1 HQ.out.1.2 HQ.out.2.1.1 HQ.out.2.1.2 HQ.out.2.2.1 HQ.out.2.2.2.2).mono ?_;rintro ev w4 ⟨rfl,v4,YK,nP⟩;have CQ:Hid _:=jC.out.BF YK nP;have fB:Hid _:=nP.ED jC.out.wk aI.out;clear YK nP;go_wp2;go_end0;exact⟨rfl,v4,CQ.out,fB.out⟩
  .have ep:eN L.cs i x (L.cs.getD i 0)=iZ x (L.cs.getD i 0):=by
    have:L.cs.getD i 0=13∨L.cs.getD i 0=14∨L.cs.getD i 0=15∨L.cs.getD i 0=16:=by simpa [kS]using he
    rw [eN,aj this]
   rw [ep];have HE:=ah he;clear he h21 ep;generalize L.cs.getD i 0=q at*;go_enter func143,ntmps143;go_wp2_with fail;refine HS.out.mono ?_;rintro ev w2 ⟨rfl,nj,bq⟩;have iX:=ah nj;have aJ:=ah bq;clear nj bq a0 a1 at';go_wp2_with fail;refine(C3 q _).mono ?_;rintro ev wx ⟨rfl,hx⟩;subst hx;rw [HE.out];go_wp2_with fail;refine(agj _ L.B s v _ x q HE.out iX.out.wk HQ.out.1.1 HQ.out.1.2 HQ.out.2.1.1 HQ.out.2.1.2 HQ.out.2.2.2.1).mono ?_;rintro ev w3 ⟨rfl,v3,hW3,oG⟩;have jC:Hid _:=iX.out.BF hW3 oG;have aI:Hid _:=oG.ED iX.out.wk aJ.out;clear hW3 oG;go_wp2;go_end0;exact⟨rfl,v3,jC.out,aI.out⟩
def qZ(st:List aU):Prop:=∀e∈st,e.o= -1∨0<=e.o
theorem qZ.app {st:List aU}{e:aU}(h:qZ st)(he:e.o= -1∨0<=e.o):qZ (st++[e]):=fun y hy=>by
 rcases kK.1 hy with hy|hy
 .exact h y hy
 .rw [pY.1 hy];exact he
theorem qZ.sub {st st':List aU}(h:qZ st)(hs:∀e∈st',e∈st):qZ st':=fun e he=>h e (hs e he)
theorem SP(st:List aU):∀e∈gJ st,e∈st:=by
 intro e he;unfold gJ at he;have h1:=aeg.1 he;have h2:e∈st.reverse.dropWhile fun e=> !e.i:=List.mem_of_mem_drop h1
 have h3:e∈st.reverse:=(List.dropWhile_sublist _).mem h2;exact aeg.1 h3
theorem qZ.pre {x:XS}(h:qZ x.st)(c:Int):qZ (dL x c).st:=by
 unfold dL;split
 .unfold iD;split
  .exact h
  .split
   .exact h
   .exact h.sub (SP _)
 .exact h
theorem qZ.post {x:XS}(h:qZ x.st)(cs:List Int)(i:Nat)(c:Int):qZ (eN cs i x c).st:=by
 have hb:∀bJ,qZ (iO x bJ).st:=fun bJ=>by
  unfold iO;simp only;split
  .exact h.app (.inl rfl)
  .exact h
 unfold eN;split
 .have ho:(if c=15 then(0:Int)else if c=16 then 1 else -1)= -1∨0<=(if c=15 then(0:Int)else if c=16 then 1 else -1):=by
   split
   .exact .inr (by decide)
   .split
    .exact .inr (by decide)
    .exact .inl rfl
  unfold iZ;simp only;generalize(if c=15 then(0:Int)else if c=16 then 1 else -1)=o at*;generalize fG (aR x.st).l _=n;split
  .exact h.app ho
  .split<;>exact h
 .split
  .exact hb _
  .split
   .exact hb _
   .split
    .exact hb _
    .split
     .unfold jA;split
      .exact h
      .split
       .exact h
       .split
        .exact h.sub fun e he=>Vz _ he
        .exact h
     .exact h
theorem adf(cs:List Int)(para:Int):∀i,qZ (dW cs para i).st
 |0=>by intro e he;rw [dW]at he;rw [pY.1 he];exact .inl rfl
 |i+1=>by rw [dW];exact((adf cs para i).pre _).post cs i _
theorem M5 {st:List aU}(h:st≠[]):aR st∈st:=by
 unfold aR;rw [pW,El h];exact aeb h
theorem an7(cs:List Int)(para:Int)(hp:0<=para/\para<=125)(i:Nat):(gG cs para i).o= -1∨0<=(gG cs para i).o:=
 ((adf cs para i).pre _) _ (M5 ((wm cs para hp i).pre _).ne)
def kP(cs:List Int)(para:Int):List Int:=(List.range cs.length).map fun i=>xK (cs.getD i 0) (gG cs para i).o
theorem DK {α:Type}(n:Nat)(f:Nat->α)(d:α)(j:Nat)(hj:j<n):((List.range n).map f).getD j d=f j:=by
 rw [aO,jO,GC hj];rfl
theorem aiC {cs:List Int}{para:Int}(hp:0<=para/\para<=125){i:Nat}(hi:i<cs.length)(hl:bN (cs.getD i 0)=true):(kP cs para).getD i 0=(gZ cs para).getD i 0:=by
 rw [kP,gZ,DK _ _ _ _ hi,DK _ _ _ _ hi,kindOf,xK];rcases an7 cs para hp i with h|h
 .rw [aj h,ai (by omega)]
 .rw [ai (by omega),aj ⟨hl,h⟩]
def l8(n k:Nat)(l:List Int)(f g:Nat->Int):Prop:=l.length=n/\∀j,j<n->l.getD j 0=if j<k then f j else g j
theorem l8.step {n k:Nat}{l:List Int}{f g:Nat->Int}(h:l8 n k l f g)(hk:k<n):l8 n (k+1) (l.set k (f k)) f g:=by
 refine⟨by rw [List.length_set];exact h.1,fun j hj=> ?_⟩;by_cases hjk:j=k
 .subst hjk;rw [xd (by rw [h.1];exact hk),aj (by omega)]
 .rw [getD_set_ne (fun e=>hjk e.symm),h.2 j hj];by_cases h':j<k
  .rw [aj h',aj (by omega)]
  .rw [ai h',ai (by omega)]
theorem l8.done {n:Nat}{l:List Int}{f g:Nat->Int}(h:l8 n n l f g):l=(List.range n).map f:=by
 apply Gz;intro j;rcases cK j n with hj|hj
 .have:=h.2 j hj;rw [aj hj,aO,aQ (by rw [h.1];exact hj)]at this;rw [aQ (by rw [h.1];exact hj),jO,GC hj];exact congrArg some this
 .rw [pU (by rw [h.1];exact hj),pU (by simp;exact hj)]
theorem Uc {cs:List Int}{k:Nat}(hk:k<cs.length):(aN cs).getD k false=bN (cs.getD k 0):=by
 rw [aN,aO,jO,aO,aQ hk];rfl
section
variable{w:World}{L:LP}{ks ls:List Int}
theorem LX.ct(h:LX w L ks ls)(k:Nat)(hk:k<L.n):w.cell? ⟨L.gt,k,none⟩=some (.int .i64 (L.cs.getD k 0)):=by
 have:=h.tb k (by rw [h.len];exact hk);simpa using this
theorem LX.cm(h:LX w L ks ls)(k:Nat)(hk:k<L.n):w.cell? ⟨L.gm,k,none⟩=some (.int .i64 ((lS L.cs).getD k 0)):=by
 have:=h.ms k (by rw [aaH,h.len];exact hk);simpa using this
theorem LX.kl(h:LX w L ks ls):ks.length=L.n/\ls.length=L.n:=⟨by have:=h.rc.1;simpa [iv]using this,by have:=h.rl.1;simpa [iv]using this⟩
theorem LX.cl(h:LX w L ks ls)(k:Nat)(hk:k<L.n):w.cell? ⟨L.gl,k,none⟩=some (.int .i64 (ls.getD k 0)):=iJ h.rl k (by rw [h.kl.2];exact hk)
theorem LX.ck(h:LX w L ks ls)(k:Nat)(hk:k<L.n):w.cell? ⟨L.gc,k,none⟩=some (.int .i64 (ks.getD k 0)):=iJ h.rc k (by rw [h.kl.1];exact hk)
theorem LX.f1(h:LX w L ks ls):w.cell? ⟨L.lb,1,none⟩=some (.slice (some ⟨L.gt,0,none⟩) L.n L.ct):=az h.cell 1
theorem LX.f2(h:LX w L ks ls):w.cell? ⟨L.lb,2,none⟩=some (.slice (some ⟨L.gc,0,none⟩) L.n L.n):=az h.cell 2
theorem LX.f3(h:LX w L ks ls):w.cell? ⟨L.lb,3,none⟩=some (.slice (some ⟨L.gl,0,none⟩) L.n L.n):=az h.cell 3
theorem LX.f4(h:LX w L ks ls):w.cell? ⟨L.lb,4,none⟩=some (.slice (some ⟨L.gm,0,none⟩) L.n L.n):=az h.cell 4
theorem LX.f5(h:LX w L ks ls):w.cell? ⟨L.lb,5,none⟩=some (.int .i64 L.p):=az h.cell 5
end
theorem ag4(w:World)(L:LP)(ks ls:List Int)(h:LX w L ks ls)(f:Nat)(hf:f<L.n):
  Calls prog 157 #[.pointer (some ⟨L.lb,0,none⟩),.int .i64 f] w fun e w'=>e= .returned (.bool (L.cs.getD f 0==21&&decide (0<=opener L.cs f)))/\w'=w:=by
 have a1:=h.f1;have a4:=h.f4;have at':=h.ct f hf;have am:=h.cm f hf;have hf':(f:Int)<(L.n:Int):=by omega
 have hp:L.cs.getD f 0=21->((lS L.cs).getD f 0≠ -1↔0<=opener L.cs f):=fun e=>ai7 (by rw [h.len];exact hf) e
 generalize opener L.cs f=o at*;generalize L.cs.getD f 0=c at*;generalize(lS L.cs).getD f 0=m at*;clear h;by_cases h21:c=21
 .subst h21;have hm:(m != -1)=decide (0<=o):=by
   have:=hp rfl;by_cases e:m= -1
   .have:¬0<=o:=fun h=>this.2 h e
    simp [e,this]
   .have:0<=o:=this.1 e;simp [e,this]
  have HM:=ah hm;clear hp hm;generalize hb:decide (0<=o)=b at*;clear hb;cases hq:(m != -1)
  all_goals
   go_enter func157,ntmps157;go_wp2;go_ret;exact⟨iw (by rw [<-HM.out,hq];rfl),rfl⟩
 .have q:(c==21)=false:=by simpa using h21
  clear hp;go_enter func157,ntmps157;go_wp2;go_ret;exact⟨iw (by rw [q];rfl),rfl⟩
def qD(cs:List Int)(last:Nat):Int:=if aS (cs.getD last 0)=true then(if mt cs last<cs.length then(mt cs last:Int)else -1)else -1
theorem aju(w:World)(L:LP)(ks ls:List Int)(h:LX w L ks ls)(f:Nat)(hf:f<L.n):
  Calls prog 156 #[.pointer (some ⟨L.lb,0,none⟩),.int .i64 f] w fun e w'=>e= .returned (.int .i64 (qD L.cs f))/\w'=w:=by
 have a1:=h.f1;have a4:=h.f4;have at':=h.ct f hf;have am:=h.cm f hf;have hf':(f:Int)<(L.n:Int):=by omega
 have hp:aS (L.cs.getD f 0)=true->(lS L.cs).getD f 0=qD L.cs f:=fun e=>by rw [qD,aj e,RU (by rw [h.len];exact hf) e]
 have hq:aS (L.cs.getD f 0)=false->qD L.cs f= -1:=fun e=>by rw [qD,ai (by rw [e];decide)]
 generalize qD L.cs f=o at*;generalize L.cs.getD f 0=c at*;generalize(lS L.cs).getD f 0=m at*;clear h;cases hi:aS c
 .have:=hq hi;subst this;have HI:=ah hi;clear hp hq hi;go_enter func156,ntmps156;go_wp2_with fail;refine(mG c _).mono ?_;rintro ev wx ⟨rfl,hx⟩;have hx':=hx.symm;subst hx';rw [HI.out];go_wp2;go_ret;exact⟨rfl,rfl⟩
 .have:=hp hi;subst this;have HI:=ah hi;clear hp hq hi;go_enter func156,ntmps156;go_wp2_with fail;refine(mG c _).mono ?_;rintro ev wx ⟨rfl,hx⟩;have hx':=hx.symm;subst hx';rw [HI.out];go_wp2;go_ret;exact⟨rfl,rfl⟩
theorem aev(w:World)(L:LP)(ks ls:List Int)(h:LX w L ks ls)(hn:L.n<=1000)(f:Nat)(hf:f<L.n):
  Calls prog 219 #[.pointer (some ⟨L.lb,0,none⟩),.int .i64 f] w fun e w'=>e= .returned (.int .i64 (jG ls (aN L.cs) L.p f))/\w'=w:=by
 have a1:=h.f1;have a3:=h.f3;have a5:=h.f5;have HT:Hid (∀k:Nat,k<L.n->w.cell? ⟨L.gt,k,none⟩=some (.int .i64 (L.cs.getD k 0))/\w.cell? ⟨L.gl,k,none⟩=some (.int .i64 (ls.getD k 0))/\(aN L.cs).getD k false=bN (L.cs.getD k 0)):=fun k hk=>⟨h.ct k hk,h.cl k hk,Uc (by rw [h.len];exact hk)⟩
 obtain⟨P,hP⟩:∃P,P=jG ls (aN L.cs) L.p f:=⟨_,rfl⟩
 rw [<-hP];have HP:=ah hP.symm;clear h hP;go_enter func219,ntmps219;go_wp2;go_loopg [5] f (fun gh kv W=>∃k:Nat,k<=f/\gh=k/\kv= .int .i64 ((k:Int) - 1)/\W=w/\jG ls (aN L.cs) L.p k=P);case atStart=>exact⟨f,ay _,rfl,rfl,rfl,HP.out⟩
 case round=>
  obtain⟨k,hk,rfl,rfl,hW,hp⟩:=hrel;have hW':=hW.symm;subst hW';clear HP;cases gk with
  |zero=>
   have hp0:L.p=P:=hp;subst hp0;go_wp2;go_ret;exact⟨rfl,rfl⟩
  |succ k=>
   have hkn:k<L.n:=by omega
   obtain⟨b1,b2,b3⟩:=HT.out k hkn;have e1:((k+1:Nat):Int) - 1=(k:Int):=by omega
   rw [e1];rw [jG,b3]at hp;have hk':(k:Int)<(L.n:Int):=by omega
   have bX:(0:Int)<=(k:Int):=by omega
   generalize L.cs.getD k 0=c at*;cases hl:bN c
   .rw [hl,ai (by decide)]at hp;have HL:Hid ((!bN c)=true):=by show _=_;rw [hl];rfl
    have HP:=ah hp;clear hp hl b3;go_wp2_with fail;refine(vM c _).mono ?_;rintro ev wx ⟨rfl,hx⟩;subst hx;rw [HL.out];go_wp2;go_roundg k;case measure=>omega
    case rel=>exact⟨k,by omega,rfl,by go_num,rfl,HP.out⟩
   .rw [hl,aj rfl]at hp;have HL:Hid ((!bN c)=false):=by show _=_;rw [hl];rfl
    have HP:=ah hp;clear hp hl b3;go_wp2_with fail;refine(vM c _).mono ?_;rintro ev wx ⟨rfl,hx⟩;subst hx;rw [HL.out];go_wp2;go_ret;exact⟨bI HP.out,rfl⟩
theorem ae2(w:World)(L:LP)(ks ls:List Int)(h:LX w L ks ls)(hn:L.n<=1000)(f:Nat)(hf:f<L.n):
  Calls prog 220 #[.pointer (some ⟨L.lb,0,none⟩),.int .i64 f] w fun e w'=>e= .returned (.int .i64 (oz L.cs ls (aN L.cs) L.p f))/\w'=w:=by
 have a1:=h.f1;have a3:=h.f3;have a4:=h.f4;have a5:=h.f5;have am:=h.cm f hf;have at':=h.ct f hf;have hf':(f:Int)<(L.n:Int):=by omega
 have HT:Hid (∀k:Nat,k<L.n->w.cell? ⟨L.gt,k,none⟩=some (.int .i64 (L.cs.getD k 0))/\w.cell? ⟨L.gl,k,none⟩=some (.int .i64 (ls.getD k 0))/\(aN L.cs).getD k false=bN (L.cs.getD k 0)):=fun k hk=>⟨h.ct k hk,h.cl k hk,Uc (by rw [h.len];exact hk)⟩
 have hc:aS (L.cs.getD f 0)=true->((lS L.cs).getD f 0= -1↔mt L.cs f=L.cs.length):=fun e=>by
  rw [RU (by rw [h.len];exact hf) e];have:=rG L.cs f (by rw [h.len];omega);by_cases hm:mt L.cs f<L.cs.length
  .rw [aj hm];omega
  .rw [ai hm];simp;omega
 have hlen:=h.len;unfold oz;rw [hlen]at hc ⊢;clear h hlen;generalize(lS L.cs).getD f 0=m at*;by_cases hx:aS (L.cs.getD f 0)=true/\mt L.cs f=L.n
 .rw [aj hx];have hm:m= -1:=(hc hx.1).2 hx.2;subst hm;have HI:=ah hx.1;clear hc hx;generalize L.cs.getD f 0=c at*;go_enter func220,ntmps220;go_wp2_with fail;refine(mG c _).mono ?_;rintro ev wx ⟨rfl,hx⟩;have hx':=hx.symm;subst hx';rw [HI.out];go_wp2;go_ret;exact⟨rfl,rfl⟩
 .rw [ai hx];obtain⟨P,hP⟩:∃P,P=kO ls (aN L.cs) L.p L.n (L.n - (f+1)):=⟨_,rfl⟩
  rw [<-hP];have HP:=ah hP.symm;clear hP;have HQ:Hid (aS (L.cs.getD f 0)=true->(m== -1)=false):=fun e=>by
   have:=hc e;simp only [GY];intro e2;exact hx ⟨e,this.1 e2⟩
  clear hc hx;generalize L.cs.getD f 0=c at*;go_enter func220,ntmps220;go_wp2_with fail;refine(mG c _).mono ?_;rintro ev wx ⟨rfl,hx⟩;have hx':=hx.symm;subst hx';cases hi:aS c;case false=>
   clear hi HQ;go_wp2;clear at' am;go_loopg [5] (L.n - (f+1)) (fun gh kv W=>∃k:Nat,f+1<=k/\k<=L.n/\gh=L.n - k/\kv= .int .i64 k/\W=w/\kO ls (aN L.cs) L.p L.n gh=P);case atStart=>exact⟨f+1,ay _,by omega,rfl,by go_num,rfl,HP.out⟩
   case round=>
    obtain⟨k,hfk,hk,rfl,rfl,hW,hp⟩:=hrel;have hW':=hW.symm;subst hW';clear HP;by_cases hlt:k<L.n
    .obtain⟨b1,b2,b3⟩:=HT.out k hlt;obtain⟨g2,hg2⟩:∃g2,L.n - k=g2+1:=⟨L.n - k - 1,by omega⟩
     rw [hg2,kO,show L.n - (g2+1)=k by omega,b3]at hp;have hk':(k:Int)<(L.n:Int):=by omega
     generalize L.cs.getD k 0=c2 at*;cases hl:bN c2
     .rw [hl,ai (by decide)]at hp;have HL:Hid ((!bN c2)=true):=by show _=_;rw [hl];rfl
      have HP:Hid (kO ls (aN L.cs) L.p L.n (L.n - (k+1))=P):=by show _=_;rw [show L.n - (k+1)=g2 by omega];exact hp
      clear hp hl b3 hg2;go_wp2_with fail;refine(vM c2 _).mono ?_;rintro ev wx ⟨rfl,hx⟩;subst hx;rw [HL.out];go_wp2;go_roundg (L.n - (k+1));case measure=>omega
      case rel=>exact⟨k+1,by omega,by omega,rfl,by go_num,rfl,HP.out⟩
     .rw [hl,aj rfl]at hp;have HL:Hid ((!bN c2)=false):=by show _=_;rw [hl];rfl
      have HP:=ah hp;clear hp hl b3 hg2;go_wp2_with fail;refine(vM c2 _).mono ?_;rintro ev wx ⟨rfl,hx⟩;subst hx;rw [HL.out];go_wp2;go_ret;exact⟨bI HP.out,rfl⟩
    .have hz:L.n - k=0:=by omega
     rw [hz]at hp;have hp0:L.p=P:=hp;subst hp0;have hlt':¬(k:Int)<(L.n:Int):=by omega
     go_wp2;go_ret;exact⟨rfl,rfl⟩
  case true=>
   have hm:=HQ.out hi;clear hi HQ;go_wp2;clear at' am;go_loopg [5] (L.n - (f+1)) (fun gh kv W=>∃k:Nat,f+1<=k/\k<=L.n/\gh=L.n - k/\kv= .int .i64 k/\W=w/\kO ls (aN L.cs) L.p L.n gh=P);case atStart=>exact⟨f+1,ay _,by omega,rfl,by go_num,rfl,HP.out⟩
   case round=>
    obtain⟨k,hfk,hk,rfl,rfl,hW,hp⟩:=hrel;have hW':=hW.symm;subst hW';clear HP;by_cases hlt:k<L.n
    .obtain⟨b1,b2,b3⟩:=HT.out k hlt;obtain⟨g2,hg2⟩:∃g2,L.n - k=g2+1:=⟨L.n - k - 1,by omega⟩
     rw [hg2,kO,show L.n - (g2+1)=k by omega,b3]at hp;have hk':(k:Int)<(L.n:Int):=by omega
     generalize L.cs.getD k 0=c2 at*;cases hl:bN c2
     .rw [hl,ai (by decide)]at hp;have HL:Hid ((!bN c2)=true):=by show _=_;rw [hl];rfl
      have HP:Hid (kO ls (aN L.cs) L.p L.n (L.n - (k+1))=P):=by show _=_;rw [show L.n - (k+1)=g2 by omega];exact hp
      clear hp hl b3 hg2;go_wp2_with fail;refine(vM c2 _).mono ?_;rintro ev wx ⟨rfl,hx⟩;subst hx;rw [HL.out];go_wp2;go_roundg (L.n - (k+1));case measure=>omega
      case rel=>exact⟨k+1,by omega,by omega,rfl,by go_num,rfl,HP.out⟩
     .rw [hl,aj rfl]at hp;have HL:Hid ((!bN c2)=false):=by show _=_;rw [hl];rfl
      have HP:=ah hp;clear hp hl b3 hg2;go_wp2_with fail;refine(vM c2 _).mono ?_;rintro ev wx ⟨rfl,hx⟩;subst hx;rw [HL.out];go_wp2;go_ret;exact⟨bI HP.out,rfl⟩
    .have hz:L.n - k=0:=by omega
     rw [hz]at hp;have hp0:L.p=P:=hp;subst hp0;have hlt':¬(k:Int)<(L.n:Int):=by omega
     go_wp2;go_ret;exact⟨rfl,rfl⟩
theorem aiN(lf:List Bool)(k:Nat):iG lf (k+1)=iG lf k++(if jW lf k=true then [k]else []):=by
 rw [iG,GH,qQ,qU,Ej];rfl
theorem RI(lf:List Bool)(k:Nat):(iG lf k).length<=k:=by
 have:=yw (jW lf) (List.range k);rw [KL]at this;exact this
theorem aaw {lf:List Bool}{n p:Nat}(h:p∈iG lf n):p<n/\jW lf p=true:=⟨GG.1 (uW.1 h).1,(uW.1 h).2⟩
theorem aiO(w:World)(L:LP)(ks ls:List Int)(h:LX w L ks ls)(hn:L.n<=1000):
  Calls prog 218 #[.pointer (some ⟨L.lb,0,none⟩)] w fun e w'=>∃v,e= .returned v/\w'.ownsRow w.heap.size 3 1 v (iG (aN L.cs) L.n).length (iv (nl (iG (aN L.cs) L.n)))/\Below w.heap.size w w':=by
 obtain⟨iI,eY,eZ,fe,fh⟩:=gW Tryz.qB;have a1:=h.f1;have HX:=ah h;clear h;go_enter func218,ntmps218;go_wp2;clear a1;go_loopg [3,11] L.n (fun gh pv kv W=>∃k:Nat,k<=L.n/\gh=L.n - k/\kv= .int .i64 k/\W.ownsRow w.heap.size 3 1 pv (iG (aN L.cs) k).length (iv (nl (iG (aN L.cs) k)))/\Below w.heap.size w W);case atStart=>exact⟨0,by omega,rfl,rfl,jw _ _ _ _,aA _ _⟩
 case round=>
  obtain⟨k,hk,rfl,rfl,hrow,hb⟩:=hrel;obtain⟨pa,pc,rfl⟩:=ey hrow;have hbz:=hb.size;have hpl:=RI (aN L.cs) k;by_cases hlt:k<L.n
  .have hX:=HX.out.below hb;have b1:=hX.ct k hlt;have hlt':(k:Int)<(L.n:Int):=by omega
   have Dv:=aiN (aN L.cs) k;have Zi:jW (aN L.cs) k=bN (L.cs.getD k 0):=Uc (by rw [HX.out.len];exact hlt);rw [Zi]at Dv;clear hX Zi;generalize L.cs.getD k 0=c at*;cases hl:bN c
   .rw [hl,ai (by decide),lu]at Dv;have HL:Hid ((!bN c)=true):=by show _=_;rw [hl];rfl
    have HR:Hid (wr.ownsRow w.heap.size 3 1 (.slice pa (iG (aN L.cs) k).length pc) (iG (aN L.cs) (k+1)).length (iv (nl (iG (aN L.cs) (k+1))))):=by rw [Dv];exact hrow
    have HB:=ah hb;clear hl Dv hrow hb;go_wp2_with fail;refine(vM c _).mono ?_;rintro ev wx ⟨rfl,hx⟩;have hx':=hx.symm;subst hx';rw [HL.out];go_wp2;go_roundg (L.n - (k+1));case measure=>omega
    case rel=>exact⟨k+1,by omega,rfl,by go_num,HR.out,HB.out⟩
   .rw [hl,aj rfl]at Dv;have HL:Hid ((!bN c)=false):=by show _=_;rw [hl];rfl
    have HS:=ah Dv;clear hl Dv;go_wp2_with fail;refine(vM c _).mono ?_;rintro ev wx ⟨rfl,hx⟩;have hx':=hx.symm;subst hx';rw [HL.out];go_wp2_with(at_builtin;refine nX _ rfl _ _ 31 rfl w.heap.size 3 iI (.int .i64 0) 8 underlying31 eY eZ fe fh rfl (by decide) _ _ _ rfl hrow _ _ rfl rfl (by omega) hbz ?_);intro v' w5 b9 cA;have HR:Hid (w5.ownsRow w.heap.size 3 1 v' (iG (aN L.cs) (k+1)).length (iv (nl (iG (aN L.cs) (k+1))))):=by
     rw [HS.out];have e:iv (nl (iG (aN L.cs) k++[k]))=iv (nl (iG (aN L.cs) k))++[.int .i64 (k:Int)]:=by simp [iv,nl]
     rw [e,bP];exact b9
    have HB:Hid (Below w.heap.size w w5):=hb.grown cA hbz fun q hq=>(hrow.lt q hq).1
    clear b9 cA hrow hb;go_wp2;go_roundg (L.n - (k+1));case measure=>omega
    case rel=>exact⟨k+1,by omega,rfl,by go_num,HR.out,HB.out⟩
  .obtain rfl:k=L.n:=by omega
   have HR:=ah hrow;have HB:=ah hb;clear hrow hb;go_wp2;go_ret;exact⟨_,rfl,HR.out,HB.out⟩
def nG(g:Nat)(ab:Nat×Nat):Value:= .slice (some ⟨g,ab.1,none⟩) (ab.2 - ab.1) (ab.2 - ab.1)
def dI(left:List Nat)(ab:Nat×Nat):List Nat:=(left.take ab.2).drop ab.1
structure Bq(w:World)(B:Nat)(v:Value)(g:Nat)(left:List Nat)(aD:List (Nat×Nat)):Prop where
 row:w.ownsRow B 31 1 v aD.length (aD.map (nG g))
 lf:bG w g 0 (nl left)
 ok:∀ab∈aD,ab.1<ab.2/\ab.2<=left.length
 lt:left≠[]->B<=g/\g<w.heap.size
 ty:left≠[]->∃cs,w.heap[g]? =some (.cells cs 3 (0,0))
theorem alG(w:World)(L:LP)(ks ls:List Int)(h:LX w L ks ls)(hn:L.n<=1000):
  Calls prog 154 #[.pointer (some ⟨L.lb,0,none⟩)] w fun e w'=>∃v g aD,e= .returned v/\Bq w' w.heap.size v g (iG (aN L.cs) L.n) aD/\aD.map (dI (iG (aN L.cs) L.n))=cQ ls (aN L.cs)/\Below w.heap.size w w':=by
 obtain⟨iS,Iy,Jg,Jh,Ji⟩:=gW Tryz.Ro;have HX:=ah h;have UL:=ah (aiO w L ks ls h hn);have hll:=RI (aN L.cs) L.n;have D4:Hid (nI ls (iG (aN L.cs) L.n) (cQ ls (aN L.cs)) [] 0):=by have:=nI.start ls (aN L.cs);rw [h.kl.2]at this;exact this
 have HM:Hid (∀k,k<(iG (aN L.cs) L.n).length->(iG (aN L.cs) L.n).getD k 0<L.n):=fun k hk=>(aaw (dm hk)).1
 clear h;generalize iG (aN L.cs) L.n=left at*;generalize cQ ls (aN L.cs)=R at*;go_enter func154,ntmps154;go_wp2_with fail;refine UL.out.mono ?_;rintro ev w2 ⟨lv,rfl,hown,hb2⟩;obtain⟨la,lc,rfl⟩:=ey hown;obtain⟨g,hg⟩:∃g,0<left.length->la=some ⟨g,0,none⟩:=by
  by_cases h0:0<left.length
  .obtain⟨g,cap,hv,_⟩:=fS hown h0;exact⟨g,fun _=>by simpa using(by simpa using hv:la=some ⟨g,0,none⟩/\lc=cap).1⟩
  .exact⟨0,fun h=>absurd h h0⟩
 have U1:=ah hown;have aJ:=ah hb2;have Kj:=ah hg;clear hown hb2 UL hg;go_wp2;go_loopg [4,5] left.length (fun gh rv fv W=>∃(f:Nat)(aD:List (Nat×Nat)),f<=left.length/\gh=left.length - f/\fv= .int .i64 f/\aD.length<=f/\W.ownsRow w.heap.size 31 1 rv aD.length (aD.map (nG g))/\W.ownsRow w.heap.size 3 1 (.slice la left.length lc) left.length (iv (nl left))/\Below w.heap.size w W/\(∀ab∈aD,ab.1<ab.2/\ab.2<=left.length)/\nI ls left R (aD.map (dI left)) f);case atStart=>exact⟨0,[],by omega,rfl,rfl,by simp,jw _ _ _ _,U1.out,aJ.out,by simp,D4.out⟩
 case round=>
  clear U1 aJ D4;obtain⟨f,aD,hf,rfl,rfl,hsf,hrow,hown,hb,hok,hG⟩:=hrel;obtain⟨ra,rc,rfl⟩:=ey hrow;have hbz:=hb.size;by_cases hlt:f<left.length
  .have hlt':(f:Int)<(left.length:Int):=by omega
   have hla:=Kj.out (by omega);subst hla;have NZ:=ah hrow;have HOWN:=ah hown;have hcap:left.length<=lc:=(fS hown (by omega)).choose_spec.choose_spec.2.1|>fun h=>by
    obtain⟨g',c',hv,hc,_⟩:=fS hown (show 0<left.length by omega);have:lc=c':=by have:=hv;simp at this;exact this.2
    omega
   have HB:=ah hb;have UX:=ah hok;have HI:=ah (hG.opn hlt);have HC:Hid (∀k,k<left.length->wr.cell? ⟨g,k,none⟩=some (.int .i64 ((left.getD k 0:Nat):Int))/\wr.cell? ⟨L.gl,left.getD k 0,none⟩=some (.int .i64 (ls.getD (left.getD k 0) 0))/\left.getD k 0<L.n):=fun k hk=>by
    have h1:=iJ hown k (by rw [gw];exact hk);rw [mJ _ _ hk]at h1;exact⟨h1,(HX.out.below hb).cl _ (HM.out k hk),HM.out k hk⟩
   have a3:=(HX.out.below hb).f3;obtain⟨cf1,cf2,cf3⟩:=HC.out f hlt;clear hrow hown hb hok hG;obtain⟨W1,hW1⟩:∃W1,W1=wr:=⟨_,rfl⟩
   subst hW1;go_wp2;go_loopg [6] (left.length - (f+1)) (fun gh tv W=>∃(t m:Nat),f+1<=t/\t<=left.length/\gh=left.length - t/\tv= .int .i64 t/\W=W1.drewN m/\uS ls left R (aD.map (dI left)) f t);case atStart=>exact⟨f+1,0,by omega,by omega,rfl,by go_num,rfl,HI.out⟩
   case round=>
    obtain⟨t,m,hft,ht,rfl,rfl,rfl,hI⟩:=hrel;clear HI;have ET:((left.getD f 0:Nat):Int)<(L.n:Int):=by omega
    by_cases hgo:t<left.length/\ls.getD (left.getD t 0) 0=ls.getD (left.getD f 0) 0
    .obtain⟨ct1,WT,ct3⟩:=HC.out t hgo.1;have zD:Hid (uS ls left R (aD.map (dI left)) f (t+1)):=hI.more (by omega) hgo.1 hgo.2;have htl:=hgo.1;have ht':(t:Int)<(left.length:Int):=by omega
     have Ih:((left.getD t 0:Nat):Int)<(L.n:Int):=by omega
     have heq:(ls.getD (left.getD t 0) 0==ls.getD (left.getD f 0) 0)=true:=by simpa using hgo.2
     clear hgo hI;generalize ls.getD (left.getD t 0) 0=lt' at*;generalize ls.getD (left.getD f 0) 0=lf' at*;generalize left.getD t 0=pt at*;generalize left.getD f 0=pf at*;go_wp2_with fail;go_quiet(fail);go_wp2;go_roundg (left.length - (t+1));case measure=>omega
     case rel=>exact⟨t+1,_,by omega,by omega,rfl,by go_num,rfl,zD.out⟩
    .have HG2:Hid (nI ls left R (aD.map (dI left)++[(left.take t).drop f]) t):=hI.shut (by omega) ht (by
      by_cases h:t<left.length
      .exact .inr fun e=>hgo ⟨h,e⟩
      .exact .inl h)
     have hr2:(W1.drewN m).ownsRow w.heap.size 31 1 (.slice ra aD.length rc) aD.length (aD.map (nG g)):=dO NZ.out (vg (r:=none)) (by cases(Value.slice ra aD.length rc).ownBlock<;>simp);have Qp:w.heap.size<=(W1.drewN m).heap.size:=hbz;have hnone:(Value.slice ra aD.length rc).ownBlock=none∨(Value.slice ra aD.length rc).ownBlock≠none:=by cases(Value.slice ra aD.length rc).ownBlock<;>simp
     have aoo:(f:Int)<=(t:Int):=by omega
     have y7:(t:Int)<=(lc:Int):=by omega
     have Y1:Hid (aD.length<=1000):=by show _<=_;omega
     by_cases htl:t<left.length;case pos=>
      obtain⟨ct1,WT,ct3⟩:=HC.out t htl;have ht':(t:Int)<(left.length:Int):=by omega
      have Ih:((left.getD t 0:Nat):Int)<(L.n:Int):=by omega
      have heq:(ls.getD (left.getD t 0) 0==ls.getD (left.getD f 0) 0)=false:=by
       simp only [GY];exact fun e=>hgo ⟨htl,e⟩
      clear hgo hI;generalize ls.getD (left.getD t 0) 0=lt' at*;generalize ls.getD (left.getD f 0) 0=lf' at*;generalize left.getD t 0=pt at*;generalize left.getD f 0=pf at*;go_wp2_with fail;go_quiet(fail);have oZ:((W1.drewN m).drewN nq).ownsRow w.heap.size 31 1 (.slice ra aD.length rc) aD.length (aD.map (nG g)):=dO (dO NZ.out (vg (r:=none)) hnone) (vg (r:=none)) hnone;have pP:Hid (((W1.drewN m).drewN nq).ownsRow w.heap.size 3 1 (.slice (some ⟨g,0,none⟩) left.length lc) left.length (iv (nl left))):=dO (dO HOWN.out (vg (r:=none)) (.inr (by simp [Value.ownBlock]))) (vg (r:=none)) (.inr (by simp [Value.ownBlock]));have dx:Hid (Below w.heap.size w ((W1.drewN m).drewN nq)):=fZ (fZ HB.out _) _;have lN:w.heap.size<=((W1.drewN m).drewN nq).heap.size:=hbz;generalize(W1.drewN m).drewN nq=W5 at*;clear hr2 Qp;go_wp2_with(at_builtin;refine nX _ rfl _ _ 127 rfl w.heap.size 31 iS (.slice none 0 0) 24 underlying127 Iy Jg Jh Ji rfl (by decide) _ _ _ rfl oZ _ _ rfl rfl (by have:=Y1.out;omega) lN ?_);intro v6 w6 lK jU;have NY:Hid (w6.ownsRow w.heap.size 31 1 v6 (aD++[(f,t)]).length ((aD++[(f,t)]).map (nG g))):=by
       rw [fO,bP];exact lK
      have NJ:Hid (w6.ownsRow w.heap.size 3 1 (.slice (some ⟨g,0,none⟩) left.length lc) left.length (iv (nl left))):=dO pP.out jU (kD pP.out oZ (by decide));have ia:Hid (Below w.heap.size w w6):=dx.out.grown jU lN fun q hq=>(oZ.lt q hq).1
      have NK:Hid (∀ab∈aD++[(f,t)],ab.1<ab.2/\ab.2<=left.length):=fun ab hab=>by
       rcases kK.1 hab with h|h
       .exact UX.out ab h
       .rw [pY.1 h];exact⟨hft,ht⟩
      have F8:Hid (nI ls left R ((aD++[(f,t)]).map (dI left)) t):=by rw [fO];exact HG2.out
      clear lK jU oZ;go_wp2;go_roundg (left.length - t);case measure=>omega
      case rel=>exact⟨t,aD++[(f,t)],ht,rfl,by go_num,by rw [bP,VE];omega,NY.out,NJ.out,ia.out,NK.out,F8.out⟩
     case neg=>
      have ht':¬(t:Int)<(left.length:Int):=by omega
      have ht2:decide ((t:Int)<(left.length:Int))=false:=by simpa using ht'
      clear hgo hI;go_wp2_with fail;go_quiet(fail);have oZ:((W1.drewN m).drewN nq).ownsRow w.heap.size 31 1 (.slice ra aD.length rc) aD.length (aD.map (nG g)):=dO (dO NZ.out (vg (r:=none)) hnone) (vg (r:=none)) hnone;have pP:Hid (((W1.drewN m).drewN nq).ownsRow w.heap.size 3 1 (.slice (some ⟨g,0,none⟩) left.length lc) left.length (iv (nl left))):=dO (dO HOWN.out (vg (r:=none)) (.inr (by simp [Value.ownBlock]))) (vg (r:=none)) (.inr (by simp [Value.ownBlock]));have dx:Hid (Below w.heap.size w ((W1.drewN m).drewN nq)):=fZ (fZ HB.out _) _;have lN:w.heap.size<=((W1.drewN m).drewN nq).heap.size:=hbz;generalize(W1.drewN m).drewN nq=W5 at*;clear hr2 Qp;go_wp2_with(at_builtin;refine nX _ rfl _ _ 127 rfl w.heap.size 31 iS (.slice none 0 0) 24 underlying127 Iy Jg Jh Ji rfl (by decide) _ _ _ rfl oZ _ _ rfl rfl (by have:=Y1.out;omega) lN ?_);intro v6 w6 lK jU;have NY:Hid (w6.ownsRow w.heap.size 31 1 v6 (aD++[(f,t)]).length ((aD++[(f,t)]).map (nG g))):=by
       rw [fO,bP];exact lK
      have NJ:Hid (w6.ownsRow w.heap.size 3 1 (.slice (some ⟨g,0,none⟩) left.length lc) left.length (iv (nl left))):=dO pP.out jU (kD pP.out oZ (by decide));have ia:Hid (Below w.heap.size w w6):=dx.out.grown jU lN fun q hq=>(oZ.lt q hq).1
      have NK:Hid (∀ab∈aD++[(f,t)],ab.1<ab.2/\ab.2<=left.length):=fun ab hab=>by
       rcases kK.1 hab with h|h
       .exact UX.out ab h
       .rw [pY.1 h];exact⟨hft,ht⟩
      have F8:Hid (nI ls left R ((aD++[(f,t)]).map (dI left)) t):=by rw [fO];exact HG2.out
      clear lK jU oZ;go_wp2;go_roundg (left.length - t);case measure=>omega
      case rel=>exact⟨t,aD++[(f,t)],ht,rfl,by go_num,by rw [bP,VE];omega,NY.out,NJ.out,ia.out,NK.out,F8.out⟩
  .have Yi:=hG.done hlt;obtain rfl:f=left.length:=by omega
   have HR:Hid (Bq wr w.heap.size (.slice ra aD.length rc) g left aD):=by
    refine⟨hrow,?_,hok,fun hne=> ?_,fun hne=> ?_⟩
    .by_cases h0:0<left.length
     .have:=Kj.out h0;subst this;intro i hi;rw [gw]at hi;have h1:=iJ hown i (by rw [gw];exact hi);simpa using h1
     .have:left=[]:=OJ.1 (by omega);rw [this];intro i hi;simp [nl]at hi
    .have h0:=jc.2 hne;have:=Kj.out h0;subst this;obtain⟨g',c',hv,hc,hlt,hB⟩:=fS hown h0;have e:g=g':=by have:=hv;simp at this;exact this.1
     subst e;exact⟨hB,hlt⟩
    .have:=Kj.out (jc.2 hne);subst this;rcases hown.2 with⟨e1,_⟩|⟨g',cap,cur,e1,_,hh,_⟩
     .cases e1
     .injection e1 with e2
      injection e2 with e3
      injection e3 with e4
      subst e4;exact⟨cur,hh⟩
   have HB:=ah hb;have HE:=ah Yi;have hlt':¬(left.length:Int)<(left.length:Int):=by omega
   clear hrow hown hb hok hG Yi hlt;go_wp2;go_ret;exact⟨_,rfl,g,aD,HR.out,HE.out,HB.out⟩
section
open Go.Maps
section
variable{P:Program}{w:World}{t k e:TypeId}{b clock:Nat}{es:Array MapEntry}{key val z:Value}
theorem acf(ht:P.underlying t=some (.map k e))(hb:w.heap[b]? =some (.map es clock))(hc:(Instr.checkKey false 10000 k key).run P w= .ok () w)(hf:(Instr.findKey k key es.toList).run P w= .ok none w):
  (Instr.mapUpdate t (.map (some b)) key val).run P w= .ok () (ChangeMaps.setBlock w b (.map (es.push ⟨key,val,clock⟩) (clock+1))):=by
 simp [Instr.mapUpdate,Cr ht,VL hb,hc,hf,MapKept.run_setObj_map _ hb,Result.andThen,ChangeMaps.setBlock]
theorem ab9(c:Bool)(ht:P.underlying t=some (.map k e))(hz:(zeroValue e).run P w= .ok z w)(hb:w.heap[b]? =some (.map es clock))(hc:∀em,(Instr.checkKey em 10000 k key).run P w= .ok () w)(hf:(Instr.findKey k key es.toList).run P w= .ok none w):
  (Instr.lookup t (.map (some b)) key c).run P w= .ok (if c then .tuple #[z,.bool false]else z) w:=by
 simp [Instr.lookup,Cr ht,VL hb,hc,hf,hz,Result.andThen]
theorem acd(c:Bool){j:Nat}{v:Value}(ht:P.underlying t=some (.map k e))(hb:w.heap[b]? =some (.map es clock))(hc:∀em,(Instr.checkKey em 10000 k key).run P w= .ok () w)(hf:(Instr.findKey k key es.toList).run P w= .ok (some (j,v)) w):
  (Instr.lookup t (.map (some b)) key c).run P w= .ok (if c then .tuple #[v,.bool true]else v) w:=by
 simp [Instr.lookup,Cr ht,VL hb,hc,hf,Result.andThen]
theorem alz(w:World)(k:TypeId)(x:Value)(i:Nat):(Instr.findAsking k x [] i).run P w= .ok none w:=by
 simp [Instr.findAsking]
theorem aly {x:Value}{m:MapEntry}{r:List MapEntry}{q:Bool}(i:Nat)(h:(Op.equal k x m.key).run P w= .ok q w):
  (Instr.findAsking k x (m::r) i).run P w=if q=true then .ok (some (i,m.val)) w else(Instr.findAsking k x r (i+1)).run P w:=by
 cases q<;>simp [Instr.findAsking,h,Result.andThen]
theorem ab8(hk:P.underlying k=some (.int .i64))(a:Int):∀(es:List MapEntry)(i:Nat),(∀m∈es,∃x,m.key= .int .i64 x)->∃r,Instr.findNow (.int .i64) (.int .i64 a) es i=some r/\((r=none/\∀m∈es,m.key≠.int .i64 a)∨∃j m,r=some (i+j,m.val)/\es[j]? =some m/\m.key= .int .i64 a/\∀j' m',j'<j->es[j']? =some m'->m'.key≠.int .i64 a)
 |[],i,_=>⟨none,rfl,.inl ⟨rfl,by simp⟩⟩
 |m::r,i,h=>by
  obtain⟨x,hx⟩:=h m (by simp);by_cases hxa:a=x
  .refine⟨some (i,m.val),by simp [Instr.findNow,hx,Instr.sameNow,hxa],.inr ⟨0,m,by simp,by simp,by rw [hx,hxa],fun j' _ hj'=>by omega⟩⟩
  .obtain⟨q,hq,hr⟩:=ab8 hk a r (i+1) (fun y hy=>h y (by simp [hy]));have hne:(a==x)=false:=by simpa using hxa
   refine⟨q,by simp [Instr.findNow,hx,Instr.sameNow,hne,hq],?_⟩;rcases hr with⟨h1,h2⟩|⟨j,y,h1,h2,h3,h4⟩
   .refine .inl ⟨h1,fun y hy=> ?_⟩;rcases jF.1 hy with rfl|hy
    .rw [hx];intro e;cases e;exact hxa rfl
    .exact h2 y hy
   .refine .inr ⟨j+1,y,by rw [h1];congr 2;omega,by simpa using h2,h3,?_⟩;intro j' m' hj' hm';cases j' with
    |zero=>simp at hm';subst hm';rw [hx];intro e;cases e;exact hxa rfl
    |succ j'=>exact h4 j' m' (by omega) (by simpa using hm')
theorem S6(hk:P.underlying k=some (.int .i64))(w:World)(a:Int)(em:Bool):(Instr.checkKey em 10000 k (.int .i64 a)).run P w= .ok () w:=by
 unfold Instr.checkKey;simp [Cr hk]
theorem ab7(hk:P.underlying k=some (.int .i64))(w:World)(a:Int)(es:List MapEntry)(h:∀m∈es,∃x,m.key= .int .i64 x):
  ((Instr.findKey k (.int .i64 a) es).run P w= .ok none w/\∀m∈es,m.key≠.int .i64 a)∨∃j m,(Instr.findKey k (.int .i64 a) es).run P w= .ok (some (j,m.val)) w/\es[j]? =some m/\m.key= .int .i64 a:=by
 obtain⟨r,hr,h1⟩:=ab8 hk a es 0 h;have e1:(Instr.findKey k (.int .i64 a) es).run P w= .ok r w:=by simp [Instr.findKey,Cr hk,hr]
 rcases h1 with⟨rfl,h2⟩|⟨j,m,rfl,h2,h3,_⟩
 .exact .inl ⟨e1,h2⟩
 .exact .inr ⟨j,m,by simpa using e1,h2,h3⟩
end
end
