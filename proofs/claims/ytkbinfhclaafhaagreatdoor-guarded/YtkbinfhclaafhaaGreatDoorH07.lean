import Derived.Test.YtkbinfhclaafhaaGreatDoorH06
namespace Go.Proofs.YtkbinfhclaafhaaGreatDoor
open Go.RowKit
open Go.Proofs.Tryz
set_option maxRecDepth 100000
set_option maxHeartbeats 32000000
structure LP where
 B:Nat
 lb:Nat
 gr:Nat
 gt:Nat
 gc:Nat
 gl:Nat
 gm:Nat
 n:Nat
 cr:Nat
 ct:Nat
 p:Int
 rs:List Int
 cs:List Int
def LP.rv(L:LP):Value:= .slice (some ⟨L.gr,0,none⟩) L.n L.cr
def LP.has(L:LP)(g:Nat):Prop:=g=L.lb∨g=L.gr∨g=L.gt∨g=L.gc∨g=L.gl∨g=L.gm
structure LX(w:World)(L:LP)(ks ls:List Int):Prop where
 cell:w.heap[L.lb]? =some (.cells #[L.rv,.slice (some ⟨L.gt,0,none⟩) L.n L.ct,.slice (some ⟨L.gc,0,none⟩) L.n L.n,.slice (some ⟨L.gl,0,none⟩) L.n L.n,.slice (some ⟨L.gm,0,none⟩) L.n L.n,.int .i64 L.p] 141 (0,0))
 ru:∀k,k<L.n->w.cell? ⟨L.gr,k,none⟩=some (.int .i32 (L.rs.getD k 0))
 tb:dz w L.gt 0 L.cs
 ms:dz w L.gm 0 (jL L.cs)
 len:L.cs.length=L.n
 rc:aK w L.B 108 L.gc L.n (iv ks)
 rl:aK w L.B 3 L.gl L.n (iv ls)
 lt:∀g,L.has g->g<w.heap.size
 nl:L.gl≠L.lb/\L.gl≠L.gr/\L.gl≠L.gt/\L.gl≠L.gc/\L.gl≠L.gm
 nc:L.gc≠L.lb/\L.gc≠L.gr/\L.gc≠L.gt/\L.gc≠L.gm
structure XP(w:World)(L:LP)(s:Nat)(v:Value)(ks ls:List Int)(x:XS):Prop where
 wk:bD w L.B s v (.pointer (some ⟨L.lb,0,none⟩)) x
 ln:LX w L ks ls
 ap:∀g,L.has g->g≠s/\v.ownBlock≠some g
section
variable{w w':World}{L:LP}{s:Nat}{v v':Value}{ks ls:List Int}{x x':XS}
theorem dz.Ai {w w':World}{b off:Nat}{l:List Int}(h:dz w b off l)(he:w'.heap[b]? =w.heap[b]?):dz w' b off l:=fun i hi=>by
 have:=h i hi;simp only [World.cell?]at this ⊢;rw [he];exact this
theorem LX.lnR(h:LX w L ks ls):tu w L.lb L.gt L.gm L.n L.ct L.n L.rv (.slice (some ⟨L.gc,0,none⟩) L.n L.n) (.slice (some ⟨L.gl,0,none⟩) L.n L.n) L.p L.cs:=⟨h.cell,h.tb,h.ms,h.len⟩
theorem LX.same(h:LX w L ks ls)(hs:w.heap.size<=w'.heap.size)(hb:∀g,L.has g->w'.heap[g]? =w.heap[g]?):LX w' L ks ls:=by
 have u:∀g,L.has g->∀k,w'.cell? ⟨g,k,none⟩=w.cell? ⟨g,k,none⟩:=fun g hg k=>by simp only [World.cell?];rw [hb g hg]
 refine⟨by rw [hb L.lb (by simp [LP.has])];exact h.cell,fun k hk=>by rw [u L.gr (by simp [LP.has])];exact h.ru k hk,h.tb.Ai (hb L.gt (by simp [LP.has])),h.ms.Ai (hb L.gm (by simp [LP.has])),h.len,?_,?_,fun g hg=>Nat.lt_of_lt_of_le (h.lt g hg) hs,h.nl,h.nc⟩
 .exact kK h.rc fun k o hk ho=>by
   obtain rfl:L.gc=k:=by simpa [Value.ownBlock]using hk
   rw [hb L.gc (by simp [LP.has])];exact ho
 .exact kK h.rl fun k o hk ho=>by
   obtain rfl:L.gl=k:=by simpa [Value.ownBlock]using hk
   rw [hb L.gl (by simp [LP.has])];exact ho
theorem LX.below(h:LX w L ks ls)(hb:Below w.heap.size w w'):LX w' L ks ls:=h.same hb.size fun g hg=>hb.block g (h.lt g hg)
theorem XP.below(h:XP w L s v ks ls x)(hb:Below w.heap.size w w'):XP w' L s v ks ls x:=⟨h.wk.below hb,h.ln.below hb,h.ap⟩
theorem XP.yA(h:XP w L s v ks ls x)(hw:bD w' L.B s v' (.pointer (some ⟨L.lb,0,none⟩)) x')(hf:aU w w' s v v'):XP w' L s v' ks ls x':=
 ⟨hw,h.ln.same hf.size fun g hg=>hf.block g (h.ln.lt g hg) (h.ap g hg).1 (h.ap g hg).2,fun g hg=>⟨(h.ap g hg).1,hf.Bh (h.ln.lt g hg) (h.ap g hg).2⟩⟩
theorem LX.Cv(h:LX w L ks ls)(k:Nat)(a:Int):LX (w.setCell ⟨L.gl,k,none⟩ (.int .i64 a)) L ks (ls.set k a):=by
 have hne:∀g,g≠L.gl->(w.setCell ⟨L.gl,k,none⟩ (.int .i64 a)).heap[g]? =w.heap[g]? :=fun g hg=>Below.heap_setCell _ _ _ _ hg
 have u:∀g,g≠L.gl->∀j,(w.setCell ⟨L.gl,k,none⟩ (.int .i64 a)).cell? ⟨g,j,none⟩=w.cell? ⟨g,j,none⟩:=fun g hg j=>by simp only [World.cell?];rw [hne g hg]
 obtain⟨n1,n2,n3,n4,n5⟩:=h.nl;exact⟨by rw [hne L.lb n1.symm];exact h.cell,fun j hj=>by rw [u L.gr n2.symm];exact h.ru j hj,h.tb.Ai (hne L.gt n3.symm),h.ms.Ai (hne L.gm n5.symm),h.len,h.rc.setOther L.gl k _ n4.symm,by rw [<-BR];exact h.rl.set k _,fun g hg=>by simpa using h.lt g hg,h.nl,h.nc⟩
theorem LX.OJ(h:LX w L ks ls)(k:Nat)(a:Int):LX (w.setCell ⟨L.gc,k,none⟩ (.int .i64 a)) L (ks.set k a) ls:=by
 have hne:∀g,g≠L.gc->(w.setCell ⟨L.gc,k,none⟩ (.int .i64 a)).heap[g]? =w.heap[g]? :=fun g hg=>Below.heap_setCell _ _ _ _ hg
 have u:∀g,g≠L.gc->∀j,(w.setCell ⟨L.gc,k,none⟩ (.int .i64 a)).cell? ⟨g,j,none⟩=w.cell? ⟨g,j,none⟩:=fun g hg j=>by simp only [World.cell?];rw [hne g hg]
 obtain⟨n1,n2,n3,n4⟩:=h.nc;exact⟨by rw [hne L.lb n1.symm];exact h.cell,fun j hj=>by rw [u L.gr n2.symm];exact h.ru j hj,h.tb.Ai (hne L.gt n3.symm),h.ms.Ai (hne L.gm n4.symm),h.len,by rw [<-BR];exact h.rc.set k _,h.rl.setOther L.gc k _ h.nl.2.2.2.1,fun g hg=>by simpa using h.lt g hg,h.nl,h.nc⟩
theorem XP.Cv(h:XP w L s v ks ls x)(k:Nat)(a:Int):XP (w.setCell ⟨L.gl,k,none⟩ (.int .i64 a)) L s v ks (ls.set k a) x:=
 ⟨h.wk.setOther (h.ap L.gl (by simp [LP.has])).1 (h.ap L.gl (by simp [LP.has])).2 k _,h.ln.Cv k a,h.ap⟩
theorem XP.OJ(h:XP w L s v ks ls x)(k:Nat)(a:Int):XP (w.setCell ⟨L.gc,k,none⟩ (.int .i64 a)) L s v (ks.set k a) ls x:=
 ⟨h.wk.setOther (h.ap L.gc (by simp [LP.has])).1 (h.ap L.gc (by simp [LP.has])).2 k _,h.ln.OJ k a,h.ap⟩
theorem XP.drew(h:XP w L s v ks ls x):XP w.drew L s v ks ls x:=h.below (Below.refl _ _).drew
end
def rY(c o:Int):Int:=if o= -1 then c else o
theorem aiB(w:World)(L:LP)(s:Nat)(v:Value)(ks ls:List Int)(x:XS)(h:XP w L s v ks ls x)(hne:x.st≠[])(hn:x.st.length<=1000)(i:Nat)(hi:i<L.n):
  Calls prog 201 #[.pointer (some ⟨s,0,none⟩),.int .i64 i] w fun ev w'=>ev= .returned (.tuple #[])/\XP w' L s v (ks.set i (rY (ks.getD i 0) (aS x.st).o)) (ls.set i (aS x.st).l) x/\Below L.B w w':=by
 have HT:Hid (Calls prog 238 #[.pointer (some ⟨s,1,none⟩)] w fun ev w'=>ev= .returned (.agg #[.int .i64 (aS x.st).l,.int .i64 (aS x.st).o,.bool (aS x.st).i])/\Below w.heap.size w w'):=O1 w L.B s v _ x _ h.wk (ZN hne) (by omega);have HX:Hid (∀W,Below w.heap.size w W->XP W L s v ks ls x):=fun W hb=>h.below hb
 have hBw:L.B<=w.heap.size:=Nat.le_trans h.wk.low (Nat.le_of_lt (bK h.wk.cell));have hBl:L.B<=L.gl:=h.ln.rl.ge.1;have hBc:L.B<=L.gc:=h.ln.rc.ge.1;have HK:Hid (ks.length=L.n/\ls.length=L.n):=⟨by have:=h.ln.rc.1;simpa [iv]using this,by have:=h.ln.rl.1;simpa [iv]using this⟩
 have hi':(i:Int)<(L.n:Int):=by omega
 clear h hne hn;generalize aS x.st=t at*;obtain⟨tl,to',ti⟩:=t;simp only at HT ⊢;unfold rY;by_cases ho:to'= -1
 .subst ho;rw [if_pos rfl];go_enter func201,ntmps201;go_wp2_with fail;refine HT.out.mono ?_;rintro ev w2 ⟨rfl,hb⟩;have hB3:Below w.heap.size w (w2.alloc (.cells #[.int .i64 tl,.int .i64 (-1),.bool ti] 215)):=hb.alloc hb.size _;have eU:=HX.out _ hB3;have a0:(w2.alloc (.cells #[.int .i64 tl,.int .i64 (-1),.bool ti] 215)).cell? ⟨s,0,none⟩=some (.pointer (some ⟨L.lb,0,none⟩)):=au eU.wk.cell 0;have a3:(w2.alloc (.cells #[.int .i64 tl,.int .i64 (-1),.bool ti] 215)).cell? ⟨L.lb,3,none⟩=some (.slice (some ⟨L.gl,0,none⟩) L.n L.n):=au eU.ln.cell 3;have al:(w2.alloc (.cells #[.int .i64 tl,.int .i64 (-1),.bool ti] 215)).cell? ⟨L.gl,i,none⟩=some (.int .i64 (ls.getD i 0)):=jZ eU.ln.rl i (by rw [HK.out.2];exact hi);have fl:(w2.alloc (.cells #[.int .i64 tl,.int .i64 (-1),.bool ti] 215)).frozen? ⟨L.gl,i,none⟩=false:=eU.ln.rl.frozen i;have hgl:L.gl≠w2.heap.size:=by
   have:=(HX.out _ hb).ln.rl.ge.2;omega
  have HB3:Hid _:=hB3;have JZ:Hid _:=eU;clear hb hB3 eU HT;go_wp2;go_region;all_goals
   go_wp2;go_end0;refine⟨rfl,?_,(HB3.out.mono hBw).drew.setCell (p:=⟨L.gl,i,none⟩) hBl _⟩;have e:ks.set i (ks.getD i 0)=ks:=by
    rw [List.getD_eq_getElem?_getD,List.getElem?_eq_getElem (by rw [HK.out.1];exact hi)];exact List.set_getElem_self _
   rw [e];exact JZ.out.drew.Cv i tl
 .rw [if_neg ho];have ho':(to' != -1)=true:=by simpa using ho
  go_enter func201,ntmps201;go_wp2_with fail;refine HT.out.mono ?_;rintro ev w2 ⟨rfl,hb⟩;have hB3:Below w.heap.size w (w2.alloc (.cells #[.int .i64 tl,.int .i64 to',.bool ti] 215)):=hb.alloc hb.size _;have eU:=HX.out _ hB3;have a0:(w2.alloc (.cells #[.int .i64 tl,.int .i64 to',.bool ti] 215)).cell? ⟨s,0,none⟩=some (.pointer (some ⟨L.lb,0,none⟩)):=au eU.wk.cell 0;have a3:(w2.alloc (.cells #[.int .i64 tl,.int .i64 to',.bool ti] 215)).cell? ⟨L.lb,3,none⟩=some (.slice (some ⟨L.gl,0,none⟩) L.n L.n):=au eU.ln.cell 3;have al:(w2.alloc (.cells #[.int .i64 tl,.int .i64 to',.bool ti] 215)).cell? ⟨L.gl,i,none⟩=some (.int .i64 (ls.getD i 0)):=jZ eU.ln.rl i (by rw [HK.out.2];exact hi);have fl:(w2.alloc (.cells #[.int .i64 tl,.int .i64 to',.bool ti] 215)).frozen? ⟨L.gl,i,none⟩=false:=eU.ln.rl.frozen i;have hgl:L.gl≠w2.heap.size:=by
   have:=(HX.out _ hb).ln.rl.ge.2;omega
  have HB3:Hid _:=hB3;have JZ:Hid _:=eU;clear hb hB3 eU HT;go_wp2;go_region;all_goals
   have zy:Hid (XP ((w2.alloc (.cells #[.int .i64 tl,.int .i64 to',.bool ti] 215)).setCell ⟨L.gl,i,none⟩ (.int .i64 tl)).drew L s v ks (ls.set i tl) x):=(JZ.out.Cv i tl).drew;have dL:Hid (Below L.B w ((w2.alloc (.cells #[.int .i64 tl,.int .i64 to',.bool ti] 215)).setCell ⟨L.gl,i,none⟩ (.int .i64 tl)).drew):=((HB3.out.mono hBw).setCell (p:=⟨L.gl,i,none⟩) hBl _).drew;have b1:((w2.alloc (.cells #[.int .i64 tl,.int .i64 to',.bool ti] 215)).setCell ⟨L.gl,i,none⟩ (.int .i64 tl)).drew.cell? ⟨w2.heap.size,1,none⟩=some (.int .i64 to'):=by
    show((w2.alloc (.cells #[.int .i64 tl,.int .i64 to',.bool ti] 215)).setCell ⟨L.gl,i,none⟩ (.int .i64 tl)).cell? ⟨w2.heap.size,1,none⟩=_;rw [World.cell?_setCell_other _ _ _ _ (by intro e;exact hgl (congrArg Addr.block e))];go_simp
   clear a0 a3 al fl;generalize((w2.alloc (.cells #[.int .i64 tl,.int .i64 to',.bool ti] 215)).setCell ⟨L.gl,i,none⟩ (.int .i64 tl)).drew=W4 at*;have a0:W4.cell? ⟨s,0,none⟩=some (.pointer (some ⟨L.lb,0,none⟩)):=au zy.out.wk.cell 0;have a2:W4.cell? ⟨L.lb,2,none⟩=some (.slice (some ⟨L.gc,0,none⟩) L.n L.n):=au zy.out.ln.cell 2;have al:W4.cell? ⟨L.gc,i,none⟩=some (.int .i64 (ks.getD i 0)):=jZ zy.out.ln.rc i (by rw [HK.out.1];exact hi);have fl:W4.frozen? ⟨L.gc,i,none⟩=false:=zy.out.ln.rc.frozen i;go_wp2;go_region;all_goals
    go_wp2;go_end0;exact⟨rfl,zy.out.drew.OJ i to',dL.out.drew.setCell (p:=⟨L.gc,i,none⟩) hBc _⟩
theorem acR(w:World)(B s:Nat)(v lp:Value)(x:XS)(m:Int)(h:bD w B s v lp x)(ho:dH m x)(hm:m<=100000):
  Calls prog 200 #[.pointer (some ⟨s,0,none⟩)] w fun ev w'=>ev= .returned (.tuple #[])/\∃v',bD w' B s v' lp (nC x)/\aU w w' s v v':=by
 have h1:=ho.bu;by_cases hc:0<x.bu∨x.valid=0
 .exact acT w B s v lp x h ⟨h1.1,by omega⟩ hc
 .have hcn:=ho.cnt;have hl:=ho.len;have hfl:=List.length_filter_le (·.i) x.st;have hv:1<=x.valid:=by omega
  have:=acS w B s v lp x h (by omega) (by omega) ⟨hv,by omega⟩ (ho.Tm hv);unfold nC;rw [if_neg (by omega),if_neg (by omega)];exact this
theorem aiY(w:World)(L:LP)(s:Nat)(v:Value)(ks ls:List Int)(x:XS)(m:Int)(h:XP w L s v ks ls x)(ho:dH m x)(hm:m<=1000)(hn:L.n<=1000)(i:Nat)(hi:i<L.n):
  Calls prog 143 #[.pointer (some ⟨s,0,none⟩),.int .i64 i] w fun ev w'=>ev= .returned (.tuple #[])/\∃v',XP w' L s v' (ks.set i (rY (ks.getD i 0) (aS (dK x (L.cs.getD i 0)).st).o)) (ls.set i (aS (dK x (L.cs.getD i 0)).st).l) (gK L.cs i (dK x (L.cs.getD i 0)) (L.cs.getD i 0))/\Below L.B w w':=by
 have a0:w.cell? ⟨s,0,none⟩=some (.pointer (some ⟨L.lb,0,none⟩)):=au h.wk.cell 0;have a1:w.cell? ⟨L.lb,1,none⟩=some (.slice (some ⟨L.gt,0,none⟩) L.n L.ct):=au h.ln.cell 1;have at':w.cell? ⟨L.gt,i,none⟩=some (.int .i64 (L.cs.getD i 0)):=by
  have:=h.ln.tb i (by rw [h.ln.len];exact hi);simpa using this
 have hi':(i:Int)<(L.n:Int):=by omega
 have hop:=ho.pre (L.cs.getD i 0);have hlen:=hop.len;have htop:=hop.top;have JP:Hid (∀W v0 x0 m0,XP W L s v0 ks ls x0->dH m0 x0->Calls prog 201 #[.pointer (some ⟨s,0,none⟩),.int .i64 i] W fun ev w'=>ev= .returned (.tuple #[])/\XP w' L s v0 (ks.set i (rY (ks.getD i 0) (aS x0.st).o)) (ls.set i (aS x0.st).l) x0/\Below L.B W w'):=
  fun W v0 x0 m0 hx h0=>aiB W L s v0 ks ls x0 hx h0.ne (by have:=h0.len;omega) i hi
 have HX:Hid (XP w L s v ks ls x):=h;have HO:Hid (dH m x):=ho;obtain⟨ks',hks⟩:∃ks',ks'=ks.set i (rY (ks.getD i 0) (aS (dK x (L.cs.getD i 0)).st).o):=⟨_,rfl⟩
 obtain⟨ls',hls⟩:∃ls',ls'=ls.set i (aS (dK x (L.cs.getD i 0)).st).l:=⟨_,rfl⟩
 rw [<-hks,<-hls];by_cases h21:L.cs.getD i 0=21
 .rw [h21]at at' hks hls hop ⊢;have ep:gK L.cs i (dK x 21) 21=dK x 21:=by simp [gK]
  rw [ep];have HE:Hid (Calls prog 200 #[.pointer (some ⟨s,0,none⟩)] w fun ev w'=>ev= .returned (.tuple #[])/\∃v',bD w' L.B s v' (.pointer (some ⟨L.lb,0,none⟩)) (dK x 21)/\aU w w' s v v'):=acR w L.B s v _ x m h.wk ho (by omega);have HP:Hid (dH m (dK x 21)):=hop;have HK:Hid (ks'=ks.set i (rY (ks.getD i 0) (aS (dK x 21).st).o)):=hks;have HL:Hid (ls'=ls.set i (aS (dK x 21).st).l):=hls;clear h ho hop hks hls h21 hlen htop;go_enter func143,ntmps143;go_wp2_with fail;refine HE.out.mono ?_;rintro ev w2 ⟨rfl,v2,hW,hF⟩;have iM:Hid (XP w2 L s v2 ks ls (dK x 21)):=HX.out.yA hW hF;have HB2:Hid (Below L.B w w2):=hF.Bn HX.out.wk (Below.refl _ _);clear hW hF HE a0 a1 at';go_wp2_with fail;refine(JP.out w2 v2 _ m iM.out HP.out).mono ?_;rintro ev w3 ⟨rfl,uf,hB3⟩;have eU:Hid _:=uf;have HB3:Hid _:=hB3;clear uf hB3;go_wp2_with fail;refine(zN 21 _).mono ?_;rintro ev wx ⟨rfl,hx⟩;subst hx;rw [show ic 21=false from rfl];go_wp2_with fail;refine(kH 21 _).mono ?_;rintro ev wx ⟨rfl,hx⟩;subst hx;rw [show aG 21=false from rfl];go_wp2;go_end0;refine⟨rfl,v2,?_,HB2.out.trans HB3.out⟩;rw [HK.out,HL.out];exact eU.out
 .have IC:(L.cs.getD i 0==21)=false:=by simpa using h21
  have Tg:dK x (L.cs.getD i 0)=x:=by rw [dK,if_neg h21]
  rw [Tg]at hks hls hop hlen htop ⊢;have HS:Hid (Calls prog 201 #[.pointer (some ⟨s,0,none⟩),.int .i64 i] w fun ev w'=>ev= .returned (.tuple #[])/\XP w' L s v ks' ls' x/\Below L.B w w'):=by
   rw [hks,hls];exact JP.out w v x m h ho
  have HQ:Hid ((x.st≠[]/\x.st.length<=1000)/\(0<=(aS x.st).l/\(aS x.st).l<=1000)/\(0<=x.bu/\x.bu<=100000)/\(0<=x.bN/\x.bN<=100000)/\0<=x.valid/\x.valid<=100000):=by
   have h1:=ho.bu;have h2:=ho.bN;have h3:=ho.cnt;have h5:=List.length_filter_le (·.i) x.st;exact⟨⟨ho.ne,by omega⟩,⟨htop.2.1,by omega⟩,⟨h1.1,by omega⟩,⟨h2.1,by omega⟩,by omega,by omega⟩
  have bZ:Hid (s<w.heap.size):=bK h.wk.cell;clear h ho hop hks hls hlen htop Tg JP HO;cases he:ic (L.cs.getD i 0)
  .cases bG:aG (L.cs.getD i 0)
   .by_cases BF:L.cs.getD i 0=17
    .have ep:gK L.cs i x (L.cs.getD i 0)=uC x:=by rw [BF];simp [gK]
     rw [ep];rw [BF]at at';clear he bG IC h21 BF ep;go_enter func143,ntmps143;go_wp2_with fail;refine HS.out.mono ?_;rintro ev w2 ⟨rfl,hX2,hB2⟩;have iM:Hid _:=hX2;have HB2:Hid _:=hB2;clear hX2 hB2 a0 a1 at';go_wp2_with fail;refine(zN 17 _).mono ?_;rintro ev wx ⟨rfl,hx⟩;subst hx;rw [show ic 17=false from rfl];go_wp2_with fail;refine(kH 17 _).mono ?_;rintro ev wx ⟨rfl,hx⟩;subst hx;rw [show aG 17=false from rfl];go_wp2_with fail;refine(ahx _ L.B s v _ x iM.out.wk HQ.out.1.1 HQ.out.1.2 HQ.out.2.2.2.1.2).mono ?_;rintro ev w3 ⟨rfl,v3,hW3,mD⟩;have eU:Hid _:=iM.out.yA hW3 mD;have HB3:Hid _:=mD.Bn iM.out.wk HB2.out;clear hW3 mD;go_wp2;go_end0;exact⟨rfl,v3,eU.out,HB3.out⟩
    .have ep:gK L.cs i x (L.cs.getD i 0)=x:=by
      have h1:¬(L.cs.getD i 0=13∨L.cs.getD i 0=14∨L.cs.getD i 0=15∨L.cs.getD i 0=16):=by
       intro hh;have:ic (L.cs.getD i 0)=true:=by simpa [ic]using hh
       rw [he]at this;cases this
      have h2:¬L.cs.getD i 0=18/\¬L.cs.getD i 0=19/\¬L.cs.getD i 0=20:=by
       refine⟨fun e=> ?_,fun e=> ?_,fun e=> ?_⟩<;>(rw [e]at bG;cases bG)
      rw [gK,if_neg h1,if_neg h2.1,if_neg h2.2.1,if_neg h2.2.2,if_neg BF]
     rw [ep];have q17:(L.cs.getD i 0==17)=false:=by simpa using BF
     have HE:Hid (ic (L.cs.getD i 0)=false):=he;have HI:Hid (aG (L.cs.getD i 0)=false):=bG;clear he bG h21 BF ep;generalize L.cs.getD i 0=q at*;go_enter func143,ntmps143;go_wp2_with fail;refine HS.out.mono ?_;rintro ev w2 ⟨rfl,hX2,hB2⟩;have iM:Hid _:=hX2;have HB2:Hid _:=hB2;clear hX2 hB2 a0 a1 at';go_wp2_with fail;refine(zN q _).mono ?_;rintro ev wx ⟨rfl,hx⟩;subst hx;rw [HE.out];go_wp2_with fail;refine(kH q _).mono ?_;rintro ev wx ⟨rfl,hx⟩;subst hx;rw [HI.out];go_wp2;go_end0;exact⟨rfl,v,iM.out,HB2.out⟩
   .have hq:=VY bG;have ep:gK L.cs i x (L.cs.getD i 0)=jT x (if L.cs.getD i 0=18 then 0 else if L.cs.getD i 0=19 then 1 else nH L.cs i):=by
     rcases hq with e|e|e<;>rw [e]<;>simp [gK]
    rw [ep];have rF:Hid (∀W,tu W L.lb L.gt L.gm L.n L.ct L.n L.rv (.slice (some ⟨L.gc,0,none⟩) L.n L.n) (.slice (some ⟨L.gl,0,none⟩) L.n L.n) L.p L.cs->W.cell? ⟨s,0,none⟩=some (.pointer (some ⟨L.lb,0,none⟩))->s<W.heap.size->Calls prog 205 #[.pointer (some ⟨s,0,none⟩),.int .i64 i] W fun e w'=>e= .returned (.int .i64 (if L.cs.getD i 0=18 then 0 else if L.cs.getD i 0=19 then 1 else nH L.cs i))/\Below W.heap.size W w'):=fun W hr hc hs=>ae8 W s L.lb L.gt L.gm L.n L.ct L.n L.rv _ _ L.p L.cs hr hn hc hs i hi hq
    have HE:Hid (ic (L.cs.getD i 0)=false):=he;have HI:Hid (aG (L.cs.getD i 0)=true):=bG;clear he bG h21 ep hq;generalize(if L.cs.getD i 0=18 then(0:Int)else if L.cs.getD i 0=19 then 1 else nH L.cs i)=d at*;generalize L.cs.getD i 0=q at*;go_enter func143,ntmps143;go_wp2_with fail;refine HS.out.mono ?_;rintro ev w2 ⟨rfl,hX2,hB2⟩;have iM:Hid (XP w2 L s v ks' ls' x):=hX2;have HB2:Hid _:=hB2;clear hX2 hB2 a0 a1 at';go_wp2_with fail;refine(zN q _).mono ?_;rintro ev wx ⟨rfl,hx⟩;subst hx;rw [HE.out];go_wp2_with fail;refine(kH q _).mono ?_;rintro ev wx ⟨rfl,hx⟩;subst hx;rw [HI.out];go_wp2_with fail;refine(rF.out _ iM.out.ln.lnR (au iM.out.wk.cell 0) (bK iM.out.wk.cell)).mono ?_;rintro ev w3 ⟨rfl,hb3⟩;have eU:Hid (XP w3 L s v ks' ls' x):=iM.out.below hb3;have HB3:Hid (Below L.B w w3):=HB2.out.trans (hb3.mono (Nat.le_trans iM.out.wk.low (Nat.le_of_lt (bK iM.out.wk.cell))));clear hb3;go_wp2_with fail;refine(ae9 _ L.B s v _ x d eU.out.wk HQ.out.1.1 HQ.out.1.2 HQ.out.2.1.1 HQ.out.2.1.2 HQ.out.2.2.1 HQ.out.2.2.2.2).mono ?_;rintro ev w4 ⟨rfl,v4,UE,lK⟩;have zy:Hid _:=eU.out.yA UE lK;have dL:Hid _:=lK.Bn eU.out.wk HB3.out;clear UE lK;go_wp2;go_end0;exact⟨rfl,v4,zy.out,dL.out⟩
  .have ep:gK L.cs i x (L.cs.getD i 0)=nW x (L.cs.getD i 0):=by
    have:L.cs.getD i 0=13∨L.cs.getD i 0=14∨L.cs.getD i 0=15∨L.cs.getD i 0=16:=by simpa [ic]using he
    rw [gK,if_pos this]
   rw [ep];have HE:Hid (ic (L.cs.getD i 0)=true):=he;clear he h21 ep;generalize L.cs.getD i 0=q at*;go_enter func143,ntmps143;go_wp2_with fail;refine HS.out.mono ?_;rintro ev w2 ⟨rfl,hX2,hB2⟩;have iM:Hid _:=hX2;have HB2:Hid _:=hB2;clear hX2 hB2 a0 a1 at';go_wp2_with fail;refine(zN q _).mono ?_;rintro ev wx ⟨rfl,hx⟩;subst hx;rw [HE.out];go_wp2_with fail;refine(acP _ L.B s v _ x q HE.out iM.out.wk HQ.out.1.1 HQ.out.1.2 HQ.out.2.1.1 HQ.out.2.1.2 HQ.out.2.2.2.1).mono ?_;rintro ev w3 ⟨rfl,v3,hW3,mD⟩;have eU:Hid _:=iM.out.yA hW3 mD;have HB3:Hid _:=mD.Bn iM.out.wk HB2.out;clear hW3 mD;go_wp2;go_end0;exact⟨rfl,v3,eU.out,HB3.out⟩
def oH(st:List aO):Prop:=∀e∈st,e.o= -1∨0<=e.o
theorem oH.app {st:List aO}{e:aO}(h:oH st)(he:e.o= -1∨0<=e.o):oH (st++[e]):=fun y hy=>by
 rcases List.mem_append.1 hy with hy|hy
 .exact h y hy
 .rw [List.mem_singleton.1 hy];exact he
theorem oH.sub {st st':List aO}(h:oH st)(hs:∀e∈st',e∈st):oH st':=fun e he=>h e (hs e he)
theorem Od(st:List aO):∀e∈gI st,e∈st:=by
 intro e he;unfold gI at he;have h1:=List.mem_reverse.1 he;have h2:e∈st.reverse.dropWhile fun e=> !e.i:=List.mem_of_mem_drop h1
 have h3:e∈st.reverse:=(List.dropWhile_sublist _).mem h2;exact List.mem_reverse.1 h3
theorem oH.pre {x:XS}(h:oH x.st)(c:Int):oH (dK x c).st:=by
 unfold dK;split
 .unfold nC;split
  .exact h
  .split
   .exact h
   .exact h.sub (Od _)
 .exact h
theorem oH.post {x:XS}(h:oH x.st)(cs:List Int)(i:Nat)(c:Int):oH (gK cs i x c).st:=by
 have hb:∀odd,oH (jT x odd).st:=fun odd=>by
  unfold jT;simp only;split
  .exact h.app (.inl rfl)
  .exact h
 unfold gK;split
 .have ho:(if c=15 then(0:Int)else if c=16 then 1 else -1)= -1∨0<=(if c=15 then(0:Int)else if c=16 then 1 else -1):=by
   split
   .exact .inr (by decide)
   .split
    .exact .inr (by decide)
    .exact .inl rfl
  unfold nW;simp only;generalize(if c=15 then(0:Int)else if c=16 then 1 else -1)=o at*;generalize iD (aS x.st).l _=n;split
  .exact h.app ho
  .split<;>exact h
 .split
  .exact hb _
  .split
   .exact hb _
   .split
    .exact hb _
    .split
     .unfold uC;split
      .exact h
      .split
       .exact h
       .split
        .exact h.sub fun e he=>List.dropLast_subset _ he
        .exact h
     .exact h
theorem aap(cs:List Int)(para:Int):∀i,oH (dZ cs para i).st
 |0=>by intro e he;rw [dZ]at he;rw [List.mem_singleton.1 he];exact .inl rfl
 |i+1=>by rw [dZ];exact((aap cs para i).pre _).post cs i _
theorem IZ {st:List aO}(h:st≠[]):aS st∈st:=by
 unfold aS;rw [List.getLastD_eq_getLast?,List.getLast?_eq_some_getLast h];exact List.getLast_mem h
theorem ajV(cs:List Int)(para:Int)(hp:0<=para/\para<=125)(i:Nat):(iJ cs para i).o= -1∨0<=(iJ cs para i).o:=
 ((aap cs para i).pre _) _ (IZ ((vT cs para hp i).pre _).ne)
def kP(cs:List Int)(para:Int):List Int:=(List.range cs.length).map fun i=>rY (cs.getD i 0) (iJ cs para i).o
theorem sj {α:Type}(n:Nat)(f:Nat->α)(d:α)(j:Nat)(hj:j<n):((List.range n).map f).getD j d=f j:=by
 rw [List.getD_eq_getElem?_getD,List.getElem?_map,List.getElem?_range hj];rfl
theorem afd {cs:List Int}{para:Int}(hp:0<=para/\para<=125){i:Nat}(hi:i<cs.length)(hl:dm (cs.getD i 0)=true):(kP cs para).getD i 0=(iX cs para).getD i 0:=by
 rw [kP,iX,sj _ _ _ _ hi,sj _ _ _ _ hi,kindOf,rY];rcases ajV cs para hp i with h|h
 .rw [if_pos h,if_neg (by omega)]
 .rw [if_neg (by omega),if_pos ⟨hl,h⟩]
def jR(n k:Nat)(l:List Int)(f g:Nat->Int):Prop:=l.length=n/\∀j,j<n->l.getD j 0=if j<k then f j else g j
theorem jR.step {n k:Nat}{l:List Int}{f g:Nat->Int}(h:jR n k l f g)(hk:k<n):jR n (k+1) (l.set k (f k)) f g:=by
 refine⟨by rw [List.length_set];exact h.1,fun j hj=> ?_⟩;by_cases hjk:j=k
 .subst hjk;rw [tV (by rw [h.1];exact hk),if_pos (by omega)]
 .rw [getD_set_ne (fun e=>hjk e.symm),h.2 j hj];by_cases h':j<k
  .rw [if_pos h',if_pos (by omega)]
  .rw [if_neg h',if_neg (by omega)]
theorem jR.done {n:Nat}{l:List Int}{f g:Nat->Int}(h:jR n n l f g):l=(List.range n).map f:=by
 apply List.ext_getElem?;intro j;rcases Nat.lt_or_ge j n with hj|hj
 .have:=h.2 j hj;rw [if_pos hj,List.getD_eq_getElem?_getD,List.getElem?_eq_getElem (by rw [h.1];exact hj)]at this;rw [List.getElem?_eq_getElem (by rw [h.1];exact hj),List.getElem?_map,List.getElem?_range hj];exact congrArg some this
 .rw [List.getElem?_eq_none (by rw [h.1];exact hj),List.getElem?_eq_none (by simp;exact hj)]
theorem Pp {cs:List Int}{k:Nat}(hk:k<cs.length):(aD cs).getD k false=dm (cs.getD k 0):=by
 rw [aD,List.getD_eq_getElem?_getD,List.getElem?_map,List.getD_eq_getElem?_getD,List.getElem?_eq_getElem hk];rfl
section
variable{w:World}{L:LP}{ks ls:List Int}
theorem LX.ct(h:LX w L ks ls)(k:Nat)(hk:k<L.n):w.cell? ⟨L.gt,k,none⟩=some (.int .i64 (L.cs.getD k 0)):=by
 have:=h.tb k (by rw [h.len];exact hk);simpa using this
theorem LX.cm(h:LX w L ks ls)(k:Nat)(hk:k<L.n):w.cell? ⟨L.gm,k,none⟩=some (.int .i64 ((jL L.cs).getD k 0)):=by
 have:=h.ms k (by rw [WS,h.len];exact hk);simpa using this
theorem LX.kl(h:LX w L ks ls):ks.length=L.n/\ls.length=L.n:=⟨by have:=h.rc.1;simpa [iv]using this,by have:=h.rl.1;simpa [iv]using this⟩
theorem LX.cl(h:LX w L ks ls)(k:Nat)(hk:k<L.n):w.cell? ⟨L.gl,k,none⟩=some (.int .i64 (ls.getD k 0)):=jZ h.rl k (by rw [h.kl.2];exact hk)
theorem LX.ck(h:LX w L ks ls)(k:Nat)(hk:k<L.n):w.cell? ⟨L.gc,k,none⟩=some (.int .i64 (ks.getD k 0)):=jZ h.rc k (by rw [h.kl.1];exact hk)
theorem LX.f1(h:LX w L ks ls):w.cell? ⟨L.lb,1,none⟩=some (.slice (some ⟨L.gt,0,none⟩) L.n L.ct):=au h.cell 1
theorem LX.f2(h:LX w L ks ls):w.cell? ⟨L.lb,2,none⟩=some (.slice (some ⟨L.gc,0,none⟩) L.n L.n):=au h.cell 2
theorem LX.f3(h:LX w L ks ls):w.cell? ⟨L.lb,3,none⟩=some (.slice (some ⟨L.gl,0,none⟩) L.n L.n):=au h.cell 3
theorem LX.f4(h:LX w L ks ls):w.cell? ⟨L.lb,4,none⟩=some (.slice (some ⟨L.gm,0,none⟩) L.n L.n):=au h.cell 4
theorem LX.f5(h:LX w L ks ls):w.cell? ⟨L.lb,5,none⟩=some (.int .i64 L.p):=au h.cell 5
end
theorem adI(w:World)(L:LP)(ks ls:List Int)(h:LX w L ks ls)(f:Nat)(hf:f<L.n):
  Calls prog 157 #[.pointer (some ⟨L.lb,0,none⟩),.int .i64 f] w fun e w'=>e= .returned (.bool (L.cs.getD f 0==21&&decide (0<=opener L.cs f)))/\w'=w:=by
 have a1:=h.f1;have a4:=h.f4;have at':=h.ct f hf;have am:=h.cm f hf;have hf':(f:Int)<(L.n:Int):=by omega
 have hp:L.cs.getD f 0=21->((jL L.cs).getD f 0≠ -1↔0<=opener L.cs f):=fun e=>afS (by rw [h.len];exact hf) e
 generalize opener L.cs f=o at*;generalize L.cs.getD f 0=c at*;generalize(jL L.cs).getD f 0=m at*;clear h;by_cases h21:c=21
 .subst h21;have hm:(m != -1)=decide (0<=o):=by
   have:=hp rfl;by_cases e:m= -1
   .have:¬0<=o:=fun h=>this.2 h e
    simp [e,this]
   .have:0<=o:=this.1 e;simp [e,this]
  have HM:Hid ((m != -1)=decide (0<=o)):=hm;clear hp hm;generalize hb:decide (0<=o)=b at*;clear hb;cases hq:(m != -1)
  all_goals
   go_enter func157,ntmps157;go_wp2;go_ret;exact⟨jO (by rw [<-HM.out,hq];rfl),rfl⟩
 .have q:(c==21)=false:=by simpa using h21
  clear hp;go_enter func157,ntmps157;go_wp2;go_ret;exact⟨jO (by rw [q];rfl),rfl⟩
def og(cs:List Int)(last:Nat):Int:=if aG (cs.getD last 0)=true then(if mt cs last<cs.length then(mt cs last:Int)else -1)else -1
theorem agn(w:World)(L:LP)(ks ls:List Int)(h:LX w L ks ls)(f:Nat)(hf:f<L.n):
  Calls prog 156 #[.pointer (some ⟨L.lb,0,none⟩),.int .i64 f] w fun e w'=>e= .returned (.int .i64 (og L.cs f))/\w'=w:=by
 have a1:=h.f1;have a4:=h.f4;have at':=h.ct f hf;have am:=h.cm f hf;have hf':(f:Int)<(L.n:Int):=by omega
 have hp:aG (L.cs.getD f 0)=true->(jL L.cs).getD f 0=og L.cs f:=fun e=>by rw [og,if_pos e,Np (by rw [h.len];exact hf) e]
 have hq:aG (L.cs.getD f 0)=false->og L.cs f= -1:=fun e=>by rw [og,if_neg (by rw [e];decide)]
 generalize og L.cs f=o at*;generalize L.cs.getD f 0=c at*;generalize(jL L.cs).getD f 0=m at*;clear h;cases hi:aG c
 .have:=hq hi;subst this;have HI:Hid (aG c=false):=hi;clear hp hq hi;go_enter func156,ntmps156;go_wp2_with fail;refine(kH c _).mono ?_;rintro ev wx ⟨rfl,hx⟩;have hx':=hx.symm;subst hx';rw [HI.out];go_wp2;go_ret;exact⟨rfl,rfl⟩
 .have:=hp hi;subst this;have HI:Hid (aG c=true):=hi;clear hp hq hi;go_enter func156,ntmps156;go_wp2_with fail;refine(kH c _).mono ?_;rintro ev wx ⟨rfl,hx⟩;have hx':=hx.symm;subst hx';rw [HI.out];go_wp2;go_ret;exact⟨rfl,rfl⟩
theorem aaO(w:World)(L:LP)(ks ls:List Int)(h:LX w L ks ls)(hn:L.n<=1000)(f:Nat)(hf:f<L.n):
  Calls prog 219 #[.pointer (some ⟨L.lb,0,none⟩),.int .i64 f] w fun e w'=>e= .returned (.int .i64 (kW ls (aD L.cs) L.p f))/\w'=w:=by
 have a1:=h.f1;have a3:=h.f3;have a5:=h.f5;have HT:Hid (∀k:Nat,k<L.n->w.cell? ⟨L.gt,k,none⟩=some (.int .i64 (L.cs.getD k 0))/\w.cell? ⟨L.gl,k,none⟩=some (.int .i64 (ls.getD k 0))/\(aD L.cs).getD k false=dm (L.cs.getD k 0)):=fun k hk=>⟨h.ct k hk,h.cl k hk,Pp (by rw [h.len];exact hk)⟩
 obtain⟨P,hP⟩:∃P,P=kW ls (aD L.cs) L.p f:=⟨_,rfl⟩
 rw [<-hP];have HP:Hid (kW ls (aD L.cs) L.p f=P):=hP.symm;clear h hP;go_enter func219,ntmps219;go_wp2;go_loopg [5] f (fun gh kv W=>∃k:Nat,k<=f/\gh=k/\kv= .int .i64 ((k:Int) - 1)/\W=w/\kW ls (aD L.cs) L.p k=P);case atStart=>exact⟨f,Nat.le_refl _,rfl,rfl,rfl,HP.out⟩
 case round=>
  obtain⟨k,hk,rfl,rfl,hW,hp⟩:=hrel;have hW':=hW.symm;subst hW';clear HP;cases gk with
  |zero=>
   have hp0:L.p=P:=hp;subst hp0;go_wp2;go_ret;exact⟨rfl,rfl⟩
  |succ k=>
   have hkn:k<L.n:=by omega
   obtain⟨b1,b2,b3⟩:=HT.out k hkn;have e1:((k+1:Nat):Int) - 1=(k:Int):=by omega
   rw [e1];rw [kW,b3]at hp;have hk':(k:Int)<(L.n:Int):=by omega
   have hk0:(0:Int)<=(k:Int):=by omega
   generalize L.cs.getD k 0=c at*;cases hl:dm c
   .rw [hl,if_neg (by decide)]at hp;have HL:Hid ((!dm c)=true):=by show _=_;rw [hl];rfl
    have HP:Hid (kW ls (aD L.cs) L.p k=P):=hp;clear hp hl b3;go_wp2_with fail;refine(sw c _).mono ?_;rintro ev wx ⟨rfl,hx⟩;subst hx;rw [HL.out];go_wp2;go_roundg k;case measure=>omega
    case rel=>exact⟨k,by omega,rfl,by go_num,rfl,HP.out⟩
   .rw [hl,if_pos rfl]at hp;have HL:Hid ((!dm c)=false):=by show _=_;rw [hl];rfl
    have HP:Hid (ls.getD k 0=P):=hp;clear hp hl b3;go_wp2_with fail;refine(sw c _).mono ?_;rintro ev wx ⟨rfl,hx⟩;subst hx;rw [HL.out];go_wp2;go_ret;exact⟨kM HP.out,rfl⟩
theorem abk(w:World)(L:LP)(ks ls:List Int)(h:LX w L ks ls)(hn:L.n<=1000)(f:Nat)(hf:f<L.n):
  Calls prog 220 #[.pointer (some ⟨L.lb,0,none⟩),.int .i64 f] w fun e w'=>e= .returned (.int .i64 (tJ L.cs ls (aD L.cs) L.p f))/\w'=w:=by
 have a1:=h.f1;have a3:=h.f3;have a4:=h.f4;have a5:=h.f5;have am:=h.cm f hf;have at':=h.ct f hf;have hf':(f:Int)<(L.n:Int):=by omega
 have HT:Hid (∀k:Nat,k<L.n->w.cell? ⟨L.gt,k,none⟩=some (.int .i64 (L.cs.getD k 0))/\w.cell? ⟨L.gl,k,none⟩=some (.int .i64 (ls.getD k 0))/\(aD L.cs).getD k false=dm (L.cs.getD k 0)):=fun k hk=>⟨h.ct k hk,h.cl k hk,Pp (by rw [h.len];exact hk)⟩
 have hc:aG (L.cs.getD f 0)=true->((jL L.cs).getD f 0= -1↔mt L.cs f=L.cs.length):=fun e=>by
  rw [Np (by rw [h.len];exact hf) e];have:=vG L.cs f (by rw [h.len];omega);by_cases hm:mt L.cs f<L.cs.length
  .rw [if_pos hm];omega
  .rw [if_neg hm];simp;omega
 have hlen:=h.len;unfold tJ;rw [hlen]at hc ⊢;clear h hlen;generalize(jL L.cs).getD f 0=m at*;by_cases hx:aG (L.cs.getD f 0)=true/\mt L.cs f=L.n
 .rw [if_pos hx];have hm:m= -1:=(hc hx.1).2 hx.2;subst hm;have HI:Hid (aG (L.cs.getD f 0)=true):=hx.1;clear hc hx;generalize L.cs.getD f 0=c at*;go_enter func220,ntmps220;go_wp2_with fail;refine(kH c _).mono ?_;rintro ev wx ⟨rfl,hx⟩;have hx':=hx.symm;subst hx';rw [HI.out];go_wp2;go_ret;exact⟨rfl,rfl⟩
 .rw [if_neg hx];obtain⟨P,hP⟩:∃P,P=rO ls (aD L.cs) L.p L.n (L.n - (f+1)):=⟨_,rfl⟩
  rw [<-hP];have HP:Hid (rO ls (aD L.cs) L.p L.n (L.n - (f+1))=P):=hP.symm;clear hP;have HQ:Hid (aG (L.cs.getD f 0)=true->(m== -1)=false):=fun e=>by
   have:=hc e;simp only [beq_eq_false_iff_ne];intro e2;exact hx ⟨e,this.1 e2⟩
  clear hc hx;generalize L.cs.getD f 0=c at*;go_enter func220,ntmps220;go_wp2_with fail;refine(kH c _).mono ?_;rintro ev wx ⟨rfl,hx⟩;have hx':=hx.symm;subst hx';cases hi:aG c;case false=>
   clear hi HQ;go_wp2;clear at' am;go_loopg [5] (L.n - (f+1)) (fun gh kv W=>∃k:Nat,f+1<=k/\k<=L.n/\gh=L.n - k/\kv= .int .i64 k/\W=w/\rO ls (aD L.cs) L.p L.n gh=P);case atStart=>exact⟨f+1,Nat.le_refl _,by omega,rfl,by go_num,rfl,HP.out⟩
   case round=>
    obtain⟨k,hfk,hk,rfl,rfl,hW,hp⟩:=hrel;have hW':=hW.symm;subst hW';clear HP;by_cases hlt:k<L.n
    .obtain⟨b1,b2,b3⟩:=HT.out k hlt;obtain⟨g2,hg2⟩:∃g2,L.n - k=g2+1:=⟨L.n - k - 1,by omega⟩
     rw [hg2,rO,show L.n - (g2+1)=k by omega,b3]at hp;have hk':(k:Int)<(L.n:Int):=by omega
     generalize L.cs.getD k 0=c2 at*;cases hl:dm c2
     .rw [hl,if_neg (by decide)]at hp;have HL:Hid ((!dm c2)=true):=by show _=_;rw [hl];rfl
      have HP:Hid (rO ls (aD L.cs) L.p L.n (L.n - (k+1))=P):=by show _=_;rw [show L.n - (k+1)=g2 by omega];exact hp
      clear hp hl b3 hg2;go_wp2_with fail;refine(sw c2 _).mono ?_;rintro ev wx ⟨rfl,hx⟩;subst hx;rw [HL.out];go_wp2;go_roundg (L.n - (k+1));case measure=>omega
      case rel=>exact⟨k+1,by omega,by omega,rfl,by go_num,rfl,HP.out⟩
     .rw [hl,if_pos rfl]at hp;have HL:Hid ((!dm c2)=false):=by show _=_;rw [hl];rfl
      have HP:Hid (ls.getD k 0=P):=hp;clear hp hl b3 hg2;go_wp2_with fail;refine(sw c2 _).mono ?_;rintro ev wx ⟨rfl,hx⟩;subst hx;rw [HL.out];go_wp2;go_ret;exact⟨kM HP.out,rfl⟩
    .have hz:L.n - k=0:=by omega
     rw [hz]at hp;have hp0:L.p=P:=hp;subst hp0;have hlt':¬(k:Int)<(L.n:Int):=by omega
     go_wp2;go_ret;exact⟨rfl,rfl⟩
  case true=>
   have hm:=HQ.out hi;clear hi HQ;go_wp2;clear at' am;go_loopg [5] (L.n - (f+1)) (fun gh kv W=>∃k:Nat,f+1<=k/\k<=L.n/\gh=L.n - k/\kv= .int .i64 k/\W=w/\rO ls (aD L.cs) L.p L.n gh=P);case atStart=>exact⟨f+1,Nat.le_refl _,by omega,rfl,by go_num,rfl,HP.out⟩
   case round=>
    obtain⟨k,hfk,hk,rfl,rfl,hW,hp⟩:=hrel;have hW':=hW.symm;subst hW';clear HP;by_cases hlt:k<L.n
    .obtain⟨b1,b2,b3⟩:=HT.out k hlt;obtain⟨g2,hg2⟩:∃g2,L.n - k=g2+1:=⟨L.n - k - 1,by omega⟩
     rw [hg2,rO,show L.n - (g2+1)=k by omega,b3]at hp;have hk':(k:Int)<(L.n:Int):=by omega
     generalize L.cs.getD k 0=c2 at*;cases hl:dm c2
     .rw [hl,if_neg (by decide)]at hp;have HL:Hid ((!dm c2)=true):=by show _=_;rw [hl];rfl
      have HP:Hid (rO ls (aD L.cs) L.p L.n (L.n - (k+1))=P):=by show _=_;rw [show L.n - (k+1)=g2 by omega];exact hp
      clear hp hl b3 hg2;go_wp2_with fail;refine(sw c2 _).mono ?_;rintro ev wx ⟨rfl,hx⟩;subst hx;rw [HL.out];go_wp2;go_roundg (L.n - (k+1));case measure=>omega
      case rel=>exact⟨k+1,by omega,by omega,rfl,by go_num,rfl,HP.out⟩
     .rw [hl,if_pos rfl]at hp;have HL:Hid ((!dm c2)=false):=by show _=_;rw [hl];rfl
      have HP:Hid (ls.getD k 0=P):=hp;clear hp hl b3 hg2;go_wp2_with fail;refine(sw c2 _).mono ?_;rintro ev wx ⟨rfl,hx⟩;subst hx;rw [HL.out];go_wp2;go_ret;exact⟨kM HP.out,rfl⟩
    .have hz:L.n - k=0:=by omega
     rw [hz]at hp;have hp0:L.p=P:=hp;subst hp0;have hlt':¬(k:Int)<(L.n:Int):=by omega
     go_wp2;go_ret;exact⟨rfl,rfl⟩
