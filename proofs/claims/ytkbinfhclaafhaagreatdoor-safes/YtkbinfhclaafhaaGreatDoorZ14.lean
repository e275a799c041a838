import Derived.Test.YtkbinfhclaafhaaGreatDoorZ11
import Derived.Test.YtkbinfhclaafhaaGreatDoorZ13
import Derived.Deep.RegionHeld3
import Derived.Deep.DrawnRows
namespace Go.Proofs.YtkbinfhclaafhaaGreatDoor
open Go.RowKit
open Go.Proofs.Tryz
set_option maxRecDepth 100000
set_option maxHeartbeats 32000000
set_option linter.all false
section
attribute [local go_sem ↓] Go.wp_at_zero Go.wp_at_succ
theorem VV(w:World)(a:Obj)(r:Option Nat):w.grownBy (w.alloc a).drew r:=⟨rfl,rfl,rfl,by simp,fun k hk _=>dM w a k hk⟩
theorem aaV(w:World)(y:Value)(e:TypeId):∀j u,[y][j]? =some u->(w.alloc (.cells #[y] e)).drew.cell? ((⟨w.heap.size,0,none⟩:Addr).add j)=some u:=by
 intro j u hj
 match j,hj with
 |0,hj=>simp at hj;subst hj;simp [Addr.add]
theorem XW(l:List Int)(at':List Nat)(j:Nat)(hj:j<at'.length):bz l (at'.take (j+1))=bz l (at'.take j)++[l.getD (at'.getD j 0) 0]:=by
 rw [bz,zX,aQ hj,fO,aO (l:=at'),aQ hj];rfl
theorem V6 {lv:List Int}{lf:List Bool}{para:Int}(h:∀p,0<=lv.getD p 0)(hp:0<=para):∀k,0<=jG lv lf para k
 |0=>hp
 |k+1=>by rw [jG];split;exact h _;exact V6 h hp k
theorem Wb {lv:List Int}{lf:List Bool}{para:Int}{len:Nat}(h:∀p,0<=lv.getD p 0)(hp:0<=para):∀k,0<=kO lv lf para len k
 |0=>hp
 |k+1=>by rw [kO];split;exact h _;exact Wb h hp k
theorem ae1 {cs lv:List Int}{lf:List Bool}{para:Int}{last:Nat}(h:∀p,0<=lv.getD p 0)(hp:0<=para):0<=oz cs lv lf para last:=by
 unfold oz;split;exact hp;exact Wb h hp _
theorem acA {a b m:Int}(hm:(if a<b then b else a)=m)(_h0:0<=m):iy a b=m%2:=by
 unfold iy;rw [hm];split<;>omega
def SB(W:World)(sb:Nat)(a0 a1 a2 a3 a4 a5 a6:Value):Prop:=W.heap[sb]? =some (.cells #[a0,a1,a2,a3,a4,a5,a6] 220 (0,0))
section
variable{W W':World}{sb:Nat}{a0 a1 a2 a3 a4 a5 a6:Value}
theorem SB.c2(h:SB W sb a0 a1 a2 a3 a4 a5 a6):W.cell? ⟨sb,2,none⟩=some a2:=az h 2
theorem SB.c3(h:SB W sb a0 a1 a2 a3 a4 a5 a6):W.cell? ⟨sb,3,none⟩=some a3/\W.frozen? ⟨sb,3,none⟩=false:=⟨az h 3,cH h 3⟩
theorem SB.c4(h:SB W sb a0 a1 a2 a3 a4 a5 a6):W.cell? ⟨sb,4,none⟩=some a4:=az h 4
theorem SB.c5(h:SB W sb a0 a1 a2 a3 a4 a5 a6):W.cell? ⟨sb,5,none⟩=some a5/\W.frozen? ⟨sb,5,none⟩=false:=⟨az h 5,cH h 5⟩
theorem SB.c6(h:SB W sb a0 a1 a2 a3 a4 a5 a6):W.cell? ⟨sb,6,none⟩=some a6/\W.frozen? ⟨sb,6,none⟩=false:=⟨az h 6,cH h 6⟩
theorem SB.grown {r:Option Nat}(h:SB W sb a0 a1 a2 a3 a4 a5 a6)(hg:W.grownBy W' r)(hne:some sb≠r):SB W' sb a0 a1 a2 a3 a4 a5 a6:=(hg.block sb (bZ h) hne).trans h
theorem SB.s3(h:SB W sb a0 a1 a2 a3 a4 a5 a6)(v:Value):SB (W.setCell ⟨sb,3,none⟩ v) sb a0 a1 a2 v a4 a5 a6:=by unfold SB;rw [fK h];rfl
theorem SB.s5(h:SB W sb a0 a1 a2 a3 a4 a5 a6)(v:Value):SB (W.setCell ⟨sb,5,none⟩ v) sb a0 a1 a2 a3 a4 v a6:=by unfold SB;rw [fK h];rfl
theorem SB.s6(h:SB W sb a0 a1 a2 a3 a4 a5 a6)(v:Value):SB (W.setCell ⟨sb,6,none⟩ v) sb a0 a1 a2 a3 a4 a5 v:=by unfold SB;rw [fK h];rfl
end
theorem ajr(w:World)(L:LP)(ks ls:List Int)(h:LX w L ks ls)(hn:L.n<=1000)(gp op m cp:Nat)(at':List Nat)(hP:bG w gp op (nl at'))(hl:at'.length=m)(hm:0<m)(qz:m<=1000)(hat:∀p∈at',p<L.n)(hlv:∀p,0<=ls.getD p 0/\ls.getD p 0<=1000)(hp:0<=L.p/\L.p<=1000):
  Calls prog 158 #[.pointer (some ⟨L.lb,0,none⟩),.slice (some ⟨gp,op,none⟩) m cp] w fun e w'=>∃sb gr cr gc cc gb,e= .returned (.pointer (some ⟨sb,0,none⟩))/\
   aW w' w.heap.size sb gc m cc (.slice (some ⟨gp,op,none⟩) m cp) (.slice (some ⟨gr,0,none⟩) m cr) (.slice (some ⟨gb,0,none⟩) m m) (ls.getD (at'.headD 0) 0) (iy (ls.getD (at'.headD 0) 0) (jG ls (aN L.cs) L.p (at'.headD 0))) (iy (ls.getD (at'.headD 0) 0) (oz L.cs ls (aN L.cs) L.p (at'.getLastD 0))) (bz ks at')/\
   w'.ownsRow w.heap.size 21 1 (.slice (some ⟨gr,0,none⟩) m cr) m (nW (bz L.rs at'))/\bh w' w.heap.size 108 gb m (iv (bz ks at'))/\gb≠gc/\w.heap.size<=sb/\sb<w'.heap.size/\Below w.heap.size w w':=by
 obtain⟨i32,QF,hz0,hz1,hz2⟩:=gW Tryz.aai;obtain⟨iC,QH,hc0,hc1,hc2⟩:=gW Tryz.Fb;have h0:at'.getD 0 0=at'.headD 0:=by cases at'<;>rfl
 have hp0:at'.headD 0<L.n:=by rw [<-h0];exact hat _ (dm (by omega))
 have EH:w.cell? ⟨gp,op,none⟩=some (.int .i64 ((at'.headD 0:Nat):Int)):=by
  have:=hP 0 (by rw [gw];omega);rw [mJ _ _ (by omega),h0]at this;simpa using this
 have a3:=h.f3;have al:=h.cl _ hp0;have ahE:((at'.headD 0:Nat):Int)<(L.n:Int):=by omega
 have hm0:(0:Int)<(m:Int):=by omega
 have HX:Hid (∀W,Below w.heap.size w W->LX W L ks ls):=fun W hb=>h.below hb
 have HP:Hid (∀W,Below w.heap.size w W->∀j,j<m->W.cell? ⟨gp,op+j,none⟩=some (.int .i64 ((at'.getD j 0:Nat):Int))/\at'.getD j 0<L.n):=fun W hb j hj=>by
  have h1:=(hP.below hb) j (by rw [gw];omega);rw [mJ _ _ (by omega)]at h1;exact⟨h1,hat _ (dm (by omega))⟩
 have HL:=ah hl;clear h hP h0 hl;obtain⟨au,kU⟩:∃au,au=ls.getD (at'.headD 0) 0:=⟨_,rfl⟩
 rw [<-kU]at al ⊢;obtain⟨p0,Mh⟩:∃p0,p0=at'.headD 0:=⟨_,rfl⟩
 rw [<-Mh]at al EH ahE hp0 ⊢;have Nt:Hid (au=ls.getD p0 0/\p0=at'.headD 0):=⟨by rw [Mh];exact kU,Mh⟩
 clear kU Mh;go_enter func158,ntmps158;go_wp2;go_region;have hb1:Below w.heap.size w (w.alloc (.cells #[.slice (some ⟨gp,op,none⟩) m cp,.slice none 0 0,.slice none 0 0,.slice none 0 0,.int .i64 au,.int .i64 0,.int .i64 0] 220)).drew:=((aA _ _).alloc (ay _) _).drew;have mS:Hid (NS (w.alloc (.cells #[.slice (some ⟨gp,op,none⟩) m cp,.slice none 0 0,.slice none 0 0,.slice none 0 0,.int .i64 au,.int .i64 0,.int .i64 0] 220)).drew w.heap.size w.heap.size (.slice (some ⟨gp,op,none⟩) m cp) (.slice none 0 0) (.slice none 0 0) au (bz L.rs (at'.take 0)) (bz ks (at'.take 0))):=
  ⟨mP,jw _ _ _ _,jw _ _ _ _,ay _⟩
 have aG:=ah hb1;clear hb1 a3 al EH;generalize(w.alloc (.cells #[.slice (some ⟨gp,op,none⟩) m cp,.slice none 0 0,.slice none 0 0,.slice none 0 0,.int .i64 au,.int .i64 0,.int .i64 0] 220)).drew=W1 at*;obtain⟨sb,Dt⟩:∃sb,sb=w.heap.size:=⟨_,rfl⟩
 have Ef:Hid (w.heap.size<=sb):=by rw [Dt];exact ay _
 have Ge:Hid (NS W1 w.heap.size sb (.slice (some ⟨gp,op,none⟩) m cp) (.slice none 0 0) (.slice none 0 0) au (bz L.rs (at'.take 0)) (bz ks (at'.take 0))):=by rw [Dt];exact mS.out
 rw [<-Dt];clear Dt mS;go_wp2;go_loopg [22] m (fun gk iv W=>∃(j:Nat)(vr vc:Value),j<=m/\gk=m - j/\iv= .int .i64 j/\NS W w.heap.size sb (.slice (some ⟨gp,op,none⟩) m cp) vr vc au (bz L.rs (at'.take j)) (bz ks (at'.take j))/\Below w.heap.size w W);case atStart=>exact⟨0,.slice none 0 0,.slice none 0 0,by omega,rfl,rfl,Ge.out,aG.out⟩
 case round=>
  clear Ge aG;obtain⟨j,vr,vc,hj,rfl,rfl,hN,hB⟩:=hrel;by_cases hlt:j<m
  .obtain⟨cj,qA⟩:=HP.out wr hB j hlt;have hX:=HX.out wr hB;have hja:j<at'.length:=by rw [HL.out];exact hlt
   have c0:wr.cell? ⟨L.lb,0,none⟩=some L.rv:=az hX.cell 0;have cr:=hX.ru _ qA;have s1:wr.cell? ⟨sb,1,none⟩=some vr:=az hN.cell 1;have hjm:(j:Int)<(m:Int):=by omega
   have ahI:((at'.getD j 0:Nat):Int)<(L.n:Int):=by omega
   have eR:=XW L.rs at' j hja;have eC:=XW ks at' j hja;have lR:(bz L.rs (at'.take j)).length=j:=by rw [bz,jE,rW];omega
   have lC:(bz ks (at'.take j)).length=j:=by rw [bz,jE,rW];omega
   have HEq:Hid (bz L.rs (at'.take (j+1))=bz L.rs (at'.take j)++[L.rs.getD (at'.getD j 0) 0]/\bz ks (at'.take (j+1))=bz ks (at'.take j)++[ks.getD (at'.getD j 0) 0]):=⟨eR,eC⟩
   have HN:=ah hN;have HB:=ah hB;have hbz:=hB.size;obtain⟨ra,rc,Z5⟩:=ey hN.rr;rw [lR]at Z5;subst Z5;obtain⟨ca,Wn,Z4⟩:=ey hN.rc;rw [lC]at Z4;subst Z4;have rE:=hN.rr;rw [lR]at rE;have Ov:Hid ((bz L.rs (at'.take j)).length=j/\(bz ks (at'.take j)).length=j):=⟨lR,lC⟩
   clear lR lC;clear hX hN hB eR eC;unfold LP.rv at c0;generalize at'.getD j 0=pj at*;have HXw:Hid (∀W,Below w.heap.size w W->W.cell? ⟨L.lb,2,none⟩=some (.slice (some ⟨L.gc,0,none⟩) L.n L.n)/\W.cell? ⟨L.gc,pj,none⟩=some (.int .i64 (ks.getD pj 0))):=fun W hb=>⟨(HX.out W hb).f2,(HX.out W hb).ck pj qA⟩
   generalize L.rs.getD pj 0=y at*;generalize ks.getD pj 0=z at*;have s1':(wr.alloc (.cells #[.int .i32 y] 21)).cell? ⟨sb,1,none⟩=some (.slice ra j rc):=(jQ _ _ ⟨sb,1,none⟩ (bZ HN.out.cell)).trans s1;go_wp2
   go_region_law (refine MZ rfl _ _ 138 rfl w.heap.size 21 i32 (.int .i32 0) 1 4 underlying138 QF hz0 hz1 hz2 rfl (by decide) (by decide) _ _ (nW (bz L.rs (at'.take j))) rfl (nM rE (.cells #[.int .i32 y] 21)) _ [.int .i32 y] rfl rfl (aaV wr _ _) (by intro u hu;simp at hu;subst hu;rfl) (by omega) (by simp;omega) ?_;intro v5 w5 b9 cA _;obtain⟨a5,yM,rfl⟩:=ey b9;obtain⟨H8,c5,f5⟩:=HN.out.JG (by rw [Ov.out.1];exact b9) ((VV wr _ _).trans cA);have dx:Hid (Below w.heap.size w w5):=(HB.out.alloc hbz _).drew.grown cA (by simp;omega) (fun q hq=>(rE.lt q hq).1);clear b9 cA)
   all_goals
    have ia:Hid (Below w.heap.size w (w5.setCell ⟨sb,1,none⟩ (.slice a5 (j+1) yM))):=dx.out.setCell (p:=⟨sb,1,none⟩) Ef.out _;have rS:=ah H8;clear c5 f5 H8 s1 s1' c0 cr cj rE dx;generalize w5.setCell ⟨sb,1,none⟩ (.slice a5 (j+1) yM)=W6 at*;obtain⟨d2,dk⟩:=HXw.out W6 ia.out;have s2:W6.cell? ⟨sb,2,none⟩=some (.slice ca j Wn):=az rS.out.cell 2;have hrc:=rS.out.rc;rw [Ov.out.2]at hrc;have Al:=ia.out.size;have s2':(W6.alloc (.cells #[.int .i64 z] 108)).cell? ⟨sb,2,none⟩=some (.slice ca j Wn):=(jQ _ _ ⟨sb,2,none⟩ (bZ rS.out.cell)).trans s2;go_wp2
    go_region_law (refine MZ rfl _ _ 139 rfl w.heap.size 108 iC (.int .i64 0) 1 8 underlying139 QH hc0 hc1 hc2 rfl (by decide) (by decide) _ _ (iv (bz ks (at'.take j))) rfl (nM hrc (.cells #[.int .i64 z] 108)) _ [.int .i64 z] rfl rfl (aaV W6 _ _) (by intro u hu;simp at hu;subst hu;rfl) (by omega) (by simp;omega) ?_;intro v7 w7 Aq gU _;obtain⟨a7,Pe,rfl⟩:=ey Aq;obtain⟨Yv,c7,f7⟩:=rS.out.akM (by rw [Ov.out.2];exact Aq) ((VV W6 _ _).trans gU);have oh:Hid (Below w.heap.size w w7):=(ia.out.alloc Al _).drew.grown gU (by simp;omega) (fun q hq=>(hrc.lt q hq).1);clear Aq gU)
    all_goals
     have HN8:Hid (NS (w7.setCell ⟨sb,2,none⟩ (.slice a7 (j+1) Pe)) w.heap.size sb (.slice (some ⟨gp,op,none⟩) m cp) (.slice a5 (j+1) yM) (.slice a7 (j+1) Pe) au (bz L.rs (at'.take (j+1))) (bz ks (at'.take (j+1)))):=by rw [HEq.out.1,HEq.out.2];exact Yv
     have D3:Hid (Below w.heap.size w (w7.setCell ⟨sb,2,none⟩ (.slice a7 (j+1) Pe))):=oh.out.setCell (p:=⟨sb,2,none⟩) Ef.out _;clear Yv c7 f7 oh;go_wp2;go_roundg (m - (j+1));case measure=>omega
     case rel=>exact⟨j+1,_,_,by omega,rfl,by go_num,HN8.out,D3.out⟩
  .obtain rfl:j=m:=by omega
   have hte:at'.take j=at':=lB (by rw [HL.out];exact ay _);rw [hte]at hN;have hgl:∀l:List Int,(bz l at').length=j:=fun l=>by rw [bz,jE,HL.out]
   obtain⟨gr,cr,rfl,_,hgr,QD⟩:=fS hN.rr (by rw [hgl];exact hm);obtain⟨gc,cc,rfl,_,jV,QC⟩:=fS hN.rc (by rw [hgl];exact hm);rw [hgl,hgl]at hN;have rE:wr.ownsRow w.heap.size 21 1 (.slice (some ⟨gr,0,none⟩) j cr) j (nW (bz L.rs at')):=by have:=hN.rr;rw [hgl]at this;exact this
   have hrc:wr.ownsRow w.heap.size 108 1 (.slice (some ⟨gc,0,none⟩) j cc) j (iv (bz ks at')):=by have:=hN.rc;rw [hgl]at this;exact this
   have Cc:gr≠sb:=fun e=>jY hN.rr hN.cell (by decide) (by rw [e];rfl)
   have R6:gc≠sb:=fun e=>jY hN.rc hN.cell (by decide) (by rw [e];rfl)
   have kT:SB wr sb (.slice (some ⟨gp,op,none⟩) j cp) (.slice (some ⟨gr,0,none⟩) j cr) (.slice (some ⟨gc,0,none⟩) j cc) (.slice none 0 0) (.int .i64 au) (.int .i64 0) (.int .i64 0):=hN.cell;have ZV:sb<wr.heap.size:=bZ hN.cell;have hmk:=run_make_row' (P:=prog) 139 108 (.int .i64 0) 8 underlying139 Tryz.Fb rfl .i64 .i64 j (by omega) (by omega);have hjm:¬(j:Int)<(j:Int):=by omega
   clear hN;have hS1:SB (wr.alloc (.cells (madeCells #[.int .i64 0] j) 108)) sb _ _ _ _ _ _ _:=kT.grown (Bv wr _ none) (by simp);have c2:=kT.c2;obtain⟨d3,e3⟩:=hS1.c3;have H9:bh (wr.alloc (.cells (madeCells #[.int .i64 0] j) 108)) w.heap.size 108 wr.heap.size j (List.replicate j (.int .i64 0)):=bh.made hB.size (by omega);have hg1:wr.grownBy ((wr.alloc (.cells (madeCells #[.int .i64 0] j) 108)).setCell ⟨sb,3,none⟩ (.slice (some ⟨wr.heap.size,0,none⟩) j j)) (some sb):=(Bv wr _ _).trans (DU _ sb 3 _);have gB:=hS1.s3 (.slice (some ⟨wr.heap.size,0,none⟩) j j);have nR:bh ((wr.alloc (.cells (madeCells #[.int .i64 0] j) 108)).setCell ⟨sb,3,none⟩ (.slice (some ⟨wr.heap.size,0,none⟩) j j)) w.heap.size 108 wr.heap.size j (List.replicate j (.int .i64 0)):=H9.setOther sb 3 _ (by omega);have bq:Below w.heap.size w ((wr.alloc (.cells (madeCells #[.int .i64 0] j) 108)).setCell ⟨sb,3,none⟩ (.slice (some ⟨wr.heap.size,0,none⟩) j j)):=(hB.alloc hB.size _).setCell (p:=⟨sb,3,none⟩) Ef.out _;have xy:=iu rE hg1 Cc;have E6:=iu hrc hg1 R6;have h2:=And.intro gB (And.intro nR (And.intro bq (And.intro xy E6)));have H2:=ah h2;have di:Hid (gr<wr.heap.size/\gc<wr.heap.size/\sb<wr.heap.size/\w.heap.size<=wr.heap.size):=⟨hgr,jV,ZV,hB.size⟩
   clear kT hS1 H9 hg1 gB nR bq xy E6 rE hrc hB hgr jV ZV h2 hte;obtain⟨gb,hgb⟩:∃gb,gb=wr.heap.size:=⟨_,rfl⟩
   go_wp2;generalize((wr.alloc (.cells (madeCells #[.int .i64 0] j) 108)).setCell ⟨sb,3,none⟩ (.slice (some ⟨wr.heap.size,0,none⟩) j j))=W2 at*;rw [<-hgb]at H2 di ⊢;clear hgb c2 d3 e3;obtain⟨gB,nR,bq,xy,E6⟩:=H2.out;clear H2;obtain⟨W3,jy,BR,hg3⟩:=Pp (P:=prog) (w:=W2.drew) (sT:=139) (e:=108) (ty:=3) (g:=gb) underlying139 Tryz.Tv (bh.heap nR) (by simp) (KR E6) (fun v hv=>by simp only [iv,jr]at hv;obtain⟨x,_,rfl⟩:=hv;rfl);have hg3':W2.grownBy W3 (some gb):=(show W2.grownBy W2.drew (some gb)from⟨rfl,rfl,rfl,ay _,fun _ _ _=>rfl⟩).trans hg3;have lI:SB W3 sb _ _ _ _ _ _ _:=gB.grown hg3' (by have:=di.out;simp;omega);have mB:bh W3 w.heap.size 108 gb j (iv (bz ks at')):=bh.MB BR (by have:=di.out;omega) (by rw [mH,hgl]) (by omega);have cV:Below w.heap.size w W3:=bq.grown hg3' bq.size (fun k hk=>by cases hk;have:=di.out;omega);have xz:=iu xy hg3' (by have:=di.out;omega);have IQ:=iu E6 hg3' (by have:=di.out;omega);have c2:=gB.c2;have c3:=gB.c3.1;have h3:=And.intro lI (And.intro mB (And.intro cV (And.intro xz IQ)));have H3:=ah h3;clear gB nR bq xy E6 BR hg3 hg3' lI mB cV xz IQ h3;go_region;all_goals
    clear c2 c3 jy hmk;obtain⟨lI,mB,cV,xz,IQ⟩:=H3.out;clear H3;obtain⟨EH,_⟩:=HP.out W3 cV 0 (by omega);rw [qY]at EH;have h00:at'.getD 0 0=p0:=by rw [Nt.out.2];cases at'<;>rfl
    rw [h00]at EH;obtain⟨bA,vw⟩:∃bA,bA=jG ls (aN L.cs) L.p p0:=⟨_,rfl⟩
    obtain⟨mA,Mc⟩:∃mA,(if au<bA then bA else au)=mA:=⟨_,rfl⟩
    have hl0:0<=au:=by rw [Nt.out.1];exact(hlv _).1
    have LH:0<=bA:=by rw [vw];exact V6 (fun p=>(hlv p).1) hp.1 _
    have Dl:0<=mA:=by rw [<-Mc];split<;>omega
    have Gw:Hid (max au bA=mA):=show max au bA=mA by rw [<-Mc];split<;>omega
    have Uq:Hid (∀W,Below w.heap.size w W->Calls prog 219 #[.pointer (some ⟨L.lb,0,none⟩),.int .i64 p0] W fun e w'=>e= .returned (.int .i64 bA)/\w'=W):=fun W hb=>by rw [vw];exact aev W L ks ls (HX.out W hb) hn p0 hp0
    have o5:Hid (∀W,Calls prog 96 #[.int .i64 mA] W fun e w'=>e= .returned (.int .i64 (mA%2))/\w'=W):=fun W=>AW mA W Dl
    have HsA:Hid (iy au (jG ls (aN L.cs) L.p p0)=mA%2):=by rw [<-vw];exact acA Mc Dl
    have c4:=lI.c4;obtain⟨c5,f5⟩:=lI.c5;have jk:=lI.s5 (.int .i64 (mA%2));have hg4:W3.grownBy (W3.setCell ⟨sb,5,none⟩ (.int .i64 (mA%2))) (some sb):=DU _ sb 5 _;have hB4:Below w.heap.size w (W3.setCell ⟨sb,5,none⟩ (.int .i64 (mA%2))):=cV.setCell (p:=⟨sb,5,none⟩) Ef.out _;have pF:bh (W3.setCell ⟨sb,5,none⟩ (.int .i64 (mA%2))) w.heap.size 108 gb j (iv (bz ks at')):=iu mB hg4 (by have:=di.out;omega);have Dr:=iu xz hg4 Cc;have Dn:=iu IQ hg4 R6;have y4:=jk.c4;have yp:(W3.setCell ⟨sb,5,none⟩ (.int .i64 (mA%2))).cell? ⟨gp,op,none⟩=some (.int .i64 ((p0:Nat):Int)):=by
     have:=(HP.out _ hB4 0 (by omega)).1;rw [qY,h00]at this;exact this
    have h4:=And.intro jk (And.intro pF (And.intro hB4 (And.intro Dr Dn)));have H4:=ah h4;have aI:=ah cV;clear lI mB cV xz IQ jk hg4 hB4 pF Dr Dn h4 vw h00 hl0 LH Dl;go_wp2
    go_region_held3 (fun w'=>w'.cell? ⟨sb,4,none⟩=some (.int .i64 au)/\w'.cell? ⟨gp,op,none⟩=some (.int .i64 ((p0:Nat):Int))) (first|go_keep|exact⟨y4,yp⟩)
     (first
      |(go_at_call 219;refine(Uq.out _ aI.out.drew).mono ?_;rintro ev wx ⟨rfl,rfl⟩)
      |(go_at_call 96;(try rw [Gw.out]);refine(o5.out _).mono ?_;rintro ev wx ⟨rfl,rfl⟩))
    all_goals
     generalize W3.setCell ⟨sb,5,none⟩ (.int .i64 (mA%2))=W4 at*;clear y4 yp c4 c5 f5 EH Uq o5 aI Mc Gw;obtain⟨jk,pF,hB4,Dr,Dn⟩:=H4.out;clear H4;have jk:SB W4.drew sb _ _ _ _ _ _ _:=jk;have pF:bh W4.drew w.heap.size 108 gb j (iv (bz ks at')):=pF;have hB4:Below w.heap.size w W4.drew:=hB4.drew;have Dr:=KR Dr;have Dn:=KR Dn;generalize W4.drew=W5 at*;obtain⟨WS,hpl⟩:=HP.out W5 hB4 (j - 1) (by omega);obtain⟨p1,hp1⟩:∃p1,p1=at'.getD (j - 1) 0:=⟨_,rfl⟩
     have mR:Hid (at'.getLastD 0=p1):=by
      show _=_;rw [hp1,pW,Ek,HL.out,aO]
     rw [<-hp1]at WS hpl;obtain⟨bE,LU⟩:∃bE,bE=oz L.cs ls (aN L.cs) L.p p1:=⟨_,rfl⟩
     obtain⟨mE,E1⟩:∃mE,(if au<bE then bE else au)=mE:=⟨_,rfl⟩
     have hl0:0<=au:=by rw [Nt.out.1];exact(hlv _).1
     have hE0:0<=bE:=by rw [LU];exact ae1 (fun p=>(hlv p).1) hp.1
     have Dl:0<=mE:=by rw [<-E1];split<;>omega
     have Gw:Hid (max au bE=mE):=show max au bE=mE by rw [<-E1];split<;>omega
     have Ux:Hid (∀W,Below w.heap.size w W->Calls prog 220 #[.pointer (some ⟨L.lb,0,none⟩),.int .i64 p1] W fun e w'=>e= .returned (.int .i64 bE)/\w'=W):=fun W hb=>by rw [LU];exact ae2 W L ks ls (HX.out W hb) hn p1 hpl
     have o5:Hid (∀W,Calls prog 96 #[.int .i64 mE] W fun e w'=>e= .returned (.int .i64 (mE%2))/\w'=W):=fun W=>AW mE W Dl
     have HsE:Hid (iy au (oz L.cs ls (aN L.cs) L.p p1)=mE%2):=by rw [<-LU];exact acA E1 Dl
     have c4:=jk.c4;obtain⟨c6,f6⟩:=jk.c6;have C9:=jk.s6 (.int .i64 (mE%2));have jU:W5.grownBy (W5.setCell ⟨sb,6,none⟩ (.int .i64 (mE%2))) (some sb):=DU _ sb 6 _;have EN:Below w.heap.size w (W5.setCell ⟨sb,6,none⟩ (.int .i64 (mE%2))):=hB4.setCell (p:=⟨sb,6,none⟩) Ef.out _;have Ia:bh (W5.setCell ⟨sb,6,none⟩ (.int .i64 (mE%2))) w.heap.size 108 gb j (iv (bz ks at')):=iu pF jU (by have:=di.out;omega);have IZ:=iu Dr jU Cc;have IU:=iu Dn jU R6;have y4:=C9.c4;have yp:(W5.setCell ⟨sb,6,none⟩ (.int .i64 (mE%2))).cell? ⟨gp,op+(j - 1),none⟩=some (.int .i64 ((p1:Nat):Int)):=by
      have:=(HP.out _ EN (j - 1) (by omega)).1;rw [<-hp1]at this;exact this
     have h6:=And.intro C9 (And.intro Ia (And.intro EN (And.intro IZ IU)));have H6:=ah h6;have fB:=ah hB4;clear jk pF hB4 Dr Dn C9 jU EN Ia IZ IU h6 LU hp1 hl0 hE0 Dl hpl;have hj1:(1:Int)<=(j:Int):=by omega
     have hj2:(0:Int)<=(j:Int) - 1:=by omega
     have Zj:(j:Int) - 1<(j:Int):=by omega
     have EZ:(j:Int)<=(j:Int):=by omega
     have Zk:(0:Int)<(j:Int):=by omega
     have hw:IntKind.i64.wrap ((j:Int) - 1)=(j:Int) - 1:=Ox _ ⟨by omega,by omega⟩;go_wp2
     go_region_held3 (fun w'=>w'.cell? ⟨sb,4,none⟩=some (.int .i64 au)/\w'.cell? ⟨gp,op+(j - 1),none⟩=some (.int .i64 ((p1:Nat):Int))) (first|go_keep|exact⟨y4,yp⟩)
      (first
       |(go_at_call 220;refine(Ux.out _ fB.out.drew).mono ?_;rintro ev wx ⟨rfl,rfl⟩)
       |(go_at_call 96;(try rw [Gw.out]);refine(o5.out _).mono ?_;rintro ev wx ⟨rfl,rfl⟩))
     all_goals
      generalize W5.setCell ⟨sb,6,none⟩ (.int .i64 (mE%2))=W6 at*;clear y4 yp c4 c6 f6 WS Ux o5 fB E1 Gw hj1 hj2 Zj EZ Zk hw;obtain⟨C9,Ia,EN,IZ,IU⟩:=H6.out;clear H6;have HF:Hid (aW W6.drew w.heap.size sb gc j cc (.slice (some ⟨gp,op,none⟩) j cp) (.slice (some ⟨gr,0,none⟩) j cr) (.slice (some ⟨gb,0,none⟩) j j) au (mA%2) (mE%2) (bz ks at')/\W6.drew.ownsRow w.heap.size 21 1 (.slice (some ⟨gr,0,none⟩) j cr) j (nW (bz L.rs at'))/\bh W6.drew w.heap.size 108 gb j (iv (bz ks at'))/\Below w.heap.size w W6.drew/\sb<W6.drew.heap.size):=⟨⟨C9,IU⟩,IZ,Ia,EN.drew,bZ C9⟩
      clear C9 Ia EN IZ IU;go_wp2;go_ret;refine⟨sb,gr,cr,gc,cc,gb,rfl,?_,HF.out.2.1,HF.out.2.2.1,by have:=di.out;omega,Ef.out,HF.out.2.2.2.2,HF.out.2.2.2.1⟩;rw [mR.out,HsA.out,HsE.out];exact HF.out.1
end
