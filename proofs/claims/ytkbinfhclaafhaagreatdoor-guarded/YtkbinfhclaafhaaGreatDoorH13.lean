import Derived.Test.YtkbinfhclaafhaaGreatDoorH12
import Derived.Deep.RegionHeld3
import Derived.Deep.DrawnRows
namespace Go.Proofs.YtkbinfhclaafhaaGreatDoor
open Go.RowKit
open Go.Proofs.Tryz
set_option maxRecDepth 100000
set_option maxHeartbeats 32000000
section
attribute [local go_sem ↓] Go.wp_at_zero Go.wp_at_succ
theorem Q9(w:World)(a:Obj)(r:Option Nat):w.grownBy (w.alloc a).drew r:=⟨rfl,rfl,rfl,by simp,fun k hk _=>Below.heap_alloc w a k hk⟩
theorem Xn(w:World)(y:Value)(e:TypeId):∀j u,[y][j]? =some u->(w.alloc (.cells #[y] e)).drew.cell? ((⟨w.heap.size,0,none⟩:Addr).add j)=some u:=by
 intro j u hj
 match j,hj with
 |0,hj=>simp at hj;subst hj;simp [Addr.add]
theorem TR(l:List Int)(at':List Nat)(j:Nat)(hj:j<at'.length):aV l (at'.take (j+1))=aV l (at'.take j)++[l.getD (at'.getD j 0) 0]:=by
 rw [aV,List.take_add_one,List.getElem?_eq_getElem hj,List.map_append,List.getD_eq_getElem?_getD (l:=at'),List.getElem?_eq_getElem hj];rfl
theorem Rp {lv:List Int}{lf:List Bool}{para:Int}(h:∀p,0<=lv.getD p 0)(hp:0<=para):∀k,0<=kW lv lf para k
 |0=>hp
 |k+1=>by rw [kW];split;exact h _;exact Rp h hp k
theorem Rw {lv:List Int}{lf:List Bool}{para:Int}{len:Nat}(h:∀p,0<=lv.getD p 0)(hp:0<=para):∀k,0<=rO lv lf para len k
 |0=>hp
 |k+1=>by rw [rO];split;exact h _;exact Rw h hp k
theorem abj {cs lv:List Int}{lf:List Bool}{para:Int}{last:Nat}(h:∀p,0<=lv.getD p 0)(hp:0<=para):0<=tJ cs lv lf para last:=by
 unfold tJ;split;exact hp;exact Rw h hp _
theorem Zm {a b m:Int}(hm:(if a<b then b else a)=m)(_h0:0<=m):mO a b=m%2:=by
 unfold mO;rw [hm];split<;>omega
def SB(W:World)(sb:Nat)(a0 a1 a2 a3 a4 a5 a6:Value):Prop:=W.heap[sb]? =some (.cells #[a0,a1,a2,a3,a4,a5,a6] 220 (0,0))
section
variable{W W':World}{sb:Nat}{a0 a1 a2 a3 a4 a5 a6:Value}
theorem SB.c2(h:SB W sb a0 a1 a2 a3 a4 a5 a6):W.cell? ⟨sb,2,none⟩=some a2:=au h 2
theorem SB.c3(h:SB W sb a0 a1 a2 a3 a4 a5 a6):W.cell? ⟨sb,3,none⟩=some a3/\W.frozen? ⟨sb,3,none⟩=false:=⟨au h 3,bX h 3⟩
theorem SB.c4(h:SB W sb a0 a1 a2 a3 a4 a5 a6):W.cell? ⟨sb,4,none⟩=some a4:=au h 4
theorem SB.c5(h:SB W sb a0 a1 a2 a3 a4 a5 a6):W.cell? ⟨sb,5,none⟩=some a5/\W.frozen? ⟨sb,5,none⟩=false:=⟨au h 5,bX h 5⟩
theorem SB.c6(h:SB W sb a0 a1 a2 a3 a4 a5 a6):W.cell? ⟨sb,6,none⟩=some a6/\W.frozen? ⟨sb,6,none⟩=false:=⟨au h 6,bX h 6⟩
theorem SB.grown {r:Option Nat}(h:SB W sb a0 a1 a2 a3 a4 a5 a6)(hg:W.grownBy W' r)(hne:some sb≠r):SB W' sb a0 a1 a2 a3 a4 a5 a6:=(hg.block sb (bK h) hne).trans h
theorem SB.s3(h:SB W sb a0 a1 a2 a3 a4 a5 a6)(v:Value):SB (W.setCell ⟨sb,3,none⟩ v) sb a0 a1 a2 v a4 a5 a6:=by unfold SB;rw [Joins.block_setCell h];rfl
theorem SB.s5(h:SB W sb a0 a1 a2 a3 a4 a5 a6)(v:Value):SB (W.setCell ⟨sb,5,none⟩ v) sb a0 a1 a2 a3 a4 v a6:=by unfold SB;rw [Joins.block_setCell h];rfl
theorem SB.s6(h:SB W sb a0 a1 a2 a3 a4 a5 a6)(v:Value):SB (W.setCell ⟨sb,6,none⟩ v) sb a0 a1 a2 a3 a4 a5 v:=by unfold SB;rw [Joins.block_setCell h];rfl
end
theorem agk(w:World)(L:LP)(ks ls:List Int)(h:LX w L ks ls)(hn:L.n<=1000)(gp op m cp:Nat)(at':List Nat)(hP:dz w gp op (nl at'))(hl:at'.length=m)(hm:0<m)(hm1:m<=1000)(hat:∀p∈at',p<L.n)(hlv:∀p,0<=ls.getD p 0/\ls.getD p 0<=1000)(hp:0<=L.p/\L.p<=1000):
  Calls prog 158 #[.pointer (some ⟨L.lb,0,none⟩),.slice (some ⟨gp,op,none⟩) m cp] w fun e w'=>∃sb gr cr gc cc gb,e= .returned (.pointer (some ⟨sb,0,none⟩))/\
   aA w' w.heap.size sb gc m cc (.slice (some ⟨gp,op,none⟩) m cp) (.slice (some ⟨gr,0,none⟩) m cr) (.slice (some ⟨gb,0,none⟩) m m) (ls.getD (at'.headD 0) 0) (mO (ls.getD (at'.headD 0) 0) (kW ls (aD L.cs) L.p (at'.headD 0))) (mO (ls.getD (at'.headD 0) 0) (tJ L.cs ls (aD L.cs) L.p (at'.getLastD 0))) (aV ks at')/\
   w'.ownsRow w.heap.size 21 1 (.slice (some ⟨gr,0,none⟩) m cr) m (lV (aV L.rs at'))/\aK w' w.heap.size 108 gb m (iv (aV ks at'))/\gb≠gc/\w.heap.size<=sb/\sb<w'.heap.size/\Below w.heap.size w w':=by
 obtain⟨i32,Mi,hz0,hz1,hz2⟩:=info_parts Tryz.VS;obtain⟨iC,Mj,hc0,hc1,hc2⟩:=info_parts Tryz.BO;have h0:at'.getD 0 0=at'.headD 0:=by cases at'<;>rfl
 have hp0:at'.headD 0<L.n:=by rw [<-h0];exact hat _ (dB (by omega))
 have Bw:w.cell? ⟨gp,op,none⟩=some (.int .i64 ((at'.headD 0:Nat):Int)):=by
  have:=hP 0 (by rw [jM];omega);rw [uw _ _ (by omega),h0]at this;simpa using this
 have a3:=h.f3;have al:=h.cl _ hp0;have aes:((at'.headD 0:Nat):Int)<(L.n:Int):=by omega
 have hm0:(0:Int)<(m:Int):=by omega
 have HX:Hid (∀W,Below w.heap.size w W->LX W L ks ls):=fun W hb=>h.below hb
 have HP:Hid (∀W,Below w.heap.size w W->∀j,j<m->W.cell? ⟨gp,op+j,none⟩=some (.int .i64 ((at'.getD j 0:Nat):Int))/\at'.getD j 0<L.n):=fun W hb j hj=>by
  have h1:=(hP.below hb) j (by rw [jM];omega);rw [uw _ _ (by omega)]at h1;exact⟨h1,hat _ (dB (by omega))⟩
 have HL:Hid (at'.length=m):=hl;clear h hP h0 hl;obtain⟨ah,mG⟩:∃ah,ah=ls.getD (at'.headD 0) 0:=⟨_,rfl⟩
 rw [<-mG]at al ⊢;obtain⟨p0,G9⟩:∃p0,p0=at'.headD 0:=⟨_,rfl⟩
 rw [<-G9]at al Bw aes hp0 ⊢;have Jk:Hid (ah=ls.getD p0 0/\p0=at'.headD 0):=⟨by rw [G9];exact mG,G9⟩
 clear mG G9;go_enter func158,ntmps158;go_wp2;go_region;have hb1:Below w.heap.size w (w.alloc (.cells #[.slice (some ⟨gp,op,none⟩) m cp,.slice none 0 0,.slice none 0 0,.slice none 0 0,.int .i64 ah,.int .i64 0,.int .i64 0] 220)).drew:=((Below.refl _ _).alloc (Nat.le_refl _) _).drew;have nR:Hid (NS (w.alloc (.cells #[.slice (some ⟨gp,op,none⟩) m cp,.slice none 0 0,.slice none 0 0,.slice none 0 0,.int .i64 ah,.int .i64 0,.int .i64 0] 220)).drew w.heap.size w.heap.size (.slice (some ⟨gp,op,none⟩) m cp) (.slice none 0 0) (.slice none 0 0) ah (aV L.rs (at'.take 0)) (aV ks (at'.take 0))):=
  ⟨Array.getElem?_push_size,World.ownsRow_nil _ _ _ _,World.ownsRow_nil _ _ _ _,Nat.le_refl _⟩
 have HB1:Hid _:=hb1;clear hb1 a3 al Bw;generalize(w.alloc (.cells #[.slice (some ⟨gp,op,none⟩) m cp,.slice none 0 0,.slice none 0 0,.slice none 0 0,.int .i64 ah,.int .i64 0,.int .i64 0] 220)).drew=W1 at*;obtain⟨sb,hsb⟩:∃sb,sb=w.heap.size:=⟨_,rfl⟩
 have Ba:Hid (w.heap.size<=sb):=by rw [hsb];exact Nat.le_refl _
 have CX:Hid (NS W1 w.heap.size sb (.slice (some ⟨gp,op,none⟩) m cp) (.slice none 0 0) (.slice none 0 0) ah (aV L.rs (at'.take 0)) (aV ks (at'.take 0))):=by rw [hsb];exact nR.out
 rw [<-hsb];clear hsb nR;go_wp2;go_loopg [22] m (fun gk iv W=>∃(j:Nat)(vr vc:Value),j<=m/\gk=m - j/\iv= .int .i64 j/\NS W w.heap.size sb (.slice (some ⟨gp,op,none⟩) m cp) vr vc ah (aV L.rs (at'.take j)) (aV ks (at'.take j))/\Below w.heap.size w W);case atStart=>exact⟨0,.slice none 0 0,.slice none 0 0,by omega,rfl,rfl,CX.out,HB1.out⟩
 case round=>
  clear CX HB1;obtain⟨j,vr,vc,hj,rfl,rfl,hN,hB⟩:=hrel;by_cases hlt:j<m
  .obtain⟨cj,hpn⟩:=HP.out wr hB j hlt;have hX:=HX.out wr hB;have hja:j<at'.length:=by rw [HL.out];exact hlt
   have c0:wr.cell? ⟨L.lb,0,none⟩=some L.rv:=au hX.cell 0;have cr:=hX.ru _ hpn;have s1:wr.cell? ⟨sb,1,none⟩=some vr:=au hN.cell 1;have hjm:(j:Int)<(m:Int):=by omega
   have aet:((at'.getD j 0:Nat):Int)<(L.n:Int):=by omega
   have eR:=TR L.rs at' j hja;have eC:=TR ks at' j hja;have lR:(aV L.rs (at'.take j)).length=j:=by rw [aV,List.length_map,List.length_take];omega
   have lC:(aV ks (at'.take j)).length=j:=by rw [aV,List.length_map,List.length_take];omega
   have HEq:Hid (aV L.rs (at'.take (j+1))=aV L.rs (at'.take j)++[L.rs.getD (at'.getD j 0) 0]/\aV ks (at'.take (j+1))=aV ks (at'.take j)++[ks.getD (at'.getD j 0) 0]):=⟨eR,eC⟩
   have HN:Hid (NS wr w.heap.size sb (.slice (some ⟨gp,op,none⟩) m cp) vr vc ah (aV L.rs (at'.take j)) (aV ks (at'.take j))):=hN;have HB:Hid (Below w.heap.size w wr):=hB;have hbz:=hB.size;obtain⟨ra,rc,VF⟩:=fH hN.rr;rw [lR]at VF;subst VF;obtain⟨ca,KD,Ec⟩:=fH hN.rc;rw [lC]at Ec;subst Ec;have hrr:=hN.rr;rw [lR]at hrr;have J4:Hid ((aV L.rs (at'.take j)).length=j/\(aV ks (at'.take j)).length=j):=⟨lR,lC⟩
   clear lR lC;clear hX hN hB eR eC;unfold LP.rv at c0;generalize at'.getD j 0=pj at*;have HXw:Hid (∀W,Below w.heap.size w W->W.cell? ⟨L.lb,2,none⟩=some (.slice (some ⟨L.gc,0,none⟩) L.n L.n)/\W.cell? ⟨L.gc,pj,none⟩=some (.int .i64 (ks.getD pj 0))):=fun W hb=>⟨(HX.out W hb).f2,(HX.out W hb).ck pj hpn⟩
   generalize L.rs.getD pj 0=y at*;generalize ks.getD pj 0=z at*;have s1':(wr.alloc (.cells #[.int .i32 y] 21)).cell? ⟨sb,1,none⟩=some (.slice ra j rc):=(World.cell?_alloc_lt _ _ ⟨sb,1,none⟩ (bK HN.out.cell)).trans s1;go_wp2
   go_region_law (refine Fe rfl _ _ 138 rfl w.heap.size 21 i32 (.int .i32 0) 1 4 underlying138 Mi hz0 hz1 hz2 rfl (by decide) (by decide) _ _ (lV (aV L.rs (at'.take j))) rfl (World.ownsRow.alloc hrr (.cells #[.int .i32 y] 21)) _ [.int .i32 y] rfl rfl (Xn wr _ _) (by intro u hu;simp at hu;subst hu;rfl) (by omega) (by simp;omega) ?_;intro v5 w5 hown5 hg5 _;obtain⟨a5,nV,rfl⟩:=fH hown5;obtain⟨DN,c5,f5⟩:=HN.out.IA (by rw [J4.out.1];exact hown5) ((Q9 wr _ _).trans hg5);have bW:Hid (Below w.heap.size w w5):=(HB.out.alloc hbz _).drew.grown hg5 (by simp;omega) (fun q hq=>(hrr.lt q hq).1);clear hown5 hg5)
   all_goals
    have bO:Hid (Below w.heap.size w (w5.setCell ⟨sb,1,none⟩ (.slice a5 (j+1) nV))):=bW.out.setCell (p:=⟨sb,1,none⟩) Ba.out _;have pG:Hid (NS (w5.setCell ⟨sb,1,none⟩ (.slice a5 (j+1) nV)) w.heap.size sb (.slice (some ⟨gp,op,none⟩) m cp) (.slice a5 (j+1) nV) (.slice ca j KD) ah (aV L.rs (at'.take j)++[y]) (aV ks (at'.take j))):=DN;clear c5 f5 DN s1 s1' c0 cr cj hrr bW;generalize w5.setCell ⟨sb,1,none⟩ (.slice a5 (j+1) nV)=W6 at*;obtain⟨d2,dk⟩:=HXw.out W6 bO.out;have s2:W6.cell? ⟨sb,2,none⟩=some (.slice ca j KD):=au pG.out.cell 2;have hrc:=pG.out.rc;rw [J4.out.2]at hrc;have wV:=bO.out.size;have s2':(W6.alloc (.cells #[.int .i64 z] 108)).cell? ⟨sb,2,none⟩=some (.slice ca j KD):=(World.cell?_alloc_lt _ _ ⟨sb,2,none⟩ (bK pG.out.cell)).trans s2;go_wp2
    go_region_law (refine Fe rfl _ _ 139 rfl w.heap.size 108 iC (.int .i64 0) 1 8 underlying139 Mj hc0 hc1 hc2 rfl (by decide) (by decide) _ _ (iv (aV ks (at'.take j))) rfl (World.ownsRow.alloc hrc (.cells #[.int .i64 z] 108)) _ [.int .i64 z] rfl rfl (Xn W6 _ _) (by intro u hu;simp at hu;subst hu;rfl) (by omega) (by simp;omega) ?_;intro v7 w7 wZ fB _;obtain⟨a7,FR,rfl⟩:=fH wZ;obtain⟨Ur,c7,f7⟩:=pG.out.ahE (by rw [J4.out.2];exact wZ) ((Q9 W6 _ _).trans fB);have fe:Hid (Below w.heap.size w w7):=(bO.out.alloc wV _).drew.grown fB (by simp;omega) (fun q hq=>(hrc.lt q hq).1);clear wZ fB)
    all_goals
     have HN8:Hid (NS (w7.setCell ⟨sb,2,none⟩ (.slice a7 (j+1) FR)) w.heap.size sb (.slice (some ⟨gp,op,none⟩) m cp) (.slice a5 (j+1) nV) (.slice a7 (j+1) FR) ah (aV L.rs (at'.take (j+1))) (aV ks (at'.take (j+1)))):=by rw [HEq.out.1,HEq.out.2];exact Ur
     have gX:Hid (Below w.heap.size w (w7.setCell ⟨sb,2,none⟩ (.slice a7 (j+1) FR))):=fe.out.setCell (p:=⟨sb,2,none⟩) Ba.out _;clear Ur c7 f7 fe;go_wp2;go_roundg (m - (j+1));case measure=>omega
     case rel=>exact⟨j+1,_,_,by omega,rfl,by go_num,HN8.out,gX.out⟩
  .obtain rfl:j=m:=by omega
   have hte:at'.take j=at':=List.take_of_length_le (by rw [HL.out];exact Nat.le_refl _);rw [hte]at hN;have hgl:∀l:List Int,(aV l at').length=j:=fun l=>by rw [aV,List.length_map,HL.out]
   obtain⟨gr,cr,rfl,_,hgr,Mh⟩:=kg hN.rr (by rw [hgl];exact hm);obtain⟨gc,cc,rfl,_,hgc,akb⟩:=kg hN.rc (by rw [hgl];exact hm);rw [hgl,hgl]at hN;have hrr:wr.ownsRow w.heap.size 21 1 (.slice (some ⟨gr,0,none⟩) j cr) j (lV (aV L.rs at')):=by have:=hN.rr;rw [hgl]at this;exact this
   have hrc:wr.ownsRow w.heap.size 108 1 (.slice (some ⟨gc,0,none⟩) j cc) j (iv (aV ks at')):=by have:=hN.rc;rw [hgl]at this;exact this
   have yS:gr≠sb:=fun e=>iF hN.rr hN.cell (by decide) (by rw [e];rfl)
   have Ny:gc≠sb:=fun e=>iF hN.rc hN.cell (by decide) (by rw [e];rfl)
   have hS0:SB wr sb (.slice (some ⟨gp,op,none⟩) j cp) (.slice (some ⟨gr,0,none⟩) j cr) (.slice (some ⟨gc,0,none⟩) j cc) (.slice none 0 0) (.int .i64 ah) (.int .i64 0) (.int .i64 0):=hN.cell;have Vz:sb<wr.heap.size:=bK hN.cell;have hmk:=run_make_row' (P:=prog) 139 108 (.int .i64 0) 8 underlying139 Tryz.BO rfl .i64 .i64 j (by omega) (by omega);have hjm:¬(j:Int)<(j:Int):=by omega
   clear hN;have hS1:SB (wr.alloc (.cells (madeCells #[.int .i64 0] j) 108)) sb _ _ _ _ _ _ _:=hS0.grown (yj wr _ none) (by simp);have c2:=hS0.c2;obtain⟨d3,e3⟩:=hS1.c3;have yE:aK (wr.alloc (.cells (madeCells #[.int .i64 0] j) 108)) w.heap.size 108 wr.heap.size j (List.replicate j (.int .i64 0)):=aK.made hB.size (by omega);have hg1:wr.grownBy ((wr.alloc (.cells (madeCells #[.int .i64 0] j) 108)).setCell ⟨sb,3,none⟩ (.slice (some ⟨wr.heap.size,0,none⟩) j j)) (some sb):=(yj wr _ _).trans (Aw _ sb 3 _);have hS2:=hS1.s3 (.slice (some ⟨wr.heap.size,0,none⟩) j j);have hO2:aK ((wr.alloc (.cells (madeCells #[.int .i64 0] j) 108)).setCell ⟨sb,3,none⟩ (.slice (some ⟨wr.heap.size,0,none⟩) j j)) w.heap.size 108 wr.heap.size j (List.replicate j (.int .i64 0)):=yE.setOther sb 3 _ (by omega);have hB2:Below w.heap.size w ((wr.alloc (.cells (madeCells #[.int .i64 0] j) 108)).setCell ⟨sb,3,none⟩ (.slice (some ⟨wr.heap.size,0,none⟩) j j)):=(hB.alloc hB.size _).setCell (p:=⟨sb,3,none⟩) Ba.out _;have uh:=fJ hrr hg1 yS;have BK:=fJ hrc hg1 Ny;have h2:=And.intro hS2 (And.intro hO2 (And.intro hB2 (And.intro uh BK)));have H2:Hid _:=h2;have bZ:Hid (gr<wr.heap.size/\gc<wr.heap.size/\sb<wr.heap.size/\w.heap.size<=wr.heap.size):=⟨hgr,hgc,Vz,hB.size⟩
   clear hS0 hS1 yE hg1 hS2 hO2 hB2 uh BK hrr hrc hB hgr hgc Vz h2 hte;obtain⟨gb,hgb⟩:∃gb,gb=wr.heap.size:=⟨_,rfl⟩
   go_wp2;generalize((wr.alloc (.cells (madeCells #[.int .i64 0] j) 108)).setCell ⟨sb,3,none⟩ (.slice (some ⟨wr.heap.size,0,none⟩) j j))=W2 at*;rw [<-hgb]at H2 bZ ⊢;clear hgb c2 d3 e3;obtain⟨hS2,hO2,hB2,uh,BK⟩:=H2.out;clear H2;obtain⟨W3,hcp,hh3,hg3⟩:=KO (P:=prog) (w:=W2.drew) (sT:=139) (e:=108) (ty:=3) (g:=gb) underlying139 Tryz.OT (aK.heap hO2) (by simp) (World.ownsRow.drew BK) (fun v hv=>by simp only [iv,List.mem_map]at hv;obtain⟨x,_,rfl⟩:=hv;rfl);have hg3':W2.grownBy W3 (some gb):=(show W2.grownBy W2.drew (some gb)from⟨rfl,rfl,rfl,Nat.le_refl _,fun _ _ _=>rfl⟩).trans hg3;have iQ:SB W3 sb _ _ _ _ _ _ _:=hS2.grown hg3' (by have:=bZ.out;simp;omega);have hO3:aK W3 w.heap.size 108 gb j (iv (aV ks at')):=aK.NN hh3 (by have:=bZ.out;omega) (by rw [vC,hgl]) (by omega);have hB3:Below w.heap.size w W3:=hB2.grown hg3' hB2.size (fun k hk=>by cases hk;have:=bZ.out;omega);have uj:=fJ uh hg3' (by have:=bZ.out;omega);have DY:=fJ BK hg3' (by have:=bZ.out;omega);have c2:=hS2.c2;have c3:=hS2.c3.1;have h3:=And.intro iQ (And.intro hO3 (And.intro hB3 (And.intro uj DY)));have H3:Hid _:=h3;clear hS2 hO2 hB2 uh BK hh3 hg3 hg3' iQ hO3 hB3 uj DY h3;go_region;all_goals
    clear c2 c3 hcp hmk;obtain⟨iQ,hO3,hB3,uj,DY⟩:=H3.out;clear H3;obtain⟨Bw,_⟩:=HP.out W3 hB3 0 (by omega);rw [Nat.add_zero]at Bw;have h00:at'.getD 0 0=p0:=by rw [Jk.out.2];cases at'<;>rfl
    rw [h00]at Bw;obtain⟨bA,yI⟩:∃bA,bA=kW ls (aD L.cs) L.p p0:=⟨_,rfl⟩
    obtain⟨mA,G5⟩:∃mA,(if ah<bA then bA else ah)=mA:=⟨_,rfl⟩
    have hl0:0<=ah:=by rw [Jk.out.1];exact(hlv _).1
    have oV:0<=bA:=by rw [yI];exact Rp (fun p=>(hlv p).1) hp.1 _
    have zT:0<=mA:=by rw [<-G5];split<;>omega
    have Db:Hid (max ah bA=mA):=show max ah bA=mA by rw [<-G5];split<;>omega
    have PC:Hid (∀W,Below w.heap.size w W->Calls prog 219 #[.pointer (some ⟨L.lb,0,none⟩),.int .i64 p0] W fun e w'=>e= .returned (.int .i64 bA)/\w'=W):=fun W hb=>by rw [yI];exact aaO W L ks ls (HX.out W hb) hn p0 hp0
    have rF:Hid (∀W,Calls prog 96 #[.int .i64 mA] W fun e w'=>e= .returned (.int .i64 (mA%2))/\w'=W):=fun W=>xJ mA W zT
    have HsA:Hid (mO ah (kW ls (aD L.cs) L.p p0)=mA%2):=by rw [<-yI];exact Zm G5 zT
    have c4:=iQ.c4;obtain⟨c5,f5⟩:=iQ.c5;have ig:=iQ.s5 (.int .i64 (mA%2));have hg4:W3.grownBy (W3.setCell ⟨sb,5,none⟩ (.int .i64 (mA%2))) (some sb):=Aw _ sb 5 _;have hB4:Below w.heap.size w (W3.setCell ⟨sb,5,none⟩ (.int .i64 (mA%2))):=hB3.setCell (p:=⟨sb,5,none⟩) Ba.out _;have hO4:aK (W3.setCell ⟨sb,5,none⟩ (.int .i64 (mA%2))) w.heap.size 108 gb j (iv (aV ks at')):=fJ hO3 hg4 (by have:=bZ.out;omega);have zY:=fJ uj hg4 yS;have zW:=fJ DY hg4 Ny;have y4:=ig.c4;have yp:(W3.setCell ⟨sb,5,none⟩ (.int .i64 (mA%2))).cell? ⟨gp,op,none⟩=some (.int .i64 ((p0:Nat):Int)):=by
     have:=(HP.out _ hB4 0 (by omega)).1;rw [Nat.add_zero,h00]at this;exact this
    have h4:=And.intro ig (And.intro hO4 (And.intro hB4 (And.intro zY zW)));have H4:Hid _:=h4;have HB3:Hid (Below w.heap.size w W3):=hB3;clear iQ hO3 hB3 uj DY ig hg4 hB4 hO4 zY zW h4 yI h00 hl0 oV zT;go_wp2
    go_region_held3 (fun w'=>w'.cell? ⟨sb,4,none⟩=some (.int .i64 ah)/\w'.cell? ⟨gp,op,none⟩=some (.int .i64 ((p0:Nat):Int))) (first|go_keep|exact⟨y4,yp⟩)
     (first
      |(go_at_call 219;refine(PC.out _ HB3.out.drew).mono ?_;rintro ev wx ⟨rfl,rfl⟩)
      |(go_at_call 96;(try rw [Db.out]);refine(rF.out _).mono ?_;rintro ev wx ⟨rfl,rfl⟩))
    all_goals
     generalize W3.setCell ⟨sb,5,none⟩ (.int .i64 (mA%2))=W4 at*;clear y4 yp c4 c5 f5 Bw PC rF HB3 G5 Db;obtain⟨ig,hO4,hB4,zY,zW⟩:=H4.out;clear H4;have ig:SB W4.drew sb _ _ _ _ _ _ _:=ig;have hO4:aK W4.drew w.heap.size 108 gb j (iv (aV ks at')):=hO4;have hB4:Below w.heap.size w W4.drew:=hB4.drew;have zY:=World.ownsRow.drew zY;have zW:=World.ownsRow.drew zW;generalize W4.drew=W5 at*;obtain⟨Sb,hpl⟩:=HP.out W5 hB4 (j - 1) (by omega);obtain⟨p1,hp1⟩:∃p1,p1=at'.getD (j - 1) 0:=⟨_,rfl⟩
     have CJ:Hid (at'.getLastD 0=p1):=by
      show _=_;rw [hp1,List.getLastD_eq_getLast?,List.getLast?_eq_getElem?,HL.out,List.getD_eq_getElem?_getD]
     rw [<-hp1]at Sb hpl;obtain⟨bE,GR⟩:∃bE,bE=tJ L.cs ls (aD L.cs) L.p p1:=⟨_,rfl⟩
     obtain⟨mE,G6⟩:∃mE,(if ah<bE then bE else ah)=mE:=⟨_,rfl⟩
     have hl0:0<=ah:=by rw [Jk.out.1];exact(hlv _).1
     have hE0:0<=bE:=by rw [GR];exact abj (fun p=>(hlv p).1) hp.1
     have zT:0<=mE:=by rw [<-G6];split<;>omega
     have Db:Hid (max ah bE=mE):=show max ah bE=mE by rw [<-G6];split<;>omega
     have PT:Hid (∀W,Below w.heap.size w W->Calls prog 220 #[.pointer (some ⟨L.lb,0,none⟩),.int .i64 p1] W fun e w'=>e= .returned (.int .i64 bE)/\w'=W):=fun W hb=>by rw [GR];exact abk W L ks ls (HX.out W hb) hn p1 hpl
     have rF:Hid (∀W,Calls prog 96 #[.int .i64 mE] W fun e w'=>e= .returned (.int .i64 (mE%2))/\w'=W):=fun W=>xJ mE W zT
     have HsE:Hid (mO ah (tJ L.cs ls (aD L.cs) L.p p1)=mE%2):=by rw [<-GR];exact Zm G6 zT
     have c4:=ig.c4;obtain⟨c6,f6⟩:=ig.c6;have zQ:=ig.s6 (.int .i64 (mE%2));have jI:W5.grownBy (W5.setCell ⟨sb,6,none⟩ (.int .i64 (mE%2))) (some sb):=Aw _ sb 6 _;have nX:Below w.heap.size w (W5.setCell ⟨sb,6,none⟩ (.int .i64 (mE%2))):=hB4.setCell (p:=⟨sb,6,none⟩) Ba.out _;have tZ:aK (W5.setCell ⟨sb,6,none⟩ (.int .i64 (mE%2))) w.heap.size 108 gb j (iv (aV ks at')):=fJ hO4 jI (by have:=bZ.out;omega);have D8:=fJ zY jI yS;have DZ:=fJ zW jI Ny;have y4:=zQ.c4;have yp:(W5.setCell ⟨sb,6,none⟩ (.int .i64 (mE%2))).cell? ⟨gp,op+(j - 1),none⟩=some (.int .i64 ((p1:Nat):Int)):=by
      have:=(HP.out _ nX (j - 1) (by omega)).1;rw [<-hp1]at this;exact this
     have h6:=And.intro zQ (And.intro tZ (And.intro nX (And.intro D8 DZ)));have H6:Hid _:=h6;have dL:Hid (Below w.heap.size w W5):=hB4;clear ig hO4 hB4 zY zW zQ jI nX tZ D8 DZ h6 GR hp1 hl0 hE0 zT hpl;have hj1:(1:Int)<=(j:Int):=by omega
     have hj2:(0:Int)<=(j:Int) - 1:=by omega
     have U6:(j:Int) - 1<(j:Int):=by omega
     have BH:(j:Int)<=(j:Int):=by omega
     have U7:(0:Int)<(j:Int):=by omega
     have hw:IntKind.i64.wrap ((j:Int) - 1)=(j:Int) - 1:=IntWalk.i64_in _ ⟨by omega,by omega⟩;go_wp2
     go_region_held3 (fun w'=>w'.cell? ⟨sb,4,none⟩=some (.int .i64 ah)/\w'.cell? ⟨gp,op+(j - 1),none⟩=some (.int .i64 ((p1:Nat):Int))) (first|go_keep|exact⟨y4,yp⟩)
      (first
       |(go_at_call 220;refine(PT.out _ dL.out.drew).mono ?_;rintro ev wx ⟨rfl,rfl⟩)
       |(go_at_call 96;(try rw [Db.out]);refine(rF.out _).mono ?_;rintro ev wx ⟨rfl,rfl⟩))
     all_goals
      generalize W5.setCell ⟨sb,6,none⟩ (.int .i64 (mE%2))=W6 at*;clear y4 yp c4 c6 f6 Sb PT rF dL G6 Db hj1 hj2 U6 BH U7 hw;obtain⟨zQ,tZ,nX,D8,DZ⟩:=H6.out;clear H6;have HF:Hid (aA W6.drew w.heap.size sb gc j cc (.slice (some ⟨gp,op,none⟩) j cp) (.slice (some ⟨gr,0,none⟩) j cr) (.slice (some ⟨gb,0,none⟩) j j) ah (mA%2) (mE%2) (aV ks at')/\W6.drew.ownsRow w.heap.size 21 1 (.slice (some ⟨gr,0,none⟩) j cr) j (lV (aV L.rs at'))/\aK W6.drew w.heap.size 108 gb j (iv (aV ks at'))/\Below w.heap.size w W6.drew/\sb<W6.drew.heap.size):=⟨⟨zQ,DZ⟩,D8,tZ,nX.drew,bK zQ⟩
      clear zQ tZ nX D8 DZ;go_wp2;go_ret;refine⟨sb,gr,cr,gc,cc,gb,rfl,?_,HF.out.2.1,HF.out.2.2.1,by have:=bZ.out;omega,Ba.out,HF.out.2.2.2.2,HF.out.2.2.2.1⟩;rw [CJ.out,HsA.out,HsE.out];exact HF.out.1
end
