import Derived.Test.YtkbinfhclaafhaaGreatDoorZ01
import Derived.Deep.LoopGhost
import Derived.OwnWalk
import Derived.Laws.OwnMore
import Derived.Deep.OwnRows
import Derived.Maps.AppendAt
namespace Go.Proofs.YtkbinfhclaafhaaGreatDoor
open Go.RowKit
open Go.Proofs.Tryz
set_option maxRecDepth 100000
set_option maxHeartbeats 32000000
set_option linter.all false
theorem cU.drew {w:World}{B s:Nat}{v:Value}{st:List aU}{a b c:Int}(h:cU w B s v st a b c):cU w.drew B s v st a b c:=⟨h.cell,h.row,h.low⟩
theorem Fr.drew {B s:Nat}{a w:World}(h:Fr B s a w):Fr B s a w.drew:=⟨h.below.drew,h.xJ⟩
theorem cU.shape {w:World}{B s:Nat}{v:Value}{st:List aU}{e:aU}{a b c:Int}(h:cU w B s v (st++[e]) a b c):∃g cap,v= .slice (some ⟨g,0,none⟩) (st.length+1) cap/\st.length+1<=cap:=by
 rcases h.row.2 with⟨_,h0⟩|⟨g,cp,cur,rfl,_,_,hc,_⟩
 .simp at h0
 .exact⟨g,cp,by simp,by simpa using hc⟩
theorem cU.SQ {w:World}{B s g cap:Nat}{st:List aU}{e:aU}{a b c:Int}(h:cU w B s (.slice (some ⟨g,0,none⟩) (st.length+1) cap) (st++[e]) a b c):
  cU (w.setCell ⟨s,0,none⟩ (.slice (some ⟨g,0,none⟩) st.length cap)) B s (.slice (some ⟨g,0,none⟩) st.length cap) st a b c:=by
 have hr:=h.row;rw [Lt]at hr;have hr':w.ownsRow B 181 3 (.slice (some ⟨g,0,none⟩) (st.length+1) cap) (st.length+1) (ji st++e.cells):=by simpa using hr
 have hp:=abg (Hp st) hr';have hne:(Value.slice (some ⟨g,0,none⟩) st.length cap).ownBlock≠some s:=h.ne;exact⟨by rw [fK h.cell];rfl,jm hp hne _ _,h.low⟩
def gJ(st:List aU):List aU:=((st.reverse.dropWhile fun e=> !e.i).drop 1).reverse
theorem MM(st:List aU)(e:aU)(h:e.i=true):gJ (st++[e])=st:=by simp [gJ,h]
theorem MN(st:List aU)(e:aU)(h:e.i=false):gJ (st++[e])=gJ st:=by simp [gJ,h]
def iD(x:XS):XS:=
 if 0<x.aH then{x with aH:=x.aH - 1}
 else if x.valid=0 then x
 else{x with aM:=0,st:=gJ x.st,valid:=x.valid - 1}
def jA(x:XS):XS:=
 if 0<x.aH then x
 else if 0<x.aM then{x with aM:=x.aM - 1}
 else if(aR x.st).i=false/\1<x.st.length then{x with st:=x.st.dropLast}else x
theorem agu(w:World)(B s:Nat)(v:Value)(x:XS)(h:cU w B s v x.st x.aH x.aM x.valid)(hn:x.st.length<=1000)(h0:x.aH=0)(hv:1<=x.valid/\x.valid<=100000)(hex:∃e∈x.st,e.i=true):
  Calls prog 116 #[.pointer (some ⟨s,0,none⟩)] w fun ev w'=>ev= .returned (.tuple #[])/\Fr B s w w'/\∃v',cU w' B s v' (gJ x.st) x.aH 0 (x.valid - 1):=by
 obtain⟨st,aH,aM,valid⟩:=x;simp only at h hn h0 hv hex ⊢;subst h0;have HH:=ah h;have HX:=ah hex;have c1:w.cell? ⟨s,1,none⟩=some (.int .i64 0):=az h.cell 1;have c2:w.cell? ⟨s,2,none⟩=some (.int .i64 aM):=az h.cell 2;have c3:w.cell? ⟨s,3,none⟩=some (.int .i64 valid):=az h.cell 3;have f2:w.frozen? ⟨s,2,none⟩=false:=cH h.cell 2;have hv':(valid==0)=false:=by simp;omega
 have gP:=ah (h.zm 0);have kH:Hid (Fr B s w (w.setCell ⟨s,2,none⟩ (.int .i64 0))):=Fr.set h.low _ _;clear h hex;go_enter func116,ntmps116;go_wp2;clear c1 c2 c3 f2;go_loopg [22] (st.length+1) (fun gk _ wr=>∃(v':Value)(st':List aU),cU wr B s v' st' 0 0 valid/\Fr B s w wr/\gJ st'=gJ st/\(∃e∈st',e.i=true)/\st'.length<gk/\st'.length<=1000);case atStart=>exact⟨v,st,gP.out,kH.out,rfl,HX.out,by omega,hn⟩
 case round=>
  obtain⟨v',st',hS,hF,hp,hex,hg,hl⟩:=hrel;clear gP kH HH HX;have hne:st'≠[]:=by rintro rfl;simp at hex
  obtain⟨st0,e,rfl⟩:∃st0 e,st'=st0++[e]:=⟨st'.dropLast,st'.getLast hne,(CS hne).symm⟩
  simp only [bP,eW,kq]at hg hl;have HT:Hid (Calls prog 117 #[.pointer (some ⟨s,0,none⟩)] wr fun ev w'=>ev= .returned (.agg #[.int .i64 e.l,.int .i64 e.o,.bool e.i])/\Below wr.heap.size wr w'):=M7 wr B s v' st0 e 0 0 valid hS (by omega);have HS:=ah hS;have HF:=ah hF;have HP:=ah hp;have HX:=ah hex;have fI:=Tryz.Xo;clear hS hF hp hex hne;obtain⟨el,eo,ei⟩:=e;cases ei
  .have wJ:Hid (gJ st0=gJ st):=by have:=HP.out;rw [MN _ _ rfl]at this;exact this
   have zT:Hid (∃e'∈st0,e'.i=true):=by
    obtain⟨e',hm,hi⟩:=HX.out;rcases kK.1 hm with hm|hm
    .exact⟨e',hm,hi⟩
    .rw [pY.1 hm]at hi;cases hi
   go_wp2_with fail;refine HT.out.mono ?_;rintro ev w1 ⟨rfl,hb1⟩;have bD:=HS.out.below hb1;have kH:=ah (HF.out.trans (Fr.of_below (bU HS.out.low (fW HS.out.lt)) hb1));obtain⟨gg,cp,rfl,jy⟩:=bD.shape;have c0:w1.cell? ⟨s,0,none⟩=some (.slice (some ⟨gg,0,none⟩) (st0.length+1) cp):=az bD.cell 0;have f0:w1.frozen? ⟨s,0,none⟩=false:=cH bD.cell 0;have cW:=ah bD.SQ;have dX:Hid (Fr B s w (w1.setCell ⟨s,0,none⟩ (.slice (some ⟨gg,0,none⟩) st0.length cp))):=kH.out.trans (Fr.set bD.low _ _);obtain⟨m,hm⟩:∃m,m=st0.length:=⟨_,rfl⟩
   have HM:=ah hm;rw [<-hm]at c0 cW dX jy hg hl;clear bD hb1 HT hm;go_wp2;go_region;go_wp2;go_roundg (m+1);case measure=>omega
   case rel=>exact⟨_,st0,cW.out.drew,dX.out.drew,wJ.out,zT.out,by rw [HM.out];omega,by rw [<-HM.out];omega⟩
  .have wJ:Hid (st0=gJ st):=by have:=HP.out;rw [MM _ _ rfl]at this;exact this
   go_wp2_with fail;refine HT.out.mono ?_;rintro ev w1 ⟨rfl,hb1⟩;have bD:=HS.out.below hb1;have kH:=ah (HF.out.trans (Fr.of_below (bU HS.out.low (fW HS.out.lt)) hb1));obtain⟨gg,cp,rfl,jy⟩:=bD.shape;have c0:w1.cell? ⟨s,0,none⟩=some (.slice (some ⟨gg,0,none⟩) (st0.length+1) cp):=az bD.cell 0;have f0:w1.frozen? ⟨s,0,none⟩=false:=cH bD.cell 0;have cW:=ah bD.SQ;have dX:Hid (Fr B s w (w1.setCell ⟨s,0,none⟩ (.slice (some ⟨gg,0,none⟩) st0.length cp))):=kH.out.trans (Fr.set bD.low _ _);obtain⟨m,hm⟩:∃m,m=st0.length:=⟨_,rfl⟩
   have HM:=ah hm;rw [<-hm]at c0 cW dX jy hg hl;clear bD hb1 HT hm;go_wp2;go_region;have c3:((w1.setCell ⟨s,0,none⟩ (.slice (some ⟨gg,0,none⟩) m cp))).drew.cell? ⟨s,3,none⟩=some (.int .i64 valid):=az cW.out.drew.cell 3;have f3:((w1.setCell ⟨s,0,none⟩ (.slice (some ⟨gg,0,none⟩) m cp))).drew.frozen? ⟨s,3,none⟩=false:=cH cW.out.drew.cell 3;go_wp2;go_end0;exact⟨rfl,dX.out.drew.trans (Fr.set cW.out.low _ _),_,wJ.out▸cW.out.drew.JT _⟩
def OW(x:XS):Prop:=0<=x.aH/\x.aH<=100000/\0<=x.aM/\x.aM<=100000/\0<=x.valid/\x.valid<=100000
theorem agt(w:World)(B s:Nat)(v:Value)(x:XS)(h:cU w B s v x.st x.aH x.aM x.valid)(hn:x.st.length<=1000)(hbig:OW x)(hex:1<=x.valid->∃e∈x.st,e.i=true):
  Calls prog 116 #[.pointer (some ⟨s,0,none⟩)] w fun ev w'=>ev= .returned (.tuple #[])/\Fr B s w w'/\∃v',cU w' B s v' (iD x).st (iD x).aH (iD x).aM (iD x).valid:=by
 obtain⟨hi0,hi1,Qy,LY,hv0,hv1⟩:=hbig;by_cases h0:0<x.aH
 .have HY:Hid (iD x=⟨x.st,x.aH - 1,x.aM,x.valid⟩):=by unfold iD;rw [aj h0];rfl
  obtain⟨st,aH,aM,valid⟩:=x;simp only at h hn h0 hi1 hv0 hv1 ⊢;have c1:w.cell? ⟨s,1,none⟩=some (.int .i64 aH):=az h.cell 1;have f1:w.frozen? ⟨s,1,none⟩=false:=cH h.cell 1;have HH:=ah h;clear h hex;go_enter func116,ntmps116;go_wp2
  (try simp only [Exit.inBlock,Exit.then]);refine cG (zj rfl _ _ _) rfl ?_
  rw [HY.out];exact⟨rfl,Fr.set HH.out.low _ _,v,HH.out.JS _⟩
 .have hz:x.aH=0:=by omega
  by_cases hv:x.valid=0
  .have HY:Hid (iD x=x):=by show iD x=x;unfold iD;rw [ai h0,aj hv]
   obtain⟨st,aH,aM,valid⟩:=x;simp only at h hn hz hv;subst hz hv;have c1:w.cell? ⟨s,1,none⟩=some (.int .i64 0):=az h.cell 1;have c3:w.cell? ⟨s,3,none⟩=some (.int .i64 0):=az h.cell 3;have HH:=ah h;clear h hex h0 hi0 hi1 hv0 hv1;go_enter func116,ntmps116;go_wp2
   (try simp only [Exit.inBlock,Exit.then]);refine cG (zj rfl _ _ _) rfl ?_
   rw [HY.out];exact⟨rfl,Fr.refl _ _ _,v,HH.out⟩
  .have hy:iD x={x with aM:=0,st:=gJ x.st,valid:=x.valid - 1}:=by unfold iD;rw [ai h0,ai hv]
   rw [hy];exact agu w B s v x h hn hz ⟨by omega,hv1⟩ (hex (by omega))
theorem akE(w:World)(B s:Nat)(v:Value)(x:XS)(h:cU w B s v x.st x.aH x.aM x.valid)(hne:x.st≠[])(hn:x.st.length<=1000)(hbig:OW x):
  Calls prog 120 #[.pointer (some ⟨s,0,none⟩)] w fun ev w'=>ev= .returned (.tuple #[])/\Fr B s w w'/\∃v',cU w' B s v' (jA x).st (jA x).aH (jA x).aM (jA x).valid:=by
 obtain⟨hi0,hi1,Qy,LY,hv0,hv1⟩:=hbig;by_cases h0:0<x.aH
 .have HY:Hid (jA x=x):=by show jA x=x;unfold jA;rw [aj h0]
  obtain⟨st,aH,aM,valid⟩:=x;simp only at h hn h0 hi1;have c1:w.cell? ⟨s,1,none⟩=some (.int .i64 aH):=az h.cell 1;have HH:=ah h;clear h hne;go_enter func120,ntmps120;go_wp2;go_end0;rw [HY.out];exact⟨rfl,Fr.refl _ _ _,v,HH.out⟩
 .by_cases he:0<x.aM
  .have HY:Hid (jA x={x with aM:=x.aM - 1}):=by show jA x=_;unfold jA;rw [ai h0,aj he]
   obtain⟨st,aH,aM,valid⟩:=x;simp only at h hn h0 hi0 hi1 he LY HY ⊢;obtain rfl:aH=0:=by omega
   have c1:w.cell? ⟨s,1,none⟩=some (.int .i64 0):=az h.cell 1;have c2:w.cell? ⟨s,2,none⟩=some (.int .i64 aM):=az h.cell 2;have f2:w.frozen? ⟨s,2,none⟩=false:=cH h.cell 2;have HH:=ah h;clear h hne h0 hi0 hi1;go_enter func120,ntmps120;go_wp2;go_end0;rw [HY.out];exact⟨rfl,Fr.set HH.out.low _ _,v,HH.out.zm _⟩
  .have hy:jA x=if(aR x.st).i=false/\1<x.st.length then{x with st:=x.st.dropLast}else x:=by unfold jA;rw [ai h0,ai he]
   obtain⟨st,aH,aM,valid⟩:=x;simp only at h hn h0 hi0 hi1 he Qy LY hy hne ⊢;obtain rfl:aH=0:=by omega
   obtain rfl:aM=0:=by omega
   obtain⟨st0,e,rfl⟩:∃st0 e,st=st0++[e]:=⟨st.dropLast,st.getLast hne,(CS hne).symm⟩
   simp only [DV,Ei,bP,eW,kq]at hy hn;have HT:Hid (Calls prog 117 #[.pointer (some ⟨s,0,none⟩)] w fun ev w'=>ev= .returned (.agg #[.int .i64 e.l,.int .i64 e.o,.bool e.i])/\Below w.heap.size w w'):=M7 w B s v st0 e 0 0 valid h (by omega);have c1:w.cell? ⟨s,1,none⟩=some (.int .i64 0):=az h.cell 1;have c2:w.cell? ⟨s,2,none⟩=some (.int .i64 0):=az h.cell 2;have HH:=ah h;have HY:=ah hy;have fI:=Tryz.Xo;obtain⟨y,Z6⟩:∃y,y=jA ⟨st0++[e],0,0,valid⟩:=⟨_,rfl⟩
   rw [<-Z6]at HY ⊢;clear h hne h0 hi0 hi1 he Qy LY hy Z6;obtain⟨el,eo,ei⟩:=e;cases ei
   .by_cases hm:0<st0.length
    .have pS:Hid (y=⟨st0,0,0,valid⟩):=by have:=HY.out;rw [aj ⟨rfl,by omega⟩]at this;exact this
     go_enter func120,ntmps120;go_wp2_with fail;refine HT.out.mono ?_;rintro ev w1 ⟨rfl,hb1⟩;have bD:=HH.out.below hb1;have kH:Hid (Fr B s w w1):=Fr.of_below (bU HH.out.low (fW HH.out.lt)) hb1;obtain⟨gg,cp,rfl,jy⟩:=bD.shape;have d0:w1.cell? ⟨s,0,none⟩=some (.slice (some ⟨gg,0,none⟩) (st0.length+1) cp):=az bD.cell 0;have g0:w1.frozen? ⟨s,0,none⟩=false:=cH bD.cell 0;have cW:=ah bD.SQ;have dX:Hid (Fr B s w (w1.setCell ⟨s,0,none⟩ (.slice (some ⟨gg,0,none⟩) st0.length cp))):=kH.out.trans (Fr.set bD.low _ _);generalize st0.length=m at*;clear bD hb1 HT c1 c2 HY;go_wp2;go_region;go_wp2;go_end0;rw [pS.out];exact⟨rfl,dX.out.drew,_,cW.out.drew⟩
    .have pS:Hid (y=⟨st0++[⟨el,eo,false⟩],0,0,valid⟩):=by have:=HY.out;rw [ai (by omega)]at this;exact this
     have hm0:st0.length=0:=by omega
     go_enter func120,ntmps120;go_wp2_with fail;refine HT.out.mono ?_;rintro ev w1 ⟨rfl,hb1⟩;have bD:Hid _:=HH.out.below hb1;have kH:Hid (Fr B s w w1):=Fr.of_below (bU HH.out.low (fW HH.out.lt)) hb1;obtain⟨gg,cp,rfl,jy⟩:=bD.out.shape;have d0:w1.cell? ⟨s,0,none⟩=some (.slice (some ⟨gg,0,none⟩) (0+1) cp):=by have:=az bD.out.cell 0;rw [hm0]at this;exact this
     clear hb1 HT c1 c2 HY hm hm0;go_wp2;go_end0;rw [pS.out];exact⟨rfl,kH.out,_,bD.out⟩
   .have pS:Hid (y=⟨st0++[⟨el,eo,true⟩],0,0,valid⟩):=by have:=HY.out;rw [ai (by simp)]at this;exact this
    go_enter func120,ntmps120;go_wp2_with fail;refine HT.out.mono ?_;rintro ev w1 ⟨rfl,hb1⟩;have bD:Hid _:=HH.out.below hb1;have kH:Hid (Fr B s w w1):=Fr.of_below (bU HH.out.low (fW HH.out.lt)) hb1;clear hb1 HT c1 c2 HY;go_wp2;go_end0;rw [pS.out];exact⟨rfl,kH.out,_,bD.out⟩
def bN(c:Int):Bool:=c !=9&&(decide (c<13)||decide (17<c))
def dL(x:XS)(c:Int):XS:=if c=21 then iD x else x
def qg(cs:List Int)(i:Nat):Int:=found ((cs.take (mt cs i)).drop (i+1))
def eN(cs:List Int)(i:Nat)(x:XS)(c:Int):XS:=
 if c=13∨c=14∨c=15∨c=16 then iZ x c else if c=18 then iO x 0 else if c=19 then iO x 1
 else if c=20 then iO x (qg cs i)else if c=17 then jA x else x
def dW(cs:List Int)(para:Int):Nat->XS
 |0=>⟨[⟨para, -1,false⟩],0,0,0⟩
 |i+1=>eN cs i (dL (dW cs para i) (cs.getD i 0)) (cs.getD i 0)
def gG(cs:List Int)(para:Int)(i:Nat):aU:=aR (dL (dW cs para i) (cs.getD i 0)).st
def aZ(cs:List Int)(para:Int):List Int:=(List.range cs.length).map fun i=>(gG cs para i).l
def kindOf(c:Int)(e:aU):Int:=if bN c=true/\0<=e.o then e.o else c
def gZ(cs:List Int)(para:Int):List Int:=(List.range cs.length).map fun i=>kindOf (cs.getD i 0) (gG cs para i)
def aN(cs:List Int):List Bool:=cs.map bN
structure dJ(m:Int)(x:XS):Prop where
 ne:x.st≠[]
 au:∀(j:Nat)(e:aU),x.st[j]? =some e->(j:Int)<=e.l/\e.l<=125
 hd:∀e,x.st[0]? =some e->e.i=false
 cnt:x.valid=(x.st.filter (·.i)).length
 aH:0<=x.aH/\x.aH<=m
 aM:0<=x.aM/\x.aM<=m
theorem dJ.len {m:Int}{x:XS}(h:dJ m x):x.st.length<=126:=by
 have hne:=h.ne;have h1:x.st.length - 1<x.st.length:=by have:=jc.2 hne;omega
 have:=h.au (x.st.length - 1) _ (aQ h1);omega
theorem dJ.top {m:Int}{x:XS}(h:dJ m x):((x.st.length:Int) - 1<=(aR x.st).l)/\0<=(aR x.st).l/\(aR x.st).l<=125:=by
 have hne:=h.ne;have h0:=jc.2 hne;have h1:x.st.length - 1<x.st.length:=by omega
 have hl:=h.au (x.st.length - 1) _ (aQ h1);have e:aR x.st=x.st[x.st.length - 1]:=by
  unfold aR;rw [pW,Ek,aQ h1];rfl
 rw [e];omega
theorem dJ.big {m:Int}{x:XS}(h:dJ m x)(hm:m<=100000):OW x:=by
 have h1:=h.aH;have h2:=h.aM;have h3:=h.cnt;have h4:=h.len;have h5:=yw (·.i) x.st;refine⟨h1.1,by omega,h2.1,by omega,by omega,by omega⟩
theorem dJ.Pz {m:Int}{x:XS}(h:dJ m x)(hv:1<=x.valid):∃e∈x.st,e.i=true:=by
 have h3:=h.cnt;have:0<(x.st.filter (·.i)).length:=by omega
 obtain⟨e,he⟩:=List.exists_mem_of_length_pos this;exact⟨e,(uW.1 he).1,(uW.1 he).2⟩
theorem dJ.start(para:Int)(h:0<=para/\para<=125):dJ 0 ⟨[⟨para, -1,false⟩],0,0,0⟩:=
 ⟨by simp,fun j e he=>by
  match j,he with
  |0,he=>simp at he;subst he;exact⟨by simp;omega,h.2⟩,fun e he=>by simp at he;subst he;rfl,by simp,by simp,by simp⟩
theorem dJ.mono {m m':Int}{x:XS}(h:dJ m x)(hm:m<=m'):dJ m' x:=
 ⟨h.ne,h.au,h.hd,h.cnt,⟨h.aH.1,by have:=h.aH.2;omega⟩,⟨h.aM.1,by have:=h.aM.2;omega⟩⟩
theorem dJ.push {m:Int}{x:XS}(h:dJ m x)(e:aU)(hl:(aR x.st).l<e.l)(h5:e.l<=125):dJ m ⟨x.st++[e],x.aH,x.aM,x.valid+(if e.i=true then 1 else 0)⟩:=by
 refine⟨by simp,fun j e' he=> ?_,fun e' he=> ?_,?_,h.aH,h.aM⟩
 .simp only at he;rcases cK j x.st.length with hj|hj
  .rw [qV hj]at he;exact h.au j e' he
  .rw [pT hj]at he;have:j - x.st.length=0:=by
    rcases Es (j - x.st.length)with h'|h'
    .exact h'
    .rw [pU (by simp;omega)]at he;cases he
   rw [this]at he;simp at he;subst he;have:=h.top.1;omega
 .simp only at he;rw [qV (jc.2 h.ne)]at he;exact h.hd e' he
 .simp only [qQ,bP];have:=h.cnt;rw [qU,Ej];cases e.i<;>simp<;>omega
theorem R8(l bJ:Int):l<fG l bJ:=by unfold fG;split<;>omega
theorem dJ.Pt {m:Int}{x:XS}(h:dJ m x)(c:Int):dJ (m+1) (iZ x c):=by
 unfold iZ;simp only;generalize(if c=15 then(0:Int)else if c=16 then 1 else -1)=o;generalize hn:fG (aR x.st).l _=n;have hlt:(aR x.st).l<n:=by rw [<-hn];exact R8 _ _
 split
 .rename_i hf;unfold jx at hf;simp at hf;have:=(h.push ⟨n,o,false⟩ hlt (by simp;omega)).mono (m':=m+1) (by omega);simpa using this
 .split
  .exact⟨h.ne,h.au,h.hd,h.cnt,⟨h.aH.1,by have:=h.aH.2;simp only;omega⟩,⟨by have:=h.aM.1;simp only;omega,by have:=h.aM.2;simp only;omega⟩⟩
  .exact h.mono (by omega)
theorem dJ.begin {m:Int}{x:XS}(h:dJ m x)(bJ:Int):dJ (m+1) (iO x bJ):=by
 unfold iO;simp only;generalize hn:fG (aR x.st).l _=n;have hlt:(aR x.st).l<n:=by rw [<-hn];exact R8 _ _
 split
 .rename_i hf;unfold jx at hf;simp at hf;have:=(h.push ⟨n, -1,true⟩ hlt (by simp;omega)).mono (m':=m+1) (by omega);simpa using this
 .exact⟨h.ne,h.au,h.hd,h.cnt,⟨by have:=h.aH.1;simp only;omega,by have:=h.aH.2;simp only;omega⟩,⟨h.aM.1,by have:=h.aM.2;simp only;omega⟩⟩
theorem dJ.pop {m:Int}{x:XS}(h:dJ m x):dJ m (jA x):=by
 unfold jA;split
 .exact h
 .split
  .exact⟨h.ne,h.au,h.hd,h.cnt,h.aH,⟨by simp only;omega,by have:=h.aM.2;simp only;omega⟩⟩
  .split
   .rename_i hc;obtain⟨hi,hl⟩:=hc;obtain⟨st,aH,aM,valid⟩:=x;obtain⟨st0,e,rfl⟩:∃st0 e,st=st0++[e]:=⟨st.dropLast,st.getLast h.ne,(CS h.ne).symm⟩
    simp only [DV,bP,eW,kq]at hi hl;have hne:st0≠[]:=by rintro rfl;simp at hl
    refine⟨by simpa using hne,fun j e' he=> ?_,fun e' he=> ?_,?_,h.aH,h.aM⟩
    .simp only [Ei]at he;refine h.au j e' ?_;have hj:j<st0.length:=(qW.1 he).1;simp only;rw [qV hj];exact he
    .simp only [Ei]at he;refine h.hd e' ?_;simp only;rw [qV (jc.2 hne)];exact he
    .have:=h.cnt;simp only [qQ,bP,Ei]at this ⊢;simpa [hi]using this
   .exact h
theorem abM:∀(r:List aU),(∃e∈r,e.i=true)->∃a e b,r=a++e::b/\e.i=true/\(∀y∈a,y.i=false)/\(r.dropWhile fun e=> !e.i)=e::b
 |[],h=>by simp at h
 |e::r,h=>by
  cases hi:e.i with
  |true=>exact⟨[],e,r,rfl,hi,by simp,by simp [hi]⟩
  |false=>
   have:∃y∈r,y.i=true:=by
    obtain⟨y,hy,Rh⟩:=h;rcases jF.1 hy with rfl|hy
    .rw [hi]at Rh;cases Rh
    .exact⟨y,hy,Rh⟩
   obtain⟨a,e',b,h1,h2,h3,h4⟩:=abM r this;refine⟨e::a,e',b,by rw [h1];rfl,h2,?_,?_⟩
   .intro y hy;rcases jF.1 hy with rfl|hy
    .exact hi
    .exact h3 y hy
   .rw [List.dropWhile_cons,hi];simpa using h4
theorem akC(st:List aU)(h:∃e∈st,e.i=true):∃e a,st=gJ st++e::a/\e.i=true/\∀y∈a,y.i=false:=by
 obtain⟨a,e,b,h1,h2,h3,h4⟩:=abM st.reverse (by simpa using h);refine⟨e,a.reverse,?_,h2,by simpa using h3⟩;have hp:gJ st=b.reverse:=by unfold gJ;rw [h4];rfl
 have:st=(a++e::b).reverse:=by rw [<-h1,List.reverse_reverse]
 rw [hp];rw [this];simp
theorem dJ.end {m:Int}{x:XS}(h:dJ m x):dJ m (iD x):=by
 unfold iD;split
 .exact⟨h.ne,h.au,h.hd,h.cnt,⟨by simp only;omega,by have:=h.aH.2;simp only;omega⟩,h.aM⟩
 .split
  .exact h
  .rename_i h0 hv;have hv1:1<=x.valid:=by have:=h.cnt;omega
   obtain⟨e,a,h1,h2,h3⟩:=akC x.st (h.Pz hv1);have hne:gJ x.st≠[]:=by
    intro hn;rw [hn]at h1;have:=h.hd e (by rw [h1];rfl);rw [h2]at this;cases this
   have hlen:=jc.2 hne;have hget:∀(j:Nat)(e':aU),(gJ x.st)[j]? =some e'->x.st[j]? =some e':=by
    intro j e' he;have hj:j<(gJ x.st).length:=(qW.1 he).1;rw [h1,qV hj];exact he
   refine⟨hne,fun j e' he=>h.au j e' (hget j e' he),fun e' he=>h.hd e' (hget 0 e' he),?_,h.aH,⟨by simp,by have:=h.aM;simp only;omega⟩⟩;have hc:=h.cnt;have hf:(x.st.filter (·.i)).length=((gJ x.st).filter (·.i)).length+1:=by
    have ha:a.filter (·.i)=[]:=ad6.2 (by intro y hy;simp [h3 y hy])
    conv=>lhs;rw [h1]
    rw [qQ,bP,qU,aj h2,ha];rfl
   simp only;omega
theorem dJ.pre {m:Int}{x:XS}(h:dJ m x)(c:Int):dJ m (dL x c):=by unfold dL;split;exact h.end;exact h
theorem dJ.post {m:Int}{x:XS}(h:dJ m x)(cs:List Int)(i:Nat)(c:Int):dJ (m+1) (eN cs i x c):=by
 unfold eN;split
 .exact h.Pt c
 .split
  .exact h.begin 0
  .split
   .exact h.begin 1
   .split
    .exact h.begin _
    .split
     .exact h.pop.mono (by omega)
     .exact h.mono (by omega)
theorem wm(cs:List Int)(para:Int)(h:0<=para/\para<=125):∀i:Nat,dJ i (dW cs para i)
 |0=>dJ.start para h
 |i+1=>by
  have:=((wm cs para h i).pre (cs.getD i 0)).post cs i (cs.getD i 0);exact this
def iv(l:List Int):List Value:=l.map (.int .i64 ·)
def bv(l:List Bool):List Value:=l.map .bool
theorem Fg(l:List Int)(k:Nat)(a:Int):(iv l).set k (.int .i64 a)=iv (l.set k a):=by simp [iv,List.map_set]
theorem Pb(l:List Bool)(k:Nat)(a:Bool):(bv l).set k (.bool a)=bv (l.set k a):=by simp [bv,List.map_set]
def upto {α:Type}(l:List α)(z:α)(k:Nat):List α:=l.take k++List.replicate (l.length - k) z
theorem TV {α:Type}(l:List α)(z:α):upto l z 0=List.replicate l.length z:=by simp [upto]
theorem TT {α:Type}(l:List α)(z:α)(k:Nat)(h:k=l.length):upto l z k=l:=by simp [upto,h]
theorem TU {α:Type}(l:List α)(z:α)(k:Nat)(h:k<=l.length):(upto l z k).length=l.length:=by simp [upto];omega
theorem FN {α:Type}(l:List α)(z a:α)(k:Nat)(h:l[k]? =some a):(upto l z k).set k a=upto l z (k+1):=by
 obtain⟨hk,rfl⟩:=qW.1 h;clear h;unfold upto;rw [uX _ _ (by simp;omega)];simp only [rW,jd (fW hk),nK];rw [show l.length - k=(l.length - (k+1))+1 by omega,Er,aep,pZ hk,eV];rfl
theorem S4 {w w':World}{B s n:Nat}{v:Value}{e:TypeId}{xs:List Value}(h:w.ownsRow B e 1 v n xs)(ho:Lib.OthersKept 181 (some s) w w')(he:e≠181)(hs:v.ownBlock≠some s):w'.ownsRow B e 1 v n xs:=by
 rcases h.2 with⟨rfl,h0⟩|⟨g,cp,cur,rfl,h1,h2,h3⟩
 .exact⟨h.1,.inl ⟨rfl,h0⟩⟩
 .refine⟨h.1,.inr ⟨g,cp,cur,rfl,h1,ho g _ h2 (by simpa [Value.ownBlock]using hs) ?_,h3⟩⟩;intro c fz hc;injection hc with _ h' _
  exact he h'
theorem Tryz.qB:(prog.info? 3).map (fun i=>(i.zero,i.size,i.bytes))=some (some (.int .i64 0),1,8):=by kernel_rfl
theorem Tryz.Fa:(prog.info? 4).map (fun i=>(i.zero,i.size,i.bytes))=some (some (.bool false),1,1):=by kernel_rfl
def bh(w:World)(B:Nat)(e:TypeId)(g n:Nat)(xs:List Value):Prop:=w.ownsRow B e 1 (.slice (some ⟨g,0,none⟩) n n) n xs
theorem bh.set {w:World}{B g n:Nat}{e:TypeId}{xs:List Value}(h:bh w B e g n xs)(k:Nat)(u:Value):bh (w.setCell ⟨g,k,none⟩ u) B e g n (xs.set k u):=(h.stored k u).1
theorem bh.setOther {w:World}{B g n:Nat}{e:TypeId}{xs:List Value}(h:bh w B e g n xs)(g' k:Nat)(u:Value)(hne:g≠g'):bh (w.setCell ⟨g',k,none⟩ u) B e g n xs:=jm h (by simp [Value.ownBlock,hne]) k u
theorem bh.alloc {w:World}{B g n:Nat}{e:TypeId}{xs:List Value}(h:bh w B e g n xs)(o:Obj):bh (w.alloc o) B e g n xs:=nM h o
theorem bh.frozen {w:World}{B g n:Nat}{e:TypeId}{xs:List Value}(h:bh w B e g n xs)(k:Nat):w.frozen? ⟨g,k,none⟩=false:=Bu h k
theorem bh.cell {w:World}{B g n:Nat}{e:TypeId}{xs:List Value}(h:bh w B e g n xs)(k:Nat)(hk:k<n):w.cell? ⟨g,k,none⟩=xs[k]? :=dg h k (by omega)
theorem bh.ge {w:World}{B g n:Nat}{e:TypeId}{xs:List Value}(h:bh w B e g n xs):B<=g/\g<w.heap.size:=yE h g rfl
theorem bh.made {w:World}{B n:Nat}{e:TypeId}{z:Value}(hB:B<=w.heap.size)(hn:n<=1000000):bh (w.alloc (.cells (madeCells #[z] n) e)) B e w.heap.size n (List.replicate n z):=by
 refine⟨by simp,.inr ⟨w.heap.size,n,madeCells #[z] n,rfl,hB,?_,ay _,by unfold maxLen;omega,by simp [size_madeCells],?_⟩⟩
 .exact Qz w _
 .rw [acL];simp
def bf(w:World)(B g n cap:Nat)(t:List Int):Prop:=w.ownsRow B 3 1 (.slice (some ⟨g,0,none⟩) n cap) n (iv t)
theorem bf.len {w:World}{B g n cap:Nat}{t:List Int}(h:bf w B g n cap t):t.length=n:=by have:=h.1;simpa [iv]using this
theorem bf.set {w:World}{B g n cap:Nat}{t:List Int}(h:bf w B g n cap t)(k:Nat)(a:Int):bf (w.setCell ⟨g,k,none⟩ (.int .i64 a)) B g n cap (t.set k a):=by
 have:=(z7 h k (.int .i64 a)).1;rw [Fg]at this;exact this
theorem bf.grown {w:World}{B g n cap:Nat}{t:List Int}(h:bf w B g n cap t)(k:Nat)(a:Int):w.grownBy (w.setCell ⟨g,k,none⟩ (.int .i64 a)) (some g):=(z7 h k (.int .i64 a)).2
theorem bf.frozen {w:World}{B g n cap:Nat}{t:List Int}(h:bf w B g n cap t)(k:Nat):w.frozen? ⟨g,k,none⟩=false:=Bu h k
theorem bf.cell {w:World}{B g n cap:Nat}{t:List Int}(h:bf w B g n cap t)(k:Nat)(hk:k<n):w.cell? ⟨g,k,none⟩=some (.int .i64 (t.getD k 0)):=by
 rw [dg h k (by omega)];have hl:=h.len;simp [iv,aO,aQ (show k<t.length by omega)]
def kC(gY tt:Int):Int->List Int->List Int
 |_,[]=>[]
 |last,c::r=>(if c=3/\(if c=0∨c=1∨c=2 then c else last)=gY then tt else c)::kC gY tt (if c=0∨c=1∨c=2 then c else last) r
def p5(gY tt aq:Int)(t:List Int)(k:Nat)(last:Int)(t':List Int):Prop:=∃pre,pre.length=k/\t'=pre++t.drop k/\kC gY tt aq t=pre++kC gY tt last (t.drop k)
theorem p5.start(gY tt aq:Int)(t:List Int):p5 gY tt aq t 0 aq t:=⟨[],rfl,by simp,by simp⟩
theorem p5.stop {gY tt aq last:Int}{t t':List Int}{k:Nat}(h:p5 gY tt aq t k last t')(hk:¬k<t.length):t'=kC gY tt aq t:=by
 obtain⟨pre,_,h2,h3⟩:=h;rw [jD (by omega)]at h2 h3;rw [h2,h3];rfl
theorem p5.at {gY tt aq last:Int}{t t':List Int}{k:Nat}(h:p5 gY tt aq t k last t')(hk:k<t.length):t'.getD k 0=t.getD k 0:=by
 obtain⟨pre,h1,h2,_⟩:=h;rw [h2,aO,pT (by omega),h1,nK,drop_at hk];rfl
theorem p5.step {gY tt aq last:Int}{t t':List Int}{k:Nat}(h:p5 gY tt aq t k last t')(hk:k<t.length)(last' v:Int)(hl:last'=if t.getD k 0=0∨t.getD k 0=1∨t.getD k 0=2 then t.getD k 0 else last)(hv:v=if t.getD k 0=3/\last'=gY then tt else t.getD k 0):p5 gY tt aq t (k+1) last' (t'.set k v):=by
 obtain⟨pre,h1,h2,h3⟩:=h;refine⟨pre++[v],by simp [h1],?_,?_⟩
 .rw [h2,drop_at hk,uX _ _ (by omega),h1,nK];simp
 .rw [h3,drop_at hk,kC,<-hl,<-hv];simp
theorem p5.same {gY tt aq last:Int}{t t':List Int}{k:Nat}(h:p5 gY tt aq t k last t')(hk:k<t.length):t'.set k (t.getD k 0)=t':=by
 obtain⟨pre,h1,h2,_⟩:=h;rw [h2,drop_at hk,uX _ _ (by omega),h1,nK];rfl
theorem abX(t:List Int)(aq gY tt:Int)(B g n cap:Nat)(w:World)(hr:bf w B g n cap t)(hn:n<=100000):
  Calls prog 190 #[.slice (some ⟨g,0,none⟩) n cap,.int .i64 aq,.int .i64 gY,.int .i64 tt] w fun e w'=>e= .returned (.tuple #[])/\bf w' B g n cap (kC gY tt aq t)/\w.grownBy w' (some g):=by
 have HR:=ah hr;have HL:=ah hr.len;clear hr;go_enter func190,ntmps190;go_wp2;go_loopg [8,9] n (fun gk lv i wr=>∃(k:Nat)(l:Int)(t':List Int),k<=n/\gk=n - k/\lv= .int .i64 l/\i= .int .i64 k/\bf wr B g n cap t'/\w.grownBy wr (some g)/\p5 gY tt aq t k l t');case atStart=>exact⟨0,aq,t,by omega,rfl,rfl,rfl,HR.out,jt _ _,p5.start _ _ _ _⟩
 case round=>
  obtain⟨k,l,t',hk,rfl,rfl,rfl,hI,hG,hN⟩:=hrel;have HI:=ah hI;have HG:=ah hG;have HN:=ah hN;by_cases hlt:k<n
  .have hlt':k<t.length:=by rw [HL.out];exact hlt
   have hcell:=hI.cell k hlt;rw [hN.at hlt']at hcell;have hfr:=hI.frozen k;obtain⟨c,hx⟩:∃c,c=t.getD k 0:=⟨_,rfl⟩
   rw [<-hx]at hcell;have key:∀l':Int,(l'=if c=0∨c=1∨c=2 then c else l)->¬(c=3/\l'=gY)->Hid (p5 gY tt aq t (k+1) l' t'):=by
    intro l' h1 h2;have:=hN.step hlt' l' c (by rw [<-hx];exact h1) (by rw [<-hx,ai h2]);rw [hx,hN.same hlt']at this;exact this
   have Dy:c=3->l=gY->Hid (p5 gY tt aq t (k+1) l (t'.set k tt)):=by
    intro h1 h2;exact hN.step hlt' l tt (by rw [<-hx,ai (by omega)]) (by rw [<-hx,aj ⟨h1,h2⟩])
   clear hI hG hN hx hlt' HN;by_cases h0:c=0
   .subst h0;have HS:=key 0 rfl (by omega);clear key Dy;go_wp2;go_roundg (n - (k+1));case measure=>omega
    case rel=>exact⟨k+1,0,_,by omega,rfl,rfl,by simp,HI.out,HG.out,HS.out⟩
   by_cases h1:c=1
   .subst h1;have HS:=key 1 rfl (by omega);clear key Dy;go_wp2;go_roundg (n - (k+1));case measure=>omega
    case rel=>exact⟨k+1,1,_,by omega,rfl,rfl,by simp,HI.out,HG.out,HS.out⟩
   by_cases h2:c=2
   .subst h2;have HS:=key 2 rfl (by omega);clear key Dy;go_wp2;go_roundg (n - (k+1));case measure=>omega
    case rel=>exact⟨k+1,2,_,by omega,rfl,rfl,by simp,HI.out,HG.out,HS.out⟩
   by_cases h3:c=3
   .subst h3;by_cases hs:l=gY
    .have HS:=Dy rfl hs;have hs':(l==gY)=true:=by simpa using hs
     clear key Dy hs;go_wp2;go_roundg (n - (k+1));case measure=>omega
     case rel=>exact⟨k+1,l,_,by omega,rfl,rfl,by simp,HI.out.set k _,HG.out.trans (HI.out.grown k _),HS.out⟩
    .have HS:=key l (by rw [ai (by omega)]) (fun h=>hs h.2);have hs':(l==gY)=false:=by simpa using hs
     clear key Dy hs;go_wp2;go_roundg (n - (k+1));case measure=>omega
     case rel=>exact⟨k+1,l,_,by omega,rfl,rfl,by simp,HI.out,HG.out,HS.out⟩
   have HS:=key l (by rw [ai (by omega)]) (fun h=>h3 h.1);have q0:(c==0)=false:=by simpa using h0
   have q1:(c==1)=false:=by simpa using h1
   have q2:(c==2)=false:=by simpa using h2
   have q3:(c==3)=false:=by simpa using h3
   clear key Dy h0 h1 h2 h3;go_wp2;go_roundg (n - (k+1));case measure=>omega
   case rel=>exact⟨k+1,l,_,by omega,rfl,rfl,by simp,HI.out,HG.out,HS.out⟩
  .have HE:Hid (t'=kC gY tt aq t):=hN.stop (by rw [HL.out];exact hlt);clear hI hG hN HN;go_wp2;go_end0;exact⟨rfl,HE.out▸HI.out,HG.out⟩
def pass {σ:Type}(f:σ->Int->List Int->Int)(g:σ->Int->List Int->σ):σ->List Int->List Int
 |_,[]=>[]
 |s,c::r=>f s c r::pass f g (g s c r) r
def aV {σ:Type}(f:σ->Int->List Int->Int)(g:σ->Int->List Int->σ)(s0:σ)(t:List Int)(k:Nat)(s:σ)(t':List Int):Prop:=
 ∃pre,pre.length=k/\t'=pre++t.drop k/\pass f g s0 t=pre++pass f g s (t.drop k)
section
variable{σ:Type}{f:σ->Int->List Int->Int}{g:σ->Int->List Int->σ}{s0 s:σ}{t t':List Int}{k:Nat}
theorem aby:∀(t:List Int)(s:σ),(pass f g s t).length=t.length
 |[],_=>rfl
 |c::r,s=>by simp [pass,aby r]
theorem aV.start(f:σ->Int->List Int->Int)(g:σ->Int->List Int->σ)(s0:σ)(t:List Int):aV f g s0 t 0 s0 t:=⟨[],rfl,by simp,by simp⟩
theorem aV.stop(h:aV f g s0 t k s t')(hk:¬k<t.length):t'=pass f g s0 t:=by
 obtain⟨pre,_,h2,h3⟩:=h;rw [jD (by omega)]at h2 h3;rw [h2,h3];rfl
theorem aV.at(h:aV f g s0 t k s t')(j:Nat)(hj:k<=j):t'.getD j 0=t.getD j 0:=by
 obtain⟨pre,h1,h2,_⟩:=h;rw [h2,aO,pT (by omega),h1,yu,show k+(j - k)=j by omega,aO]
theorem aV.step(h:aV f g s0 t k s t')(hk:k<t.length)(v:Int)(s':σ)(hv:v=f s (t.getD k 0) (t.drop (k+1)))(hs:s'=g s (t.getD k 0) (t.drop (k+1))):aV f g s0 t (k+1) s' (t'.set k v):=by
 obtain⟨pre,h1,h2,h3⟩:=h;refine⟨pre++[v],by simp [h1],?_,?_⟩
 .rw [h2,drop_at hk,uX _ _ (by omega),h1,nK];simp
 .rw [h3,drop_at hk,pass,<-hv,<-hs];simp
theorem aV.same(h:aV f g s0 t k s t')(hk:k<t.length):t'.set k (t.getD k 0)=t':=by
 obtain⟨pre,h1,h2,_⟩:=h;rw [h2,drop_at hk,uX _ _ (by omega),h1,nK];rfl
theorem aV.stay(h:aV f g s0 t k s t')(hk:k<t.length)(s':σ)(hv:t.getD k 0=f s (t.getD k 0) (t.drop (k+1)))(hs:s'=g s (t.getD k 0) (t.drop (k+1))):aV f g s0 t (k+1) s' t':=by
 have:=h.step hk (t.getD k 0) s' hv hs
 rwa [h.same hk]at this
theorem aV.length(h:aV f g s0 t k s t')(hk:k<=t.length):t'.length=t.length:=by
 obtain⟨pre,h1,h2,_⟩:=h;rw [h2];simp [h1];omega
theorem aV.prev(h:aV f g s0 t k s t')(hk:k<t.length)(v:Int):(t'.set k v).getD k 0=v:=by
 have:=h.length (by omega);rw [aO,VD (by omega)];rfl
end
def iN(t':List Int)(k:Nat)(s:Option Int):Prop:=(k=0/\s=none)∨(0<k/\s=some (t'.getD (k - 1) 0))
def f1(aq:Int)(s:Option Int)(c:Int)(_r:List Int):Int:=if c=8 then(match s with|none=>aq|some p=>if aS p=true∨p=21 then 12 else p)else c
def g1(aq:Int)(s:Option Int)(c:Int)(r:List Int):Option Int:=some (f1 aq s c r)
def f3(_:Unit)(c:Int)(_:List Int):Int:=if c=2 then 1 else c
def g3(_:Unit)(_:Int)(_:List Int):Unit:=()
def f4(s:Option Int)(c:Int)(r:List Int):Int:=match s,r with
 |some a,d::_=>if a=d/\((c=4/\a=3)∨(c=7/\(a=3∨a=6)))then a else c
 |_,_=>c
def g4(s:Option Int)(c:Int)(r:List Int):Option Int:=some (f4 s c r)
def nO:List Int->Bool
 |[]=>false
 |c::r=>if c=5 then nO r else c==3
def f5(s:Option Int)(c:Int)(r:List Int):Int:=if c=5/\(s=some 3∨nO r=true)then 3 else c
def g5(s:Option Int)(c:Int)(r:List Int):Option Int:=some (f5 s c r)
def f6(_:Unit)(c:Int)(_:List Int):Int:=if c=4∨c=5∨c=7 then 12 else c
theorem Lx {aq c:Int}{s:Option Int}{r:List Int}(h:¬c=8):f1 aq s c r=c:=by unfold f1;rw [ai h]
theorem Xw {c:Int}{r:List Int}(h:¬c=2):f3 () c r=c:=by unfold f3;rw [ai h]
theorem agJ {c:Int}{r:List Int}(h:c=4∨c=5∨c=7):f6 () c r=12:=by unfold f6;rw [aj h]
theorem Xy {c:Int}{r:List Int}(h:¬(c=4∨c=5∨c=7)):f6 () c r=c:=by unfold f6;rw [ai h]
theorem Xx {c:Int}{r:List Int}:f4 none c r=c:=by unfold f4;rfl
theorem agI {s:Option Int}{c:Int}:f4 s c []=c:=by unfold f4;cases s<;>rfl
theorem PB {a d c:Int}{r:List Int}:f4 (some a) c (d::r)=if a=d/\((c=4/\a=3)∨(c=7/\(a=3∨a=6)))then a else c:=rfl
theorem abu {t:List Int}(h:0<t.length):aV f4 g4 none t 1 (some (t.getD 0 0)) t:=by
 have:=(aV.start f4 g4 none t).stay h (some (t.getD 0 0)) Xx.symm (by rw [g4,Xx]);exact this
theorem abv {t t':List Int}{k:Nat}{s:Option Int}(h:aV f4 g4 none t k s t')(hk:¬k+1<t.length):t'=pass f4 g4 none t:=by
 by_cases h':k<t.length
 .have hd:t.drop (k+1)=[]:=jD (by omega);exact(h.stay h' (g4 s (t.getD k 0) (t.drop (k+1))) (by rw [hd,agI]) rfl).stop (by omega)
 .exact h.stop h'
def rO(aq:Int)(t:List Int):List Int:=
 kC 0 0 aq (pass f6 g3 () (pass f5 g5 none (pass f4 g4 none (pass f3 g3 () (kC 2 6 aq (pass (f1 aq) (g1 aq) none t))))))
theorem iN.start(t':List Int):iN t' 0 none:= .inl ⟨rfl,rfl⟩
theorem iN.set {t':List Int}{k:Nat}(v:Int)(h:k<t'.length):iN (t'.set k v) (k+1) (some v):= .inr ⟨by omega,by
 rw [kr,aO,VD h];rfl⟩
theorem iN.stay {t':List Int}{k:Nat}:iN t' (k+1) (some (t'.getD k 0)):= .inr ⟨by omega,by rw [kr]⟩
def oD(t:List Int)(k:Nat):Nat->List Int
 |0=>t
 |m+1=>(oD t k m).set (k+m) 3
theorem XB(t:List Int)(k:Nat):∀m,(oD t k m).length=t.length
 |0=>rfl
 |m+1=>by simp [oD,XB t k m]
theorem Py {td:List Int}{j:Nat}(hj:j<=td.length):∀m a,a+m=j->(∀q,a<=q->q<j->td.getD q 0=5)->nO (td.drop a)=nO (td.drop j)
 |0,a,h,_=>by rw [<-h];rfl
 |m+1,a,h,hr=>by
  rw [drop_at (show a<td.length by omega),nO,aj (hr a (ay _) (by omega))];exact Py hj m (a+1) (by omega) (fun q h1 h2=>hr q (by omega) h2)
theorem ab1 {td t':List Int}{k j:Nat}{s:Option Int}(h:aV f5 g5 none td k s t')(hrun:∀q,k<=q->q<j->td.getD q 0=5)(hj:j<=td.length)(hc:s=some 3∨nO (td.drop j)=true):
  ∀m,k+m<=j->∃s',aV f5 g5 none td (k+m) s' (oD t' k m)/\(m=0->s'=s)/\(0<m->s'=some 3)
 |0,_=>⟨s,h,fun _=>rfl,fun h=>by omega⟩
 |m+1,hm=>by
  obtain⟨s',h1,h2,h3⟩:=ab1 h hrun hj hc m (by omega);have hq:s'=some 3∨nO (td.drop (k+m+1))=true:=by
   rcases hc with hc|hc
   .left;rcases Es m with h0|h0
    .rw [h2 h0,hc]
    .exact h3 h0
   .right;rw [Py hj (j - (k+m+1)) (k+m+1) (by omega) (fun q h1 h2=>hrun q (by omega) h2)];exact hc
  have hf:f5 s' (td.getD (k+m) 0) (td.drop (k+m+1))=3:=by
   unfold f5;exact aj ⟨hrun (k+m) (by omega) (by omega),hq⟩
  exact⟨some 3,h1.step (by omega) 3 (some 3) hf.symm (by rw [g5,hf]),fun h=>by omega,fun _=>rfl⟩
theorem JK {td t':List Int}{k j:Nat}{s:Option Int}(h:aV f5 g5 none td k s t')(hrun:∀q,k<=q->q<j->td.getD q 0=5)(hj:j<=td.length)(hkj:k<j)(hc:s=some 3∨nO (td.drop j)=true):
  aV f5 g5 none td j (some 3) (oD t' k (j - k))/\iN (oD t' k (j - k)) j (some 3):=by
 obtain⟨s',h1,_,h3⟩:=ab1 h hrun hj hc (j - k) (by omega);rw [h3 (by omega),show k+(j - k)=j by omega]at h1;refine⟨h1,?_⟩;have hlen:=h.length (by omega);obtain⟨m,hm⟩:∃m,j - k=m+1:=⟨j - k - 1,by omega⟩
 rw [hm,oD,show j=k+m+1 by omega];exact iN.set 3 (by rw [XB,hlen];omega)
theorem ab2 {td t':List Int}{k j:Nat}{s:Option Int}(h:aV f5 g5 none td k s t')(hrun:∀q,k<=q->q<j->td.getD q 0=5)(hj:j<=td.length)(hs:¬s=some 3)(he:nO (td.drop j)=false):
  ∀m,k+m<=j->∃s',aV f5 g5 none td (k+m) s' t'/\(m=0->s'=s)/\(0<m->s'=some 5)
 |0,_=>⟨s,h,fun _=>rfl,fun h=>by omega⟩
 |m+1,hm=>by
  obtain⟨s',h1,h2,h3⟩:=ab2 h hrun hj hs he m (by omega);have hs':¬s'=some 3:=by
   rcases Es m with h0|h0
   .rw [h2 h0];exact hs
   .rw [h3 h0];simp
  have h5:=hrun (k+m) (by omega) (by omega);have hf:f5 s' (td.getD (k+m) 0) (td.drop (k+m+1))=5:=by
   unfold f5;rw [Py hj (j - (k+m+1)) (k+m+1) (by omega) (fun q h1 h2=>hrun q (by omega) h2),he,ai (by rintro⟨_,h|h⟩;exact hs' h;cases h)];exact h5
  exact⟨some 5,h1.stay (by omega) (some 5) (by rw [hf];exact h5) (by rw [g5,hf]),fun h=>by omega,fun _=>rfl⟩
theorem JM {td t':List Int}{k j:Nat}{s:Option Int}(h:aV f5 g5 none td k s t')(hrun:∀q,k<=q->q<j->td.getD q 0=5)(hj:j<=td.length)(hkj:k<j)(hs:¬s=some 3)(he:nO (td.drop j)=false):
  aV f5 g5 none td j (some 5) t'/\iN t' j (some 5):=by
 obtain⟨s',h1,_,h3⟩:=ab2 h hrun hj hs he (j - k) (by omega);rw [h3 (by omega),show k+(j - k)=j by omega]at h1;refine⟨h1,.inr ⟨by omega,?_⟩⟩;rw [h.at (j - 1) (by omega),hrun (j - 1) (by omega) (by omega)]
theorem Xu {td:List Int}{j:Nat}(hj:j<td.length)(h5:¬td.getD j 0=5):nO (td.drop j)=(td.getD j 0==3):=by rw [drop_at hj,nO,ai h5]
theorem Xv {td:List Int}{j:Nat}(hj:¬j<td.length):nO (td.drop j)=false:=by rw [jD (by omega)];rfl
theorem S5 {td t':List Int}{k:Nat}{s:Option Int}(h:aV f5 g5 none td k s t')(hk:k<td.length)(h5:¬td.getD k 0=5):aV f5 g5 none td (k+1) (some (td.getD k 0)) t'/\iN t' (k+1) (some (td.getD k 0)):=by
 have hf:f5 s (td.getD k 0) (td.drop (k+1))=td.getD k 0:=by unfold f5;rw [ai (fun h=>h5 h.1)]
 refine⟨h.stay hk _ hf.symm (by rw [g5,hf]),?_⟩;rw [<-h.at k (ay _)];exact iN.stay
def kY(rs:List Int)(r:Int)(st:List Nat):Nat->Option Nat
 |0=>none
 |m+1=>if(brk (rs.getD (st.getD m 0) 0)).2=r then some m else kY rs r st m
def nD(t rs:List Int)(i:Nat)(x:List Nat×List (Nat×Nat)):Option (List Nat×List (Nat×Nat)):=
 if t.getD i 0=12 then
  if(brk (rs.getD i 0)).1=1 then(if x.1.length=63 then none else some (x.1++[i],x.2))
  else if(brk (rs.getD i 0)).1=2 then(match kY rs (brk (rs.getD i 0)).2 x.1 x.1.length with
   |some m=>some (x.1.take m,x.2++[(x.1.getD m 0,i)])
   |none=>some x)
  else some x
 else some x
def dF(t rs:List Int):Nat->Nat->List Nat×List (Nat×Nat)->Option (List (Nat×Nat))
 |0,_,x=>some x.2
 |n+1,i,x=>match nD t rs i x with
  |some y=>dF t rs n (i+1) y
  |none=>none
def ko(t rs:List Int)(ps:List (Nat×Nat)):Prop:=match dF t rs t.length 0 ([],[])with
 |none=>ps=[]
 |some out=>ps.Perm out/\ps.Pairwise (fun a b=>a.1<=b.1)
theorem acy(rs:List Int)(r:Int)(st:List Nat):∀m k,kY rs r st m=some k->k<m
 |0,k,h=>by simp [kY]at h
 |m+1,k,h=>by
  rw [kY]at h;split at h
  .simp at h;omega
  .have:=acy rs r st m k h;omega
structure jP(i:Nat)(x:List Nat×List (Nat×Nat)):Prop where
 len:x.1.length<=63
 few:x.2.length<=i
 st:∀a∈x.1,a<i
 out:∀p∈x.2,p.1<p.2/\p.2<i
 rI:(x.1++x.2.map Prod.fst).Nodup
theorem jP.start:jP 0 ([],[]):=⟨by simp,by simp,by simp,by simp,by simp⟩
theorem jP.more {i:Nat}{x:List Nat×List (Nat×Nat)}(h:jP i x):jP (i+1) x:=
 ⟨h.len,Nat.le_succ_of_le h.few,fun a ha=>GK (h.st a ha),fun p hp=>⟨(h.out p hp).1,GK (h.out p hp).2⟩,h.rI⟩
theorem jP.push {i:Nat}{x:List Nat×List (Nat×Nat)}(h:jP i x)(hl:¬x.1.length=63):jP (i+1) (x.1++[i],x.2):=by
 obtain⟨h1,h2,h3,h4,h5⟩:=h;refine⟨by simp;omega,by simp;omega,?_,fun p hp=>⟨(h4 p hp).1,GK (h4 p hp).2⟩,?_⟩
 .intro a ha;simp at ha;rcases ha with ha|rfl
  .exact GK (h3 a ha)
  .exact VM _
 .show((x.1++[i])++x.2.map Prod.fst).Nodup;have hp:((x.1++[i])++x.2.map Prod.fst).Perm (i::(x.1++x.2.map Prod.fst)):=by
   rw [eV];exact aek
  rw [hp.nodup_iff,Bn];refine⟨?_,h5⟩;intro hm;rcases kK.1 hm with hm|hm
  .exact Nat.lt_irrefl _ (h3 i hm)
  .obtain⟨p,hq,rfl⟩:=jr.1 hm;have:=h4 p hq;omega
theorem jP.pop {i m:Nat}{x:List Nat×List (Nat×Nat)}(h:jP i x)(hm:m<x.1.length):jP (i+1) (x.1.take m,x.2++[(x.1.getD m 0,i)]):=by
 obtain⟨h1,h2,h3,h4,h5⟩:=h;have hget:x.1.getD m 0=x.1[m]:=by simp [aO,aQ hm]
 have hmem:x.1.getD m 0∈x.1:=by rw [hget];exact pV hm
 refine⟨by simp;omega,by simp;omega,fun a ha=>GK (h3 a (KO ha)),?_,?_⟩
 .intro p hp;simp at hp;rcases hp with hp|rfl
  .exact⟨(h4 p hp).1,GK (h4 p hp).2⟩
  .exact⟨by have:=h3 _ hmem;simpa [aO]using this,VM _⟩
 .have hs:(x.1.take m++[x.1.getD m 0]).Sublist x.1:=by
   have:x.1.take m++[x.1.getD m 0]=x.1.take (m+1):=by rw [hget,pZ hm]
   rw [this];exact aer _ _
  have hn:=h5.sublist (hs.append (ad1 (x.2.map Prod.fst)));refine(ad0 ?_).1 hn;simp only [fO,pX,Em];rw [eV];refine(OC _).append ?_;exact aej
theorem jP.step {t rs:List Int}{i:Nat}{x y:List Nat×List (Nat×Nat)}(h:jP i x)(hy:nD t rs i x=some y):jP (i+1) y:=by
 unfold nD at hy;split at hy
 .split at hy
  .split at hy
   .cases hy
   .obtain rfl:=aK hy;exact h.push ‹_›
  .split at hy
   .split at hy
    .rename_i m hm;obtain rfl:=aK hy;exact h.pop (acy _ _ _ _ _ hm)
    .obtain rfl:=aK hy;exact h.more
   .obtain rfl:=aK hy;exact h.more
 .obtain rfl:=aK hy;exact h.more
theorem Sy {t rs:List Int}:∀n i x out,jP i x->dF t rs n i x=some out->(∀p∈out,p.1<p.2/\p.2<i+n)/\(out.map Prod.fst).Nodup
 |0,i,x,out,h,hf=>by
  rw [dF]at hf;obtain rfl:=aK hf;exact⟨h.out,(Eo.1 h.rI).2.1⟩
 |n+1,i,x,out,h,hf=>by
  rw [dF]at hf;split at hf
  .rename_i y hy;have:=Sy n (i+1) y out (h.step hy) hf;exact⟨fun p hp=>⟨(this.1 p hp).1,by have:=(this.1 p hp).2;omega⟩,this.2⟩
  .cases hf
theorem acC:∀(a b:List (Nat×Nat)),a.Perm b->(a.map Prod.fst).Nodup->a.Pairwise (fun p q=>p.1<=q.1)->b.Pairwise (fun p q=>p.1<=q.1)->a=b
 |[],b,h,_,_,_=>h.nil_eq
 |p::a,[],h,_,_,_=>by simpa using h.length_eq
 |p::a,q::b,h,hn,ha,hb=>by
  have hpq:p=q:=by
   have h1:p∈q::b:=h.subset (by simp);have h2:q∈p::a:=h.symm.subset (by simp);rcases jF.1 h1 with h1|h1
   .exact h1
   .rcases jF.1 h2 with h2|h2
    .exact h2.symm
    .have e1:=(Ep.1 hb).1 p h1;have e2:=(Ep.1 ha).1 q h2;have e3:p.1=q.1:=Nat.le_antisymm e2 e1;have:=(Bn.1 hn).1;exact absurd (jr.2 ⟨q,h2,e3.symm⟩) this
  subst hpq;rw [acC a b (List.Perm.cons_inv h) (Bn.1 hn).2 (Ep.1 ha).2 (Ep.1 hb).2]
theorem ko.one {t rs:List Int}{ps qs:List (Nat×Nat)}(h:ko t rs ps)(k:ko t rs qs):ps=qs:=by
 unfold ko at h k;cases hp:dF t rs t.length 0 ([],[])with
 |none=>rw [hp]at h k;simp only at h k;rw [h,k]
 |some out=>
  rw [hp]at h k;have hn:=(Sy _ _ _ _ jP.start hp).2;exact acC ps qs (h.1.trans k.1.symm) ((ad0 (h.1.map Prod.fst)).2 hn) h.2 k.2
theorem ko.ok {t rs:List Int}{ps:List (Nat×Nat)}(h:ko t rs ps):∀p∈ps,p.1<p.2/\p.2<t.length:=by
 unfold ko at h;cases hp:dF t rs t.length 0 ([],[])with
 |none=>rw [hp]at h;simp only at h;rw [h];simp
 |some out=>
  rw [hp]at h;intro p hp';have:=(Sy _ _ _ _ jP.start hp).1 p (h.1.subset hp');simpa using this
theorem abj {t rs:List Int}:∀n i x out,jP i x->dF t rs n i x=some out->out.length<=i+n
 |0,i,x,out,h,hf=>by
  rw [dF]at hf;obtain rfl:=aK hf;exact h.few
 |n+1,i,x,out,h,hf=>by
  rw [dF]at hf;split at hf
  .rename_i y hy;have:=abj n (i+1) y out (h.step hy) hf;omega
  .cases hf
def swp(l:List (Nat×Nat))(k:Nat):List (Nat×Nat):=(l.set k (l.getD (k - 1) (0,0))).set (k - 1) (l.getD k (0,0))
theorem am2(l:List (Nat×Nat))(k:Nat):(swp l k).length=l.length:=by simp [swp]
theorem am1(l:List (Nat×Nat))(k j:Nat)(hk:0<k)(hl:k<l.length):(swp l k).getD j (0,0)=if j=k then l.getD (k - 1) (0,0)else if j=k - 1 then l.getD k (0,0)else l.getD j (0,0):=by
 unfold swp;rw [aO,KG,KG];by_cases h1:j=k
 .subst h1;rw [ai (by omega),aj rfl,aj hl,aj rfl];rfl
 .rw [ai h1];by_cases h2:j=k - 1
  .subst h2;rw [aj rfl,aj (by simp;omega),aj rfl];rfl
  .rw [ai (by omega),ai (by omega),ai h2,aO]
theorem am3(l:List (Nat×Nat))(k:Nat)(hk:0<k)(hl:k<l.length):(swp l k).Perm l:=by
 obtain⟨j,rfl⟩:∃j,k=j+1:=⟨k - 1,by omega⟩
 have h1:l=l.take j++(l.getD j (0,0)::l.getD (j+1) (0,0)::l.drop (j+2)):=by
  have a1:l.drop j=l.getD j (0,0)::l.drop (j+1):=by
   rw [l9 (show j<l.length by omega)];simp [aO,aQ (show j<l.length by omega)]
  have a2:l.drop (j+1)=l.getD (j+1) (0,0)::l.drop (j+2):=by
   rw [l9 hl];simp [aO,aQ hl]
  rw [<-a2,<-a1,aeq]
 have hlen:(l.take j).length=j:=by simp;omega
 have h2:swp l (j+1)=l.take j++(l.getD (j+1) (0,0)::l.getD j (0,0)::l.drop (j+2)):=by
  unfold swp;rw [kr];generalize l.getD j (0,0)=a at*;generalize l.getD (j+1) (0,0)=b at*;generalize l.take j=u at*;generalize l.drop (j+2)=v at*;rw [h1,uX _ _ (by omega),uX _ _ (by omega),hlen];simp
 rw [h2]
 conv=>rhs;rw [h1]
 exact(OC _).append (List.Perm.swap _ _ _)
def key(l:List (Nat×Nat))(j:Nat):Nat:=(l.getD j (0,0)).1
def yD(out l:List (Nat×Nat))(i:Nat):Prop:=l.Perm out/\∀a b,a<b->b<i->key l a<=key l b
def Bt(out l:List (Nat×Nat))(i k:Nat):Prop:=l.Perm out/\k<=i/\(∀a b,a<b->b<=i->a≠k->b≠k->key l a<=key l b)/\∀b,k<b->b<=i->key l k<=key l b
theorem yD.sink {out l:List (Nat×Nat)}{i:Nat}(h:yD out l i):Bt out l i i:=⟨h.1,ay _,fun a b h1 h2 h3 h4=>h.2 a b h1 (by omega),fun b h1 h2=>by omega⟩
theorem Bt.swp {out l:List (Nat×Nat)}{i k:Nat}(h:Bt out l i k)(hk:0<k)(hi:i<l.length)(hlt:key l k<key l (k - 1)):Bt out (swp l k) i (k - 1):=by
 obtain⟨h1,h2,h3,h4⟩:=h;have e:∀j,key (Go.Proofs.YtkbinfhclaafhaaGreatDoor.swp l k) j=if j=k then key l (k - 1)else if j=k - 1 then key l k else key l j:=by
  intro j;unfold key;rw [am1 l k j hk (by omega)];split
  .rfl
  .split<;>rfl
 refine⟨(am3 l k hk (by omega)).trans h1,by omega,?_,?_⟩
 .intro a b ha hb na nb;rw [e,e,ai na,ai nb];by_cases yU:a=k
  .rw [aj yU];rw [ai (by omega)];exact h3 (k - 1) b (by omega) hb (by omega) (by omega)
  .rw [ai yU];by_cases hbk:b=k
   .rw [aj hbk];exact h3 a (k - 1) (by omega) (by omega) yU (by omega)
   .rw [ai hbk];exact h3 a b ha hb yU hbk
 .intro b hb EU;rw [e,e,ai (by omega),aj rfl,ai (by omega:¬b=k - 1)];by_cases hbk:b=k
  .rw [aj hbk];omega
  .rw [ai hbk];exact h4 b (by omega) EU
theorem Bt.done {out l:List (Nat×Nat)}{i k:Nat}(h:Bt out l i k)(hk:k=0∨¬key l k<key l (k - 1)):yD out l (i+1):=by
 obtain⟨h1,h2,h3,h4⟩:=h;refine⟨h1,fun a b ha hb=> ?_⟩;by_cases hbk:b=k
 .subst hbk;rcases hk with hk|hk
  .omega
  .by_cases yU:a=b - 1
   .subst yU;omega
   .have:=h3 a (b - 1) (by omega) (by omega) (by omega) (by omega);omega
 .by_cases yU:a=k
  .subst yU;exact h4 b ha (by omega)
  .exact h3 a b ha (by omega) yU hbk
theorem yD.done {out l:List (Nat×Nat)}{i:Nat}(h:yD out l i)(hi:l.length<=i):l.Perm out/\l.Pairwise (fun a b=>a.1<=b.1):=by
 refine⟨h.1,?_⟩;rw [aei];intro a b ha hb hab;have:=h.2 a b hab (by omega);simpa [key,aO,aQ ha,aQ hb]using this
def bL(t:List Int)(k:Nat)(v:Int):Nat->List Int
 |0=>t
 |m+1=>(bL t k v m).set (k+m) v
theorem Lz(t:List Int)(k:Nat)(v:Int):∀m,(bL t k v m).length=t.length
 |0=>rfl
 |m+1=>by simp [bL,Lz t k v m]
theorem XC(t:List Int)(k:Nat)(v:Int)(j:Nat):∀m,k+m<=t.length->(bL t k v m).getD j 0=if k<=j/\j<k+m then v else t.getD j 0
 |0,_=>by rw [bL,ai (by omega)]
 |m+1,h=>by
  rw [bL,aO,KG];by_cases hj:k+m=j
  .rw [aj hj,aj (by rw [Lz];omega),aj (by omega)];rfl
  .rw [ai hj,<-aO,XC t k v j m (by omega)];by_cases hj':k<=j/\j<k+m
   .rw [aj hj',aj (by omega)]
   .rw [ai hj',ai (by omega)]
def qE(ax:Int):List Int->Int
 |[]=>ax
 |c::r=>if bC c<0 then qE ax r else bC c
def fN(ax e:Int)(s c:Int)(r:List Int):Int:=if bC c<0 then(if s=qE ax r then s else e)else c
def gN(s c:Int)(_:List Int):Int:=if bC c<0 then s else bC c
def Cb(aq ax e:Int)(t:List Int):List Int:=pass (fN ax e) gN aq t
theorem aa4 {ax:Int}{td:List Int}{j:Nat}(hj:j<=td.length):∀m a,a+m=j->(∀q,a<=q->q<j->bC (td.getD q 0)<0)->qE ax (td.drop a)=qE ax (td.drop j)
 |0,a,h,_=>by rw [<-h];rfl
 |m+1,a,h,hr=>by
  rw [drop_at (show a<td.length by omega),qE,aj (hr a (ay _) (by omega))];exact aa4 hj m (a+1) (by omega) (fun q h1 h2=>hr q (by omega) h2)
theorem AU {ax e aq d:Int}{td t':List Int}{k j:Nat}{s:Int}(h:aV (fN ax e) gN aq td k s t')(hrun:∀q,k<=q->q<j->bC (td.getD q 0)<0)(hj:j<=td.length)(hd:d=if s=qE ax (td.drop j)then s else e):
  ∀m,k+m<=j->aV (fN ax e) gN aq td (k+m) s (bL t' k d m)
 |0,_=>h
 |m+1,hm=>by
  have h1:=AU h hrun hj hd m (by omega);have hs:=hrun (k+m) (by omega) (by omega);refine h1.step (by omega) d s ?_ ?_
  .rw [fN,aj hs,aa4 hj (j - (k+m+1)) (k+m+1) (by omega) (fun q h1 h2=>hrun q (by omega) h2),hd]
  .rw [gN,aj hs]
theorem alk {ax e aq:Int}{td t':List Int}{k:Nat}{s:Int}(h:aV (fN ax e) gN aq td k s t')(hk:k<td.length)(hs:¬bC (td.getD k 0)<0):aV (fN ax e) gN aq td (k+1) (bC (td.getD k 0)) t':=
 h.stay hk _ (by rw [fN,ai hs]) (by rw [gN,ai hs])
theorem ajB {ax:Int}{td:List Int}{j:Nat}(hj:j<td.length)(hs:¬bC (td.getD j 0)<0):qE ax (td.drop j)=bC (td.getD j 0):=by rw [drop_at hj,qE,ai hs]
theorem ajC {ax:Int}{td:List Int}{j:Nat}(hj:¬j<td.length):qE ax (td.drop j)=ax:=by rw [jD (by omega)];rfl
def xV(td t':List Int)(aq:Int)(k:Nat)(s:Int):Prop:=(k=0/\s=aq)∨(0<k/\s=bC (t'.getD (k - 1) 0))∨(k<td.length->¬bC (td.getD k 0)<0)
def kz(p:Int->Bool)(t:List Int)(a:Nat):Nat->Bool
 |0=>false
 |m+1=>kz p t a m||p (t.getD (a+m) 0)
def jL(aq:Int)(t:List Int):Nat->Int
 |0=>aq
 |m+1=>if bC (t.getD m 0)<0 then jL aq t m else bC (t.getD m 0)
def pJ:List Int->Nat
 |[]=>0
 |c::r=>if c=8 then pJ r+1 else 0
def nH(orig:List Int)(d:Int)(k:Nat)(t:List Int):List Int:=bL t k d (1+pJ (orig.drop (k+1)))
def Ct(e:Int)(c:Int):Bool:=bC c==e
def vH(e:Int)(c:Int):Bool:=decide (0<=bC c)&&bC c !=e
def xM(t:List Int)(p:Nat×Nat)(e aq:Int):Int:=if kz (Ct e) t (p.1+1) (p.2 - (p.1+1))=true then e else jL aq t p.1
def qG(t orig:List Int)(p:Nat×Nat)(e aq:Int):List Int:=
 if kz (Ct e) t (p.1+1) (p.2 - (p.1+1))=false/\kz (vH e) t (p.1+1) (p.2 - (p.1+1))=false then t
 else nH orig (xM t p e aq) p.2 (nH orig (xM t p e aq) p.1 t)
theorem Sd {l:List Int}{m:Nat}(hm:m<l.length):pJ (l.drop m)=if l.getD m 0=8 then pJ (l.drop (m+1))+1 else 0:=by rw [drop_at hm,pJ]
theorem Sc {l:List Int}{m:Nat}(hm:¬m<l.length):pJ (l.drop m)=0:=by rw [jD (by omega)];rfl
theorem acs(orig:List Int)(d:Int)(k:Nat)(t:List Int):(nH orig d k t).length=t.length:=Lz _ _ _ _
theorem aj5(t orig:List Int)(p:Nat×Nat)(e aq:Int):(qG t orig p e aq).length=t.length:=by
 unfold qG;split
 .rfl
 .rw [acs,acs]
