import Derived.Test.YtkbinfhclaafhaaGreatDoorZ15
import Derived.Test.YtkbinfhclaafhaaGreatDoorZ18
import Derived.Test.YtkbinfhclaafhaaGreatDoorZ01
namespace Go.Proofs.YtkbinfhclaafhaaGreatDoor
open Go.RowKit
open Go.Proofs.Tryz
set_option maxRecDepth 100000
set_option maxHeartbeats 32000000
set_option linter.all false
section
attribute [local go_sem ↓] Go.wp_at_zero Go.wp_at_succ
theorem Rq {w:World}{b off:Nat}{l:List Int}(h:bG w b off l)(j:Nat)(u:Value)(hj:(iv l)[j]? =some u):w.cell? ⟨b,off+j,none⟩=some u:=by
 have hlt:j<l.length:=by have:=(qW.1 hj).1;rwa [mH]at this
 rw [h j hlt,<-hj];simp [iv,aO,aQ hlt]
theorem aap {l:List Int}:∀u∈iv l,u.oneCell'=true:=fun u hu=>by
 simp only [iv,jr]at hu;obtain⟨x,_,rfl⟩:=hu;rfl
theorem afm(w:World)(L:LP)(ks ls:List Int)(h:LX w L ks ls)(hn:L.n<=1000)(hlv:∀p,0<=ls.getD p 0/\ls.getD p 0<=1000)(hp:0<=L.p/\L.p<=1000):
  Calls prog 87 #[.pointer (some ⟨L.lb,0,none⟩)] w fun e w'=>∃av qs,e= .returned av/\wV w' w.heap.size L ks ls av qs/\qs.map ic.at'=((cQ ls (aN L.cs)).filter (gA L.cs)).map (bV L.cs (cQ ls (aN L.cs)) L.n)/\Below w.heap.size w w':=by
 obtain⟨iI,eY,eZ,fe,fh⟩:=gW Tryz.qB;obtain⟨iP,hiP,Jd,Je,Jf⟩:=gW Tryz.aif;have hcn:=h.len;have HX:Hid (∀W,Below w.heap.size w W->LX W L ks ls):=fun W hb=>h.below hb
 have Qd:kN L.n (cQ ls (aN L.cs)):=by have:=S9 ls (aN L.cs);rw [h.kl.2]at this;exact this
 have NF:Hid (∀k,k<(iG (aN L.cs) L.n).length->(iG (aN L.cs) L.n).getD k 0<L.n):=fun k hk=>(aaw (dm hk)).1
 have hll:=RI (aN L.cs) L.n;have hb0:Below w.heap.size w (w.alloc (.cells #[.pointer (some ⟨L.lb,0,none⟩)] 136)):=(aA _ _).alloc (ay _) _;have zP:Hid (Calls prog 154 #[.pointer (some ⟨L.lb,0,none⟩)] (w.alloc (.cells #[.pointer (some ⟨L.lb,0,none⟩)] 136)) fun e w'=>∃v g aD,e= .returned v/\Bq w' (w.alloc (.cells #[.pointer (some ⟨L.lb,0,none⟩)] 136)).heap.size v g (iG (aN L.cs) L.n) aD/\aD.map (dI (iG (aN L.cs) L.n))=cQ ls (aN L.cs)/\Below (w.alloc (.cells #[.pointer (some ⟨L.lb,0,none⟩)] 136)).heap.size (w.alloc (.cells #[.pointer (some ⟨L.lb,0,none⟩)] 136)) w'):=alG _ L ks ls (h.below hb0) hn;have hmm:=@ace prog;have Qu:(w.alloc (.cells #[.pointer (some ⟨L.lb,0,none⟩)] 136)).heap[w.heap.size]? =some (.cells #[.pointer (some ⟨L.lb,0,none⟩)] 136 (0,0)):=mP;have Uy:=ah Qu;have mQ:=ah hb0;clear h hb0 Qu;generalize iG (aN L.cs) L.n=left at*;obtain⟨R,hR⟩:∃R,R=cQ ls (aN L.cs):=⟨_,rfl⟩
 rw [<-hR]at zP Qd ⊢;clear hR;have Eb:=ah Qd;clear Qd;go_enter func87,ntmps87;go_wp2_with fail;refine zP.out.mono ?_;rintro ev w1 ⟨rv,g,aD,rfl,iq,Q9,hb1⟩;clear zP;have hz0:(w.alloc (.cells #[.pointer (some ⟨L.lb,0,none⟩)] 136)).heap.size=w.heap.size+1:=by simp
 have pz:Below w.heap.size w w1:=mQ.out.trans (hb1.mono (by omega));have nt:w1.heap[w.heap.size]? =some (.cells #[.pointer (some ⟨L.lb,0,none⟩)] 136 (0,0)):=cB hb1 Uy.out;have ZF:Bq w1 w.heap.size rv g left aD:=⟨Ci iq.row (by omega),iq.lf,iq.ok,fun hn=>⟨bU (by omega) (iq.lt hn).1,(iq.lt hn).2⟩,iq.ty⟩
 have YF:SE ((w1.alloc (.map #[] 0)).alloc (.cells #[.map (some w1.heap.size)] 217)) w.heap.size w.heap.size (w1.heap.size+1) w1.heap.size g L rv left aD 0:=by
  have hbb:Below w1.heap.size w1 ((w1.alloc (.map #[] 0)).alloc (.cells #[.map (some w1.heap.size)] 217)):=((aA _ _).alloc (ay _) _).alloc (by simp) _;have qz:((w1.alloc (.map #[] 0)).alloc (.cells #[.map (some w1.heap.size)] 217)).heap[w1.heap.size+1]? =some (.cells #[.map (some w1.heap.size)] 217 (0,0)):=by
   have:(w1.alloc (.map #[] 0)).heap.size=w1.heap.size+1:=by simp
   rw [<-this];exact mP
  refine⟨cB hbb nt,qz,?_,ZF.below hbb⟩;have:(w1.alloc (.map #[] 0)).heap[w1.heap.size]? =some (.map #[] 0):=mP;exact cB ((aA _ _).alloc (ay _) _) this
 have bq:Below w.heap.size w ((w1.alloc (.map #[] 0)).alloc (.cells #[.map (some w1.heap.size)] 217)):=(pz.alloc pz.size _).alloc (by simp;have:=pz.size;omega) _;obtain⟨ra,rc,rfl⟩:=ey iq.row;have Vi:=ah YF;have aJ:=ah bq;have uR:=ah Q9;have UM:=ah pz.size;have dN:=ah iq.ok;have hNs:aD.length<=1000:=by
  have h1:=Hs R.flatten L.n Eb.out.rI (fun a ha=>by obtain⟨r,hr,ha⟩:=OO.1 ha;exact Eb.out.lt r hr a ha);have h2:R.length<=R.flatten.length:=by
   have:∀l:List (List Nat),(∀r∈l,r≠[])->l.length<=l.flatten.length:=by
    intro l
    induction l with
    |nil=>intro _;simp
    |cons a l ih=>
     intro hl;have h1:=ih (fun r hr=>hl r (by simp [hr]));have h2:0<a.length:=jc.2 (hl a (by simp));simp only [eW,yq,bP];omega
   exact this R Eb.out.ne
  have h3:aD.length=R.length:=by rw [<-Q9,jE]
  omega
 clear iq Q9 hb1 pz nt ZF YF bq hz0;obtain⟨lx,hlx⟩:∃lx,lx=w.heap.size:=⟨_,rfl⟩
 obtain⟨mb,hmb⟩:∃mb,mb=w1.heap.size:=⟨_,rfl⟩
 obtain⟨mx,hmx⟩:∃mx,mx=w1.heap.size+1:=⟨_,rfl⟩
 obtain⟨N,hN⟩:∃N,N=aD.length:=⟨_,rfl⟩
 go_wp2;generalize(w1.alloc (.map #[] 0)).alloc (.cells #[.map (some w1.heap.size)] 217)=W2 at*;have Vj:Hid (SE W2 w.heap.size lx mx mb g L (.slice ra N rc) left aD 0):=by rw [hlx,hmx,hmb,hN];exact Vi.out
 have CG:Hid (w.heap.size<=mb):=by show _<=_;rw [hmb];exact UM.out
 rw [<-hmx,<-hlx,<-hN];rw [<-hN]at hNs;have pO:=ah hN.symm;clear Vi UM hlx hmb hmx hN hmm Uy mQ;go_loopg [18] N (fun gk iv W=>∃k:Nat,k<=N/\gk=N - k/\iv= .int .i64 k/\Below w.heap.size w W/\SE W w.heap.size lx mx mb g L (.slice ra N rc) left aD k);case atStart=>exact⟨0,by omega,rfl,rfl,aJ.out,Vj.out⟩
 case round=>
  clear aJ Vj;obtain⟨k,hk,rfl,rfl,hb,hS⟩:=hrel;by_cases hlt:k<N
  .have hks:k<aD.length:=by rw [pO.out];exact hlt
   have hsl:=hS.r.row;rw [pO.out]at hsl;obtain⟨rg,JJ,hre,_,_,_⟩:=fS hsl (by omega);have Dp:ra=some ⟨rg,0,none⟩:=by simpa using(show ra=some ⟨rg,0,none⟩/\rc=JJ by simpa using hre).1
   subst Dp;have c1:wr.cell? ⟨rg,k,none⟩=some (nG g (aD.getD k (0,0))):=by
    rw [dg hsl k (by omega),jO,aQ hks,aO,aQ hks];rfl
   have hup:=aeW (w:=wr.drew) hks hS.mp dN.out (by rw [uR.out];exact Eb.out);obtain⟨YN,YO⟩:=dN.out _ (dm (d:=(0,0)) hks);have c2:=hS.r.lf (aD.getD k (0,0)).1 (by rw [gw];omega);rw [iz,mJ _ _ (by omega)]at c2;have c3:=hS.m;have cW:Hid (SE (ChangeMaps.setBlock wr.drew mb (.map (kA g left (aD.take (k+1))).toArray (k+1))) w.heap.size lx mx mb g L (.slice (some ⟨rg,0,none⟩) N rc) left aD (k+1)):=(hS.below (aA _ _).drew).store;have HB:Hid (Below w.heap.size w (ChangeMaps.setBlock wr.drew mb (.map (kA g left (aD.take (k+1))).toArray (k+1)))):=We hb.drew CG.out _;have hkN:(k:Int)<(N:Int):=by omega
   clear hS hb hsl hre;generalize ChangeMaps.setBlock wr.drew mb (.map (kA g left (aD.take (k+1))).toArray (k+1))=W3 at*;generalize aD.getD k (0,0)=ab at*;obtain⟨a,b⟩:=ab;simp only [nG]at c1 hup c2 YN YO;generalize left.getD a 0=hd at*;obtain⟨l,hl⟩:∃l,l=b - a:=⟨_,rfl⟩
   rw [<-hl]at c1 hup;have hl0:(0:Int)<(l:Int):=by omega
   clear hl YN YO;go_wp2;go_region;all_goals
    go_wp2;go_roundg (N - (k+1));case measure=>omega
    case rel=>exact⟨k+1,by omega,rfl,by go_num,HB.out,cW.out⟩
  .obtain rfl:k=N:=by omega
   have hkN:¬(k:Int)<(k:Int):=by omega
   have HB:=ah hb;have HS:=ah hS;clear hb hS;have hen:=lF func155 (by kernel_rfl) (by kernel_rfl);have htk:aD.take k=aD:=lB (by rw [pO.out];exact ay _);have yc:Hid (∀(W:World),Below w.heap.size w W->SE W w.heap.size lx mx mb g L (.slice ra k rc) left aD k->∀gp op m cp last,0<m->m<=1000->W.cell? ⟨gp,op+(m - 1),none⟩=some (.int .i64 ((last:Nat):Int))->last<L.n->Calls prog 155 #[.slice (some ⟨gp,op,none⟩) m cp,.pointer (some ⟨mx,0,none⟩),.pointer (some ⟨lx,0,none⟩)] W fun e w'=>e= .returned (sN g aD (gD L.cs R last))/\Below W.heap.size W w'):=fun W hb hS gp op m cp last h1 h2 h3 h4=>by
    have hm:=hS.mp;rw [htk,<-pO.out]at hm;have:=alm W L ks ls (HX.out W hb) lx mx mb g gp op m cp last left aD hS.l hS.m hm dN.out (by rw [uR.out];exact Eb.out) h1 h2 h3 h4;rw [uR.out]at this;exact this
   have N1:Hid (kN L.cs.length R):=by show kN _ _;rw [hcn];exact Eb.out
   go_wp2;go_loopg [8,31] k (fun gk av iv W=>∃(j:Nat)(qs:List ic),j<=k/\gk=k - j/\iv= .int .i64 j/\Below w.heap.size w W/\SE W w.heap.size lx mx mb g L (.slice ra k rc) left aD k/\wV W w.heap.size L ks ls av qs/\qs.map ic.at'=(((aD.take j).map (dI left)).filter (gA L.cs)).map (bV L.cs R L.n)/\qs.length<=j);case atStart=>exact⟨0,[],by omega,rfl,rfl,HB.out,HS.out,⟨jw _ _ _ _,fun q hq=>by simp at hq,.nil⟩,by simp,by simp⟩
   case round=>
    clear HB HS;obtain⟨j,qs,hj,rfl,rfl,hb,hS,hQ,BU,ZE⟩:=hrel;obtain⟨qa,qc,rfl⟩:=ey hQ.row;by_cases hlt:j<k
    .have hks:j<aD.length:=by rw [pO.out];exact hlt
     have hsl:=hS.r.row;rw [pO.out]at hsl;obtain⟨rg,JJ,hre,_,_,_⟩:=fS hsl (by omega);have Dp:ra=some ⟨rg,0,none⟩:=by simpa using(show ra=some ⟨rg,0,none⟩/\rc=JJ by simpa using hre).1
     subst Dp;have c1:wr.cell? ⟨rg,j,none⟩=some (nG g (aD.getD j (0,0))):=by
      rw [dg hsl j (by omega),jO,aQ hks,aO,aQ hks];rfl
     have hab:=dN.out _ (dm (d:=(0,0)) hks);have c2:=hS.r.lf (aD.getD j (0,0)).1 (by rw [gw];omega);rw [iz,mJ _ _ (by omega)]at c2;have c3:=hS.l;have vA:left.getD (aD.getD j (0,0)).1 0<L.n:=NF.out _ (by omega);have E5:dI left (aD.getD j (0,0))∈R:=by rw [<-uR.out];exact jr.2 ⟨_,dm hks,rfl⟩
     have htake:=ane (dI left) aD (0,0) j hks;have hge:=hS.r.lt (by rintro rfl;simp at hab;omega);have hgt:=hS.r.ty (by rintro rfl;simp at hab;omega);have Ap:(j:Int)<(k:Int):=by omega
     have HB:=ah hb;have HS:=ah hS;have HQ:=ah hQ;have Kt:=ah BU;have hlen:=(xO hab).2.2;have hhead:=(xO hab).1;have hne:=(xO hab).2.1;clear hS hb hsl hre hQ BU;generalize aD.getD j (0,0)=ab at*;obtain⟨a,b⟩:=ab;have hlast:=aco hab;simp only [nG]at c1 c2 hab vA hlen hhead;have qP:=ah htake;have hbd:=ae0 L.cs (dI left (a,b)) _ hhead;have A8:Hid (∀W,Below w.heap.size w W->Calls prog 157 #[.pointer (some ⟨L.lb,0,none⟩),.int .i64 (left.getD a 0:Nat)] W fun e w'=>e= .returned (.bool (!(gA L.cs (dI left (a,b)))))/\w'=W):=fun W hW=>by
      rw [hbd,Bool.not_not];exact ag4 W L ks ls (HX.out W hW) _ vA
     have wK:=ah E5;have adM:=ah hlast;have ahb:left.getD (b - 1) 0<L.n:=NF.out _ (by omega);have pR:Hid (yB wr.drew w.heap.size wr.heap.size g a (b - a) (b - a) (dI left (a,b))):=by
      obtain⟨cs,hc⟩:=hgt;refine⟨?_,⟨cs,_,hc⟩,hge.1,hlen,.inl rfl⟩;have:=(HS.out.below (aA _ _).drew).r.lf.sub b a (by rw [gw];exact hab.2);rw [iz,<-aaY]at this;exact this
     have cL:wr.drew.cell? ⟨g,a+(b - a - 1),none⟩=some (.int .i64 ((left.getD (b - 1) 0:Nat):Int)):=by
      have:=(HS.out.below (aA _ _).drew).r.lf (b - 1) (by rw [gw];omega);rw [iz,mJ _ _ (by omega)]at this;rw [show a+(b - a - 1)=b - 1 by omega];exact this
     have x9:=ah cL;obtain⟨l,hl⟩:∃l,l=b - a:=⟨_,rfl⟩
     rw [<-hl]at c1 pR x9 hlen;have hl0:0<l:=by omega
     have hl0':(0:Int)<(l:Int):=by omega
     have nt:l<=1000:=by omega
     clear hlast hbd E5 hge hgt htake cL hab hl;generalize aot:left.getD a 0=hd at*;generalize left.getD (b - 1) 0=lst at*;generalize dI left (a,b)=r0 at*;go_wp2;cases hbg:gA L.cs r0
     .rw [hbg]at A8;have HF:Hid (((((aD.take (j+1)).map (dI left)).filter (gA L.cs)).map (bV L.cs R L.n))=(((aD.take j).map (dI left)).filter (gA L.cs)).map (bV L.cs R L.n)):=by
       show _=_;rw [qP.out,qQ,qU,hbg];simp
      go_region_held3 (fun w'=>w'.cell? ⟨lx,0,none⟩=some (.pointer (some ⟨L.lb,0,none⟩))/\w'.cell? ⟨g,a,none⟩=some (.int .i64 ((hd:Nat):Int))) (go_keep) (first|(go_at_call 157;refine(A8.out _ HB.out.drew).mono ?_;rintro ev wx ⟨rfl,rfl⟩))
      all_goals
       go_wp2;go_roundg (k - (j+1));case measure=>omega
       case rel=>exact⟨j+1,qs,by omega,rfl,by go_num,HB.out.drew,HS.out.below (aA _ _).drew,HQ.out.below (aA _ _).drew,by rw [HF.out];exact Kt.out,by omega⟩
     .rw [hbg]at A8;have HF:Hid (((((aD.take (j+1)).map (dI left)).filter (gA L.cs)).map (bV L.cs R L.n))=(((aD.take j).map (dI left)).filter (gA L.cs)).map (bV L.cs R L.n)++[bV L.cs R L.n r0]):=by
       show _=_;rw [qP.out,qQ,qU,hbg];simp
      have FX:=ah hbg;clear hbg
      go_region_held3 (fun w'=>w'.cell? ⟨lx,0,none⟩=some (.pointer (some ⟨L.lb,0,none⟩))/\w'.cell? ⟨g,a,none⟩=some (.int .i64 ((hd:Nat):Int))) (go_keep) (first|(go_at_call 157;refine(A8.out _ HB.out.drew).mono ?_;rintro ev wx ⟨rfl,rfl⟩))
      all_goals
       have jq:=ah HB.out.drew;have Bf:Hid (SE wr.drew w.heap.size lx mx mb g L (.slice (some ⟨rg,0,none⟩) k rc) left aD k):=HS.out.below (aA _ _).drew;have Vc:Hid (wV wr.drew w.heap.size L ks ls (.slice qa qs.length qc) qs):=HQ.out.below (aA _ _).drew;have U6:Hid (yB wr.drew w.heap.size wr.drew.heap.size g a l l r0):=pR.out;clear HB HS HQ pR c1 c2 c3;generalize wr.drew=Wi at*;obtain⟨R4,QV⟩:∃R4,R4=sN g aD (gD L.cs R (r0.getLastD 0)):=⟨_,rfl⟩
       have HMv:=ah QV;have Bc:Hid (Calls prog 155 #[.slice (some ⟨g,a,none⟩) l l,.pointer (some ⟨mx,0,none⟩),.pointer (some ⟨lx,0,none⟩)] Wi fun e w'=>e= .returned R4/\Below Wi.heap.size Wi w'):=by
        have:=yc.out Wi jq.out Bf.out g a l l lst hl0 nt x9.out ahb;rw [<-adM.out,<-QV]at this;exact this
       clear QV;go_wp2_with fail;refine Bc.out.mono ?_;rintro ev W5 ⟨rfl,dB⟩;have dx:=ah dB;clear Bc dB x9 A8;go_wp2;go_loopg [11,12] (L.n - r0.length) (fun gk pv mv W=>∃(f:Nat)(at':List Nat)(gp op m cp:Nat),at'=bV L.cs R f r0/\gk=L.n - at'.length/\f+1<=at'.length/\pv= .slice (some ⟨gp,op,none⟩) m cp/\mv=sN g aD (gD L.cs R (at'.getLastD 0))/\Below Wi.heap.size Wi W/\yB W w.heap.size Wi.heap.size gp op m cp at');case atStart=>exact⟨0,r0,g,a,l,l,rfl,rfl,by rw [hlen];omega,rfl,HMv.out,dx.out,U6.out.below dx.out⟩
       case round=>
        clear dx U6;obtain⟨f,at',gp,op,m,cp,hat,rfl,hfl,rfl,rfl,hb,hP⟩:=hrel;have aoC:at'.length<=L.n:=by rw [hat,<-hcn];exact Ww N1.out f wK.out FX.out
        have Qk:∀p∈at',p<L.n:=by rw [hat,<-hcn];exact K6 N1.out wK.out f
        have hm:=hP.len;have hBw:Below w.heap.size w wr:=jq.out.trans (hb.mono jq.out.size);have hSw:=Bf.out.below hb;cases hnx:gD L.cs R (at'.getLastD 0)with
        |none=>
         rw [show sN g aD none=Value.slice none 0 0 from rfl];have FZ:Hid (bV L.cs R L.n r0=at'):=by
          have:=Wv (a:=f) (p:=r0) (by rw [<-hat];exact hnx) (L.n - f);rw [show f+(L.n - f)=L.n by omega,<-hat]at this;exact this
         have Ko:Hid (Calls prog 158 #[.pointer (some ⟨L.lb,0,none⟩),.slice (some ⟨gp,op,none⟩) m cp] wr fun e w'=>∃sb gr cr gc cc gb,e= .returned (.pointer (some ⟨sb,0,none⟩))/\
           aW w' wr.heap.size sb gc m cc (.slice (some ⟨gp,op,none⟩) m cp) (.slice (some ⟨gr,0,none⟩) m cr) (.slice (some ⟨gb,0,none⟩) m m) (ls.getD (at'.headD 0) 0) (iy (ls.getD (at'.headD 0) 0) (jG ls (aN L.cs) L.p (at'.headD 0))) (iy (ls.getD (at'.headD 0) 0) (oz L.cs ls (aN L.cs) L.p (at'.getLastD 0))) (bz ks at')/\
           w'.ownsRow wr.heap.size 21 1 (.slice (some ⟨gr,0,none⟩) m cr) m (nW (bz L.rs at'))/\bh w' wr.heap.size 108 gb m (iv (bz ks at'))/\gb≠gc/\wr.heap.size<=sb/\sb<w'.heap.size/\Below wr.heap.size wr w'):=
          ajr wr L ks ls (HX.out wr hBw) hn gp op m cp at' hP.pl hm (by omega) (by omega) Qk hlv hp
         have HPA:=ah hP;have oU:=ah hBw;have Oa:=ah hSw;have NW:=ah (Vc.out.below hb);have aoF:=hSw.l;have hm0:0<m:=by omega
         clear hnx hat hP hb hBw hSw Qk Vc Bf jq;go_wp2_with fail;refine Ko.out.mono ?_;rintro ev W6 ⟨sb,gr,cr,gc,cc,gb,rfl,oK,ZQ,ES,Zu,Dt,ahO,fR⟩;clear Ko;have Jb:=oU.out.size;have Qb:=NW.out.below fR;have Yy:ow W6 w.heap.size L ks ls ⟨sb,gr,cr,gc,cc,gb,gp,op,cp,m,at'⟩:=by
          have Q3:=HPA.out.below fR;exact⟨⟨oK.cell,Ci oK.row Jb⟩,Ci ZQ Jb,Ci ES Jb,Q3.pl,Q3.ty,⟨Q3.lo,bU Jb Dt⟩,Zu,hm,hm0⟩
         have YP:∀q'∈qs,Cv q' ⟨sb,gr,cr,gc,cc,gb,gp,op,cp,m,at'⟩:=fun q' hq'=>by
          have h1:=(NW.out.all q' hq').sq.row.lt q'.gc rfl;have h2:=yE (NW.out.all q' hq').be q'.gb rfl;have h3:=oK.row.lt gc rfl;have h4:=yE ES gb rfl;refine⟨?_,?_,?_⟩<;>simp only<;>omega
         have adP:=ah Yy;have adC:=ah YP;have NV:=ah Qb;have ia:=ah (oU.out.trans (fR.mono Jb));have qO:=ah (Oa.out.below fR);have Mm:=Qb.row;have Al:=ia.out.size;clear oK ZQ ES Zu Dt ahO fR Qb Yy YP;go_wp2_with(at_builtin;refine nX _ rfl _ _ 144 rfl w.heap.size 146 iP (.pointer none) 8 underlying144 hiP Jd Je Jf rfl (by decide) _ _ _ rfl Mm _ _ rfl rfl (by omega) Al ?_);intro v7 w7 Aq gU;have HQ7:=ah (NV.out.push adP.out adC.out Aq gU);have oh:Hid (Below w.heap.size w w7):=ia.out.grown gU Al (fun y hy=>(Mm.lt y hy).1);have N4:Hid (SE w7 w.heap.size lx mx mb g L (.slice (some ⟨rg,0,none⟩) k rc) left aD k):=by
          exact qO.out.app Mm gU
         clear Aq gU Mm;go_wp2;go_roundg (k - (j+1));case measure=>omega
         case rel=>exact⟨j+1,_,by omega,rfl,by go_num,oh.out,N4.out,HQ7.out,by rw [HF.out,fO,Kt.out,FZ.out];rfl,by rw [bP,VE];omega⟩
        |some k'=>
         obtain⟨E0,_,_⟩:=R9 hnx;have QK:k'<aD.length:=by rw [<-uR.out,jE]at E0;exact E0
         have hab':=dN.out _ (dm (d:=(0,0)) QK);have xx:=LG left aD k' QK;rw [uR.out]at xx;have hgo:=afz (a:=f) (p:=r0) (by rw [<-hat];exact hnx);rw [<-hat,xx]at hgo;obtain⟨a',b',Qi⟩:∃a' b',aD.getD k' (0,0)=(a',b'):=⟨_,_,rfl⟩
         obtain⟨l',hl'⟩:∃l',l'=b' - a':=⟨_,rfl⟩
         have ir:sN g aD (some k')=Value.slice (some ⟨g,a',none⟩) l' l':=by rw [sN,Qi,nG,hl']
         rw [ir];rw [Qi]at hab' hgo;have IB:=(xO hab').2.2;have Zw:=(xO hab').2.1;have Zp:=aco hab';simp only at hab' IB;rw [<-hl']at IB;have Zo:(at'++dI left (a',b')).length<=L.n:=by rw [<-hgo,<-hcn];exact Ww N1.out (f+1) wK.out FX.out
         rw [bP,IB]at Zo;have hnews:bG wr g a' (nl (dI left (a',b'))):=by
          have:=hSw.r.lf.sub b' a' (by rw [gw];exact hab'.2);rw [iz,<-aaY]at this;exact this
         obtain⟨xE,Mb⟩:∃xE,xE=left.getD (b' - 1) 0:=⟨_,rfl⟩
         have Zq:xE<L.n:=by rw [Mb];exact NF.out _ (by omega)
         obtain⟨Fk,QW⟩:∃Fk,Fk=sN g aD (gD L.cs R xE):=⟨_,rfl⟩
         have UO:Hid (Fk=sN g aD (gD L.cs R ((at'++dI left (a',b')).getLastD 0))):=by show _=_;rw [aiI _ _ Zw,Zp,<-Mb];exact QW
         have kf:=ah hgo.symm;have oU:=ah hBw;have hbz:Wi.heap.size<=wr.heap.size:=hb.size;have aoA:0<l':=by omega
         clear xx hgo ir hnx hat Qi Zw Zp E0 QK Qk hSw hBw;generalize dI left (a',b')=r' at*;obtain⟨hPp,_,_,_,hPf⟩:=hP;have wz:Hid ((l'=b' - a'/\a'<b'/\b'<=left.length)/\Fk=sN g aD (gD L.cs R xE)/\xE=left.getD (b' - 1) 0/\r'.length=l'/\at'.length=m/\m+l'<=L.n/\xE<L.n):=⟨⟨hl',hab'⟩,QW,Mb,IB,hm,by omega,Zq⟩
         have hml:m+l'<=1000:=by omega
         have ahu:(0:Int)<(l':Int):=by omega
         clear hl' hab' QW Mb IB hm Zq Zo;rcases hPf with hcm|⟨hop,hown⟩
         .subst hcm;go_wp2_with(at_builtin;refine wpList_append_grows _ rfl _ _ 31 rfl 3 iI (.int .i64 0) 1 8 underlying31 eY eZ fe fh rfl (by decide) (some ⟨gp,op,none⟩) cp cp (iv (nl at')) rfl (fun h=>by cases h) (by rw [mH,gw,wz.out.2.2.2.2.1];omega) (fun bb hbb j u hj=>by cases hbb;rw [Ue];exact Rq hPp j u hj) ⟨g,a',none⟩ l' l' (iv (nl r')) rfl (by rw [mH,gw,wz.out.2.2.2.1];omega) (fun j u hj=>by rw [Ue];exact Rq hnews j u hj) aap (by omega) (by unfold maxLen;omega) (by omega) ?_);intro v6 w6 lK jU;have hap:iv (nl at')++iv (nl r')=iv (nl (at'++r')):=by simp [iv,nl]
          rw [hap]at lK;obtain⟨g6,c6,rfl,_,_,_⟩:=fS lK (by omega);have ia:Hid (Below Wi.heap.size Wi w6):=hb.grown jU hbz (fun y hy=>by cases hy);have Be:=ah (yB.own (Ci lK hbz) jq.out.size);clear lK jU hap hnews oU;have qO:=ah (Bf.out.below ia.out);have rS:Hid (Calls prog 155 #[.slice (some ⟨g,a',none⟩) l' l',.pointer (some ⟨mx,0,none⟩),.pointer (some ⟨lx,0,none⟩)] w6 fun e w'=>e= .returned Fk/\Below w6.heap.size w6 w'):=by
           have he:=wz.out;have hc:w6.cell? ⟨g,a'+(l' - 1),none⟩=some (.int .i64 ((xE:Nat):Int)):=by
            have:=qO.out.r.lf (b' - 1) (by rw [gw];omega);rw [iz,mJ _ _ (by omega)]at this;rw [show a'+(l' - 1)=b' - 1 by omega,he.2.2.1];exact this
           have:=yc.out w6 (jq.out.trans (ia.out.mono jq.out.size)) qO.out g a' l' l' xE (by omega) (by omega) hc he.2.2.2.2.2.2;rw [<-he.2.1]at this;exact this
          have Gd:Hid (r'.length=l'/\at'.length=cp/\cp+l'<=L.n):=⟨wz.out.2.2.2.1,wz.out.2.2.2.2.1,wz.out.2.2.2.2.2.1⟩
          go_wp2_with fail;refine rS.out.mono ?_;rintro ev W7 ⟨rfl,qu⟩;have oh:=ah (ia.out.trans (qu.mono ia.out.size));have rU:=ah (Be.out.below qu);clear rS qu;go_wp2;go_roundg (L.n - (at'++r').length);case measure=>have h1:=Gd.out;rw [bP,h1.1,h1.2.1];omega
          case rel=>exact⟨f+1,at'++r',g6,0,cp+l',c6,kf.out,rfl,by have h1:=Gd.out;rw [bP,h1.1];omega,rfl,UO.out,oh.out,rU.out⟩
         .subst hop;go_wp2_with(at_builtin;refine FO _ rfl _ _ 31 rfl Wi.heap.size 3 iI (.int .i64 0) 1 8 underlying31 eY eZ fe fh rfl (by decide) (.slice (some ⟨gp,0,none⟩) m cp) m (iv (nl at')) rfl hown ⟨g,a',none⟩ l' l' (iv (nl r')) rfl (by rw [mH,gw,wz.out.2.2.2.1];omega) (fun j u hj=>by rw [Ue];exact Rq hnews j u hj) aap (by unfold maxLen;omega) (by omega) hbz ?_);intro v6 w6 lK jU _;have hap:iv (nl at')++iv (nl r')=iv (nl (at'++r')):=by simp [iv,nl]
          rw [hap]at lK;obtain⟨g6,c6,rfl,_,_,_⟩:=fS lK (by omega);have ia:Hid (Below Wi.heap.size Wi w6):=hb.grown jU hbz (fun y hy=>(hown.lt y hy).1);have Be:=ah (yB.own lK jq.out.size);clear lK jU hap hnews oU;have qO:=ah (Bf.out.below ia.out);have rS:Hid (Calls prog 155 #[.slice (some ⟨g,a',none⟩) l' l',.pointer (some ⟨mx,0,none⟩),.pointer (some ⟨lx,0,none⟩)] w6 fun e w'=>e= .returned Fk/\Below w6.heap.size w6 w'):=by
           have he:=wz.out;have hc:w6.cell? ⟨g,a'+(l' - 1),none⟩=some (.int .i64 ((xE:Nat):Int)):=by
            have:=qO.out.r.lf (b' - 1) (by rw [gw];omega);rw [iz,mJ _ _ (by omega)]at this;rw [show a'+(l' - 1)=b' - 1 by omega,he.2.2.1];exact this
           have:=yc.out w6 (jq.out.trans (ia.out.mono jq.out.size)) qO.out g a' l' l' xE (by omega) (by omega) hc he.2.2.2.2.2.2;rw [<-he.2.1]at this;exact this
          have Gd:Hid (r'.length=l'/\at'.length=m/\m+l'<=L.n):=⟨wz.out.2.2.2.1,wz.out.2.2.2.2.1,wz.out.2.2.2.2.2.1⟩
          go_wp2_with fail;refine rS.out.mono ?_;rintro ev W7 ⟨rfl,qu⟩;have oh:=ah (ia.out.trans (qu.mono ia.out.size));have rU:=ah (Be.out.below qu);clear rS qu;go_wp2;go_roundg (L.n - (at'++r').length);case measure=>have h1:=Gd.out;rw [bP,h1.1,h1.2.1];omega
          case rel=>exact⟨f+1,at'++r',g6,0,m+l',c6,kf.out,rfl,by have h1:=Gd.out;rw [bP,h1.1];omega,rfl,UO.out,oh.out,rU.out⟩
    .obtain rfl:j=k:=by omega
     have Ap:¬(j:Int)<(j:Int):=by omega
     have HB:=ah hb;have HQ:=ah hQ;have Kt:Hid (qs.map ic.at'=(R.filter (gA L.cs)).map (bV L.cs R L.n)):=by
      show _=_;rw [BU,htk,uR.out]
     clear hb hQ BU hS;go_wp2;go_ret;exact⟨_,rfl,qs,HQ.out,Kt.out,HB.out⟩
end
theorem XO(w:World):Calls prog 70 #[.slice none 0 0] w fun e w'=>e= .returned (.int .i64 0)/\w'=w:=by
 go_enter func70,ntmps70;go_wp2;go_loopg [3] 0 (fun gh kv W=>gh=0/\kv= .int .i64 0/\W=w);case atStart=>exact⟨rfl,rfl,rfl⟩
 case round=>
  obtain⟨rfl,rfl,hW⟩:=hrel;have hx':=hW.symm;subst hx';go_wp2;go_ret;exact⟨rfl,rfl⟩
theorem afG(a:Option Addr)(c:Nat)(w:World):
  Calls prog 46 #[.slice a 0 c] w fun e w'=>e= .returned (.slice none 0 0)/\w'=w:=by
 go_enter func46,ntmps46;go_wp2;refine dw 1 ?_;rw [aY];go_wp2;go_ret;exact⟨rfl,rfl⟩
theorem Jt(w:World):(Instr.makeSlice 31 (.int .i64 0) (.int .i64 0)).run prog w= .ok (.slice (some ⟨w.heap.size,0,none⟩) 0 0) (w.alloc (.cells (madeCells #[.int .i64 0] 0) 3)):=
 run_make_row' (P:=prog) 31 3 (.int .i64 0) 8 underlying31 Tryz.qB rfl .i64 .i64 0 (by omega) (by omega) w
theorem aaN(w:World):(Instr.makeSlice 36 (.int .i64 0) (.int .i64 0)).run prog w= .ok (.slice (some ⟨w.heap.size,0,none⟩) 0 0) (w.alloc (.cells (madeCells #[.bool false] 0) 4)):=
 run_make_row' (P:=prog) 36 4 (.bool false) 1 underlying36 Tryz.Fa rfl .i64 .i64 0 (by omega) (by omega) w
theorem agE(para:Int)(w:World):Calls prog 71 #[.slice none 0 0,.int .i64 para] w fun e w'=>∃g1 g2 g3,e= .returned (.tuple #[.slice (some ⟨g1,0,none⟩) 0 0,.slice (some ⟨g2,0,none⟩) 0 0,.slice (some ⟨g3,0,none⟩) 0 0])/\Below w.heap.size w w'/\g1<w'.heap.size/\g2<w'.heap.size/\g3<w'.heap.size:=by
 have QS:=Jt;have E2:=aaN;go_enter func71,ntmps71;go_wp2;obtain⟨W1,hW1⟩:∃W1,W1=((((w.alloc (.cells #[.int .i64 para,.int .i64 (-1),.bool false] 181)).alloc (.cells #[.slice (some ⟨w.heap.size,0,none⟩) 1 1,.int .i64 0,.int .i64 0,.int .i64 0] 184)).alloc (.cells (madeCells #[.int .i64 0] 0) 3)).alloc (.cells (madeCells #[.int .i64 0] 0) 3)).alloc (.cells (madeCells #[.bool false] 0) 4):=⟨_,rfl⟩
 have HB:Hid (Below w.heap.size w W1/\W1.heap.size=w.heap.size+5):=by
  rw [hW1];exact⟨(((((aA w.heap.size w).alloc (ay _) _).alloc (by simp) _).alloc (by simp;omega) _).alloc (by simp;omega) _).alloc (by simp;omega) _,by simp⟩
 rw [<-hW1];clear hW1 QS E2;go_loopg [11] 0 (fun gh kv W=>gh=0/\kv= .int .i64 0/\W=W1);case atStart=>exact⟨rfl,rfl,rfl⟩
 case round=>
  obtain⟨rfl,rfl,hW⟩:=hrel;have hx':=hW.symm;subst hx';go_wp2;have hsz:=HB.out.2;refine cG (v:= .tuple #[.slice (some ⟨w.heap.size+1+1,0,none⟩) 0 0,.slice (some ⟨w.heap.size+1+1+1,0,none⟩) 0 0,.slice (some ⟨w.heap.size+1+1+1+1,0,none⟩) 0 0]) (by simp [results,results71,go_sem]) rfl ⟨_,_,_,rfl,HB.out.1,by omega,by omega,by omega⟩
theorem ant(para:Int)(w:World)(go g3:Nat):Calls prog 74 #[.slice none 0 0,.slice (some ⟨go,0,none⟩) 0 0,.slice (some ⟨g3,0,none⟩) 0 0,.int .i64 para] w fun e w'=>e= .returned (.slice (some ⟨go,0,none⟩) 0 0)/\Below w.heap.size w w':=by
 have E2:=aaN;go_enter func74,ntmps74;go_wp2;obtain⟨W1,hW1⟩:∃W1,W1=w.alloc (.cells (madeCells #[.bool false] 0) 4):=⟨_,rfl⟩
 have HB:Hid (Below w.heap.size w W1):=by rw [hW1];exact(aA _ _).alloc (ay _) _
 rw [<-hW1];clear hW1 E2;go_loopg [10,11] 0 (fun gh ov kv W=>gh=0/\ov= .bool true/\kv= .int .i64 (-1)/\W=W1);case atStart=>exact⟨rfl,rfl,rfl,rfl⟩
 case round=>
  obtain⟨rfl,rfl,rfl,hW⟩:=hrel;have hx':=hW.symm;subst hx';go_wp2;go_loopg [13] 0 (fun gh kv W=>gh=0/\kv= .int .i64 0/\W=W1);case atStart=>exact⟨rfl,rfl,rfl⟩
  case round=>
   obtain⟨rfl,rfl,hW⟩:=hrel;have hx':=hW.symm;subst hx';go_wp2;refine cG (v:= .slice (some ⟨go,0,none⟩) 0 0) (by simp [results,results74,go_sem]) rfl ⟨rfl,HB.out⟩
theorem al4(para:Int)(w:World)(g1 g3:Nat)(h1:g1<w.heap.size)(h3:g3<w.heap.size):Calls prog 72 #[.slice none 0 0,.slice (some ⟨g1,0,none⟩) 0 0,.slice (some ⟨g3,0,none⟩) 0 0,.int .i64 para] w fun e w'=>e= .returned (.slice none 0 0)/\Below w.heap.size w w':=by
 have jN:Hid (Calls prog 121 #[.slice (some ⟨g1,0,none⟩) 0 0,.slice (some ⟨g3,0,none⟩) 0 0] w fun ev w'=>∃v:Value,ev= .returned v/\Below w.heap.size w w'/\∃a c,v= .slice a 0 c):=
  (acm [] [] 0 g1 0 0 g3 0 0 w rfl rfl (by omega) (fun k hk=>by simp at hk) (fun k hk=>by simp at hk) h1 h3).mono fun ev w' ⟨v,vs,h4,h5,h6,_⟩=>⟨v,h4,h5,ey h6⟩
 clear h1 h3;go_enter func72,ntmps72;go_wp2_with fail;refine jN.out.mono ?_;rintro ev w1 ⟨v,rfl,hb1,a,c,rfl⟩;have HB:=ah hb1;clear hb1 jN;go_wp2;go_loopg [10,11] 0 (fun gh ov kv W=>gh=0/\ov= .slice none 0 0/\kv= .int .i64 0/\W=w1);case atStart=>exact⟨rfl,rfl,rfl,rfl⟩
 case round=>
  obtain⟨rfl,rfl,rfl,hW⟩:=hrel;have hx':=hW.symm;subst hx';go_wp2;refine cG (v:= .slice none 0 0) (by simp [results,results72,go_sem]) rfl ⟨rfl,HB.out⟩
theorem aaA(d:Int)(a:Option Addr)(c:Nat)(w:World):Calls prog 48 #[.slice a 0 c,.int .i64 d] w fun ev w'=>∃g,ev= .returned (.slice (some ⟨g,0,none⟩) 0 0)/\w'.ownsRow w.heap.size 3 1 (.slice (some ⟨g,0,none⟩) 0 0) 0 []/\Below w.heap.size w w':=by
 have hmk:=Jt;have h3:((d !=0)=false)∨((d !=0)=true/\(d !=1)=false)∨((d !=0)=true/\(d !=1)=true):=by
  cases(d !=0)<;>cases(d !=1)<;>simp
 go_enter func48,ntmps48;go_wp2_with fail;refine(afG a c w).mono ?_;rintro ev wx ⟨rfl,hx⟩;have hx':=hx.symm;subst hx';have Io:∀(W:World)(g g1:Nat),(Builtin.copy_ #[31,31] 3 #[.slice (some ⟨g,0,none⟩) 0 0,.slice (some ⟨g1,0,none⟩) 0 0]).run prog W= .ok (goInt 0) W:=fun W g g1=>ab6 (P:=prog) W 31 31 3 3 _ _ 0 0 0 0 underlying31 Tryz.MW rfl
 rcases h3 with q0|⟨q0,q1⟩|⟨q0,q1⟩
 go_wp2_with fail
 rotate_left
 go_wp2_with fail
 rotate_left
 go_wp2_with fail;refine(XO w).mono ?_;rintro ev wx ⟨rfl,hx⟩;have hx':=hx.symm;subst hx';go_wp2_with fail;all_goals
  refine(agE _ w).mono ?_;rintro ev w2 ⟨g1,g2,g3,rfl,hb2,hg1,hg2,hg3⟩;obtain⟨W3,hW3⟩:∃W3,W3=w2.alloc (.cells (madeCells #[.int .i64 0] 0) 3):=⟨_,rfl⟩
  have hb3:Below w2.heap.size w2 W3:=by rw [hW3];exact(aA _ _).alloc (ay _) _
  have hz2:w.heap.size<=w2.heap.size:=hb2.size;have mB:bh W3 w.heap.size 3 w2.heap.size 0 (List.replicate 0 (.int .i64 0)):=by rw [hW3];exact bh.made hz2 (by omega)
  have aI:=ah (hb2.trans (hb3.mono hz2));have rT:=ah mB;have zU:Hid (g1<W3.heap.size/\g3<W3.heap.size):=by have:=hb3.size;exact⟨by omega,by omega⟩
  clear hb2 hb3 mB hg1 hg2 hg3;go_wp2_with fail;rw [<-hW3];clear hW3;generalize w2.heap.size=go at*;refine(al4 _ W3 g1 g3 zU.out.1 zU.out.2).mono ?_;rintro ev w5 ⟨rfl,dB⟩;have dx:=ah (aI.out.trans (dB.mono aI.out.size));have pP:=ah (eH rT.out dB);clear dB hmk Io;go_wp2;go_loopg [12] 0 (fun gh kv W=>gh=0/\kv= .int .i64 0/\W=w5);case atStart=>exact⟨rfl,rfl,rfl⟩
  case round=>
   obtain⟨rfl,rfl,hW⟩:=hrel;have hx':=hW.symm;subst hx';go_wp2;go_loopg [13] 0 (fun gh kv W=>gh=0/\kv= .int .i64 0/\W=w5);case atStart=>exact⟨rfl,rfl,rfl⟩
   case round=>
    obtain⟨rfl,rfl,hW⟩:=hrel;have hx':=hW.symm;subst hx';go_wp2_with fail;refine(ant _ w5 go g3).mono ?_;rintro ev w7 ⟨rfl,qu⟩;have oh:=ah (dx.out.trans (qu.mono dx.out.size));have HO7:=ah (eH pP.out qu);clear qu;go_wp2;refine cG (v:= .slice (some ⟨go,0,none⟩) 0 0) (by simp [results,results48,go_sem]) rfl ⟨go,rfl,HO7.out,oh.out⟩
theorem afq {w:World}{b k:Nat}{v:Value}(h:w.cell? ⟨b,k,none⟩=some v):b<w.heap.size:=by
 rcases cK b w.heap.size with h'|h'
 .exact h'
 .simp only [World.cell?,uJ h']at h;cases h
theorem aiV(rs:List Int)(d:Int)(v:Value)(w:World)(hn:rs.length<=1000)(hv:js w v rs):
  Calls prog 48 #[v,.int .i64 d] w fun ev w'=>∃g c,ev= .returned (.slice (some ⟨g,0,none⟩) rs.length c)/\w'.ownsRow w.heap.size 3 1 (.slice (some ⟨g,0,none⟩) rs.length c) rs.length (iv (gu rs (rs.map cls) d))/\Below w.heap.size w w':=by
 rcases hv with⟨rfl,rfl⟩|⟨b,off,cap,rfl,hc⟩
 .refine(aaA d none 0 w).mono ?_;rintro ev w' ⟨g,rfl,h1,h2⟩;refine⟨g,0,rfl,?_,h2⟩;have:gu [] ([].map cls) d=[]:=rfl;rw [this];exact h1
 .rcases Es rs.length with h0|h0
  .obtain rfl:=VA h0;refine(aaA d _ cap w).mono ?_;rintro ev w' ⟨g,rfl,h1,h2⟩;refine⟨g,0,rfl,?_,h2⟩;have:gu [] ([].map cls) d=[]:=rfl;rw [this];exact h1
  .exact aiY rs d rs.length b off cap w rfl hn h0 hc (afq (hc 0 h0))
section
attribute [local go_sem ↓] Go.wp_at_zero Go.wp_at_succ
theorem ajc(w:World):(Instr.makeSlice 139 (.int .i64 0) (.int .i64 0)).run prog w= .ok (.slice (some ⟨w.heap.size,0,none⟩) 0 0) (w.alloc (.cells (madeCells #[.int .i64 0] 0) 108)):=
 run_make_row' (P:=prog) 139 108 (.int .i64 0) 8 underlying139 Tryz.Fb rfl .i64 .i64 0 (by omega) (by omega) w
def qX(W:World)(lb gc gl gm:Nat)(p:Int):Prop:=LB W lb (.slice none 0 0) (.slice none 0 0) (.slice (some ⟨gc,0,none⟩) 0 0) (.slice (some ⟨gl,0,none⟩) 0 0) (.slice (some ⟨gm,0,none⟩) 0 0) (.int .i64 p)
theorem ai8(w:World):Calls prog 140 #[.slice none 0 0] w fun e w'=>∃g,e= .returned (.slice (some ⟨g,0,none⟩) 0 0)/\Below w.heap.size w w':=by
 have hmk:=Jt;go_enter func140,ntmps140;go_wp2;refine dw 1 ?_;rw [aY];go_wp2;go_ret;exact⟨_,rfl,((aA _ _).alloc (ay _) _).alloc (by simp) _⟩
theorem agX(w:World)(lb:Nat):Calls prog 199 #[.pointer (some ⟨lb,0,none⟩),.int .i64 0,.int .i64 0] w fun e w'=>e= .returned (.int .i64 0)/\w'=w:=by
 go_enter func199,ntmps199;go_wp2;refine dw 1 ?_;rw [aY];go_wp2;go_ret;exact⟨rfl,rfl⟩
theorem ake(w:World)(lb:Nat)(a0 a2 a3 a4 a5:Value)(h:LB w lb a0 (.slice none 0 0) a2 a3 a4 a5)(d:Int):Calls prog 141 #[.pointer (some ⟨lb,0,none⟩),.int .i64 d] w fun e w'=>e= .returned (.int .i64 (gz [] d))/\w'=w:=by
 have c1:=h.c1;clear h;by_cases h0:d=0
 .subst h0;go_enter func141,ntmps141;go_wp2;go_ret;exact⟨rfl,rfl⟩
 by_cases h1:d=1
 .subst h1;go_enter func141,ntmps141;go_wp2;go_ret;exact⟨rfl,rfl⟩
 have q0:(d==0)=false:=by simpa using h0
 have q1:(d==1)=false:=by simpa using h1
 have HP:Hid (gz [] d=0):=by show _=_;rw [gz,ai (by omega)];rfl
 have HF:Hid (∀W,Calls prog 199 #[.pointer (some ⟨lb,0,none⟩),.int .i64 0,.int .i64 0] W fun e w'=>e= .returned (.int .i64 0)/\w'=W):=fun W=>agX W lb
 clear h0 h1;go_enter func141,ntmps141;go_wp2_with fail;refine(HF.out _).mono ?_;rintro ev wx ⟨rfl,hx⟩;have hx':=hx.symm;subst hx';go_wp2;go_ret;exact⟨bI (by rw [HP.out]),rfl⟩
theorem aaT(s:ByteArray)(d:Int)(w:World)(hs:s.size=0):
  Calls prog 84 #[.string s,.int .i64 d] w fun e w'=>∃lb gc gl gm,e= .returned (.pointer (some ⟨lb,0,none⟩))/\qX w' lb gc gl gm (gz [] d)/\w.heap.size<=lb/\Below w.heap.size w w':=by
 have ahA:=ajc;have QT:=Jt;have jy:∀(W:World)(g:Nat),(Builtin.copy_ #[139,139] 3 #[.slice (some ⟨g,0,none⟩) 0 0,.slice none 0 0]).run prog W= .ok (goInt 0) W:=fun W g=>ab6 (P:=prog) W 139 139 3 108 _ _ 0 0 0 0 underlying139 Tryz.Tv rfl
 obtain⟨W0,hW0⟩:∃W0,W0=w.alloc (.cells #[.slice none 0 0,.slice none 0 0,.slice none 0 0,.slice none 0 0,.slice none 0 0,.int .i64 0] 141):=⟨_,rfl⟩
 have hb0:Below w.heap.size w W0:=by rw [hW0];exact(aA _ _).alloc (ay _) _
 have Ht:W0.heap[w.heap.size]? =some (.cells #[.slice none 0 0,.slice none 0 0,.slice none 0 0,.slice none 0 0,.slice none 0 0,.int .i64 0] 141 (0,0)):=by rw [hW0];exact mP
 have Hu:W0.heap.size=w.heap.size+1:=by rw [hW0];simp
 have Kq:Hid (∀(W:World)(lb:Nat)(a0 a2 a3 a4 a5:Value),LB W lb a0 (.slice none 0 0) a2 a3 a4 a5->Calls prog 141 #[.pointer (some ⟨lb,0,none⟩),.int .i64 d] W fun e w'=>e= .returned (.int .i64 (gz [] d))/\w'=W):=fun W lb a0 a2 a3 a4 a5 h=>ake W lb a0 a2 a3 a4 a5 h d
 generalize gz [] d=pp at*;go_enter func84,ntmps84;go_wp2;rw [<-hW0];obtain⟨W1,hW1⟩:∃W1,W1=(W0.iter s 0):=⟨_,rfl⟩
 have EU:Below W0.heap.size W0 (W0.iter s 0):=(aA _ _).alloc (ay _) _;have mS:Hid (LB W1 w.heap.size (.slice none 0 0) (.slice none 0 0) (.slice none 0 0) (.slice none 0 0) (.slice none 0 0) (.int .i64 0)/\W1.heap[w.heap.size+1]? =some (.stringIter s 0)/\Below w.heap.size w W1):=by
  rw [hW1];exact⟨cB EU Ht,by rw [<-Hu];exact OU _ _ _,hb0.alloc hb0.size _⟩
 rw [<-hW1];clear hW1 hW0 hb0 Ht Hu EU;obtain⟨lb,hlb⟩:∃lb,lb=w.heap.size:=⟨_,rfl⟩
 obtain⟨it,hit⟩:∃it,it=w.heap.size+1:=⟨_,rfl⟩
 have qM:Hid (w.heap.size<=lb):=by show _<=_;omega
 have mV:Hid (LB W1 lb (.slice none 0 0) (.slice none 0 0) (.slice none 0 0) (.slice none 0 0) (.slice none 0 0) (.int .i64 0)/\W1.heap[it]? =some (.stringIter s 0)/\Below w.heap.size w W1):=by rw [hlb,hit];exact mS.out
 rw [<-hit,<-hlb];clear mS hlb hit;go_loopg [7] 0 (fun gk _ W=>gk=0/\LB W lb (.slice none 0 0) (.slice none 0 0) (.slice none 0 0) (.slice none 0 0) (.slice none 0 0) (.int .i64 0)/\W.heap[it]? =some (.stringIter s 0)/\Below w.heap.size w W);case atStart=>exact⟨rfl,mV.out.1,mV.out.2.1,mV.out.2.2⟩
 case round=>
  clear mV;obtain⟨rfl,xo,Yn,hB⟩:=hrel;have hnx:∀ty,(Instr.next (.pointer (some ⟨it,0,none⟩)) true ty).run prog wr= .ok (.tuple #[.bool false]) wr:=fun ty=>OA wr it s 0 ty Yn (by omega)
  have c1:=xo.c1;have yT:LB (wr.alloc (.cells (madeCells #[.int .i64 0] 0) 108)) lb _ _ _ _ _ _:=xo.grown (Bv wr _ none) (by simp);obtain⟨d2,e2⟩:=yT.c2;have hL2:=yT.s2 (.slice (some ⟨wr.heap.size,0,none⟩) 0 0);have bq:Below w.heap.size w ((wr.alloc (.cells (madeCells #[.int .i64 0] 0) 108)).setCell ⟨lb,2,none⟩ (.slice (some ⟨wr.heap.size,0,none⟩) 0 0)):=(hB.alloc hB.size _).setCell (p:=⟨lb,2,none⟩) qM.out _;have H2:Hid _:=And.intro hL2 bq;clear xo yT hL2 bq hB Yn;obtain⟨gc,jV⟩:∃gc,gc=wr.heap.size:=⟨_,rfl⟩
  go_wp2;generalize((wr.alloc (.cells (madeCells #[.int .i64 0] 0) 108)).setCell ⟨lb,2,none⟩ (.slice (some ⟨wr.heap.size,0,none⟩) 0 0))=W2 at*;rw [<-jV]at H2 ⊢;clear jV c1 d2 e2 hnx;obtain⟨hL2,bq⟩:=H2.out;clear H2;obtain⟨c2,_⟩:=hL2.c2;have c1:=hL2.c1;have H3:Hid (LB W2 lb _ _ _ _ _ _/\Below w.heap.size w W2):=⟨hL2,bq⟩
  clear hL2 bq;go_region;all_goals
   clear c1 c2;have hL3:LB W2.drew lb _ _ _ _ _ _:=H3.out.1;have cV:Below w.heap.size w W2.drew:=H3.out.2.drew;clear H3;generalize W2.drew=W3 at*;have hL4:LB (W3.alloc (.cells (madeCells #[.int .i64 0] 0) 3)) lb _ _ _ _ _ _:=hL3.grown (Bv W3 _ none) (by simp);have c1:=hL3.c1;obtain⟨d3,e3⟩:=hL4.c3;have nQ:=hL4.s3 (.slice (some ⟨W3.heap.size,0,none⟩) 0 0);have Pc:=nQ.c1;have qh:Below w.heap.size w ((W3.alloc (.cells (madeCells #[.int .i64 0] 0) 3)).setCell ⟨lb,3,none⟩ (.slice (some ⟨W3.heap.size,0,none⟩) 0 0)):=(cV.alloc cV.size _).setCell (p:=⟨lb,3,none⟩) qM.out _;have H5:Hid _:=And.intro nQ qh;clear hL3 cV hL4 nQ qh;obtain⟨gl,hgl⟩:∃gl,gl=W3.heap.size:=⟨_,rfl⟩
   go_wp2_with fail;generalize((W3.alloc (.cells (madeCells #[.int .i64 0] 0) 3)).setCell ⟨lb,3,none⟩ (.slice (some ⟨W3.heap.size,0,none⟩) 0 0))=W5 at*;rw [<-hgl]at H5 ⊢;clear hgl c1 d3 e3 Pc;refine(ai8 W5).mono ?_;rintro ev W6 ⟨gm,rfl,fR⟩;have C7:=H5.out.1.below fR;obtain⟨d4,e4⟩:=C7.c4;have vq:=C7.s4 (.slice (some ⟨gm,0,none⟩) 0 0);have BI:Below w.heap.size w (W6.setCell ⟨lb,4,none⟩ (.slice (some ⟨gm,0,none⟩) 0 0)):=(H5.out.2.trans (fR.mono H5.out.2.size)).setCell (p:=⟨lb,4,none⟩) qM.out _;have H7:Hid _:=And.intro vq BI;have Va:Hid (Calls prog 141 #[.pointer (some ⟨lb,0,none⟩),.int .i64 d] (W6.setCell ⟨lb,4,none⟩ (.slice (some ⟨gm,0,none⟩) 0 0)) fun e w'=>e= .returned (.int .i64 pp)/\w'=(W6.setCell ⟨lb,4,none⟩ (.slice (some ⟨gm,0,none⟩) 0 0))):=Kq.out _ _ _ _ _ _ _ vq;clear C7 vq BI fR H5;go_wp2_with fail;generalize(W6.setCell ⟨lb,4,none⟩ (.slice (some ⟨gm,0,none⟩) 0 0))=W7 at*;refine Va.out.mono ?_;rintro ev wx ⟨rfl,hx⟩;have hx':=hx.symm;subst hx';clear Va d4 e4;obtain⟨d5,e5⟩:=H7.out.1.c5;have HF:Hid (qX (W7.setCell ⟨lb,5,none⟩ (.int .i64 pp)) lb gc gl gm pp/\Below w.heap.size w (W7.setCell ⟨lb,5,none⟩ (.int .i64 pp))):=⟨H7.out.1.s5 (.int .i64 pp),H7.out.2.setCell (p:=⟨lb,5,none⟩) qM.out _⟩
   clear H7;go_wp2;go_ret;exact⟨lb,gc,gl,gm,rfl,HF.out.1,qM.out,HF.out.2⟩
theorem al8(w:World)(lb gc gl gm:Nat)(p:Int)(h:qX w lb gc gl gm p):
  Calls prog 85 #[.pointer (some ⟨lb,0,none⟩)] w fun e w'=>e= .returned (.tuple #[])/\Below w.heap.size w w':=by
 obtain⟨s,hs⟩:∃s,s=w.heap.size:=⟨_,rfl⟩
 have hb1:Below w.heap.size w (w.alloc (.cells #[.pointer (some ⟨lb,0,none⟩),.slice none 0 0,.int .i64 0,.int .i64 0,.int .i64 0] 212)):=(aA _ _).alloc (ay _) _;have wM:Hid (bM (w.alloc (.cells #[.pointer (some ⟨lb,0,none⟩),.slice none 0 0,.int .i64 0,.int .i64 0,.int .i64 0] 212)) w.heap.size s (.slice none 0 0) (.pointer (some ⟨lb,0,none⟩)) ⟨[],0,0,0⟩):=
  ⟨by rw [hs];exact mP,⟨rfl,.inl ⟨rfl,rfl⟩⟩,by rw [hs];exact ay _⟩
 have c5:(w.alloc (.cells #[.pointer (some ⟨lb,0,none⟩),.slice none 0 0,.int .i64 0,.int .i64 0,.int .i64 0] 212)).cell? ⟨lb,5,none⟩=some (.int .i64 p):=(LB.below h hb1).c5.1;have aG:=ah hb1;have HX:Hid (∀W,Below w.heap.size w W->qX W lb gc gl gm p):=fun W hb=>LB.below h hb
 clear h hb1;go_enter func85,ntmps85;go_wp2_with fail;rw [<-hs];clear hs;refine(DG _ w.heap.size s _ _ _ p (-1) false wM.out (by simp)).mono ?_;rintro ev w2 ⟨rfl,v2,hW,hF⟩;have aJ:=ah (hF.ED wM.out aG.out);have a1:w2.cell? ⟨lb,1,none⟩=some (.slice none 0 0):=(HX.out w2 aJ.out).c1;clear hW hF wM aG c5;go_wp2;refine dw 1 ?_;rw [aY];go_wp2;go_end0;exact⟨rfl,aJ.out⟩
theorem aiP(w:World)(lb gc gl gm:Nat)(p:Int)(h:qX w lb gc gl gm p):
  Calls prog 218 #[.pointer (some ⟨lb,0,none⟩)] w fun e w'=>e= .returned (.slice none 0 0)/\w'=w:=by
 have c1:=LB.c1 h;clear h;go_enter func218,ntmps218;go_wp2;refine dw 1 ?_;rw [aY];go_wp2;go_ret;exact⟨rfl,rfl⟩
theorem alI(w:World)(lb gc gl gm:Nat)(p:Int)(h:qX w lb gc gl gm p):
  Calls prog 154 #[.pointer (some ⟨lb,0,none⟩)] w fun e w'=>e= .returned (.slice none 0 0)/\w'=w:=by
 have HL:=ah h;clear h;go_enter func154,ntmps154;go_wp2_with fail;refine(aiP w lb gc gl gm p HL.out).mono ?_;rintro ev wx ⟨rfl,hx⟩;have hx':=hx.symm;subst hx';go_wp2;refine dw 1 ?_;rw [aY];go_wp2;go_ret;exact⟨rfl,rfl⟩
theorem al2(w:World)(lb gc gl gm:Nat)(p:Int)(h:qX w lb gc gl gm p):
  Calls prog 87 #[.pointer (some ⟨lb,0,none⟩)] w fun e w'=>e= .returned (.slice none 0 0)/\Below w.heap.size w w':=by
 have hmm:=@ace prog;have ID:∀(fn:Fn)(first cap:Array Value)(w:World),(Instr.makeFunc fn first cap).run prog w= .ok (.func fn first cap) w:=fun _ _ _ _=>rfl
 have HL:Hid (qX (w.alloc (.cells #[.pointer (some ⟨lb,0,none⟩)] 136)) lb gc gl gm p):=LB.below h ((aA _ _).alloc (ay _) _);clear h;go_enter func87,ntmps87;go_wp2_with fail;refine(alI _ lb gc gl gm p HL.out).mono ?_;rintro ev wx ⟨rfl,hx⟩;subst hx;clear HL;go_wp2;refine dw 1 ?_;rw [aY];go_wp2;refine dw 1 ?_;rw [aY];go_wp2;go_ret;exact⟨rfl,(((aA _ _).alloc (ay _) _).alloc (by simp) _).alloc (by simp;omega) _⟩
theorem agc(f g:Value)(w:World):Calls prog 97 #[.int .i64 0,f,g] w fun e w'=>e= .returned (.tuple #[])/\w'=w:=by
 go_enter func97,ntmps97;go_wp2;refine dw 1 ?_;rw [aY];go_wp2;go_end0;exact⟨rfl,rfl⟩
theorem agP(w:World)(lb gc gl gm:Nat)(p:Int)(h:qX w lb gc gl gm p)(go:Nat):
  Calls prog 164 #[.pointer (some ⟨lb,0,none⟩),.slice (some ⟨go,0,none⟩) 0 0] w fun e w'=>e= .returned (.tuple #[])/\w'=w:=by
 have c5:=(LB.c5 h).1;clear h;go_enter func164,ntmps164;go_wp2;refine dw 1 ?_;rw [aY];go_wp2;go_end0;exact⟨rfl,rfl⟩
theorem aiK(w:World)(lb gc gl gm:Nat)(p:Int)(h:qX w lb gc gl gm p)(go:Nat):
  Calls prog 89 #[.pointer (some ⟨lb,0,none⟩),.slice (some ⟨go,0,none⟩) 0 0] w fun e w'=>e= .returned (.tuple #[])/\Below w.heap.size w w':=by
 have ID:∀(fn:Fn)(first cap:Array Value)(w:World),(Instr.makeFunc fn first cap).run prog w= .ok (.func fn first cap) w:=fun _ _ _ _=>rfl
 have hb:Below w.heap.size w ((w.alloc (.cells #[.pointer (some ⟨lb,0,none⟩)] 136)).alloc (.cells #[.slice (some ⟨go,0,none⟩) 0 0] 31)):=((aA _ _).alloc (ay _) _).alloc (by simp) _;have hL:qX ((w.alloc (.cells #[.pointer (some ⟨lb,0,none⟩)] 136)).alloc (.cells #[.slice (some ⟨go,0,none⟩) 0 0] 31)) lb gc gl gm p:=LB.below h hb;have c1:=LB.c1 hL;have HL:=ah hL;have HB:=ah hb;have HE:=ah agc;clear h hL hb;go_enter func89,ntmps89;go_wp2;refine dw 1 ?_;rw [aY];go_wp2_with fail;refine(HE.out _ _ _).mono ?_;rintro ev wx ⟨rfl,hx⟩;subst hx;go_wp2_with fail;refine(agP _ lb gc gl gm p HL.out go).mono ?_;rintro ev wx ⟨rfl,hx⟩;subst hx;go_wp2;go_end0;exact⟨rfl,HB.out⟩
theorem aeQ(s:ByteArray)(d:Int)(w:World)(hs:s.size=0):
  Calls prog 55 #[.string s,.int .i64 d] w fun e w'=>∃g,e= .returned (.slice (some ⟨g,0,none⟩) 0 0)/\bh w' w.heap.size 3 g 0 (iv [])/\Below w.heap.size w w':=by
 have QT:=Jt;have jy:∀(W:World)(g g1:Nat),(Builtin.copy_ #[31,31] 3 #[.slice (some ⟨g,0,none⟩) 0 0,.slice (some ⟨g1,0,none⟩) 0 0]).run prog W= .ok (goInt 0) W:=fun W g g1=>ab6 (P:=prog) W 31 31 3 3 _ _ 0 0 0 0 underlying31 Tryz.MW rfl
 have Gh:=ah (aaT s d w hs);clear hs;generalize gz [] d=pp at*;go_enter func55,ntmps55;go_wp2_with fail;refine Gh.out.mono ?_;rintro ev w1 ⟨lb,gc,gl,gm,rfl,yT,_,hb1⟩;have NA:=ah yT;have aG:=ah hb1;clear Gh yT hb1;go_wp2_with fail;refine(al8 w1 lb gc gl gm pp NA.out).mono ?_;rintro ev w2 ⟨rfl,hb2⟩;have hL2:qX w2 lb gc gl gm pp:=LB.below NA.out hb2;have bq:Below w.heap.size w w2:=aG.out.trans (hb2.mono aG.out.size);have c3:=(LB.c3 hL2).1;have hb3:Below w2.heap.size w2 (w2.alloc (.cells (madeCells #[.int .i64 0] 0) 3)):=(aA _ _).alloc (ay _) _;have hL3:qX (w2.alloc (.cells (madeCells #[.int .i64 0] 0) 3)) lb gc gl gm pp:=LB.below hL2 hb3;have KY:=(LB.c3 hL3).1;have rT:Hid (bh (w2.alloc (.cells (madeCells #[.int .i64 0] 0) 3)) w.heap.size 3 w2.heap.size 0 (List.replicate 0 (.int .i64 0))):=bh.made bq.size (by omega);have H3:Hid (qX (w2.alloc (.cells (madeCells #[.int .i64 0] 0) 3)) lb gc gl gm pp/\Below w.heap.size w (w2.alloc (.cells (madeCells #[.int .i64 0] 0) 3))):=⟨hL3,bq.trans (hb3.mono bq.size)⟩
 clear hL2 bq hb2 hb3 hL3 NA aG;obtain⟨go,hgo⟩:∃go,go=w2.heap.size:=⟨_,rfl⟩
 go_wp2_with fail;generalize w2.alloc (.cells (madeCells #[.int .i64 0] 0) 3)=W3 at*;rw [<-hgo]at rT ⊢;clear hgo c3 KY QT jy;refine(ab0 W3).mono ?_;rintro ev W4 ⟨g,rfl,_,_,_,hb4⟩;have wH:=ah (LB.below H3.out.1 hb4);have fB:=ah (H3.out.2.trans (hb4.mono H3.out.2.size));have Bd:=ah (eH rT.out hb4);clear H3 rT hb4;go_wp2_with fail;refine(al2 W4 lb gc gl gm pp wH.out).mono ?_;rintro ev W5 ⟨rfl,dB⟩;have D9:=ah (LB.below wH.out dB);have dx:=ah (fB.out.trans (dB.mono fB.out.size));have pP:=ah (eH Bd.out dB);clear wH fB Bd dB;go_wp2;refine dw 1 ?_;rw [aY];go_wp2_with fail;refine(aiK W5 lb gc gl gm pp D9.out go).mono ?_;rintro ev W6 ⟨rfl,fR⟩;have HF:Hid (bh W6 w.heap.size 3 go 0 (List.replicate 0 (.int .i64 0))/\Below w.heap.size w W6):=⟨eH pP.out fR,dx.out.trans (fR.mono dx.out.size)⟩
 clear D9 dx pP fR;go_wp2;go_ret;exact⟨go,rfl,HF.out.1,HF.out.2⟩
end
theorem ajY {w:World}{B n z:Nat}{v:Value}{e:TypeId}{xs:List Value}(h:w.ownsRow (B+1) e z v n xs):w.ownsRow B e z v n xs:=by
 refine⟨h.1,?_⟩;rcases h.2 with h|⟨g,c,cur,e1,h3,h4⟩
 .exact .inl h
 .exact .inr ⟨g,c,cur,e1,by omega,h4⟩
structure wS where
 k:Int
 a:Int
 s:ByteArray
 e:Value
def MC(o:wS):Value:= .agg #[.int .i64 o.k,.int .i64 o.a,.string o.s,o.e]
def Ev(w:World)(b off:Nat)(ops:List wS):Prop:=∀i (h:i<ops.length),w.cell? ⟨b,off+i*4,none⟩=some (.int .i64 ops[i].k)/\w.cell? ⟨b,off+i*4+1,none⟩=some (.int .i64 ops[i].a)/\w.cell? ⟨b,off+i*4+2,none⟩=some (.string ops[i].s)/\w.cell? ⟨b,off+i*4+3,none⟩=some ops[i].e/\∃ao n c,ops[i].e= .slice ao n c
theorem Ev.below {w w':World}{b off:Nat}{ops:List wS}(h:Ev w b off ops)(hb:Below w.heap.size w w'):Ev w' b off ops:=fun i hi=>
 let⟨h1,h2,h3,h4,h5⟩:=h i hi
 ⟨jf hb h1,jf hb h2,jf hb h3,jf hb h4,h5⟩
def OT(w:World)(o:wS):Prop:=∀W,Below w.heap.size w W->Calls prog 18 #[MC o] W fun e W'=>e= .returned (.bool true)/\Below W.heap.size W W'
theorem anD(ops:List wS)(b off cap n:Nat)(lo hi:Int)(w:World)(hl:ops.length=n)(hn:n<=1000000000000000)(hc:Ev w b off ops)
  (hp:∀o∈ops,lo<=o.k->o.k<=hi->OT w o):
  Calls prog 13 #[.slice (some ⟨b,off,none⟩) n cap,.int .i64 lo,.int .i64 hi] w fun e w'=>e= .returned (.int .i64 (-1))/\Below w.heap.size w w':=by
 have HC:=ah hc;have HL:=ah hl;have HP:=ah hp;clear hc hl hp;go_enter func13,ntmps13;go_wp2;go_loopw [7] (fun i wr=>∃k:Nat,k<=n/\i= .int .i64 k/\Below w.heap.size w wr) (fun i _=>n - (intOf i).toNat);case atStart=>exact⟨0,rY _,rfl,aA _ _⟩
 case round=>
  obtain⟨k,hk,rfl,hb⟩:=hrel;have hbz:=hb.size;have aox:(k:Int)<1152921504606846976:=by omega
  by_cases hlt:k<n
  .have hlt':(k:Int)<(n:Int):=by omega
   have hkl:k<ops.length:=by rw [HL.out];exact hlt
   obtain⟨c0,c1,c2,c3,ao,m,cc,he⟩:=(HC.out.below hb) k hkl;have U5:Hid (lo<=ops[k].k->ops[k].k<=hi->OT w ops[k]):=HP.out ops[k] (pV hkl);generalize ops[k]=o at*;obtain⟨ok,oa,os,oe⟩:=o;simp only at c0 c1 c2 c3 he;subst he;have Kr:Hid (lo<=ok->ok<=hi->OT w ⟨ok,oa,os,.slice ao m cc⟩):=U5;clear U5 hkl;by_cases h1:lo<=ok
   .by_cases h2:ok<=hi
    .have hb2:Below w.heap.size w (wr.alloc (.cells #[.int .i64 ok,.int .i64 oa,.string os,.slice ao m cc] 29)):=hb.alloc hbz _;have yh:Hid (Calls prog 18 #[MC ⟨ok,oa,os,.slice ao m cc⟩] (wr.alloc (.cells #[.int .i64 ok,.int .i64 oa,.string os,.slice ao m cc] 29)) fun e W'=>e= .returned (.bool true)/\Below (wr.alloc (.cells #[.int .i64 ok,.int .i64 oa,.string os,.slice ao m cc] 29)).heap.size (wr.alloc (.cells #[.int .i64 ok,.int .i64 oa,.string os,.slice ao m cc] 29)) W'):=Kr.out h1 h2 _ hb2;clear Kr hb2;go_wp2_with fail;refine yh.out.mono ?_;rintro e w3 ⟨rfl,hb3⟩;have hb4:Below w.heap.size w w3:=(hb.alloc hbz _).trans (hb3.mono (by simp;omega));clear hb3 yh c0 c1 c2 c3;go_wp2;go_roundw;case rel=>exact⟨k+1,by omega,by go_num,hb4⟩
     case measure=>simp [intOf];omega
    .have h2':decide (ok<=hi)=false:=by simpa using h2
     clear Kr;go_wp2;go_roundw;case rel=>exact⟨k+1,by omega,by go_num,hb.alloc hbz _⟩
     case measure=>simp [intOf];omega
   .have h1':decide (lo<=ok)=false:=by simpa using h1
    clear Kr;go_wp2;go_roundw;case rel=>exact⟨k+1,by omega,by go_num,hb.alloc hbz _⟩
    case measure=>simp [intOf];omega
  .have hlt':¬(k:Int)<(n:Int):=by omega
   go_wp2;go_ret;exact⟨rfl,hb⟩
theorem anE(ao:Option Addr)(cap:Nat)(lo hi:Int)(w:World):
  Calls prog 13 #[.slice ao 0 cap,.int .i64 lo,.int .i64 hi] w fun e w'=>e= .returned (.int .i64 (-1))/\Below w.heap.size w w':=by
 go_enter func13,ntmps13;go_wp2;refine dw 1 ?_;rw [aY];go_wp2;go_ret;exact⟨rfl,aA _ _⟩
