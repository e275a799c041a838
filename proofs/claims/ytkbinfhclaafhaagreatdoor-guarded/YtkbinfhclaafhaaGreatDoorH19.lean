import Derived.Test.YtkbinfhclaafhaaGreatDoorH14
import Derived.Test.YtkbinfhclaafhaaGreatDoorH17
namespace Go.Proofs.YtkbinfhclaafhaaGreatDoor
open Go.RowKit
open Go.Proofs.Tryz
set_option maxRecDepth 100000
set_option maxHeartbeats 32000000
section
attribute [local go_sem ↓] Go.wp_at_zero Go.wp_at_succ
theorem MN {w:World}{b off:Nat}{l:List Int}(h:dz w b off l)(j:Nat)(u:Value)(hj:(iv l)[j]? =some u):w.cell? ⟨b,off+j,none⟩=some u:=by
 have hlt:j<l.length:=by have:=(List.getElem?_eq_some_iff.1 hj).1;rwa [vC]at this
 rw [h j hlt,<-hj];simp [iv,List.getD_eq_getElem?_getD,List.getElem?_eq_getElem hlt]
theorem V4 {l:List Int}:∀u∈iv l,u.oneCell'=true:=fun u hu=>by
 simp only [iv,List.mem_map]at hu;obtain⟨x,_,rfl⟩:=hu;rfl
theorem abC(w:World)(L:LP)(ks ls:List Int)(h:LX w L ks ls)(hn:L.n<=1000)(hlv:∀p,0<=ls.getD p 0/\ls.getD p 0<=1000)(hp:0<=L.p/\L.p<=1000):
  Calls prog 87 #[.pointer (some ⟨L.lb,0,none⟩)] w fun e w'=>∃av qs,e= .returned av/\nk w' w.heap.size L ks ls av qs/\qs.map fA.at'=((eZ ls (aD L.cs)).filter (fQ L.cs)).map (bP L.cs (eZ ls (aD L.cs)) L.n)/\Below w.heap.size w w':=by
 obtain⟨iI,p8,p9,qb,qd⟩:=info_parts Tryz.xh;obtain⟨iP,hiP,MF,MH,MI⟩:=info_parts Tryz.aeU;have hcn:=h.len;have HX:Hid (∀W,Below w.heap.size w W->LX W L ks ls):=fun W hb=>h.below hb
 have LK:kD L.n (eZ ls (aD L.cs)):=by have:=aik ls (aD L.cs);rw [h.kl.2]at this;exact this
 have Jy:Hid (∀k,k<(eH (aD L.cs) L.n).length->(eH (aD L.cs) L.n).getD k 0<L.n):=fun k hk=>(Wo (dB hk)).1
 have hll:=M7 (aD L.cs) L.n;have hb0:Below w.heap.size w (w.alloc (.cells #[.pointer (some ⟨L.lb,0,none⟩)] 136)):=(Below.refl _ _).alloc (Nat.le_refl _) _;have A9:Hid (Calls prog 154 #[.pointer (some ⟨L.lb,0,none⟩)] (w.alloc (.cells #[.pointer (some ⟨L.lb,0,none⟩)] 136)) fun e w'=>∃v g ax,e= .returned v/\yg w' (w.alloc (.cells #[.pointer (some ⟨L.lb,0,none⟩)] 136)).heap.size v g (eH (aD L.cs) L.n) ax/\ax.map (bL (eH (aD L.cs) L.n))=eZ ls (aD L.cs)/\Below (w.alloc (.cells #[.pointer (some ⟨L.lb,0,none⟩)] 136)).heap.size (w.alloc (.cells #[.pointer (some ⟨L.lb,0,none⟩)] 136)) w'):=ail _ L ks ls (h.below hb0) hn;have hmm:=@run_makeMap prog;have hcl0:(w.alloc (.cells #[.pointer (some ⟨L.lb,0,none⟩)] 136)).heap[w.heap.size]? =some (.cells #[.pointer (some ⟨L.lb,0,none⟩)] 136 (0,0)):=Array.getElem?_push_size;have PW:Hid _:=hcl0;have HB0:Hid (Below w.heap.size w (w.alloc (.cells #[.pointer (some ⟨L.lb,0,none⟩)] 136))):=hb0;clear h hb0 hcl0;generalize eH (aD L.cs) L.n=left at*;obtain⟨R,hR⟩:∃R,R=eZ ls (aD L.cs):=⟨_,rfl⟩
 rw [<-hR]at A9 LK ⊢;clear hR;have A8:Hid (kD L.n R):=LK;clear LK;go_enter func87,ntmps87;go_wp2_with fail;refine A9.out.mono ?_;rintro ev w1 ⟨rv,g,ax,rfl,hra,hsg,hb1⟩;clear A9;have hz0:(w.alloc (.cells #[.pointer (some ⟨L.lb,0,none⟩)] 136)).heap.size=w.heap.size+1:=by simp
 have hB1:Below w.heap.size w w1:=HB0.out.trans (hb1.mono (by omega));have hl1:w1.heap[w.heap.size]? =some (.cells #[.pointer (some ⟨L.lb,0,none⟩)] 136 (0,0)):=aR hb1 PW.out;have Vm:yg w1 w.heap.size rv g left ax:=⟨yV hra.row (by omega),hra.lf,hra.ok,fun hn=>⟨Nat.le_trans (by omega) (hra.lt hn).1,(hra.lt hn).2⟩,hra.ty⟩
 have Uy:SE ((w1.alloc (.map #[] 0)).alloc (.cells #[.map (some w1.heap.size)] 217)) w.heap.size w.heap.size (w1.heap.size+1) w1.heap.size g L rv left ax 0:=by
  have hbb:Below w1.heap.size w1 ((w1.alloc (.map #[] 0)).alloc (.cells #[.map (some w1.heap.size)] 217)):=((Below.refl _ _).alloc (Nat.le_refl _) _).alloc (by simp) _;have hm1:((w1.alloc (.map #[] 0)).alloc (.cells #[.map (some w1.heap.size)] 217)).heap[w1.heap.size+1]? =some (.cells #[.map (some w1.heap.size)] 217 (0,0)):=by
   have:(w1.alloc (.map #[] 0)).heap.size=w1.heap.size+1:=by simp
   rw [<-this];exact Array.getElem?_push_size
  refine⟨aR hbb hl1,hm1,?_,Vm.below hbb⟩;have:(w1.alloc (.map #[] 0)).heap[w1.heap.size]? =some (.map #[] 0):=Array.getElem?_push_size;exact aR ((Below.refl _ _).alloc (Nat.le_refl _) _) this
 have hB2:Below w.heap.size w ((w1.alloc (.map #[] 0)).alloc (.cells #[.map (some w1.heap.size)] 217)):=(hB1.alloc hB1.size _).alloc (by simp;have:=hB1.size;omega) _;obtain⟨ra,rc,rfl⟩:=fH hra.row;have zo:Hid (SE ((w1.alloc (.map #[] 0)).alloc (.cells #[.map (some w1.heap.size)] 217)) w.heap.size w.heap.size (w1.heap.size+1) w1.heap.size g L (.slice ra ax.length rc) left ax 0):=Uy;have HB2:Hid (Below w.heap.size w ((w1.alloc (.map #[] 0)).alloc (.cells #[.map (some w1.heap.size)] 217))):=hB2;have zq:Hid (ax.map (bL left)=R):=hsg;have Qi:Hid (w.heap.size<=w1.heap.size):=hB1.size;have jQ:Hid (∀ab∈ax,ab.1<ab.2/\ab.2<=left.length):=hra.ok;have hNs:ax.length<=1000:=by
  have h1:=Dz R.flatten L.n A8.out.oW (fun a ha=>by obtain⟨r,hr,ha⟩:=List.mem_flatten.1 ha;exact A8.out.lt r hr a ha);have h2:R.length<=R.flatten.length:=by
   have:∀l:List (List Nat),(∀r∈l,r≠[])->l.length<=l.flatten.length:=by
    intro l
    induction l with
    |nil=>intro _;simp
    |cons a l ih=>
     intro hl;have h1:=ih (fun r hr=>hl r (by simp [hr]));have h2:0<a.length:=List.length_pos_iff.2 (hl a (by simp));simp only [List.length_cons,List.flatten_cons,List.length_append];omega
   exact this R A8.out.ne
  have h3:ax.length=R.length:=by rw [<-hsg,List.length_map]
  omega
 clear hra hsg hb1 hB1 hl1 Vm Uy hB2 hz0;obtain⟨lx,hlx⟩:∃lx,lx=w.heap.size:=⟨_,rfl⟩
 obtain⟨mb,hmb⟩:∃mb,mb=w1.heap.size:=⟨_,rfl⟩
 obtain⟨mx,hmx⟩:∃mx,mx=w1.heap.size+1:=⟨_,rfl⟩
 obtain⟨N,hN⟩:∃N,N=ax.length:=⟨_,rfl⟩
 go_wp2;generalize(w1.alloc (.map #[] 0)).alloc (.cells #[.map (some w1.heap.size)] 217)=W2 at*;have QF:Hid (SE W2 w.heap.size lx mx mb g L (.slice ra N rc) left ax 0):=by rw [hlx,hmx,hmb,hN];exact zo.out
 have CU:Hid (w.heap.size<=mb):=by show _<=_;rw [hmb];exact Qi.out
 rw [<-hmx,<-hlx,<-hN];rw [<-hN]at hNs;have kR:Hid (ax.length=N):=hN.symm;clear zo Qi hlx hmb hmx hN hmm PW HB0;go_loopg [18] N (fun gk iv W=>∃k:Nat,k<=N/\gk=N - k/\iv= .int .i64 k/\Below w.heap.size w W/\SE W w.heap.size lx mx mb g L (.slice ra N rc) left ax k);case atStart=>exact⟨0,by omega,rfl,rfl,HB2.out,QF.out⟩
 case round=>
  clear HB2 QF;obtain⟨k,hk,rfl,rfl,hb,hS⟩:=hrel;by_cases hlt:k<N
  .have hks:k<ax.length:=by rw [kR.out];exact hlt
   have hsl:=hS.r.row;rw [kR.out]at hsl;obtain⟨rg,ER,hre,_,_,_⟩:=kg hsl (by omega);have D6:ra=some ⟨rg,0,none⟩:=by simpa using(show ra=some ⟨rg,0,none⟩/\rc=ER by simpa using hre).1
   subst D6;have c1:wr.cell? ⟨rg,k,none⟩=some (kN g (ax.getD k (0,0))):=by
    rw [World.ownsRow.cellAt hsl k (by omega),List.getElem?_map,List.getElem?_eq_getElem hks,List.getD_eq_getElem?_getD,List.getElem?_eq_getElem hks];rfl
   have hup:=abf (w:=wr.drew) hks hS.mp jQ.out (by rw [zq.out];exact A8.out);obtain⟨UG,UH⟩:=jQ.out _ (dB (d:=(0,0)) hks);have c2:=hS.r.lf (ax.getD k (0,0)).1 (by rw [jM];omega);rw [Nat.zero_add,uw _ _ (by omega)]at c2;have c3:=hS.m;have HS2:Hid (SE (ChangeMaps.setBlock wr.drew mb (.map (jm g left (ax.take (k+1))).toArray (k+1))) w.heap.size lx mx mb g L (.slice (some ⟨rg,0,none⟩) N rc) left ax (k+1)):=(hS.below (Below.refl _ _).drew).store;have HB:Hid (Below w.heap.size w (ChangeMaps.setBlock wr.drew mb (.map (jm g left (ax.take (k+1))).toArray (k+1)))):=Rx hb.drew CU.out _;have hkN:(k:Int)<(N:Int):=by omega
   clear hS hb hsl hre;generalize ChangeMaps.setBlock wr.drew mb (.map (jm g left (ax.take (k+1))).toArray (k+1))=W3 at*;generalize ax.getD k (0,0)=ab at*;obtain⟨a,b⟩:=ab;simp only [kN]at c1 hup c2 UG UH;generalize left.getD a 0=hd at*;obtain⟨l,hl⟩:∃l,l=b - a:=⟨_,rfl⟩
   rw [<-hl]at c1 hup;have hl0:(0:Int)<(l:Int):=by omega
   clear hl UG UH;go_wp2;go_region;all_goals
    go_wp2;go_roundg (N - (k+1));case measure=>omega
    case rel=>exact⟨k+1,by omega,rfl,by go_num,HB.out,HS2.out⟩
  .obtain rfl:k=N:=by omega
   have hkN:¬(k:Int)<(k:Int):=by omega
   have HB:Hid (Below w.heap.size w wr):=hb;have HS:Hid (SE wr w.heap.size lx mx mb g L (.slice ra k rc) left ax k):=hS;clear hb hS;have hen:=iB func155 (by kernel_rfl) (by kernel_rfl);have htk:ax.take k=ax:=List.take_of_length_le (by rw [kR.out];exact Nat.le_refl _);have xW:Hid (∀(W:World),Below w.heap.size w W->SE W w.heap.size lx mx mb g L (.slice ra k rc) left ax k->∀gp op m cp last,0<m->m<=1000->W.cell? ⟨gp,op+(m - 1),none⟩=some (.int .i64 ((last:Nat):Int))->last<L.n->Calls prog 155 #[.slice (some ⟨gp,op,none⟩) m cp,.pointer (some ⟨mx,0,none⟩),.pointer (some ⟨lx,0,none⟩)] W fun e w'=>e= .returned (pg g ax (fT L.cs R last))/\Below W.heap.size W w'):=fun W hb hS gp op m cp last h1 h2 h3 h4=>by
    have hm:=hS.mp;rw [htk,<-kR.out]at hm;have:=ah4 W L ks ls (HX.out W hb) lx mx mb g gp op m cp last left ax hS.l hS.m hm jQ.out (by rw [zq.out];exact A8.out) h1 h2 h3 h4;rw [zq.out]at this;exact this
   have JI:Hid (kD L.cs.length R):=by show kD _ _;rw [hcn];exact A8.out
   go_wp2;go_loopg [8,31] k (fun gk av iv W=>∃(j:Nat)(qs:List fA),j<=k/\gk=k - j/\iv= .int .i64 j/\Below w.heap.size w W/\SE W w.heap.size lx mx mb g L (.slice ra k rc) left ax k/\nk W w.heap.size L ks ls av qs/\qs.map fA.at'=(((ax.take j).map (bL left)).filter (fQ L.cs)).map (bP L.cs R L.n)/\qs.length<=j);case atStart=>exact⟨0,[],by omega,rfl,rfl,HB.out,HS.out,⟨World.ownsRow_nil _ _ _ _,fun q hq=>by simp at hq,.nil⟩,by simp,by simp⟩
   case round=>
    clear HB HS;obtain⟨j,qs,hj,rfl,rfl,hb,hS,hQ,yK,Vl⟩:=hrel;obtain⟨qa,qc,rfl⟩:=fH hQ.row;by_cases hlt:j<k
    .have hks:j<ax.length:=by rw [kR.out];exact hlt
     have hsl:=hS.r.row;rw [kR.out]at hsl;obtain⟨rg,ER,hre,_,_,_⟩:=kg hsl (by omega);have D6:ra=some ⟨rg,0,none⟩:=by simpa using(show ra=some ⟨rg,0,none⟩/\rc=ER by simpa using hre).1
     subst D6;have c1:wr.cell? ⟨rg,j,none⟩=some (kN g (ax.getD j (0,0))):=by
      rw [World.ownsRow.cellAt hsl j (by omega),List.getElem?_map,List.getElem?_eq_getElem hks,List.getD_eq_getElem?_getD,List.getElem?_eq_getElem hks];rfl
     have hab:=jQ.out _ (dB (d:=(0,0)) hks);have c2:=hS.r.lf (ax.getD j (0,0)).1 (by rw [jM];omega);rw [Nat.zero_add,uw _ _ (by omega)]at c2;have c3:=hS.l;have hhd:left.getD (ax.getD j (0,0)).1 0<L.n:=Jy.out _ (by omega);have hr0:bL left (ax.getD j (0,0))∈R:=by rw [<-zq.out];exact List.mem_map.2 ⟨_,dB hks,rfl⟩
     have htake:=aje (bL left) ax (0,0) j hks;have hge:=hS.r.lt (by rintro rfl;simp at hab;omega);have hgt:=hS.r.ty (by rintro rfl;simp at hab;omega);have wY:(j:Int)<(k:Int):=by omega
     have HB:Hid (Below w.heap.size w wr):=hb;have HS:Hid (SE wr w.heap.size lx mx mb g L (.slice (some ⟨rg,0,none⟩) k rc) left ax k):=hS;have HQ:Hid (nk wr w.heap.size L ks ls (.slice qa qs.length qc) qs):=hQ;have FC:Hid (qs.map fA.at'=(((ax.take j).map (bL left)).filter (fQ L.cs)).map (bP L.cs R L.n)):=yK;have hlen:=(uE hab).2.2;have hhead:=(uE hab).1;have hne:=(uE hab).2.1;clear hS hb hsl hre hQ yK;generalize ax.getD j (0,0)=ab at*;obtain⟨a,b⟩:=ab;have hlast:=Zb hab;simp only [kN]at c1 c2 hab hhd hlen hhead;have wz:Hid ((ax.take (j+1)).map (bL left)=(ax.take j).map (bL left)++[bL left (a,b)]):=htake;have hbd:=abh L.cs (bL left (a,b)) _ hhead;have zk:Hid (∀W,Below w.heap.size w W->Calls prog 157 #[.pointer (some ⟨L.lb,0,none⟩),.int .i64 (left.getD a 0:Nat)] W fun e w'=>e= .returned (.bool (!(fQ L.cs (bL left (a,b)))))/\w'=W):=fun W hW=>by
      rw [hbd,Bool.not_not];exact adI W L ks ls (HX.out W hW) _ hhd
     have x8:Hid (bL left (a,b)∈R):=hr0;have aaE:Hid ((bL left (a,b)).getLastD 0=left.getD (b - 1) 0):=hlast;have aee:left.getD (b - 1) 0<L.n:=Jy.out _ (by omega);have JE:Hid (nU wr.drew w.heap.size wr.heap.size g a (b - a) (b - a) (bL left (a,b))):=by
      obtain⟨cs,hc⟩:=hgt;refine⟨?_,⟨cs,_,hc⟩,hge.1,hlen,.inl rfl⟩;have:=(HS.out.below (Below.refl _ _).drew).r.lf.sub b a (by rw [jM];exact hab.2);rw [Nat.zero_add,<-Xt]at this;exact this
     have cL:wr.drew.cell? ⟨g,a+(b - a - 1),none⟩=some (.int .i64 ((left.getD (b - 1) 0:Nat):Int)):=by
      have:=(HS.out.below (Below.refl _ _).drew).r.lf (b - 1) (by rw [jM];omega);rw [Nat.zero_add,uw _ _ (by omega)]at this;rw [show a+(b - a - 1)=b - 1 by omega];exact this
     have uN:Hid _:=cL;obtain⟨l,hl⟩:∃l,l=b - a:=⟨_,rfl⟩
     rw [<-hl]at c1 JE uN hlen;have hl0:0<l:=by omega
     have hl0':(0:Int)<(l:Int):=by omega
     have hl1:l<=1000:=by omega
     clear hlast hbd hr0 hge hgt htake cL hab hl;generalize akc:left.getD a 0=hd at*;generalize left.getD (b - 1) 0=lst at*;generalize bL left (a,b)=r0 at*;go_wp2;cases hbg:fQ L.cs r0
     .rw [hbg]at zk;have HF:Hid (((((ax.take (j+1)).map (bL left)).filter (fQ L.cs)).map (bP L.cs R L.n))=(((ax.take j).map (bL left)).filter (fQ L.cs)).map (bP L.cs R L.n)):=by
       show _=_;rw [wz.out,List.filter_append,List.filter_cons,hbg];simp
      go_region_held3 (fun w'=>w'.cell? ⟨lx,0,none⟩=some (.pointer (some ⟨L.lb,0,none⟩))/\w'.cell? ⟨g,a,none⟩=some (.int .i64 ((hd:Nat):Int))) (go_keep) (first|(go_at_call 157;refine(zk.out _ HB.out.drew).mono ?_;rintro ev wx ⟨rfl,rfl⟩))
      all_goals
       go_wp2;go_roundg (k - (j+1));case measure=>omega
       case rel=>exact⟨j+1,qs,by omega,rfl,by go_num,HB.out.drew,HS.out.below (Below.refl _ _).drew,HQ.out.below (Below.refl _ _).drew,by rw [HF.out];exact FC.out,by omega⟩
     .rw [hbg]at zk;have HF:Hid (((((ax.take (j+1)).map (bL left)).filter (fQ L.cs)).map (bP L.cs R L.n))=(((ax.take j).map (bL left)).filter (fQ L.cs)).map (bP L.cs R L.n)++[bP L.cs R L.n r0]):=by
       show _=_;rw [wz.out,List.filter_append,List.filter_cons,hbg];simp
      have PO:Hid (fQ L.cs r0=true):=hbg;clear hbg
      go_region_held3 (fun w'=>w'.cell? ⟨lx,0,none⟩=some (.pointer (some ⟨L.lb,0,none⟩))/\w'.cell? ⟨g,a,none⟩=some (.int .i64 ((hd:Nat):Int))) (go_keep) (first|(go_at_call 157;refine(zk.out _ HB.out.drew).mono ?_;rintro ev wx ⟨rfl,rfl⟩))
      all_goals
       have lZ:Hid (Below w.heap.size w wr.drew):=HB.out.drew;have zw:Hid (SE wr.drew w.heap.size lx mx mb g L (.slice (some ⟨rg,0,none⟩) k rc) left ax k):=HS.out.below (Below.refl _ _).drew;have QC:Hid (nk wr.drew w.heap.size L ks ls (.slice qa qs.length qc) qs):=HQ.out.below (Below.refl _ _).drew;have Qy:Hid (nU wr.drew w.heap.size wr.drew.heap.size g a l l r0):=JE.out;clear HB HS HQ JE c1 c2 c3;generalize wr.drew=Wi at*;obtain⟨Ii,Mr⟩:∃Ii,Ii=pg g ax (fT L.cs R (r0.getLastD 0)):=⟨_,rfl⟩
       have HMv:Hid (Ii=pg g ax (fT L.cs R (r0.getLastD 0))):=Mr;have xV:Hid (Calls prog 155 #[.slice (some ⟨g,a,none⟩) l l,.pointer (some ⟨mx,0,none⟩),.pointer (some ⟨lx,0,none⟩)] Wi fun e w'=>e= .returned Ii/\Below Wi.heap.size Wi w'):=by
        have:=xW.out Wi lZ.out zw.out g a l l lst hl0 hl1 uN.out aee;rw [<-aaE.out,<-Mr]at this;exact this
       clear Mr;go_wp2_with fail;refine xV.out.mono ?_;rintro ev W5 ⟨rfl,hb5⟩;have bW:Hid (Below Wi.heap.size Wi W5):=hb5;clear xV hb5 uN zk;go_wp2;go_loopg [11,12] (L.n - r0.length) (fun gk pv mv W=>∃(f:Nat)(at':List Nat)(gp op m cp:Nat),at'=bP L.cs R f r0/\gk=L.n - at'.length/\f+1<=at'.length/\pv= .slice (some ⟨gp,op,none⟩) m cp/\mv=pg g ax (fT L.cs R (at'.getLastD 0))/\Below Wi.heap.size Wi W/\nU W w.heap.size Wi.heap.size gp op m cp at');case atStart=>exact⟨0,r0,g,a,l,l,rfl,rfl,by rw [hlen];omega,rfl,HMv.out,bW.out,Qy.out.below bW.out⟩
       case round=>
        clear bW Qy;obtain⟨f,at',gp,op,m,cp,hat,rfl,hfl,rfl,rfl,hb,hP⟩:=hrel;have akg:at'.length<=L.n:=by rw [hat,<-hcn];exact RO JI.out f x8.out PO.out
        have LZ:∀p∈at',p<L.n:=by rw [hat,<-hcn];exact FW JI.out x8.out f
        have hm:=hP.len;have hBw:Below w.heap.size w wr:=lZ.out.trans (hb.mono lZ.out.size);have hSw:=zw.out.below hb;cases hnx:fT L.cs R (at'.getLastD 0)with
        |none=>
         rw [show pg g ax none=Value.slice none 0 0 from rfl];have HCh:Hid (bP L.cs R L.n r0=at'):=by
          have:=RN (a:=f) (p:=r0) (by rw [<-hat];exact hnx) (L.n - f);rw [show f+(L.n - f)=L.n by omega,<-hat]at this;exact this
         have Qp:Hid (Calls prog 158 #[.pointer (some ⟨L.lb,0,none⟩),.slice (some ⟨gp,op,none⟩) m cp] wr fun e w'=>∃sb gr cr gc cc gb,e= .returned (.pointer (some ⟨sb,0,none⟩))/\
           aA w' wr.heap.size sb gc m cc (.slice (some ⟨gp,op,none⟩) m cp) (.slice (some ⟨gr,0,none⟩) m cr) (.slice (some ⟨gb,0,none⟩) m m) (ls.getD (at'.headD 0) 0) (mO (ls.getD (at'.headD 0) 0) (kW ls (aD L.cs) L.p (at'.headD 0))) (mO (ls.getD (at'.headD 0) 0) (tJ L.cs ls (aD L.cs) L.p (at'.getLastD 0))) (aV ks at')/\
           w'.ownsRow wr.heap.size 21 1 (.slice (some ⟨gr,0,none⟩) m cr) m (lV (aV L.rs at'))/\aK w' wr.heap.size 108 gb m (iv (aV ks at'))/\gb≠gc/\wr.heap.size<=sb/\sb<w'.heap.size/\Below wr.heap.size wr w'):=
          agk wr L ks ls (HX.out wr hBw) hn gp op m cp at' hP.pl hm (by omega) (by omega) LZ hlv hp
         have HPA:Hid (nU wr w.heap.size Wi.heap.size gp op m cp at'):=hP;have vW:Hid (Below w.heap.size w wr):=hBw;have HSw:Hid (SE wr w.heap.size lx mx mb g L (.slice (some ⟨rg,0,none⟩) k rc) left ax k):=hSw;have JF:Hid (nk wr w.heap.size L ks ls (.slice qa qs.length qc) qs):=QC.out.below hb;have aki:=hSw.l;have hm0:0<m:=by omega
         clear hnx hat hP hb hBw hSw LZ QC zw lZ;go_wp2_with fail;refine Qp.out.mono ?_;rintro ev W6 ⟨sb,gr,cr,gc,cc,gb,rfl,uk,Vv,hbe,Vg,hsb,hsbz,hb6⟩;clear Qp;have Eg:=vW.out.size;have LH:=JF.out.below hb6;have Uu:l7 W6 w.heap.size L ks ls ⟨sb,gr,cr,gc,cc,gb,gp,op,cp,m,at'⟩:=by
          have Mv:=HPA.out.below hb6;exact⟨⟨uk.cell,yV uk.row Eg⟩,yV Vv Eg,yV hbe Eg,Mv.pl,Mv.ty,⟨Mv.lo,Nat.le_trans Eg hsb⟩,Vg,hm,hm0⟩
         have UI:∀q'∈qs,Apart q' ⟨sb,gr,cr,gc,cc,gb,gp,op,cp,m,at'⟩:=fun q' hq'=>by
          have h1:=(JF.out.all q' hq').sq.row.lt q'.gc rfl;have h2:=World.ownsRow.lt (JF.out.all q' hq').be q'.gb rfl;have h3:=uk.row.lt gc rfl;have h4:=World.ownsRow.lt hbe gb rfl;refine⟨?_,?_,?_⟩<;>simp only<;>omega
         have aaG:Hid _:=Uu;have aaA:Hid _:=UI;have HQ6:Hid (nk W6 w.heap.size L ks ls (.slice qa qs.length qc) qs):=LH;have bO:Hid (Below w.heap.size w W6):=vW.out.trans (hb6.mono Eg);have zn:Hid (SE W6 w.heap.size lx mx mb g L (.slice (some ⟨rg,0,none⟩) k rc) left ax k):=HSw.out.below hb6;have Hf:=LH.row;have wV:=bO.out.size;clear uk Vv hbe Vg hsb hsbz hb6 LH Uu UI;go_wp2_with(at_builtin;refine zf _ rfl _ _ 144 rfl w.heap.size 146 iP (.pointer none) 8 underlying144 hiP MF MH MI rfl (by decide) _ _ _ rfl Hf _ _ rfl rfl (by omega) wV ?_);intro v7 w7 wZ fB;have HQ7:Hid (nk w7 w.heap.size L ks ls v7 (qs++[⟨sb,gr,cr,gc,cc,gb,gp,op,cp,m,at'⟩])):=HQ6.out.push aaG.out aaA.out wZ fB;have fe:Hid (Below w.heap.size w w7):=bO.out.grown fB wV (fun y hy=>(Hf.lt y hy).1);have JK:Hid (SE w7 w.heap.size lx mx mb g L (.slice (some ⟨rg,0,none⟩) k rc) left ax k):=by
          exact zn.out.app Hf fB
         clear wZ fB Hf;go_wp2;go_roundg (k - (j+1));case measure=>omega
         case rel=>exact⟨j+1,_,by omega,rfl,by go_num,fe.out,JK.out,HQ7.out,by rw [HF.out,List.map_append,FC.out,HCh.out];rfl,by rw [List.length_append,List.length_singleton];omega⟩
        |some k'=>
         obtain⟨Ml,_,_⟩:=NB hnx;have Mm:k'<ax.length:=by rw [<-zq.out,List.length_map]at Ml;exact Ml
         have hab':=jQ.out _ (dB (d:=(0,0)) Mm);have yM:=GG left ax k' Mm;rw [zq.out]at yM;have hgo:=abQ (a:=f) (p:=r0) (by rw [<-hat];exact hnx);rw [<-hat,yM]at hgo;obtain⟨a',b',LW⟩:∃a' b',ax.getD k' (0,0)=(a',b'):=⟨_,_,rfl⟩
         obtain⟨l',hl'⟩:∃l',l'=b' - a':=⟨_,rfl⟩
         have jh:pg g ax (some k')=Value.slice (some ⟨g,a',none⟩) l' l':=by rw [pg,LW,kN,hl']
         rw [jh];rw [LW]at hab' hgo;have DV:=(uE hab').2.2;have Vh:=(uE hab').2.1;have Vb:=Zb hab';simp only at hab' DV;rw [<-hl']at DV;have hlen3:(at'++bL left (a',b')).length<=L.n:=by rw [<-hgo,<-hcn];exact RO JI.out (f+1) x8.out PO.out
         rw [List.length_append,DV]at hlen3;have hnews:dz wr g a' (nl (bL left (a',b'))):=by
          have:=hSw.r.lf.sub b' a' (by rw [jM];exact hab'.2);rw [Nat.zero_add,<-Xt]at this;exact this
         obtain⟨uq,GZ⟩:∃uq,uq=left.getD (b' - 1) 0:=⟨_,rfl⟩
         have Vd:uq<L.n:=by rw [GZ];exact Jy.out _ (by omega)
         obtain⟨BZ,Ms⟩:∃BZ,BZ=pg g ax (fT L.cs R uq):=⟨_,rfl⟩
         have CW:Hid (BZ=pg g ax (fT L.cs R ((at'++bL left (a',b')).getLastD 0))):=by show _=_;rw [afi _ _ Vh,Vb,<-GZ];exact Ms
         have ji:Hid (at'++bL left (a',b')=bP L.cs R (f+1) r0):=hgo.symm;have vW:Hid (Below w.heap.size w wr):=hBw;have hbz:Wi.heap.size<=wr.heap.size:=hb.size;have ake:0<l':=by omega
         clear yM hgo jh hnx hat LW Vh Vb Ml Mm LZ hSw hBw;generalize bL left (a',b')=r' at*;obtain⟨hPp,_,_,_,hPf⟩:=hP;have sV:Hid ((l'=b' - a'/\a'<b'/\b'<=left.length)/\BZ=pg g ax (fT L.cs R uq)/\uq=left.getD (b' - 1) 0/\r'.length=l'/\at'.length=m/\m+l'<=L.n/\uq<L.n):=⟨⟨hl',hab'⟩,Ms,GZ,DV,hm,by omega,Vd⟩
         have hml:m+l'<=1000:=by omega
         have akf:(0:Int)<(l':Int):=by omega
         clear hl' hab' Ms GZ DV hm Vd hlen3;rcases hPf with hcm|⟨hop,hown⟩
         .subst hcm;go_wp2_with(at_builtin;refine wpList_append_grows _ rfl _ _ 31 rfl 3 iI (.int .i64 0) 1 8 underlying31 p8 p9 qb qd rfl (by decide) (some ⟨gp,op,none⟩) cp cp (iv (nl at')) rfl (fun h=>by cases h) (by rw [vC,jM,sV.out.2.2.2.2.1];omega) (fun bb hbb j u hj=>by cases hbb;rw [Addr.add_lit];exact MN hPp j u hj) ⟨g,a',none⟩ l' l' (iv (nl r')) rfl (by rw [vC,jM,sV.out.2.2.2.1];omega) (fun j u hj=>by rw [Addr.add_lit];exact MN hnews j u hj) V4 (by omega) (by unfold maxLen;omega) (by omega) ?_);intro v6 w6 hown6 jI;have hap:iv (nl at')++iv (nl r')=iv (nl (at'++r')):=by simp [iv,nl]
          rw [hap]at hown6;obtain⟨g6,c6,rfl,_,_,_⟩:=kg hown6 (by omega);have bO:Hid (Below Wi.heap.size Wi w6):=hb.grown jI hbz (fun y hy=>by cases hy);have xZ:Hid (nU w6 w.heap.size Wi.heap.size g6 0 (cp+l') c6 (at'++r')):=nU.own (yV hown6 hbz) lZ.out.size;clear hown6 jI hap hnews vW;have zn:Hid (SE w6 w.heap.size lx mx mb g L (.slice (some ⟨rg,0,none⟩) k rc) left ax k):=zw.out.below bO.out;have pG:Hid (Calls prog 155 #[.slice (some ⟨g,a',none⟩) l' l',.pointer (some ⟨mx,0,none⟩),.pointer (some ⟨lx,0,none⟩)] w6 fun e w'=>e= .returned BZ/\Below w6.heap.size w6 w'):=by
           have he:=sV.out;have hc:w6.cell? ⟨g,a'+(l' - 1),none⟩=some (.int .i64 ((uq:Nat):Int)):=by
            have:=zn.out.r.lf (b' - 1) (by rw [jM];omega);rw [Nat.zero_add,uw _ _ (by omega)]at this;rw [show a'+(l' - 1)=b' - 1 by omega,he.2.2.1];exact this
           have:=xW.out w6 (lZ.out.trans (bO.out.mono lZ.out.size)) zn.out g a' l' l' uq (by omega) (by omega) hc he.2.2.2.2.2.2;rw [<-he.2.1]at this;exact this
          have CV:Hid (r'.length=l'/\at'.length=cp/\cp+l'<=L.n):=⟨sV.out.2.2.2.1,sV.out.2.2.2.2.1,sV.out.2.2.2.2.2.1⟩
          go_wp2_with fail;refine pG.out.mono ?_;rintro ev W7 ⟨rfl,jv⟩;have fe:Hid (Below Wi.heap.size Wi W7):=bO.out.trans (jv.mono bO.out.size);have pM:Hid (nU W7 w.heap.size Wi.heap.size g6 0 (cp+l') c6 (at'++r')):=xZ.out.below jv;clear pG jv;go_wp2;go_roundg (L.n - (at'++r').length);case measure=>have h1:=CV.out;rw [List.length_append,h1.1,h1.2.1];omega
          case rel=>exact⟨f+1,at'++r',g6,0,cp+l',c6,ji.out,rfl,by have h1:=CV.out;rw [List.length_append,h1.1];omega,rfl,CW.out,fe.out,pM.out⟩
         .subst hop;go_wp2_with(at_builtin;refine wpList_append_own _ rfl _ _ 31 rfl Wi.heap.size 3 iI (.int .i64 0) 1 8 underlying31 p8 p9 qb qd rfl (by decide) (.slice (some ⟨gp,0,none⟩) m cp) m (iv (nl at')) rfl hown ⟨g,a',none⟩ l' l' (iv (nl r')) rfl (by rw [vC,jM,sV.out.2.2.2.1];omega) (fun j u hj=>by rw [Addr.add_lit];exact MN hnews j u hj) V4 (by unfold maxLen;omega) (by omega) hbz ?_);intro v6 w6 hown6 jI _;have hap:iv (nl at')++iv (nl r')=iv (nl (at'++r')):=by simp [iv,nl]
          rw [hap]at hown6;obtain⟨g6,c6,rfl,_,_,_⟩:=kg hown6 (by omega);have bO:Hid (Below Wi.heap.size Wi w6):=hb.grown jI hbz (fun y hy=>(hown.lt y hy).1);have xZ:Hid (nU w6 w.heap.size Wi.heap.size g6 0 (m+l') c6 (at'++r')):=nU.own hown6 lZ.out.size;clear hown6 jI hap hnews vW;have zn:Hid (SE w6 w.heap.size lx mx mb g L (.slice (some ⟨rg,0,none⟩) k rc) left ax k):=zw.out.below bO.out;have pG:Hid (Calls prog 155 #[.slice (some ⟨g,a',none⟩) l' l',.pointer (some ⟨mx,0,none⟩),.pointer (some ⟨lx,0,none⟩)] w6 fun e w'=>e= .returned BZ/\Below w6.heap.size w6 w'):=by
           have he:=sV.out;have hc:w6.cell? ⟨g,a'+(l' - 1),none⟩=some (.int .i64 ((uq:Nat):Int)):=by
            have:=zn.out.r.lf (b' - 1) (by rw [jM];omega);rw [Nat.zero_add,uw _ _ (by omega)]at this;rw [show a'+(l' - 1)=b' - 1 by omega,he.2.2.1];exact this
           have:=xW.out w6 (lZ.out.trans (bO.out.mono lZ.out.size)) zn.out g a' l' l' uq (by omega) (by omega) hc he.2.2.2.2.2.2;rw [<-he.2.1]at this;exact this
          have CV:Hid (r'.length=l'/\at'.length=m/\m+l'<=L.n):=⟨sV.out.2.2.2.1,sV.out.2.2.2.2.1,sV.out.2.2.2.2.2.1⟩
          go_wp2_with fail;refine pG.out.mono ?_;rintro ev W7 ⟨rfl,jv⟩;have fe:Hid (Below Wi.heap.size Wi W7):=bO.out.trans (jv.mono bO.out.size);have pM:Hid (nU W7 w.heap.size Wi.heap.size g6 0 (m+l') c6 (at'++r')):=xZ.out.below jv;clear pG jv;go_wp2;go_roundg (L.n - (at'++r').length);case measure=>have h1:=CV.out;rw [List.length_append,h1.1,h1.2.1];omega
          case rel=>exact⟨f+1,at'++r',g6,0,m+l',c6,ji.out,rfl,by have h1:=CV.out;rw [List.length_append,h1.1];omega,rfl,CW.out,fe.out,pM.out⟩
    .obtain rfl:j=k:=by omega
     have wY:¬(j:Int)<(j:Int):=by omega
     have HB:Hid (Below w.heap.size w wr):=hb;have HQ:Hid (nk wr w.heap.size L ks ls (.slice qa qs.length qc) qs):=hQ;have FC:Hid (qs.map fA.at'=(R.filter (fQ L.cs)).map (bP L.cs R L.n)):=by
      show _=_;rw [yK,htk,zq.out]
     clear hb hQ yK hS;go_wp2;go_ret;exact⟨_,rfl,qs,HQ.out,FC.out,HB.out⟩
end
theorem Nu(w:World):(Instr.makeSlice 31 (.int .i64 0) (.int .i64 0)).run prog w= .ok (.slice (some ⟨w.heap.size,0,none⟩) 0 0) (w.alloc (.cells (madeCells #[.int .i64 0] 0) 3)):=
 run_make_row' (P:=prog) 31 3 (.int .i64 0) 8 underlying31 Tryz.xh rfl .i64 .i64 0 (by omega) (by omega) w
