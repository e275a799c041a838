import Derived.Test.YtkbinfhclaafhaaGreatDoorH16
import Derived.Test.YtkbinfhclaafhaaGreatDoorH17
namespace Go.Proofs.YtkbinfhclaafhaaGreatDoor
open Go.RowKit
open Go.Proofs.Tryz
set_option maxRecDepth 100000
set_option maxHeartbeats 32000000
section
attribute [local go_sem ↓] Go.wp_at_zero Go.wp_at_succ
theorem YM(w:World):Calls prog 86 #[] w fun e w'=>∃g,e= .returned (.slice (some ⟨g,0,none⟩) 10 10)/\(∀k,k<10->w'.cell? ⟨g,k,none⟩=some (.func (.func (lq k)) #[] #[]))/\w.heap.size<=g/\g<w'.heap.size/\Below w.heap.size w w':=by
 go_enter func86,ntmps86;go_wp2;go_ret;refine⟨_,rfl,fun k hk=> ?_,Nat.le_refl _,by simp,(Below.refl _ _).alloc (Nat.le_refl _) _⟩
 match k,hk with
 |0,_=>simp [lq]
 |1,_=>simp [lq]
 |2,_=>simp [lq]
 |3,_=>simp [lq]
 |4,_=>simp [lq]
 |5,_=>simp [lq]
 |6,_=>simp [lq]
 |7,_=>simp [lq]
 |8,_=>simp [lq]
 |9,_=>simp [lq]
theorem aa7(VC:∀(W:World)(L:LP)(ks ls:List Int),LX W L ks ls->L.n<=1000->(∀p,0<=ls.getD p 0/\ls.getD p 0<=1000)->(0<=L.p/\L.p<=1000)->
   Calls prog 87 #[.pointer (some ⟨L.lb,0,none⟩)] W fun e w'=>∃av qs,e= .returned av/\nk w' W.heap.size L ks ls av qs/\qs.map fA.at'=((eZ ls (aD L.cs)).filter (fQ L.cs)).map (bP L.cs (eZ ls (aD L.cs)) L.n)/\Below W.heap.size W w')
  (s:ByteArray) (l:List Int) (d:Int) (w:World) (hs:s.size<=600) (hr:dh s=some l) (hl:l≠[]) (hl6:l.length<=1000) (hbr:Br w) (hcs:∀c∈l.map cls,0<=c/\c<=21) (hcl:∀(r:Int)(W:World),Below w.heap.size w W->Calls prog 66 #[.int .i32 r] W fun e w'=>e= .returned (.int .i64 (cls r))/\Below W.heap.size W w'):
  Calls prog 55 #[.string s,.int .i64 d] w fun e w'=>∃g,e= .returned (.slice (some ⟨g,0,none⟩) l.length l.length)/\aK w' w.heap.size 3 g l.length (iv (gB l (l.map cls) d))/\Below w.heap.size w w':=by
 have HSQ:Hid _:=VC;clear VC;have wu:Hid (Calls prog 84 #[.string s,.int .i64 d] w fun e w'=>∃L:LP,e= .returned (.pointer (some ⟨L.lb,0,none⟩))/\LX w' L L.cs (List.replicate L.n 0)/\L.cs=l.map cls/\L.rs=l/\L.n=l.length/\L.p=dO (l.map cls) d/\L.B=w.heap.size/\Below w.heap.size w w'):=Xm s l d w hs hr hl hcl;have lG:Hid (Br w):=hbr;have DX:0<=dO (l.map cls) d/\dO (l.map cls) d<=1:=by rcases ag1 (l.map cls) d with h|h<;>omega
 clear hs hr hl hbr hcl;go_enter func55,ntmps55;go_wp2_with fail;refine wu.out.mono ?_;rintro ev w1 ⟨L,rfl,hX,GM,Uq,hLn,DL,tY,hb1⟩;clear wu;have Fy:Hid (∀c∈L.cs,0<=c/\c<=21):=by show∀c∈L.cs,_;rw [GM];exact hcs
 have hp:0<=L.p/\L.p<=125:=by rw [DL];omega
 have HEq:Hid (gB l (l.map cls) d=gB L.rs L.cs d/\L.p=dO L.cs d/\l.length=L.n/\w.heap.size=L.B):=⟨by rw [Uq,GM],by rw [GM];exact DL,hLn.symm,tY.symm⟩
 have zU:L.n<=1000:=by omega
 have hn0:L.cs.length=L.n:=hX.len;have P7:Hid (Calls prog 85 #[.pointer (some ⟨L.lb,0,none⟩)] w1 fun e w'=>e= .returned (.tuple #[])/\LX w' L (kP L.cs L.p) (aH L.cs L.p)/\Below L.B w1 w'):=aix w1 L hX (by rw [tY];exact hb1.size) hp zU;have HB1:Hid (Below L.B w w1):=by show Below _ _ _;rw [tY];exact hb1
 clear hX GM Uq hLn DL hb1 hcs DX hl6;go_wp2_with fail;refine P7.out.mono ?_;rintro ev w2 ⟨rfl,hX2,hb2⟩;clear P7;have hB2:Below L.B w w2:=HB1.out.trans hb2;have hz2:L.B<=w2.heap.size:=by have:=hB2.size;rw [<-HEq.out.2.2.2]at*;omega
 obtain⟨n,hn⟩:∃n,n=L.n:=⟨_,rfl⟩
 have hmk:=run_make_row' (P:=prog) 31 3 (.int .i64 0) 8 underlying31 Tryz.xh rfl .i64 .i64 n (by omega) (by omega);have c3:=hX2.f3;rw [<-hn]at c3;have hb3:Below w2.heap.size w2 (w2.alloc (.cells (madeCells #[.int .i64 0] n) 3)):=(Below.refl _ _).alloc (Nat.le_refl _) _;have uf:=hX2.below hb3;have hO3:aK (w2.alloc (.cells (madeCells #[.int .i64 0] n) 3)) L.B 3 w2.heap.size n (List.replicate n (.int .i64 0)):=aK.made hz2 (by omega);have hB3:Below L.B w (w2.alloc (.cells (madeCells #[.int .i64 0] n) 3)):=hB2.alloc hz2 _;have hz3:(w2.alloc (.cells (madeCells #[.int .i64 0] n) 3)).heap.size=w2.heap.size+1:=by simp
 have bZ:Hid (∀g,L.has g->g<w2.heap.size):=hX2.lt;have FQ:=uf.f3;rw [<-hn]at FQ;have hrl:=uf.rl;unfold aK at hrl;rw [<-hn]at hrl;obtain⟨W4,hcp,U1,hg4⟩:=KO (P:=prog) (w:=w2.alloc (.cells (madeCells #[.int .i64 0] n) 3)) (sT:=31) (e:=3) (ty:=3) (g:=w2.heap.size) underlying31 Tryz.Zn (aK.heap hO3) (by simp) hrl (fun v hv=>by simp only [iv,List.mem_map]at hv;obtain⟨x,_,rfl⟩:=hv;rfl);have hap:∀g,L.has g->g≠w2.heap.size:=fun g hg=>by have:=hX2.lt g hg;omega
 have UF:LX W4 L (kP L.cs L.p) (aH L.cs L.p):=uf.same hg4.size fun g hg=>hg4.block g (uf.lt g hg) (fun e=>hap g hg (Option.some.inj e))
 have hO4:aK W4 L.B 3 w2.heap.size n (iv (aH L.cs L.p)):=aK.NN U1 hz2 (by rw [vC,Pt,hn];exact hn0) (by omega);have hB4:Below L.B w W4:=hB3.grown hg4 (by omega) (fun k hk=>by cases hk;exact hz2);have yO:w2.heap.size<W4.heap.size:=by have:=hg4.size;omega
 have UK:Br W4:=lG.out.below (by have:=hB4;rw [<-HEq.out.2.2.2]at this;exact this);have xU:Hid (FS W4 L (kP L.cs L.p) (aH L.cs L.p) w2.heap.size (aH L.cs L.p)/\Below L.B w W4/\w2.heap.size<W4.heap.size/\Br W4):=⟨⟨UF,by rw [<-hn];exact hO4,hap⟩,hB4,yO,UK⟩
 have HZ2:Hid (L.B<=w2.heap.size):=hz2;have kS:Hid (n=L.n):=hn;have hn7:n<=1000:=by omega
 clear hX2 hb2 hB2 hb3 uf hO3 hB3 hz3 hz2 HB1 hn hrl U1 hg4 UF hO4 hB4 yO UK hap;obtain⟨go,hgo⟩:∃go,go=w2.heap.size:=⟨_,rfl⟩
 have A9:Hid (Calls prog 86 #[] W4 fun e w'=>∃g,e= .returned (.slice (some ⟨g,0,none⟩) 10 10)/\(∀k,k<10->w'.cell? ⟨g,k,none⟩=some (.func (.func (lq k)) #[] #[]))/\W4.heap.size<=g/\g<w'.heap.size/\Below W4.heap.size W4 w'):=YM W4;go_wp2_with fail;rw [<-hgo]at xU bZ HZ2 ⊢;clear hgo c3 FQ hmk hcp;refine A9.out.mono ?_;rintro ev W5 ⟨g,rfl,Vo,hg5,U0,hb5⟩;clear A9;have tX:=xU.out.1.below hb5;have jf:Below L.B w W5:=xU.out.2.1.trans (hb5.mono (by have:=xU.out.2.2.1;have:=HZ2.out;omega));have UL:=xU.out.2.2.2.below hb5;have iR:go<W5.heap.size:=by have:=xU.out.2.2.1;have:=hb5.size;omega
 have hgg:g≠go:=by have:=xU.out.2.2.1;omega
 have QH:Hid (Calls prog 87 #[.pointer (some ⟨L.lb,0,none⟩)] W5 fun e w'=>∃av qs,e= .returned av/\nk w' W5.heap.size L (kP L.cs L.p) (aH L.cs L.p) av qs/\qs.map fA.at'=((eZ (aH L.cs L.p) (aD L.cs)).filter (fQ L.cs)).map (bP L.cs (eZ (aH L.cs L.p) (aD L.cs)) L.n)/\Below W5.heap.size W5 w'):=
  HSQ.out W5 L _ _ tX.ln zU (fun p=>by have:=Jc (cs:=L.cs) hp p;omega) (by omega)
 have HC:Hid (J6 W5.heap.size L go g):=⟨by have:=HZ2.out;omega,iR,HZ2.out,U0,hgg,fun x hx=>by have:=bZ.out x hx;omega,by
  obtain⟨tt,fr,e⟩:=lG.out;have:=bK e;rw [<-HEq.out.2.2.2];exact this⟩
 have H5:Hid (FS W5 L (kP L.cs L.p) (aH L.cs L.p) go (aH L.cs L.p)/\(∀k,k<10->W5.cell? ⟨g,k,none⟩=some (.func (.func (lq k)) #[] #[]))/\Br W5/\Below L.B w W5):=⟨tX,Vo,UL,jf⟩
 clear xU tX jf UL iR hgg Vo hg5 U0 hb5;go_wp2_with fail;refine QH.out.mono ?_;rintro ev W6 ⟨av,qs,rfl,hQ,yK,hb6⟩;clear QH;obtain⟨B,hB⟩:∃B,B=W5.heap.size:=⟨_,rfl⟩
 rw [<-hB]at hQ HC;have Un:LV W6 w B L (kP L.cs L.p) (aH L.cs L.p) go g av qs 0 (aH L.cs L.p):=⟨H5.out.1.below hb6,fun k hk=>cell_grown (r:=none) (Bj hb6) (H5.out.2.1 k hk) (by simp),hQ.row,fun q hq=>hQ.all q (by simpa using hq),H5.out.2.2.1.below hb6,H5.out.2.2.2.trans (hb6.mono (by have:=HC.out.lo;omega))⟩
 have Ju:Hid (LV W6 w B L (kP L.cs L.p) (aH L.cs L.p) go g av qs 0 (aH L.cs L.p)):=Un;have HZ:Hid (B<=W6.heap.size):=by show _<=_;rw [hB];exact hb6.size
 have JM:Hid (qs.map (nN L (aH L.cs L.p))=iV L.cs (aH L.cs L.p) (aD L.cs) L.p):=aiW hn0 yK;have vU:Hid (qs.Pairwise Apart):=hQ.ap;have HIn:Hid (∀q∈qs,nN L (aH L.cs L.p) q∈iV L.cs (aH L.cs L.p) (aD L.cs) L.p):=fun q hq=>by
  rw [<-JM.out];exact List.mem_map.2 ⟨q,hq,rfl⟩
 obtain⟨ra,rc,rfl⟩:=fH hQ.row;have Mx:qs.length<=1000:=by
  have h1:(qs.map fA.at').length<=L.n:=by
   rw [yK,List.length_map];refine Nat.le_trans (List.length_filter_le _ _) ?_;have hR:=Po L.cs L.p;have h2:=Dz (eZ (aH L.cs L.p) (aD L.cs)).flatten L.cs.length hR.oW (fun a ha=>by obtain⟨r,hr,ha⟩:=List.mem_flatten.1 ha;exact hR.lt r hr a ha);have h3:∀l:List (List Nat),(∀r∈l,r≠[])->l.length<=l.flatten.length:=by
    intro l
    induction l with
    |nil=>intro _;simp
    |cons a l ih=>
     intro hl;have h1:=ih (fun r hr=>hl r (by simp [hr]));have h2:0<a.length:=List.length_pos_iff.2 (hl a (by simp));simp only [List.length_cons,List.flatten_cons,List.length_append];omega
   have:=h3 _ hR.ne;omega
  rw [List.length_map]at h1;omega
 obtain⟨N,hN⟩:∃N,N=qs.length:=⟨_,rfl⟩
 rw [<-hN]at Ju Mx ⊢;have kR:Hid (qs.length=N):=hN.symm;clear hQ yK hb6 hB Un H5 hN;go_wp2;go_loopg [33] N (fun gk iv W=>∃(j:Nat),j<=N/\gk=N - j/\iv= .int .i64 j/\B<=W.heap.size/\LV W w B L (kP L.cs L.p) (aH L.cs L.p) go g (.slice ra N rc) qs j ((((qs.take j).map (nN L (aH L.cs L.p))).flatMap (kQ L.rs (kP L.cs L.p))).foldl fE (aH L.cs L.p)));case atStart=>exact⟨0,by omega,rfl,rfl,HZ.out,Ju.out⟩
 case round=>
  clear Ju HZ;obtain⟨j,hj,rfl,rfl,hz,hV⟩:=hrel;by_cases hlt:j<N
  .have hjq:j<qs.length:=by rw [kR.out];exact hlt
   obtain⟨q,hq⟩:∃q,qs[j]? =some q:=⟨_,List.getElem?_eq_getElem hjq⟩
   have hrow:=hV.row;rw [kR.out]at hrow;obtain⟨rg,ER,hre,_,_,_⟩:=kg hrow (by omega);have D6:ra=some ⟨rg,0,none⟩:=(show ra=some ⟨rg,0,none⟩/\rc=ER by simpa using hre).1;subst D6;have c1:wr.cell? ⟨rg,j,none⟩=some (.pointer (some ⟨q.sb,0,none⟩)):=by
    rw [World.ownsRow.cellAt hrow j (by omega),List.getElem?_map,hq];rfl
   have yF:=hV.sq q (by rw [drop_cons hq];exact List.mem_cons_self);obtain⟨sq,uk⟩:∃sq,sq=nN L (aH L.cs L.p) q:=⟨_,rfl⟩
   have hin:sq∈iV L.cs (aH L.cs L.p) (aD L.cs) L.p:=by rw [uk];exact HIn.out q (List.mem_of_getElem? hq)
   obtain⟨s1,s2,_,_,s5⟩:=EZ Fy.out hp hin;have hat:sq.at'=q.at':=by rw [uk];rfl
   have mG:0<=sq.level:=by rw [uk];exact(Jc hp _).1
   have hS0:pU wr B L sq.level sq.aa sq.aj (aV (kP L.cs L.p) q.at') q (aV (kP L.cs L.p) q.at'):=by rw [uk];exact yF.sqs
   have htk:(qs.take (j+1)).map (nN L (aH L.cs L.p))=(qs.take j).map (nN L (aH L.cs L.p))++[sq]:=by
    rw [List.take_add_one,hq,List.map_append,uk];rfl
   have hsub:((qs.take j).map (nN L (aH L.cs L.p))).Sublist (iV L.cs (aH L.cs L.p) (aD L.cs) L.p):=by
    rw [<-JM.out];exact(List.take_sublist j qs).map _
   have Vi:=aha Fy.out L.rs hp _ hsub;have QJ:Hid (LV wr w B L (kP L.cs L.p) (aH L.cs L.p) go g (.slice (some ⟨rg,0,none⟩) N rc) qs (j+1) ((((qs.take j).map (nN L (aH L.cs L.p))).flatMap (kQ L.rs (kP L.cs L.p))).foldl fE (aH L.cs L.p))):=⟨hV.fs,hV.rl,hV.row,fun q' hq'=>hV.sq q' (by rw [drop_cons hq];exact List.mem_cons_of_mem _ hq'),hV.br,hV.hb⟩
   have cK:Hid (pU wr B L sq.level sq.aa sq.aj (aV (kP L.cs L.p) q.at') q (aV (kP L.cs L.p) q.at')):=hS0;have HQ:Hid (B<=q.gc/\q.m<=1000/\0<q.m/\q.at'.length=q.m/\(∀q'∈qs.drop (j+1),Apart q q')/\(∀p∈q.at',p<L.n)/\B<=q.gp/\B<=q.sb):=by
    refine⟨(yF.sq.row.lt q.gc rfl).1,?_,yF.pos,yF.len,acG vU.out hq,fun p DX=>by rw [<-hn0];exact(s5 p (by rw [hat];exact DX)).1,yF.lo.1,yF.lo.2⟩;have h1:=Dz q.at' L.n ?_ (fun p DX=>by rw [<-hn0];exact(s5 p (by rw [hat];exact DX)).1)
    .rw [yF.len]at h1;omega
    .rw [<-hat];have h2:=OI L.cs L.p;exact h2.sublist (by rw [List.flatMap_def];exact List.sublist_flatten_of_mem (List.mem_map.2 ⟨sq,hin,rfl⟩))
   have wz:Hid (((((qs.take (j+1)).map (nN L (aH L.cs L.p))).flatMap (kQ L.rs (kP L.cs L.p))).foldl fE (aH L.cs L.p))=(kQ L.rs (kP L.cs L.p) sq).foldl fE ((((qs.take j).map (nN L (aH L.cs L.p))).flatMap (kQ L.rs (kP L.cs L.p))).foldl fE (aH L.cs L.p))):=by
    show _=_;rw [htk,List.flatMap_append,List.foldl_append];simp
   have QI:Hid (kQ L.rs (kP L.cs L.p) sq=lD q.at' sq.level (ET sq.level sq.aa sq.aj (aV (kP L.cs L.p) q.at') (aV L.rs q.at') 10)):=by
    show _=_;rw [kQ,<-ah1,hat]
   have HOb:Hid (∀p,0<=((((qs.take j).map (nN L (aH L.cs L.p))).flatMap (kQ L.rs (kP L.cs L.p))).foldl fE (aH L.cs L.p)).getD p 0/\((((qs.take j).map (nN L (aH L.cs L.p))).flatMap (kQ L.rs (kP L.cs L.p))).foldl fE (aH L.cs L.p)).getD p 0<=1000):=fun p=>by have:=Vi p;omega
   have hk0:(aV (kP L.cs L.p) q.at').length=q.m:=by rw [TS];exact HQ.out.2.2.2.1
   have wY:(j:Int)<(N:Int):=by omega
   have HZ:Hid (B<=wr.heap.size):=hz;clear hjq hrow hre yF hin s5 hS0 htk hsub Vi hV hz;generalize((((qs.take j).map (nN L (aH L.cs L.p))).flatMap (kQ L.rs (kP L.cs L.p))).foldl fE (aH L.cs L.p))=oo at*;generalize kQ L.rs (kP L.cs L.p) sq=tp at*;obtain⟨k0,U8⟩:∃k0,k0=aV (kP L.cs L.p) q.at':=⟨_,rfl⟩
   rw [<-U8]at cK QI hk0;clear U8 hq uk hat;go_wp2;go_loopg [39] 10 (fun gk iv W=>∃k:Nat,k<=10/\gk=10 - k/\iv= .int .i64 k/\B<=W.heap.size/\LV W w B L (kP L.cs L.p) (aH L.cs L.p) go g (.slice (some ⟨rg,0,none⟩) N rc) qs (j+1) oo/\pU W B L sq.level sq.aa sq.aj k0 q (ET sq.level sq.aa sq.aj k0 (aV L.rs q.at') k));case atStart=>exact⟨0,by omega,rfl,rfl,HZ.out,QJ.out,cK.out⟩
   case round=>
    clear QJ cK HZ c1;obtain⟨k,hk,rfl,rfl,hz,hV,hS⟩:=hrel;by_cases hlt2:k<10
    .have ck:=hV.rl k hlt2;have hen:=ah0 k;have HR:Hid (Calls prog (lq k) #[.pointer (some ⟨q.sb,0,none⟩)] wr fun e W'=>e= .returned (.tuple #[])/\pU W' B L sq.level sq.aa sq.aj k0 q (ET sq.level sq.aa sq.aj k0 (aV L.rs q.at') (k+1))/\wr.grownBy W' (some q.gc)):=ahZ hS hV.br HQ.out.2.1 HQ.out.2.2.1 mG s1 s2 hk0 k;have HV:Hid (LV wr w B L (kP L.cs L.p) (aH L.cs L.p) go g (.slice (some ⟨rg,0,none⟩) N rc) qs (j+1) oo):=hV;have PZ:Hid (∃cur,wr.heap[q.gc]? =some (.cells cur 108 (0,0))):=vz hS.sq.row;have hk10:(k:Int)<10:=by omega
     have HZ:Hid (B<=wr.heap.size):=hz;clear hV hS hz;generalize lq k=fk at*;go_wp2_with fail;refine HR.out.mono ?_;rintro ev W7 ⟨rfl,Ux,fB⟩;have JW:Hid (LV W7 w B L (kP L.cs L.p) (aH L.cs L.p) go g (.slice (some ⟨rg,0,none⟩) N rc) qs (j+1) oo):=HV.out.rule HC.out PZ.out HQ.out.1 HQ.out.2.2.2.2.1 fB (by have:=HC.out.lo;have:=HZ.out;omega);have JK:Hid _:=Ux;have J3:Hid (B<=W7.heap.size):=by have:=fB.size;have:=HZ.out;show _<=_;omega
     clear Ux fB HR HV PZ HZ ck hen;go_wp2;go_roundg (10 - (k+1));case measure=>omega
     case rel=>exact⟨k+1,by omega,rfl,by go_num,J3.out,JW.out,JK.out⟩
    .obtain rfl:k=10:=by omega
     have hk10:¬((10:Nat):Int)<10:=by omega
     have Qa:Hid (Calls prog 88 #[.pointer (some ⟨q.sb,0,none⟩),.slice (some ⟨go,0,none⟩) n n] wr fun e w'=>e= .returned (.tuple #[])/\dx w' L.B go n n (tp.foldl fE oo)/\wr.grownBy w' (some go)):=by
      have:=aiy wr B q.sb q.gc q.m q.cc q.gp q.op q.cp _ _ sq.level sq.aa sq.aj _ q.at' L.B go n oo hS.sq hS.pl HQ.out.2.2.2.1 (by rw [kS.out];exact hV.fs.row) (by have:=HC.out.Lu;have:=HQ.out;omega) (by rw [kS.out];exact HQ.out.2.2.2.2.2.1) HQ.out.2.1 mG HOb.out;rw [<-QI.out]at this;exact this
     have HV:Hid (LV wr w B L (kP L.cs L.p) (aH L.cs L.p) go g (.slice (some ⟨rg,0,none⟩) N rc) qs (j+1) oo):=hV;have HZ:Hid (B<=wr.heap.size):=hz;clear hV hS hz;go_wp2_with fail;refine Qa.out.mono ?_;rintro ev W7 ⟨rfl,Uw,fB⟩;have JW:Hid (LV W7 w B L (kP L.cs L.p) (aH L.cs L.p) go g (.slice (some ⟨rg,0,none⟩) N rc) qs (j+1) (tp.foldl fE oo)):=HV.out.impl HC.out (by rw [<-kS.out];exact Uw) fB (by have:=HC.out.lo;have:=HZ.out;omega);have J3:Hid (B<=W7.heap.size):=by have:=fB.size;have:=HZ.out;show _<=_;omega
     clear Uw fB Qa HV HZ;go_wp2;go_roundg (N - (j+1));case measure=>omega
     case rel=>exact⟨j+1,by omega,rfl,by go_num,J3.out,by rw [wz.out];exact JW.out⟩
  .obtain rfl:j=N:=by omega
   have wY:¬(j:Int)<(j:Int):=by omega
   have LF:=hV.fs;have HB:Hid (Below L.B w wr):=hV.hb;have CU:Hid (L.B<=wr.heap.size):=by have:=HC.out.lo;show _<=_;omega
   have hall:(qs.take j).map (nN L (aH L.cs L.p))=iV L.cs (aH L.cs L.p) (aD L.cs) L.p:=by
    rw [List.take_of_length_le (by rw [kR.out];exact Nat.le_refl _),JM.out]
   rw [hall]at LF;have heq:=afy (cs:=L.cs) (para:=L.p) Fy.out L.rs d HEq.out.2.1 hp;generalize((iV L.cs (aH L.cs L.p) (aD L.cs) L.p).flatMap (kQ L.rs (kP L.cs L.p))).foldl fE (aH L.cs L.p)=oo at*;have Fx:Hid (Calls prog 89 #[.pointer (some ⟨L.lb,0,none⟩),.slice (some ⟨go,0,none⟩) L.n L.n] wr fun e w'=>e= .returned (.tuple #[])/\FS w' L (kP L.cs L.p) (aH L.cs L.p) go (tT L.p (l1 L.p L.cs oo))/\wr.grownBy w' (some go)):=aiA wr L _ _ go oo LF zU Fy.out;rw [<-kS.out]at Fx;rw [heq]at Fx;clear LF hall heq hV hz;go_wp2_with fail;refine Fx.out.mono ?_;rintro ev W8 ⟨rfl,Uh,jg⟩;have QD:Hid (aK W8 L.B 3 go n (iv (gB L.rs L.cs d))/\Below L.B w W8):=⟨by have:=Uh.row;rw [<-kS.out]at this;exact this,HB.out.grown jg CU.out (fun y hy=>by cases hy;exact HC.out.Lt)⟩
   clear Fx Uh jg;go_wp2;go_ret;exact⟨go,by rw [HEq.out.2.2.1,<-kS.out];rfl,by rw [HEq.out.1,HEq.out.2.2.1,HEq.out.2.2.2,<-kS.out];exact QD.out.1,by rw [HEq.out.2.2.2];exact QD.out.2⟩
end
