import Derived.Test.YtkbinfhclaafhaaGreatDoorZ05
import Derived.Test.YtkbinfhclaafhaaGreatDoorZ06
import Derived.Deep.RegionWith
import Derived.Deep.DeepCutAuto
import Derived.Test.YtkbinfhclaafhaaGreatDoorZ12
import Derived.Laws.CopyOwn
namespace Go.Proofs.YtkbinfhclaafhaaGreatDoor
open Go.RowKit
open Go.Proofs.Tryz
set_option maxRecDepth 100000
set_option maxHeartbeats 32000000
set_option linter.all false
theorem mj.call {w0 w w':World}{B:Nat}{tv ov rv:Value}{t o r:List Int}(h:mj w0 w B tv ov rv t o r)(hb:Below w.heap.size w w'):mj w0 w' B tv ov rv t o r:=
 ⟨h.below.trans (hb.mono h.base),bU h.base hb.size,eH h.ht hb,eH h.ho hb,eH h.hr hb,h.to',h.tr,h.or'⟩
theorem mj.write {w0 w w':World}{B g n c:Nat}{ov rv:Value}{t t' o r:List Int}(h:mj w0 w B (.slice (some ⟨g,0,none⟩) n c) ov rv t o r)(hr:bf w' B g n c t')(hg:w.grownBy w' (some g)):mj w0 w' B (.slice (some ⟨g,0,none⟩) n c) ov rv t' o r:=by
 have hl:=hr.len;refine⟨h.below.grown hg h.base (fun k hk=>by have:=sJ h.ht k;exact this hk),bU h.base hg.size,?_,dO h.ho hg h.to'.symm.ne,dO h.hr hg h.tr.symm.ne,h.to',h.tr,h.or'⟩;rw [hl];exact hr
theorem XY(l:List Int)(at':List Nat)(k:Nat)(hk:k<at'.length):bz l (at'.take (k+1))=bz l (at'.take k)++[l.getD (at'.getD k 0) 0]:=by
 unfold bz;rw [pZ hk,fO];simp [aO,aQ hk]
theorem LF(l:List Int)(at':List Nat):(bz l at').length=at'.length:=by simp [bz]
theorem Fu {w:World}{B g n c:Nat}{l:List Int}(h:w.ownsRow B 3 1 (.slice (some ⟨g,0,none⟩) n c) n (iv l)):bG w g 0 l:=fun k hk=>by
 rw [iz];exact iJ h k hk
theorem anw(at':List Nat)(au:Int)(t:List Int)(j:Nat)(h1:j<at'.length)(h2:j<t.length):(iM at' au t).take (j+1)=(iM at' au t).take j++[(at'.getD j 0,au,t.getD j 0)]:=by
 have hl:j<(iM at' au t).length:=by rw [iM,jE,OM];omega
 rw [pZ hl]
 congr 1
 simp [iM,aO,aQ h1,aQ h2]
theorem amN(rs kinds lv:List Int)(s:Sq)(n m ga oa ca gr or' cr gk ok ck gl cl B:Nat)(w:World)(hm:s.at'.length=m)(hm0:0<m)(qz:m<=100000)(hat:∀p∈s.at',p<n)
  (nt:0<=s.level/\s.level<=1000) (hai:bG w ga oa (nl s.at')) (Dg:ga<w.heap.size) (Au:bG w gr or' rs) (hgr:gr<w.heap.size) (hki:bG w gk ok kinds) (Dh:gk<w.heap.size) (hrl:rs.length=n) (hkl:kinds.length=n)
  (hlv:bf w B gl n cl lv) (Zv:ga≠gl):
  Calls prog 73 #[.agg #[.slice (some ⟨ga,oa,none⟩) m ca,.int .i64 s.level,.int .i64 s.aq,.int .i64 s.ax],.slice (some ⟨gr,or',none⟩) n cr,.slice (some ⟨gk,ok,none⟩) n ck,.slice (some ⟨gl,0,none⟩) n cl] w fun ev w'=>ev= .returned (.tuple #[])/\bf w' B gl n cl ((oP rs kinds s).foldl jZ lv)/\w.grownBy w' (some gl):=by
 obtain⟨iI,eY,eZ,fe,fh⟩:=gW Tryz.qB;obtain⟨at',au,aq,ax⟩:=s;simp only at hm hat nt hai ⊢;obtain⟨q,hq⟩:∃q,q=(oP rs kinds ⟨at',au,aq,ax⟩).foldl jZ lv:=⟨_,rfl⟩
 rw [<-hq];have HQ:=ah hq;clear hq;have hgl:gl<w.heap.size:=(yE hlv gl rfl).2;have HM:Hid (at'.length=m/\(∀p∈at',p<n)):=⟨hm,hat⟩
 have HL:Hid (rs.length=n/\kinds.length=n):=⟨hrl,hkl⟩
 obtain⟨h,hh⟩:∃h,h=w.heap.size:=⟨_,rfl⟩
 have ahj:∃W0,W0=w.alloc (.cells #[.slice (some ⟨ga,oa,none⟩) m ca,.int .i64 au,.int .i64 aq,.int .i64 ax] 120):=⟨_,rfl⟩
 obtain⟨W0,hW0⟩:=ahj;have hb0:Below w.heap.size w W0:=by rw [hW0];exact(aA _ _).alloc (ay _) _
 have hz0:h<W0.heap.size:=by rw [hW0,hh];simp
 have cE:Hid (w.grownBy W0 (some gl)/\h<W0.heap.size/\h≠gl/\ga<W0.heap.size/\ga≠gl/\gr<W0.heap.size/\gk<W0.heap.size/\gl<W0.heap.size):=⟨PZ hb0,hz0,by omega,by omega,Zv,by omega,by omega,by omega⟩
 have A9:Hid (bG W0 ga oa (nl at')/\bG W0 gr or' rs/\bG W0 gk ok kinds/\bf W0 B gl n cl lv):=⟨hai.stay hb0 Dg,Au.stay hb0 hgr,hki.stay hb0 Dh,eH hlv hb0⟩
 have FY:Hid (W0.cell? ⟨h,0,none⟩=some (.slice (some ⟨ga,oa,none⟩) m ca)/\W0.cell? ⟨h,1,none⟩=some (.int .i64 au)/\W0.cell? ⟨h,2,none⟩=some (.int .i64 aq)/\W0.cell? ⟨h,3,none⟩=some (.int .i64 ax)):=by
  rw [hW0,hh];refine⟨?_,?_,?_,?_⟩<;>simp
 clear hai Au hki hrl hkl hlv Dg hgr Dh hgl hb0 hz0 hm hat Zv;have HC:Hid (∀W,Below W0.heap.size W0 W->W.cell? ⟨h,0,none⟩=some (.slice (some ⟨ga,oa,none⟩) m ca)/\W.cell? ⟨h,1,none⟩=some (.int .i64 au)/\W.cell? ⟨h,2,none⟩=some (.int .i64 aq)/\W.cell? ⟨h,3,none⟩=some (.int .i64 ax)):=by
  intro W hb;have hz:=cE.out.2.1;rw [hb.cell (p:=⟨h,0,none⟩) hz,hb.cell (p:=⟨h,1,none⟩) hz,hb.cell (p:=⟨h,2,none⟩) hz,hb.cell (p:=⟨h,3,none⟩) hz];exact FY.out
 go_enter func73,ntmps73;go_wp2;rw [<-hW0,<-hh];clear hW0 hh FY;go_loopg [8,9,10,11] m (fun gh tv ov rv iv W=>∃k:Nat,k<=m/\gh=m - k/\iv= .int .i64 k/\mj W0 W W0.heap.size tv ov rv (bz kinds (at'.take k)) (bz kinds (at'.take k)) (bz rs (at'.take k)));case atStart=>exact⟨0,by omega,rfl,rfl,mj.start _ _ _ (aA _ _) (ay _)⟩
 case round=>
  obtain⟨k,hk,rfl,rfl,hT⟩:=hrel;by_cases hlt:k<m
  .have HT:=ah hT;have hkl:k<at'.length:=by rw [HM.out.1];exact hlt
   have hp:at'.getD k 0<n:=HM.out.2 _ (PU hkl);have HG:Hid (bz kinds (at'.take (k+1))=bz kinds (at'.take k)++[kinds.getD (at'.getD k 0) 0]/\bz rs (at'.take (k+1))=bz rs (at'.take k)++[rs.getD (at'.getD k 0) 0]):=⟨XY _ _ _ hkl,XY _ _ _ hkl⟩
   have Nr:Hid (∀W,Below W0.heap.size W0 W->W.cell? ⟨h,0,none⟩=some (.slice (some ⟨ga,oa,none⟩) m ca)/\W.cell? ⟨ga,oa+k,none⟩=some (.int .i64 (at'.getD k 0:Nat))/\W.cell? ⟨gk,ok+at'.getD k 0,none⟩=some (.int .i64 (kinds.getD (at'.getD k 0) 0))/\W.cell? ⟨gr,or'+at'.getD k 0,none⟩=some (.int .i64 (rs.getD (at'.getD k 0) 0))):=by
    intro W hb;refine⟨(HC.out W hb).1,?_,?_,?_⟩
    .have:=(A9.out.1.stay hb cE.out.2.2.2.1) k (by rw [gw];exact hkl);rw [mJ _ _ hkl]at this;exact this
    .exact(A9.out.2.2.1.stay hb cE.out.2.2.2.2.2.2.1) _ (by rw [HL.out.2];exact hp)
    .exact(A9.out.2.1.stay hb cE.out.2.2.2.2.2.1) _ (by rw [HL.out.1];exact hp)
   have hlk:(bz kinds (at'.take k)).length<=1000000/\(bz rs (at'.take k)).length<=1000000:=by rw [LF,LF,rW];omega
   generalize at'.getD k 0=p at*;generalize kinds.getD p 0=kp at*;generalize rs.getD p 0=rp at*;generalize bz kinds (at'.take k)=tk at*;generalize bz rs (at'.take k)=rk at*;obtain⟨c0,c1,c2,c3⟩:=Nr.out wr hT.below;have hrow:=hT.ht;have hbz:=hT.base;clear hT;go_wp2_with(at_builtin;refine xU _ rfl _ _ 31 rfl W0.heap.size 3 iI (.int .i64 0) 8 underlying31 eY eZ fe fh rfl (by decide) _ _ _ rfl hrow _ _ _ rfl rfl rfl hlk.1 hbz ?_);intro v1 w1 hown1 hg1 hv1;have EP:=HT.out.SR hown1 hg1 hv1;have Vo:=ah EP;clear hown1 hg1 hv1 hrow hbz c0 c1 c2 c3 HT;obtain⟨c0,c1,c2,c3⟩:=Nr.out w1 EP.below;have hrow:=EP.ho;have hbz:=EP.base;clear EP;go_wp2_with(at_builtin;refine xU _ rfl _ _ 31 rfl W0.heap.size 3 iI (.int .i64 0) 8 underlying31 eY eZ fe fh rfl (by decide) _ _ _ rfl hrow _ _ _ rfl rfl rfl hlk.1 hbz ?_);intro v2 w2 hown1 hg1 hv1;have oH:=Vo.out.akN hown1 hg1 hv1;have zS:=ah oH;clear hown1 hg1 hv1 hrow hbz c0 c1 c2 c3 Vo;obtain⟨c0,c1,c2,c3⟩:=Nr.out w2 oH.below;have hrow:=oH.hr;have hbz:=oH.base;clear oH;go_wp2_with(at_builtin;refine xU _ rfl _ _ 31 rfl W0.heap.size 3 iI (.int .i64 0) 8 underlying31 eY eZ fe fh rfl (by decide) _ _ _ rfl hrow _ _ _ rfl rfl rfl hlk.2 hbz ?_);intro v3 w3 hown1 hg1 hv1;have Ie:=zS.out.JG hown1 hg1 hv1;have Ky:=ah Ie;clear hown1 hg1 hv1 hrow hbz c0 c1 c2 c3 zS Ie;go_wp2;go_roundg (m - (k+1));case measure=>omega
   case rel=>exact⟨k+1,by omega,rfl,by simp,by rw [HG.out.1,HG.out.2];exact Ky.out⟩
  .obtain rfl:k=m:=by omega
   have htk:at'.take k=at':=lB (by rw [HM.out.1];exact ay _);rw [htk]at hT;clear htk;have Dj:(bz kinds at').length=k/\(bz rs at').length=k:=by rw [LF,LF,HM.out.1];exact⟨rfl,rfl⟩
   have ym:Hid (q=(iM at' au (Cb aq ax (au%2) (zf (rO aq (bz kinds at')) (bz kinds at') (zi (rO aq (bz kinds at')) (bz rs at')) (au%2) aq))).foldl jZ lv):=HQ.out;clear HQ;generalize bz kinds at'=T0 at*;generalize bz rs at'=R0 at*;obtain⟨gt,ct,e1,hct,hgt,Yd⟩:=fS hT.ht (by omega);obtain⟨go,co,e2,EY,hgo,Yb⟩:=fS hT.ho (by omega);obtain⟨gq,cq,e3,dR,hgq,Yc⟩:=fS hT.hr (by omega);subst e1 e2 e3;rw [Dj.1,Dj.2]at hT;rw [Dj.1,Dj.2];have hto:gt≠go:=fun e=>hT.to' gt rfl (by rw [e];rfl)
   have ZZ:gt≠gq:=fun e=>hT.tr gt rfl (by rw [e];rfl)
   have HT:=ah hT;have HIT:Hid (bf wr W0.heap.size gt k ct T0):=by have:=hT.ht;rw [Dj.1]at this;exact this
   have HK:=ah Dj;have Gf:Hid (gt≠go/\gt≠gq/\W0.heap.size<=gt/\W0.heap.size<=go/\W0.heap.size<=gq):=⟨hto,ZZ,Yd,Yb,Yc⟩
   obtain⟨c0,c1,c2,c3⟩:=HC.out wr hT.below;clear hT Dj hto ZZ hgt hgo hgq Yd Yb Yc hlt;go_wp2_with fail;refine(anP T0 aq _ W0.heap.size gt k ct wr HIT.out qz hm0).mono ?_;rintro ev w2 ⟨rfl,yS,mz⟩;have oH:=HT.out.write yS mz;have zS:=ah oH;have Km:=ah yS.len;clear HT HIT c0 c1 c2 c3 yS mz;obtain⟨c0,c1,c2,c3⟩:=HC.out w2 oH.below;clear oH;generalize rO aq T0=T1 at*;obtain⟨e,he⟩:∃e,e=au%2:=⟨_,rfl⟩
   obtain⟨F,hF⟩:∃F:List (Nat×Nat)->List Int,F=fun ps=>zf T1 T0 ps e aq:=⟨_,rfl⟩
   have HF:Hid (∀(ps:List (Nat×Nat))(j:Nat),j<ps.length->F (ps.take (j+1))=qG (F (ps.take j)) T0 (ps.getD j (0,0)) e aq):=by
    intro ps j hj;rw [hF];simp only;unfold zf;rw [pZ hj,CT];simp [aO,aQ hj]
   have UE:Hid (F []=T1/\∀ps,(F ps).length=k):=by
    rw [hF];exact⟨rfl,fun ps=>by rw [R5];exact Km.out⟩
   obtain⟨G,hG⟩:∃G:List Int->List Int,G=fun t=>Cb aq ax e t:=⟨_,rfl⟩
   have HG:Hid (∀t,Cb aq ax e t=G t):=by intro t;rw [hG]
   have Ks:Hid (q=(iM at' au (G (F (zi T1 R0)))).foldl jZ lv):=by
    have:=ym.out;rw [hG,hF,he];exact this
   have Y4:e=0∨e=1:=by omega
   have hmod:(au%2==1)=(e==1):=by rw [he]
   clear hF hG he ym
   go_upto_if 64 with fail
   go_cut [12] (fun ev wc=>ev= .int .i64 e/\wc=w2)
   case first=>
    rcases Y4 with rfl|rfl
    .have ahB:(au%2==1)=false:=hmod;go_wp2_with fail;go_meet;case rel=>exact⟨rfl,rfl⟩
    .have ahB:(au%2==1)=true:=hmod;go_wp2_with fail;go_meet;case rel=>exact⟨rfl,rfl⟩
   case rest=>
    obtain⟨hc1,hc2⟩:=hcut;subst hc1;have ahe:=hc2.symm;subst ahe;clear hmod Y4;go_wp2_with fail;refine(aka T1 R0 k gt 0 ct gq 0 cq w2 Km.out HK.out.2 qz (Fu (by have:=zS.out.ht;rw [Km.out]at this;exact this)) (Fu (by have:=zS.out.hr;rw [HK.out.2]at this;exact this)) (rJ zS.out.ht gt rfl) (rJ zS.out.hr gq rfl)).mono ?_;rintro ev w3 ⟨pv,ps,rfl,hps,hpl,hb3,Q4⟩;have Ie:=zS.out.call hb3;obtain⟨pa,pc,rfl⟩:=ey Q4;have Ky:=ah Ie;have zL:=ah Q4;have pQ:Hid (zi T1 R0=ps/\∀p∈ps,p.1<p.2/\p.2<k):=⟨hps.is.symm,fun p hp=>by have:=hps.ok p hp;rw [Km.out]at this;exact this⟩
    clear Ie hb3 Q4 hps c0 c1 c2 c3 zS;go_wp2;go_loopg [14] ps.length (fun gh iv W=>∃(j:Nat)(t':List Int),j<=ps.length/\gh=ps.length - j/\iv= .int .i64 j/\mj W0 W W0.heap.size (.slice (some ⟨gt,0,none⟩) k ct) (.slice (some ⟨go,0,none⟩) k co) (.slice (some ⟨gq,0,none⟩) k cq) t' T0 R0/\W.ownsRow w2.heap.size 194 2 (.slice pa ps.length pc) ps.length (fu ps)/\t'=F (ps.take j));case atStart=>exact⟨0,T1,by omega,rfl,rfl,Ky.out,zL.out,UE.out.1.symm⟩
    case round=>
     clear Ky zL;obtain⟨j,t',hj,rfl,rfl,hT,EO,hE⟩:=hrel;have HT:=ah hT;have zL:=ah EO;have HE:=ah hE;have HtL:Hid (t'.length=k):=by rw [hE];exact UE.out.2 _
     have HIT:Hid (bf wr W0.heap.size gt k ct t'):=by have:=hT.ht;rw [HtL.out]at this;exact this
     obtain⟨c0,c1,c2,c3⟩:=HC.out wr hT.below;by_cases hlt:j<ps.length
     .obtain⟨gp,cp,hv,jy,hgp,_⟩:=fS EO (by omega);obtain⟨hv1,hv2⟩:pa=some ⟨gp,0,none⟩/\pc=cp:=by simpa using hv
      clear hv;subst hv1;subst hv2;have d0:=Sz EO j hlt;have d1:=SA EO j hlt;have hmem:ps.getD j (0,0)∈ps:=dm hlt;have hok:=pQ.out.2 _ hmem;have Qa:=HF.out ps j hlt;rw [<-hE]at Qa;have HN:=ah Qa;clear Qa;generalize ps.getD j (0,0)=pr at*;obtain⟨f,z⟩:=pr;simp only at d0 d1 hok;clear hT EO hE hmem;go_wp2
      go_region_with (go_at_call 126;refine(aj7 t' T0 f z _ aq W0.heap.size gt k ct go 0 co _ ?_ qz HK.out.1 ?_ ?_ (fun e=>Gf.out.1 e.symm) hok.1 hok.2).mono ?_;exact HIT.out;exact(Fu (by have:=HT.out.ho;rw [HK.out.1]at this;exact this));exact(rJ HT.out.ho go rfl);rintro ev w4 ⟨rfl,C6,xh⟩)
      all_goals
       have xh:=Ac.trans xh;have HT4:=ah (HT.out.write C6 xh);have NM:Hid (w4.ownsRow w2.heap.size 194 2 (.slice (some ⟨gp,0,none⟩) ps.length pc) ps.length (fu ps)):=dO zL.out xh (kD zL.out HIT.out (by decide));clear C6 xh zL HT HIT;go_wp2;go_roundg (ps.length - (j+1));case measure=>omega
       case rel=>exact⟨j+1,_,by omega,rfl,by simp,HT4.out,NM.out,HN.out.symm⟩
     .have L4:j=ps.length:=by omega
      have iW:Hid (t'=F ps):=by show _=_;rw [hE,L4,KQ]
      clear hT EO hE hlt;go_wp2_with fail;refine(ajq t' aq ax _ W0.heap.size gt k ct wr HIT.out qz).mono ?_;rintro ev w4 ⟨rfl,C6,xh⟩;rw [HG.out t']at C6;have Qg:=HT.out.write C6 xh;have zN:Hid (q=(iM at' au (G t')).foldl jZ lv):=by
       show _=_;rw [Ks.out,pQ.out.1,<-iW.out]
      have nQ:=C6.len;have LQ:=Qg.ht;rw [nQ]at LQ;have dB:=Qg.below;clear c0 c1 c2 c3 zL HT HIT HE iW xh C6 L4 hj Qg;generalize G t'=T3 at*;have dx:=ah dB;have HT5:=ah LQ;have Gt:Hid (T3.length=k/\gt<w4.heap.size/\gt≠gl):=⟨nQ,rJ LQ gt rfl,by have:=Gf.out.2.2.1;have:=cE.out.2.2.2.2.2.2.2;omega⟩
      have CF:=ah (eH A9.out.2.2.2 dB);clear dB LQ nQ;go_wp2;go_loopg [15] k (fun gh iv W=>∃(j:Nat)(l':List Int),j<=k/\gh=k - j/\iv= .int .i64 j/\bf W B gl n cl l'/\w4.grownBy W (some gl)/\l'=((iM at' au T3).take j).foldl jZ lv);case atStart=>exact⟨0,lv,by omega,rfl,rfl,CF.out,jt _ _,rfl⟩
      case round=>
       clear CF;obtain⟨j,l',hj,rfl,rfl,hI,eX,hE⟩:=hrel;have HI:=ah hI;have pN:=ah eX;have HE:=ah hE;obtain⟨c0,c1,c2,c3⟩:=HC.out w4 dx.out;have BZ:W0.heap.size<=w4.heap.size:=dx.out.size;have kT:=cE.out;rw [<-pq eX (by omega) kT.2.2.1]at c0 c1;by_cases hlt:j<k
       .have hkl:j<at'.length:=by rw [HM.out.1];exact hlt
        have hp:at'.getD j 0<n:=HM.out.2 _ (PU hkl);have d0:=(A9.out.1.stay dx.out kT.2.2.2.1) j (by rw [gw];exact hkl);rw [mJ _ _ hkl,<-pq eX (by omega) kT.2.2.2.2.1]at d0;have d1:=iJ HT5.out j (by rw [Gt.out.1];exact hlt);rw [<-pq eX Gt.out.2.1 Gt.out.2.2]at d1;have HN:Hid (((iM at' au T3).take (j+1)).foldl jZ lv=l'.set (at'.getD j 0) (mF (T3.getD j 0) au)):=by
         show _=_;rw [anw at' au T3 j hkl (by rw [Gt.out.1];exact hlt),CT,<-hE];rfl
        generalize at'.getD j 0=p at*;generalize T3.getD j 0=tc at*;have hcl:=hI.cell p hp;have hfr:=hI.frozen p;generalize l'.getD p 0=lp at hcl;clear hI eX hE c2 c3 kT BZ hkl;generalize him:mF tc au=im at*;have HIM:=ah him;clear him;go_wp2
        go_region_with (go_at_call 128;refine(ah4 tc au _ nt.1 nt.2).mono ?_;rintro ev _ ⟨rfl,rfl⟩;rw [HIM.out])
        all_goals
         go_wp2;go_roundg (k - (j+1));case measure=>omega
         case rel=>exact⟨j+1,_,by omega,rfl,by simp,HI.out.set p im,(pN.out.trans (HI.out.grown p im)).trans Ac,HN.out.symm⟩
       .have L4:j=k:=by omega
        have HV:Hid (q=l'):=by
         show _=_;rw [zN.out,HE.out,L4,lB];rw [iM,jE,OM,HM.out.1,Gt.out.1];omega
        clear hI eX hE c2 c3 kT BZ;go_wp2;go_end0;exact⟨rfl,HV.out▸HI.out,(cE.out.1.trans (PZ dx.out)).trans pN.out⟩
def Cq:List Int->List Bool
 |[]=>[]
 |c::r=>nV c r::Cq r
def kF(cs:List Int)(m:Nat):List Bool:=List.replicate m false++Cq (cs.drop m)
theorem alg(cs:List Int):kF cs cs.length=List.replicate cs.length false:=by rw [kF,ad4,Cq,lu]
theorem alf(cs:List Int)(q:Nat)(hq:q<cs.length)(b:Bool)(hb:b=nV (cs.getD q 0) (cs.drop (q+1))):(kF cs (q+1)).set q b=kF cs q:=by
 unfold kF;rw [drop_at hq,Cq,<-hb,KP,eV,uX _ _ (by simp)];simp
theorem ale(cs:List Int)(q:Nat)(hq:q<cs.length)(hb:nV (cs.getD q 0) (cs.drop (q+1))=false):kF cs (q+1)=kF cs q:=by
 unfold kF;rw [drop_at hq,Cq,hb,KP,eV];rfl
theorem anq(cs:List Int)(q:Nat)(hq:q<cs.length):jo (cs.drop q)=if cs.getD q 0=10 then true else if jX (cs.getD q 0)=true then jo (cs.drop (q+1))else false:=by rw [drop_at hq,jo]
def lY(para:Int)(cs o:List Int)(k:Nat)(prev:Int)(o':List Int):Prop:=(∃pre,pre.length=k/\o'=pre++o.drop k/\lG para para cs o=pre++lG para prev (cs.drop k) (o.drop k))/\((k=0/\prev=para)∨(0<k/\prev=o'.getD (k - 1) 0))
theorem lY.start(para:Int)(cs o:List Int):lY para cs o 0 para o:=⟨⟨[],rfl,rfl,rfl⟩,.inl ⟨rfl,rfl⟩⟩
theorem lY.at {para prev:Int}{cs o o':List Int}{k:Nat}(h:lY para cs o k prev o')(j:Nat)(hj:k<=j):o'.getD j 0=o.getD j 0:=by
 obtain⟨⟨pre,h1,h2,_⟩,_⟩:=h;rw [h2,aO,pT (by omega),h1,yu,show k+(j - k)=j by omega,aO]
theorem lY.len {para prev:Int}{cs o o':List Int}{k:Nat}(h:lY para cs o k prev o')(hk:k<=o.length):o'.length=o.length:=by
 obtain⟨⟨pre,h1,h2,_⟩,_⟩:=h;rw [h2];simp [h1];omega
theorem lY.step {para prev v:Int}{cs o o':List Int}{k:Nat}(h:lY para cs o k prev o')(hk:k<cs.length)(hl:cs.length=o.length)(hv:v=if nV (cs.getD k 0) (cs.drop (k+1))=true then para else if bN (cs.getD k 0)=false then prev else o.getD k 0):lY para cs o (k+1) v (o'.set k v):=by
 have hlen:=h.len (by omega);obtain⟨⟨pre,h1,h2,h3⟩,_⟩:=h;refine⟨⟨pre++[v],by simp [h1],?_,?_⟩,.inr ⟨by omega,?_⟩⟩
 .rw [h2,drop_at (show k<o.length by omega),uX _ _ (by omega),h1,nK];simp
 .rw [h3,drop_at hk,drop_at (show k<o.length by omega),lG,<-hv];simp
 .rw [kr,xd (by omega)]
theorem lY.same {para prev:Int}{cs o o':List Int}{k:Nat}(h:lY para cs o k prev o')(hk:k<o.length):o'.set k (o.getD k 0)=o':=by
 obtain⟨⟨pre,h1,h2,_⟩,_⟩:=h;rw [h2,drop_at hk,uX _ _ (by omega),h1,nK];rfl
theorem lY.stop {para prev:Int}{cs o o':List Int}{k:Nat}(h:lY para cs o k prev o')(hk:cs.length<=k)(hl:cs.length=o.length):o'=lG para para cs o:=by
 obtain⟨⟨pre,h1,h2,h3⟩,_⟩:=h;rw [jD (by omega)]at h2 h3;rw [h2,h3,jD (by omega)];rfl
theorem ald(cs:List Int)(k:Nat)(hk:k<cs.length):(bv (kF cs 0))[k]? =some (.bool (nV (cs.getD k 0) (cs.drop (k+1)))):=by
 have key:∀(cs:List Int)(k:Nat),k<cs.length->(Cq cs)[k]? =some (nV (cs.getD k 0) (cs.drop (k+1))):=by
  intro cs
  induction cs with
  |nil=>intro k h;simp at h
  |cons c r ih=>
   intro k h;cases k with
   |zero=>simp [Cq]
   |succ k=>simpa [Cq]using ih k (by simpa using h)
 simp [bv,kF,key cs k hk]
theorem adk(cs:List Int)(k:Nat)(hk:k<cs.length):(aN cs).getD k false=bN (cs.getD k 0):=by
 simp [aN,aO,aQ hk]
theorem anu(cs o:List Int)(para:Int)(n gc oc cc gf of' cf B go co:Nat)(w:World)(hc:cs.length=n)(hn:n<=100000)(hci:bG w gc oc cs)(hfi:xW w gf of' (aN cs))(jV:gc<w.heap.size)(su:gf<w.heap.size)(ho:bf w B go n co o)(hnc:gc≠go)(hnf:gf≠go)(h0:0<n->bN (cs.getD 0 0)=false->o.getD 0 0=para):
  Calls prog 74 #[.slice (some ⟨gc,oc,none⟩) n cc,.slice (some ⟨go,0,none⟩) n co,.slice (some ⟨gf,of',none⟩) n cf,.int .i64 para] w fun ev w'=>ev= .returned (.slice (some ⟨go,0,none⟩) n co)/\bf w' B go n co (lG para para cs o)/\w.grownBy w' (some go):=by
 obtain⟨iB,QG,Ri,Rj,Rk⟩:=gW Tryz.Fa;have x8:=ah hci;have zC:=ah hfi;have HO:=ah ho;have hgo:B<=go/\go<w.heap.size:=yE ho go rfl;have HD:Hid (cs.length=n/\gc<w.heap.size/\gf<w.heap.size/\gc≠go/\gf≠go/\go<w.heap.size/\(0<n->bN (cs.getD 0 0)=false->o.getD 0 0=para)):=⟨hc,jV,su,hnc,hnf,hgo.2,h0⟩
 clear hci hfi ho hgo jV su hnc hnf h0;have hmk:=run_make_row' (P:=prog) 36 4 (.bool false) 1 underlying36 Tryz.Fa rfl .i64 .i64 n (by omega) (by omega);have wM:Hid (Below w.heap.size w (w.alloc (.cells (madeCells #[.bool false] n) 4))/\bh (w.alloc (.cells (madeCells #[.bool false] n) 4)) w.heap.size 4 w.heap.size n (bv (kF cs n))):=by
  refine⟨(aA _ _).alloc (ay _) _,?_⟩;have e:bv (kF cs n)=List.replicate n (.bool false):=by rw [<-HD.out.1,alg];simp [bv]
  rw [e];exact bh.made (ay _) (by omega)
 clear Ri Rj Rk QG hc;go_enter func74,ntmps74;go_wp2;generalize w.alloc (.cells (madeCells #[.bool false] n) 4)=W1 at*;obtain⟨g,hg⟩:∃g,g=w.heap.size:=⟨_,rfl⟩
 have HG:=ah hg;rw [<-hg];clear hg hmk;go_loopg [10,11] n (fun gh onv iv W=>∃m:Nat,m<=n/\m=gh/\onv= .bool (jo (cs.drop m))/\iv= .int .i64 ((m:Int) - 1)/\Below w.heap.size w W/\bh W w.heap.size 4 g n (bv (kF cs m)));case atStart=>exact⟨n,ay _,rfl,by rw [jD (by rw [HD.out.1];exact ay _)];rfl,by simp,wM.out.1,by rw [HG.out];exact wM.out.2⟩
 case round=>
  clear wM;obtain⟨m,hm,rfl,rfl,rfl,hB,hR⟩:=hrel;have HB:=ah hB;have HR:=ah hR;cases m with
  |succ q=>
   have hq:q<cs.length:=by rw [HD.out.1];omega
   have hcc:=x8.out.stay hB HD.out.2.1 q hq;have HT:=anq cs q hq;have bD:=alf cs q hq true;have cW:=ale cs q hq;have hrb:nV (cs.getD q 0) (cs.drop (q+1))=(cs.getD q 0==10||(jX (cs.getD q 0)&&jo (cs.drop (q+1)))):=rfl;have hfr:=hR.frozen q;have hrc:wr.cell? ⟨g,q,none⟩=some (.bool false):=by
    rw [hR.cell q (by omega)];unfold kF bv;rw [fO,qV (by simp)];simp
   rw [hrb]at bD cW;generalize cs.getD q 0=c at*;generalize jo (cs.drop (q+1))=on at*;rw [show((q+1:Nat):Int) - 1=(q:Int)by omega];have Mk:q<n:=by omega
   clear hrb hB hR hq;by_cases h10:c=10
   .subst h10;have CP:Hid (jo (cs.drop q)=true):=by show _=_;rw [HT,aj rfl]
    have qN:Hid ((kF cs (q+1)).set q true=kF cs q):=bD rfl;clear HT bD cW;go_wp2_with fail;refine(Mv 10 _).mono ?_;rintro ev _ ⟨rfl,rfl⟩;go_wp2;go_roundg q;case measure=>omega
    case rel=>exact⟨q,by omega,rfl,by rw [CP.out],by simp,HB.out.setCell (p:=⟨g,q,none⟩) (by rw [HG.out];exact ay _) _,by rw [<-qN.out,<-Pb];exact HR.out.set q _⟩
   .have mM:(c==10)=false:=by simpa using h10
    rw [mM,FR]at bD cW;rw [ai h10]at HT;obtain⟨lo,hlo⟩:∃lo,lo=jX c:=⟨_,rfl⟩
    rw [<-hlo]at HT bD cW;have NB:=ah hlo.symm;clear hlo h10;cases on
    .have CP:Hid (jo (cs.drop q)=false):=by show _=_;rw [HT];split<;>rfl
     have qN:Hid (kF cs (q+1)=kF cs q):=cW (by simp);clear HT bD cW;go_wp2_with fail;refine(Mv c _).mono ?_;rintro ev _ ⟨rfl,rfl⟩;rw [NB.out];go_wp2;go_roundg q;case measure=>omega
     case rel=>exact⟨q,by omega,rfl,by rw [CP.out],by simp,HB.out,by rw [<-qN.out];exact HR.out⟩
    .cases lo
     .have CP:Hid (jo (cs.drop q)=false):=by show _=_;rw [HT];rfl
      have qN:Hid (kF cs (q+1)=kF cs q):=cW (by simp);clear HT bD cW;go_wp2_with fail;refine(Mv c _).mono ?_;rintro ev _ ⟨rfl,rfl⟩;rw [NB.out];go_wp2;go_roundg q;case measure=>omega
      case rel=>exact⟨q,by omega,rfl,by rw [CP.out],by simp,HB.out,by rw [<-qN.out];exact HR.out⟩
     .have CP:Hid (jo (cs.drop q)=true):=by show _=_;rw [HT];rfl
      have qN:Hid ((kF cs (q+1)).set q true=kF cs q):=bD rfl;clear HT bD cW;go_wp2_with fail;refine(Mv c _).mono ?_;rintro ev _ ⟨rfl,rfl⟩;rw [NB.out];go_wp2;go_roundg q;case measure=>omega
      case rel=>exact⟨q,by omega,rfl,by rw [CP.out],by simp,HB.out.setCell (p:=⟨g,q,none⟩) (by rw [HG.out];exact ay _) _,by rw [<-qN.out,<-Pb];exact HR.out.set q _⟩
  |zero=>
   have bK:Hid (bf wr B go n co o):=eH HO.out hB;clear hB hR;go_wp2;obtain⟨W2,hW2⟩:∃W2,W2=wr:=⟨_,rfl⟩
   rw [<-hW2]at HB HR bK;have Vq:=ah hW2;clear hW2;go_loopg [13] n (fun gh iv W=>∃(k:Nat)(prev:Int)(o':List Int),k<=n/\gh=n - k/\iv= .int .i64 k/\bf W B go n co o'/\W2.grownBy W (some go)/\lY para cs o k prev o');case atStart=>exact⟨0,para,o,by omega,rfl,rfl,Vq.out▸bK.out,by rw [Vq.out];exact jt _ _,lY.start _ _ _⟩
   case round=>
    obtain⟨k,prev,o',hk,rfl,rfl,hI,eX,hF⟩:=hrel;have HI:=ah hI;have pN:=ah eX;by_cases hlt:k<n
    .have hkc:k<cs.length:=by rw [HD.out.1];exact hlt
     have hol:o.length=n:=bK.out.len;have hstep:=fun v=>lY.step (v:=v) hF hkc (by rw [HD.out.1,hol])
     have hsame:=hF.same (by rw [hol];exact hlt);have hz2:w.heap.size<=W2.heap.size:=HB.out.size;have hrc:=HR.out.cell k hlt;rw [show(bv (kF cs 0))[k]? =some (.bool (nV (cs.getD k 0) (cs.drop (k+1))))from ald cs k hkc]at hrc;rw [<-pq eX (HR.out.ge).2 (by have:=HG.out;have:=HD.out.2.2.2.2.2.1;omega)]at hrc;have hfc:=zC.out.stay HB.out HD.out.2.2.1 k (by rw [aN,jE];exact hkc);rw [adk cs k hkc,<-pq eX (by have:=HD.out.2.2.1;omega) HD.out.2.2.2.2.1]at hfc;have hcell:=hI.cell k hlt;have hfr:=hI.frozen k;have BS:o'.getD k 0=o.getD k 0:=hF.at k (ay _);have E4:=hF.2;generalize nV (cs.getD k 0) (cs.drop (k+1))=rb at*;generalize hlb:bN (cs.getD k 0)=lb at*;cases rb
     .cases lb
      .cases k with
       |zero=>
        have hp:prev=para:=by rcases E4 with⟨_,h⟩|⟨h,_⟩;exact h;omega
        have ho0:o.getD 0 0=para:=HD.out.2.2.2.2.2.2 (by omega) hlb;have HN:Hid (lY para cs o 1 para o'):=by
         have:=hstep para (by simp [hp]);rw [<-ho0]at this;rw [hsame]at this;rw [ho0]at this;exact this
        rw [qY]at hfc;clear hstep hsame E4 hF hI eX BS hlb ho0 hp hkc hol hz2;go_wp2;go_roundg (n - 1);case measure=>omega
        case rel=>exact⟨1,_,o',by omega,rfl,rfl,HI.out,pN.out,HN.out⟩
       |succ j=>
        have hp:prev=o'.getD j 0:=by rcases E4 with⟨h,_⟩|⟨_,h⟩;omega;rw [h,kr]
        have Am:=hI.cell j (by omega);rw [<-hp]at Am;have HN:Hid (lY para cs o (j+1+1) prev (o'.set (j+1) prev)):=hstep prev (by simp);generalize o'.getD (j+1) 0=zh at hcell;clear hstep hsame E4 hF hI eX BS hlb hp hkc hol hz2;go_wp2;go_roundg (n - (j+1+1));case measure=>omega
        case rel=>exact⟨j+1+1,_,_,by omega,rfl,by simp,HI.out.set (j+1) prev,pN.out.trans (HI.out.grown (j+1) prev),HN.out⟩
      .have HN:Hid (lY para cs o (k+1) (o.getD k 0) o'):=by
        have:=hstep (o.getD k 0) (by simp);rw [hsame]at this;exact this
       clear hstep hsame E4 hF hI eX BS hlb hkc hol hz2;go_wp2;go_roundg (n - (k+1));case measure=>omega
       case rel=>exact⟨k+1,_,o',by omega,rfl,by simp,HI.out,pN.out,HN.out⟩
     .have HN:Hid (lY para cs o (k+1) para (o'.set k para)):=hstep para (by simp);generalize o'.getD k 0=zh at hcell;clear hstep hsame E4 hF hI eX BS hlb hkc hol hz2;go_wp2;go_roundg (n - (k+1));case measure=>omega
      case rel=>exact⟨k+1,_,_,by omega,rfl,by simp,HI.out.set k para,pN.out.trans (HI.out.grown k para),HN.out⟩
    .have HV:Hid (o'=lG para para cs o):=hF.stop (by rw [HD.out.1];omega) (by rw [HD.out.1];have:=bK.out.len;omega);clear hI eX hF;go_wp2;refine cG (v:= .slice (some ⟨go,0,none⟩) n co) (by simp [results,results74,go_sem]) rfl ⟨rfl,HV.out▸HI.out,(PZ HB.out).trans pN.out⟩
theorem PN(cs:List Int):∀f i,jI cs f i=0∨jI cs f i=1
 |0,_=> .inl rfl
 |f+1,i=>by
  rw [jI];split
  .split
   .exact .inl rfl
   .split
    .exact .inr rfl
    .split
     .exact PN cs f _
     .exact PN cs f _
  .exact .inl rfl
theorem abm(cs:List Int)(d:Int):gz cs d=0∨gz cs d=1:=by
 unfold gz;split
 .assumption
 .exact PN cs _ _
theorem adn(cs:List Int)(para:Int):(aZ cs para).length=cs.length:=by simp [aZ]
theorem an5(cs:List Int)(para:Int):(gZ cs para).length=cs.length:=by simp [gZ]
theorem adl(cs:List Int):(aN cs).length=cs.length:=by simp [aN]
theorem an6(cs:List Int)(para:Int)(h:0<=para/\para<=125):∀l∈aZ cs para,0<=l/\l<=125:=by
 intro l hl;unfold aZ at hl;obtain⟨i,_,rfl⟩:=jr.1 hl;exact((wm cs para h i).pre (cs.getD i 0)).top.2
theorem bh.heap {w:World}{B g n:Nat}{e:TypeId}{xs:List Value}(h:bh w B e g n xs):w.heap[g]? =some (.cells xs.toArray e (0,0)):=by
 obtain⟨h1,h2⟩:=h;rcases h2 with⟨h,_⟩|⟨g',cap',cur,e1,_,h4,_,_,h7,h8⟩
 .cases h
 .cases e1;rw [h4];have:cur=xs.toArray:=by
   rw [<-h8,lB (by rw [Uh];omega)]
  rw [this]
theorem bh.MB {w:World}{B g n:Nat}{e:TypeId}{xs:List Value}(h:w.heap[g]? =some (.cells xs.toArray e (0,0)))(hB:B<=g)(hl:xs.length=n)(hn:n<=1000000):bh w B e g n xs:=
 ⟨by omega,.inr ⟨g,n,xs.toArray,rfl,hB,h,ay _,by unfold maxLen;omega,by simp [hl],by simp [<-hl]⟩⟩
theorem bh.ints {w:World}{B g n:Nat}{l:List Int}(h:bh w B 3 g n (iv l)):bG w g 0 l:=fun k hk=>by
 rw [iz];exact iJ h k hk
theorem bh.bools {w:World}{B g n:Nat}{l:List Bool}(h:bh w B 4 g n (bv l)):xW w g 0 l:=fun k hk=>by
 have hl:l.length=n:=by have:=h.1;simp [bv]at this;omega
 rw [iz,h.cell k (by omega)];simp [bv,aO,aQ hk]
theorem bh.keep {w w':World}{B B' g n:Nat}{e:TypeId}{xs:List Value}(h:bh w B e g n xs)(hb:Below B' w w')(hg:g<B'):bh w' B e g n xs:=
 nC h fun k o hk ho=>by
  have:g=k:=by simpa [Value.ownBlock]using hk
  subst this;rw [hb.block g hg];exact ho
theorem Wz {cs:List Int}{rs:List (List Nat)}(h:kN cs.length rs)(hin:∀r∈rs,r.length+r.headD 0<=r.getLastD 0+1):∀f cur,cur≠[]->(∀p∈cur,p<cs.length)->cur.length<=cur.getLastD 0+1->(bV cs rs f cur)≠[]/\(bV cs rs f cur).length<=cs.length
 |0,cur,h1,h2,h3=>by
  rw [bV];have:=h2 _ (xD h1);exact⟨h1,by omega⟩
 |f+1,cur,h1,h2,h3=>by
  rw [bV];have hla:=h2 _ (xD h1);cases hn:gD cs rs (cur.getLastD 0)with
  |none=>exact⟨h1,by simp only;omega⟩
  |some k=>
   simp only;unfold gD at hn;split at hn
   .rename_i bH;obtain⟨hk,hh⟩:=DB _ _ hn;have hm:rs.getD k []∈rs:=dm hk;have hne:=h.ne _ hm;have hgt:=R3 cs _ hla bH;have hi:=hin _ hm;have hl:=jc.2 hne;refine Wz h hin f _ (fun e=>hne (List.append_eq_nil_iff.1 e).2) ?_ ?_
    .intro p hp;rcases kK.1 hp with hp|hp
     .exact h2 p hp
     .exact h.lt _ hm p hp
    .rw [RH hne,bP];omega
   .cases hn
theorem al3 {cs lv:List Int}{lf:List Bool}{para:Int}(hl:lv.length=cs.length)(hlv:∀l∈lv,0<=l/\l<=125):∀s∈gF cs lv lf para,0<s.at'.length/\s.at'.length<=cs.length/\(∀p∈s.at',p<cs.length)/\0<=s.level/\s.level<=125:=by
 intro s hs;unfold gF at hs;obtain⟨r,hr,rfl⟩:=jr.1 hs;have hr:=(uW.1 hr).1;have hok:kN cs.length (cQ lv lf):=by have:=S9 lv lf;rw [hl]at this;exact this
 have hne:=hok.ne _ hr;have hi:=S7 hr;have hlen:=Wz hok (fun r hr=>S7 hr) cs.length r hne (hok.lt _ hr) (by omega);have hlt:∀p∈bV cs (cQ lv lf) cs.length r,p<cs.length:=by
  obtain⟨i,hi',Au⟩:=ad9 hr;have hg:(cQ lv lf).getD i []=r:=by rw [aO,aQ hi',<-Au];rfl
  have hc:=K7 hok cs.length [] i hi';simp only [yx]at hc;rw [hg]at hc;intro p hp;rw [hc]at hp;obtain⟨j,_,hj⟩:=GF.1 hp;rcases cK j (cQ lv lf).length with h'|h'
  .exact hok.lt _ (dm h') p hj
  .rw [aO,pU h']at hj;cases hj
 refine⟨jc.2 hlen.1,hlen.2,hlt,?_⟩;exact hlv _ (dm (by rw [hl];exact hlt _ (head_mem hlen.1)))
theorem XG {para:Int}:∀(cs o o':List Int)(prev:Int),o.length=cs.length->o'.length=cs.length->(∀k,k<cs.length->bN (cs.getD k 0)=true->o'.getD k 0=o.getD k 0)->lG para prev cs o'=lG para prev cs o
 |[],o,o',_,h1,h2,_=>by
  rw [VA h1,VA h2]
 |c::cs,[],_,_,h1,_,_=>by simp at h1
 |c::cs,_::_,[],_,_,h2,_=>by simp at h2
 |c::cs,a::o,b::o',prev,h1,h2,h=>by
  have e:(if nV c cs=true then para else if bN c=false then prev else b)=(if nV c cs=true then para else if bN c=false then prev else a):=by
   by_cases hc:bN c=false
   .rw [aj hc,aj hc]
   .have:=h 0 (by simp) (by simpa using hc);simp at this;rw [this]
  rw [lG,lG,e,XG cs o o' _ (by simpa using h1) (by simpa using h2) (fun k hk hl=>by
   have:=h (k+1) (by simpa using hk) (by simpa using hl);simpa using this)]
