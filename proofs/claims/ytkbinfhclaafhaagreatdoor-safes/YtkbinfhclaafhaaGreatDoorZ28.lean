import Derived.Test.YtkbinfhclaafhaaGreatDoorZ25
import Derived.Deep.DrawnRows
import Derived.Test.YtkbinfhclaafhaaGreatDoorZ27
import Derived.Test.YtkbinfhclaafhaaGreatDoorZ26
namespace Go.Proofs.YtkbinfhclaafhaaGreatDoor
open Go.RowKit
open Go.Proofs.Tryz
set_option maxRecDepth 100000
set_option maxHeartbeats 32000000
set_option linter.all false
def ij(ps:List PR):List Int->Nat->List Int->Int->Bool
 |[],_,st,_=>st.isEmpty
 |r::rs,p,st,now=>
  if pI p ps 0≠now/\st≠[]then false
  else if cls r<13 then ij ps rs (p+wd r) st (pI p ps 0)
  else match ps[(pI p ps 0).toNat]? with
   |none=>false
   |some x=>
    if x.kind=0∨p<x.body∨x.end_<=p then false
    else if cls r<17 then ij ps rs (p+wd r) (st++[17]) (pI p ps 0)
    else if 17<cls r/\cls r<21 then ij ps rs (p+wd r) (st++[21]) (pI p ps 0)
    else if st.getLast? =some (cls r)then ij ps rs (p+wd r) st.dropLast (pI p ps 0)else false
theorem WA(ps:List PR)(r:Int)(rs:List Int)(p:Nat)(st:List Int)(now:Int)(k:Nat)(x:PR)(hk:pI p ps 0=(k:Int))(hx:ps[k]? =some x):
  ij ps (r::rs) p st now=if(k:Int)≠now/\st≠[]then false
  else if cls r<13 then ij ps rs (p+wd r) st (k:Int)
  else if x.kind=0∨p<x.body∨x.end_<=p then false
    else if cls r<17 then ij ps rs (p+wd r) (st++[17]) (k:Int)
    else if 17<cls r/\cls r<21 then ij ps rs (p+wd r) (st++[21]) (k:Int)
    else if st.getLast? =some (cls r)then ij ps rs (p+wd r) st.dropLast (k:Int)else false:=by
 rw [ij,hk];simp only [CR,hx]
theorem abC:∀(rs:List Int)(q i:Nat),i<rs.length->(dZ q rs).getD (i+1) 0=(dZ q rs).getD i 0+wd (rs.getD i 0)
 |[],_,_,h=>by simp at h
 |r::rs,q,0,_=>by cases rs<;>simp [dZ]
 |r::rs,q,i+1,h=>by
  have:=abC rs (q+wd r) i (by simpa using h);simpa [dZ]using this
theorem Fs {w:World}{B:Nat}{e:TypeId}{z n:Nat}{v:Value}{xs:List Value}(h:w.ownsRow B e z v n xs)(k:Nat):(w.drewN k).ownsRow B e z v n xs:=h
theorem afI(rs:List Int)(ps:List PR)(v1 v2:Value)(w:World)(hn:rs.length<=1000)(hps:ps.length<=600)(hv1:js w v1 rs)(hv2:rP w v2 ps)
  (Ip:∀i,i<rs.length->∃k x,pI ((dZ 0 rs).getD i 0) ps 0=((k:Nat):Int)/\ps[k]? =some x):
  Calls prog 132 #[v1,v2] w fun e w'=>e= .returned (.bool (ij ps rs 0 [] (-1)))/\Below w.heap.size w w':=by
 obtain⟨iI,eY,eZ,fe,fh⟩:=gW Tryz.Dw;have pR:=abG rs v1 w hn hv1;have Oe:=ah hv1;have HV2:=ah hv2;have HCv:=ah Ip;obtain⟨x1,c1,rfl,hx1⟩:=hv1.form;have Bh:=ah hx1;obtain⟨x2,c2,rfl,hx2⟩:=hv2;have iX:=ah hx2;obtain⟨n,hN⟩:∃n,n=rs.length:=⟨_,rfl⟩
 have HN:=ah hN;rw [<-hN]at hn pR Bh ⊢;obtain⟨m2,hM2⟩:∃m2,m2=ps.length:=⟨_,rfl⟩
 have zI:=ah hM2;rw [<-hM2]at hps iX ⊢;obtain⟨R,hR⟩:∃R,R=ij ps rs 0 [] (-1):=⟨_,rfl⟩
 have HR:=ah hR.symm;rw [<-hR];clear Ip hx1 hx2 hN hM2 hR hv1;go_enter func132,ntmps132;go_wp2_with fail;refine pR.mono ?_;clear pR;rintro ev W1 ⟨va,rfl,iq,hb1⟩;obtain⟨ga,ca,rfl,hca,_,ahl⟩:=sL iq (by omega);have HA:=ah iq;have aG:=ah hb1;have hz1:=hb1.size;clear iq hb1;go_wp2;go_loopg [6,7,8,9,10,11] n (fun gk sv Jw fE _ _ _ W=>∃(i:Nat)(st:List Int)(now:Int),i<=n/\gk=n - i/\fE= .int .i64 i/\Jw= .int .i64 now/\st.length<=i/\ij ps (rs.drop i) ((dZ 0 rs).getD i 0) st now=R/\W.ownsRow W1.heap.size 3 1 sv st.length (st.map (Value.int .i64))/\Below W1.heap.size W1 W);case atStart=>exact⟨0,[], -1,by omega,rfl,rfl,rfl,by simp,by rw [<-HR.out];cases rs<;>rfl,jw _ _ _ _,aA _ _⟩
 case round=>
  rename World=>wa
  obtain⟨i,st,now,hi,rfl,rfl,rfl,hst,hj,hown0,hb⟩:=hrel;obtain⟨sa,sc,rfl⟩:=kE hown0;by_cases hlt:i<n
  .have hil:i<rs.length:=by rw [<-HN.out];exact hlt
   obtain⟨b,off,rfl,hD⟩:=Bh.out (by omega);have mD:Below w.heap.size w wa:=aG.out.trans (hb.mono hz1);have hcr:=(hD.below mD) i hil;have hdr:rs.drop i=rs.getD i 0::rs.drop (i+1):=by rw [l9 hil];congr 1;rw [aO,aQ hil];rfl
   obtain⟨k,x,hk,hx⟩:=HCv.out i hil;have yj:=ah (abC rs 0 i hil);rw [hdr,WA ps _ _ _ _ _ k x hk hx]at hj;have hkp:k<m2:=by rw [zI.out];exact(qW.1 hx).1
   obtain⟨g2,rfl,hc2,Yf⟩:=iX.out (by omega);have hpc:(nv (dZ 0 rs))[i]? =some (.int .i64 ((dZ 0 rs).getD i 0:Nat)):=by
    have hpl:=abB 0 rs;rw [nv,jO,aQ (by omega),GP,aO,aQ (by omega)];rfl
   have oV:Hid (∀W,Calls prog 69 #[.int .i64 (rs.getD i 0)] W fun e w'=>e= .returned (.int .i64 (cls (rs.getD i 0)))/\Below W.heap.size W w'):=fun W=>WG _ W
   have zM:Hid (∀W,Below w.heap.size w W->Calls prog 194 #[.slice (some ⟨g2,0,none⟩) m2 c2,.int .i64 ((dZ 0 rs).getD i 0:Nat)] W fun e w'=>e= .returned (.int .i64 (k:Nat))/\w'=W):=fun W hW=>by
    have:=abp ps (.slice (some ⟨g2,0,none⟩) m2 c2) ((dZ 0 rs).getD i 0) W (by rw [<-zI.out];exact hps) (by rw [zI.out];exact HV2.out.below hW);rw [hk]at this;exact this
   have HDp:=ah Yf;have HXk:=ah hx;obtain⟨p,hp⟩:∃p,p=(dZ 0 rs).getD i 0:=⟨_,rfl⟩
   rw [<-hp]at hj hpc zM yj;obtain⟨r,hr⟩:∃r,r=rs.getD i 0:=⟨_,rfl⟩
   rw [<-hr]at hj hcr oV yj;obtain⟨c,hcc⟩:∃c,c=cls r:=⟨_,rfl⟩
   rw [<-hcc]at hj oV;have yh:=ah hpc;have qJ:=ah hb;have YT:=hb.size;have hin:(i:Int)<(n:Int):=by omega
   have aou:i<n+1:=by omega
   have QI:(i:Int)<(n:Int)+1:=by omega
   have U0:=ah hown0;clear hdr hk hx hpc hp hr hcc hD Yf hil hb mD hown0;go_wp2_with fail;refine(oV.out _).mono ?_;rintro ev wr ⟨rfl,hbr⟩;have HB:=ah (qJ.out.trans (hbr.mono YT));have hown:=vJ U0.out hbr;have hbz:=HB.out.size;have hpa:wr.cell? ⟨ga,i,none⟩=some (.int .i64 (p:Nat)):=by rw [dg (vJ HA.out HB.out) i (by omega)];exact yh.out
   have mD:Below w.heap.size w wr:=aG.out.trans (HB.out.mono hz1);obtain⟨d0,d1,d2,d3,d4,d5⟩:=(HDp.out.below mD) k (by rw [<-zI.out];exact hkp);have hge:ps[k]'(by rw [<-zI.out];exact hkp)=x:=(qW.1 HXk.out).2;rw [hge]at d0 d1 d2 d3 d4 d5;obtain⟨xl,xk,xf,xt,xb,xe⟩:=x;simp only at d0 d1 d2 d3 d4 d5 hj;have oU:=ah mD;clear hbr mD hge U0 qJ YT hcr;go_wp2_with fail;refine(zM.out _ oU.out).mono ?_;rintro ev wx ⟨rfl,hwx⟩;have jK:=hwx.symm;subst jK;clear hwx;by_cases hkn:(k:Int)=now
   .rw [ai (fun h=>h.1 hkn)]at hj;subst hkn;by_cases Ii:c<13
    .rw [aj Ii]at hj;have HJ:Hid (ij ps (rs.drop (i+1)) ((dZ 0 rs).getD (i+1) 0) st (k:Int)=R):=by show _=_;rw [yj.out];exact hj
     have HO:=ah hown;clear hj hown;go_wp2;go_roundg (n - (i+1));case measure=>omega
     case rel=>exact⟨i+1,st,(k:Int),by omega,rfl,by go_num,rfl,by first|omega|simp,HJ.out,HO.out,HB.out⟩
    .rw [ai Ii]at hj;by_cases hx0:xk=0
     .rw [aj (.inl hx0)]at hj;subst hx0;subst hj;go_wp2_with fail;go_quiet(fail);go_wp2;go_ret;exact⟨rfl,aG.out.trans ((fZ HB.out _).mono hz1)⟩
     .have hx0':((xk:Int)==0)=false:=by simpa using hx0
      by_cases hx1:p<xb
      .rw [aj (.inr (.inl hx1))]at hj;have Rc:(p:Int)<(xb:Int):=by omega
       subst hj;go_wp2_with fail;go_quiet(fail);go_wp2;go_ret;exact⟨rfl,aG.out.trans ((fZ HB.out _).mono hz1)⟩
      .have Rc:¬(p:Int)<(xb:Int):=by omega
       by_cases hx2:xe<=p
       .rw [aj (.inr (.inr hx2))]at hj;have Re:(p:Int) ≥ (xe:Int):=by omega
        subst hj;go_wp2_with fail;go_quiet(fail);go_wp2;go_ret;exact⟨rfl,aG.out.trans ((fZ HB.out _).mono hz1)⟩
       .have Re:¬(p:Int) ≥ (xe:Int):=by omega
        rw [ai (fun h=>by rcases h with h|h|h;exact hx0 h;exact hx1 h;exact hx2 h)]at hj;by_cases Ij:c<17
        .rw [aj Ij]at hj;have HJ:Hid (ij ps (rs.drop (i+1)) ((dZ 0 rs).getD (i+1) 0) (st++[17]) (k:Int)=R):=by show _=_;rw [yj.out];exact hj
         clear hj;go_wp2_with fail;go_quiet(fail);go_wp2_with(at_builtin;refine nX _ rfl _ _ 31 rfl W1.heap.size 3 iI (.int .i64 0) 8 underlying31 eY eZ fe fh rfl (by decide) _ _ _ rfl (Fs hown _) _ _ rfl rfl (by omega) (by simpa using hbz) ?_);intro v2 w2 hown2 hg2;have aJ:Hid (Below W1.heap.size W1 w2):=(fZ HB.out _).grown hg2 (by simpa using hbz) (fun y hy=>(hown.lt y hy).1);have bK:Hid (w2.ownsRow W1.heap.size 3 1 v2 (st.length+1) ((st++[(17:Int)]).map (Value.int .i64))):=by
          show World.ownsRow _ _ _ _ _ _ _;rw [fO];exact hown2
         clear hown hown2 hg2;go_wp2;go_roundg (n - (i+1));case measure=>omega
         case rel=>exact⟨i+1,st++[17],(k:Int),by omega,rfl,by go_num,rfl,by simp<;>omega,HJ.out,by simpa using bK.out,aJ.out⟩
        .rw [ai Ij]at hj;by_cases xu:17<c
         .by_cases Il:c<21
          .rw [aj ⟨xu,Il⟩]at hj;have Ik:c>17:=xu;have HJ:Hid (ij ps (rs.drop (i+1)) ((dZ 0 rs).getD (i+1) 0) (st++[21]) (k:Int)=R):=by show _=_;rw [yj.out];exact hj
           clear hj;go_wp2_with fail;go_quiet(fail);go_wp2_with(at_builtin;refine nX _ rfl _ _ 31 rfl W1.heap.size 3 iI (.int .i64 0) 8 underlying31 eY eZ fe fh rfl (by decide) _ _ _ rfl (Fs hown _) _ _ rfl rfl (by omega) (by simpa using hbz) ?_);intro v2 w2 hown2 hg2;have aJ:Hid (Below W1.heap.size W1 w2):=(fZ HB.out _).grown hg2 (by simpa using hbz) (fun y hy=>(hown.lt y hy).1);have bK:Hid (w2.ownsRow W1.heap.size 3 1 v2 (st.length+1) ((st++[(21:Int)]).map (Value.int .i64))):=by
            show World.ownsRow _ _ _ _ _ _ _;rw [fO];exact hown2
           clear hown hown2 hg2;go_wp2;go_roundg (n - (i+1));case measure=>omega
           case rel=>exact⟨i+1,st++[21],(k:Int),by omega,rfl,by go_num,rfl,by simp<;>omega,HJ.out,by simpa using bK.out,aJ.out⟩
          .rw [ai (fun h=>Il h.2)]at hj;have Ik:c>17:=xu;rcases wO st with rfl|⟨st',u,rfl⟩
           .rw [ai (by simp)]at hj;simp only [kq];subst hj;go_wp2_with fail;go_quiet(fail);go_wp2;go_ret;exact⟨rfl,aG.out.trans ((fZ HB.out _).mono hz1)⟩
           .rw [zW]at*;have hsl:(st'++[u]).length=st'.length+1:=by simp
            rw [hsl]at hown hst ⊢;obtain⟨sg,sd,xA,Q8,hsB,hss⟩:=sL hown (by omega);simp only [uY,vN]at xA;obtain⟨rfl,rfl⟩:=xA;have Qw:wr.cell? ⟨sg,st'.length,none⟩=some (.int .i64 u):=by rw [dg hown st'.length (by omega)];simp
            have IL:wr.ownsRow W1.heap.size 3 1 (.slice (some ⟨sg,0,none⟩) st'.length sc) st'.length (st'.map (Value.int .i64)):=abg (last:=[.int .i64 u]) (by simp) (by rw [fO]at hown;exact hown);have NQ:=ah IL;clear IL hown;obtain⟨m,hm⟩:∃m,m=st'.length:=⟨_,rfl⟩
            have HM:=ah hm;rw [<-hm]at Qw hst Q8 ⊢;have NR:Hid (wr.ownsRow W1.heap.size 3 1 (.slice (some ⟨sg,0,none⟩) m sc) m (st'.map (Value.int .i64))):=by show World.ownsRow _ _ _ _ _ _ _;rw [hm];exact NQ.out
            have ahP:¬sc=0:=by omega
            by_cases Aw:u=c
            .subst Aw;rw [aj (by simp)]at hj;have HJ:Hid (ij ps (rs.drop (i+1)) ((dZ 0 rs).getD (i+1) 0) st' (k:Int)=R):=by show _=_;rw [yj.out,<-hj];simp
             clear hj hm;go_wp2_with fail;go_quiet(fail);go_wp2;go_roundg (n - (i+1));case measure=>omega
             case rel=>exact⟨i+1,st',(k:Int),by omega,rfl,by go_num,rfl,by rw [<-HM.out];omega,HJ.out,by rw [<-HM.out];exact Fs NR.out _,fZ HB.out _⟩
            .rw [ai (by simpa using Aw)]at hj;have ahS:(u==c)=false:=by simpa using Aw
             have ahT:(u !=c)=true:=by simpa using Aw
             subst hj;clear hm;go_wp2_with fail;go_quiet(fail);go_wp2;go_ret;exact⟨rfl,aG.out.trans ((fZ HB.out _).mono hz1)⟩
         .rw [ai (fun h=>xu h.1)]at hj;have Ik:¬c>17:=xu;rcases wO st with rfl|⟨st',u,rfl⟩
          .rw [ai (by simp)]at hj;simp only [kq];subst hj;go_wp2_with fail;go_quiet(fail);go_wp2;go_ret;exact⟨rfl,aG.out.trans ((fZ HB.out _).mono hz1)⟩
          .rw [zW]at*;have hsl:(st'++[u]).length=st'.length+1:=by simp
           rw [hsl]at hown hst ⊢;obtain⟨sg,sd,xA,Q8,hsB,hss⟩:=sL hown (by omega);simp only [uY,vN]at xA;obtain⟨rfl,rfl⟩:=xA;have Qw:wr.cell? ⟨sg,st'.length,none⟩=some (.int .i64 u):=by rw [dg hown st'.length (by omega)];simp
           have IL:wr.ownsRow W1.heap.size 3 1 (.slice (some ⟨sg,0,none⟩) st'.length sc) st'.length (st'.map (Value.int .i64)):=abg (last:=[.int .i64 u]) (by simp) (by rw [fO]at hown;exact hown);have NQ:=ah IL;clear IL hown;obtain⟨m,hm⟩:∃m,m=st'.length:=⟨_,rfl⟩
           have HM:=ah hm;rw [<-hm]at Qw hst Q8 ⊢;have NR:Hid (wr.ownsRow W1.heap.size 3 1 (.slice (some ⟨sg,0,none⟩) m sc) m (st'.map (Value.int .i64))):=by show World.ownsRow _ _ _ _ _ _ _;rw [hm];exact NQ.out
           have ahP:¬sc=0:=by omega
           by_cases Aw:u=c
           .subst Aw;rw [aj (by simp)]at hj;have HJ:Hid (ij ps (rs.drop (i+1)) ((dZ 0 rs).getD (i+1) 0) st' (k:Int)=R):=by show _=_;rw [yj.out,<-hj];simp
            clear hj hm;go_wp2_with fail;go_quiet(fail);go_wp2;go_roundg (n - (i+1));case measure=>omega
            case rel=>exact⟨i+1,st',(k:Int),by omega,rfl,by go_num,rfl,by rw [<-HM.out];omega,HJ.out,by rw [<-HM.out];exact Fs NR.out _,fZ HB.out _⟩
           .rw [ai (by simpa using Aw)]at hj;have ahS:(u==c)=false:=by simpa using Aw
            have ahT:(u !=c)=true:=by simpa using Aw
            subst hj;clear hm;go_wp2_with fail;go_quiet(fail);go_wp2;go_ret;exact⟨rfl,aG.out.trans ((fZ HB.out _).mono hz1)⟩
   .have aoy:((k:Int)==now)=false:=by simpa using hkn
    have aoz:((k:Int) !=now)=true:=by simpa using hkn
    rcases wO st with rfl|⟨st',u,rfl⟩
    .rw [ai (fun h=>h.2 rfl)]at hj;simp only [kq,Em]at hown hst ⊢;by_cases Ii:c<13
     .rw [aj Ii]at hj;have HJ:Hid (ij ps (rs.drop (i+1)) ((dZ 0 rs).getD (i+1) 0) [] (k:Int)=R):=by show _=_;rw [yj.out];exact hj
      have HO:=ah hown;clear hj hown;go_wp2;go_roundg (n - (i+1));case measure=>omega
      case rel=>exact⟨i+1,[],(k:Int),by omega,rfl,by go_num,rfl,by first|omega|simp,HJ.out,HO.out,HB.out⟩
     .rw [ai Ii]at hj;by_cases hx0:xk=0
      .rw [aj (.inl hx0)]at hj;subst hx0;subst hj;go_wp2_with fail;go_quiet(fail);go_wp2;go_ret;exact⟨rfl,aG.out.trans ((fZ HB.out _).mono hz1)⟩
      .have hx0':((xk:Int)==0)=false:=by simpa using hx0
       by_cases hx1:p<xb
       .rw [aj (.inr (.inl hx1))]at hj;have Rc:(p:Int)<(xb:Int):=by omega
        subst hj;go_wp2_with fail;go_quiet(fail);go_wp2;go_ret;exact⟨rfl,aG.out.trans ((fZ HB.out _).mono hz1)⟩
       .have Rc:¬(p:Int)<(xb:Int):=by omega
        by_cases hx2:xe<=p
        .rw [aj (.inr (.inr hx2))]at hj;have Re:(p:Int) ≥ (xe:Int):=by omega
         subst hj;go_wp2_with fail;go_quiet(fail);go_wp2;go_ret;exact⟨rfl,aG.out.trans ((fZ HB.out _).mono hz1)⟩
        .have Re:¬(p:Int) ≥ (xe:Int):=by omega
         rw [ai (fun h=>by rcases h with h|h|h;exact hx0 h;exact hx1 h;exact hx2 h)]at hj;by_cases Ij:c<17
         .rw [aj Ij]at hj;have HJ:Hid (ij ps (rs.drop (i+1)) ((dZ 0 rs).getD (i+1) 0) (([]:List Int)++[17]) (k:Int)=R):=by show _=_;rw [yj.out];exact hj
          clear hj;go_wp2_with fail;go_quiet(fail);go_wp2_with(at_builtin;refine nX _ rfl _ _ 31 rfl W1.heap.size 3 iI (.int .i64 0) 8 underlying31 eY eZ fe fh rfl (by decide) _ _ _ rfl (Fs hown _) _ _ rfl rfl (by omega) (by simpa using hbz) ?_);intro v2 w2 hown2 hg2;have aJ:Hid (Below W1.heap.size W1 w2):=(fZ HB.out _).grown hg2 (by simpa using hbz) (fun y hy=>(hown.lt y hy).1);have bK:Hid (w2.ownsRow W1.heap.size 3 1 v2 (0+1) ((([]:List Int)++[(17:Int)]).map (Value.int .i64))):=by
           show World.ownsRow _ _ _ _ _ _ _;rw [fO];exact hown2
          clear hown hown2 hg2;go_wp2;go_roundg (n - (i+1));case measure=>omega
          case rel=>exact⟨i+1,([]:List Int)++[17],(k:Int),by omega,rfl,by go_num,rfl,by simp<;>omega,HJ.out,by simpa using bK.out,aJ.out⟩
         .rw [ai Ij]at hj;by_cases xu:17<c
          .by_cases Il:c<21
           .rw [aj ⟨xu,Il⟩]at hj;have Ik:c>17:=xu;have HJ:Hid (ij ps (rs.drop (i+1)) ((dZ 0 rs).getD (i+1) 0) (([]:List Int)++[21]) (k:Int)=R):=by show _=_;rw [yj.out];exact hj
            clear hj;go_wp2_with fail;go_quiet(fail);go_wp2_with(at_builtin;refine nX _ rfl _ _ 31 rfl W1.heap.size 3 iI (.int .i64 0) 8 underlying31 eY eZ fe fh rfl (by decide) _ _ _ rfl (Fs hown _) _ _ rfl rfl (by omega) (by simpa using hbz) ?_);intro v2 w2 hown2 hg2;have aJ:Hid (Below W1.heap.size W1 w2):=(fZ HB.out _).grown hg2 (by simpa using hbz) (fun y hy=>(hown.lt y hy).1);have bK:Hid (w2.ownsRow W1.heap.size 3 1 v2 (0+1) ((([]:List Int)++[(21:Int)]).map (Value.int .i64))):=by
             show World.ownsRow _ _ _ _ _ _ _;rw [fO];exact hown2
            clear hown hown2 hg2;go_wp2;go_roundg (n - (i+1));case measure=>omega
            case rel=>exact⟨i+1,([]:List Int)++[21],(k:Int),by omega,rfl,by go_num,rfl,by simp<;>omega,HJ.out,by simpa using bK.out,aJ.out⟩
           .rw [ai (fun h=>Il h.2)]at hj;have Ik:c>17:=xu;rw [ai (by simp)]at hj;subst hj;go_wp2_with fail;go_quiet(fail);go_wp2;go_ret;exact⟨rfl,aG.out.trans ((fZ HB.out _).mono hz1)⟩
          .rw [ai (fun h=>xu h.1)]at hj;have Ik:¬c>17:=xu;rw [ai (by simp)]at hj;subst hj;go_wp2_with fail;go_quiet(fail);go_wp2;go_ret;exact⟨rfl,aG.out.trans ((fZ HB.out _).mono hz1)⟩
    .rw [aj ⟨hkn,by simp⟩]at hj;have hsl:(List.concat st' u).length=st'.length+1:=by simp
     rw [hsl];subst hj;have hs1:((st'.length:Int)+1>0):=by omega
     clear hown hsl hst;go_wp2;go_ret;exact⟨rfl,aG.out.trans (HB.out.mono hz1)⟩
  .obtain rfl:i=n:=by omega
   have hin:¬(i:Int)<(i:Int):=by omega
   rw [uU (by rw [HN.out];exact ay _),ij]at hj;have HB:=ah hb;rcases wO st with rfl|⟨st',u,rfl⟩
   .have hj':true=R:=hj;subst hj';simp only [kq];clear hb hown0;go_wp2;go_ret;exact⟨rfl,aG.out.trans (HB.out.mono hz1)⟩
   .have hj':false=R:=by rw [<-hj];simp
    subst hj';have hsl:(List.concat st' u).length=st'.length+1:=by simp
    rw [hsl];have h0:(((st'.length:Nat):Int)+1==0)=false:=by simp;omega
    clear hb hown0 hj hsl;go_wp2;go_ret;exact⟨by first|rfl|simp;omega,aG.out.trans (HB.out.mono hz1)⟩
theorem agW(cs:List Int)(v:Value)(w:World)(hn:cs.length<=1000000)(hv:js w v cs):Calls prog 70 #[v] w fun e w'=>e= .returned (.int .i64 (found cs))/\w'=w:=by
 rcases hv with⟨rfl,rfl⟩|⟨b,off,cap,rfl,hc⟩
 .exact(XO w).mono fun e w' ⟨he,hw⟩=>⟨by rw [he];rfl,hw⟩
 .exact PT cs b off cap cs.length w rfl hn hc
def vL(rs:List Int)(ps:List PR):Bool:=(found (rs.map cls)==0)&&AJ rs ps&&ij ps rs 0 [] (-1)
theorem alM(rs:List Int)(ps:List PR)(v1 v2:Value)(w:World)(hn:rs.length<=1000)(hps:ps.length<=600)(hv1:js w v1 rs)(hv2:rP w v2 ps)
  (Ip:∀i,i<rs.length->∃k x,pI ((dZ 0 rs).getD i 0) ps 0=((k:Nat):Int)/\ps[k]? =some x):
  Calls prog 78 #[v1,v2] w fun e w'=>e= .returned (.bool (vL rs ps))/\Below w.heap.size w w':=by
 have HC:=afF rs v1 w hn hv1;have HO:Hid (∀W,Below w.heap.size w W->Calls prog 131 #[v1,v2] W fun e w'=>e= .returned (.bool (AJ rs ps))/\Below W.heap.size W w'):=fun W hW=>ajV rs ps v1 v2 W hn hps (hv1.below hW) (hv2.below hW)
 have HL:Hid (∀W,Below w.heap.size w W->Calls prog 132 #[v1,v2] W fun e w'=>e= .returned (.bool (ij ps rs 0 [] (-1)))/\Below W.heap.size W w'):=fun W hW=>afI rs ps v1 v2 W hn hps (hv1.below hW) (hv2.below hW) Ip
 have HFn:Hid (∀W v,js W v (rs.map cls)->Calls prog 70 #[v] W fun e w'=>e= .returned (.int .i64 (found (rs.map cls)))/\w'=W):=fun W v h=>agW _ v W (by simp;omega) h
 have HR:Hid (vL rs ps=((found (rs.map cls)==0)&&AJ rs ps&&ij ps rs 0 [] (-1))):=rfl;generalize vL rs ps=R at*;generalize AJ rs ps=A at*;generalize ij ps rs 0 [] (-1)=B at*;generalize found (rs.map cls)=F at*;clear hv1 hv2 Ip;go_enter func78,ntmps78;go_wp2_with fail;refine HC.mono ?_;clear HC;rintro ev W1 ⟨cv,rfl,hrow,hb1⟩;have bD:=ah (js.JA hrow);have aG:=ah hb1;have hz1:=hb1.size;clear hrow hb1;go_wp2_with fail;refine(HO.out _ aG.out).mono ?_;rintro ev W2 ⟨rfl,hb2⟩;have aJ:=ah (aG.out.trans (hb2.mono hz1));have cW:=ah (bD.out.below hb2);have hz2:=aJ.out.size;clear hb2;go_wp2_with fail;refine(HL.out _ aJ.out).mono ?_;rintro ev W3 ⟨rfl,hb3⟩;have aI:=ah (aJ.out.trans (hb3.mono hz2));have jB:=ah (cW.out.below hb3);clear hb3;go_wp2_with fail;refine(HFn.out _ _ jB.out).mono ?_;rintro ev wx ⟨rfl,hwx⟩;have jK:=hwx.symm;subst jK;clear hwx;have hR:=HR.out;by_cases hF:F=0
 .subst hF;cases A<;>cases B<;>(simp at hR;subst hR;go_wp2;go_ret;exact⟨rfl,aI.out⟩)
 .have hF':(F==0)=false:=by simpa using hF
  rw [hF']at hR;simp at hR;subst hR;go_wp2;go_ret;exact⟨rfl,aI.out⟩
def fA(s:ByteArray):List Bool:=(List.range (bF s 0 0).length).map fun i=>vL ((dP (bF s 0 0)).getD i []) (nE s i)
theorem afM:∀r:Fin 128,cls (r.val:Int)<13:=by decide+kernel
theorem afN {r:Int}(h0:0<=r)(h:r<128):cls r<13:=by
 obtain⟨n,rfl⟩:∃n:Nat,r=(n:Int):=⟨r.toNat,by omega⟩
 exact afM ⟨n,by omega⟩
def kQ(y:PR):List Int->Nat->List Int->Option (List Int)
 |[],_,st=>some st
 |r::rs,p,st=>
  if cls r<13 then kQ y rs (p+wd r) st
  else if y.kind=0∨p<y.body∨y.end_<=p then none
  else if cls r<17 then kQ y rs (p+wd r) (st++[17])
  else if 17<cls r/\cls r<21 then kQ y rs (p+wd r) (st++[21])
  else if st.getLast? =some (cls r)then kQ y rs (p+wd r) st.dropLast else none
def Sm:Option (List Int)->Bool
 |some []=>true
 |_=>false
theorem WD {x:ByteArray}{ps:List PR}{k:Nat}{y:PR}(hy:ps[k]? =some y):∀(r1:List Int)(a b:Nat)(r2 st:List Int)(now:Int),RX x a b r1->(∀q,a<=q->q<b->pI q ps 0=(k:Int))->(st=[]∨now=(k:Int))->
  ij ps (r1++r2) a st now=match kQ y r1 a st with
   |none=>false
   |some st'=>ij ps r2 b st' (if r1=[]then now else(k:Int))
 |[],a,b,r2,st,now,h,_,_=>by
  have:a=b:=h;subst this;simp [kQ]
 |r::r1,a,b,r2,st,now,h,hp,hn=>by
  obtain⟨h1,h2,h3,h4⟩:=h;have hle:=FB h4;have hw:=FC h1 h2 h3;have hpa:=hp a (ay _) (by omega);have hne:¬((k:Int)≠now/\st≠[]):=by
   rintro⟨u1,u2⟩;rcases hn with hn|hn
   .exact u2 hn
   .exact u1 hn.symm
  rw [Gy,WA ps r _ a st now k y hpa hy,ai hne,kQ];have ih:=fun st'=>WD hy r1 (a+bu x a) b r2 st' (k:Int) h4 (fun q q1 q2=>hp q (by omega) q2) (.inr rfl)
  rw [<-hw]at ih;simp only [ite_self]at ih;by_cases c1:cls r<13
  .rw [aj c1,aj c1,ih];simp
  .rw [ai c1,ai c1];by_cases c2:y.kind=0∨a<y.body∨y.end_<=a
   .rw [aj c2,aj c2]
   .rw [ai c2,ai c2];by_cases c3:cls r<17
    .rw [aj c3,aj c3,ih];simp
    .rw [ai c3,ai c3];by_cases c4:17<cls r/\cls r<21
     .rw [aj c4,aj c4,ih];simp
     .rw [ai c4,ai c4];by_cases c5:st.getLast? =some (cls r)
      .rw [aj c5,aj c5,ih];simp
      .rw [ai c5,ai c5]
theorem Pm {x:ByteArray}(y:PR):∀(r1:List Int)(a b:Nat)(r2 st:List Int),RX x a b r1->kQ y (r1++r2) a st=match kQ y r1 a st with
   |none=>none
   |some st'=>kQ y r2 b st'
 |[],a,b,r2,st,h=>by
  have:a=b:=h;subst this;rfl
 |r::r1,a,b,r2,st,h=>by
  obtain⟨h1,h2,h3,h4⟩:=h;have hw:=FC h1 h2 h3;have ih:=fun st'=>Pm y r1 (a+bu x a) b r2 st' h4
  rw [<-hw]at ih;rw [Gy,kQ,kQ];by_cases c1:cls r<13
  .rw [aj c1,aj c1,ih]
  .rw [ai c1,ai c1];by_cases c2:y.kind=0∨a<y.body∨y.end_<=a
   .rw [aj c2,aj c2]
   .rw [ai c2,ai c2];by_cases c3:cls r<17
    .rw [aj c3,aj c3,ih]
    .rw [ai c3,ai c3];by_cases c4:17<cls r/\cls r<21
     .rw [aj c4,aj c4,ih]
     .rw [ai c4,ai c4];by_cases c5:st.getLast? =some (cls r)
      .rw [aj c5,aj c5,ih]
      .rw [ai c5,ai c5]
theorem Pn(y:PR):∀(rs:List Int)(a:Nat)(st:List Int),(∀r∈rs,cls r<13)->kQ y rs a st=some st
 |[],_,_,_=>rfl
 |r::rs,a,st,h=>by rw [kQ,aj (h r KN)];exact Pn y rs _ st (fun z hz=>h z (En _ hz))
theorem WC(y:PR)(hk:y.kind=0):∀(rs:List Int)(a:Nat)(st:List Int),kQ y rs a st=if xR rs=true then none else some st
 |[],_,_=>rfl
 |r::rs,a,st=>by
  have hb:=Le r;rw [kQ];unfold xR;rw [Vx];by_cases c1:cls r<13
  .rw [aj c1,WC y hk rs];have:kZ (cls r)=false:=by unfold kZ;rw [rB (by omega)];rfl
   rw [this];rfl
  .rw [ai c1,aj (.inl hk)];have:kZ (cls r)=true:=by unfold kZ;rw [mX (by omega),mX (by omega)];rfl
   rw [this];rfl
theorem WB {x:ByteArray}(y:PR)(hk:y.kind≠0):∀(rs:List Int)(a b:Nat)(st:List Nat),RX x a b rs->y.body<=a->b<=y.end_->Sm (kQ y rs a (st.map (fun(n:Nat)=>(n:Int))))=qb rs st
 |[],a,b,st,_,_,_=>by
  rw [kQ,qb];cases st with
  |nil=>rfl
  |cons s ss=>rfl
 |r::rs,a,b,st,h,hb,he=>by
  obtain⟨h1,h2,h3,h4⟩:=h;have hle:=FB h4;have hw:=FC h1 h2 h3;have hcb:=Le r;have ih:=fun st'=>WB y hk rs (a+bu x a) b st' h4 (by omega) he
  rw [<-hw]at ih;rw [kQ,qb];by_cases c1:cls r<13
  .have e1:kS (cls r)=false:=by unfold kS;simp;omega
   have e2:aS (cls r)=false:=by unfold aS;simp;omega
   have e3:kZ (cls r)=false:=by unfold kZ;rw [rB (by omega)];rfl
   rw [aj c1,e1,e2,e3,ih];simp
  .rw [ai c1,ai (fun h=>by rcases h with h|h|h;exact hk h;omega;omega)];by_cases c3:cls r<17
   .have e1:kS (cls r)=true:=by unfold kS;simp;omega
    rw [aj c3,aj e1,<-ih,fO];rfl
   .have e1:¬kS (cls r)=true:=by unfold kS;simp;omega
    rw [ai c3,ai e1];by_cases c4:17<cls r/\cls r<21
    .have e2:aS (cls r)=true:=by unfold aS;simp;omega
     rw [aj c4,aj e2,<-ih,fO];rfl
    .have e2:¬aS (cls r)=true:=by unfold aS;simp;omega
     have e3:kZ (cls r)=true:=by unfold kZ;rw [mX (by omega),mX (by omega)];rfl
     rw [ai c4,ai e2,aj e3];rcases wO st with rfl|⟨st',u,rfl⟩
     .rfl
     .rw [zW,fO];simp only [pX,Em,KI,aea,Option.some_or,Ei,Bo];by_cases hu:(u:Int)=cls r
      .rw [aj hu,aj hu,ih]
      .rw [ai hu,ai hu];rfl
theorem Tc {x:ByteArray}:∀(rs:List Int)(a b:Nat),RX x a b rs->(∀q,a<=q->q<b->bt x q<128)->∀r∈rs,cls r<13
 |[],_,_,_,_,r,hr=>by cases hr
 |r0::rs,a,b,h,hl,r,hr=>by
  obtain⟨h1,h2,h3,h4⟩:=h;have hle:=FB h4;rcases jF.1 hr with rfl|hr
  .have hb:=hl a (ay _) (by omega);have e:bt x a=((x.get! a).toNat:Int):=by unfold bt;rw [aj h1]
   rw [e]at hb;rcases FK x a h1 h2 with⟨_,c1,c2⟩|⟨_,_,c1,_⟩|⟨_,_,c1,_⟩|⟨_,_,c1,_⟩
   .rw [h3,c2];exact afN (by omega) (by omega)
   .omega
   .omega
   .omega
  .exact Tc rs _ b h4 (fun q q1 q2=>hl q (by omega) q2) r hr
theorem Td {x:ByteArray}{q:Nat}(hq:q<=x.size)(ha:Asc x q):∀(rs:List Int)(p b:Nat),RX x p b rs->p<=q->q<=b->∃r1 r2,rs=r1++r2/\RX x p q r1/\RX x q b r2
 |rs,p,b,h,hp,Q5=>by
  by_cases he:p=q
  .subst he;exact⟨[],rs,rfl,rfl,h⟩
  .cases rs with
   |nil=>have:p=b:=h;omega
   |cons r rs=>
    obtain⟨h1,h2,h3,h4⟩:=h;by_cases hin:q<p+bu x p
    .exact absurd ha (WR h1 h2 (by omega) hin)
    .obtain⟨r1,r2,e1,e2,e3⟩:=Td hq ha rs (p+bu x p) b h4 (by omega) Q5;exact⟨r::r1,r2,by rw [e1];rfl,⟨h1,h2,h3,e2⟩,e3⟩
theorem akl {x:ByteArray}{y:PR}{r1:List Int}(hx:PX x y)(h:RX x y.from_ y.dU r1):Sm (kQ y r1 y.from_ [])=oC x y:=by
 unfold oC;by_cases hk:y.kind=0
 .rw [aj hk,JP hx.tl h,WC y hk];simp only [CU];cases xR r1<;>rfl
 .rw [ai hk];obtain⟨b1,b2,b3,b4,b5,b6,b7⟩:=hx.bd hk;have htl:=hx.tl;obtain⟨ra,r',e1,e2,e3⟩:=Td (by omega:y.body<=x.size) b4 r1 y.from_ y.dU h b1 (by omega);obtain⟨rb,rc,e4,e5,e6⟩:=Td (by omega:y.end_<=x.size) b5 r' y.body y.dU e3 b2 b3;rw [JP (by omega) e5];simp only [CU];rw [e1,Pm y ra _ y.body r' [] e2,Pn y ra _ [] (Tc ra _ _ e2 b6)];simp only;rw [e4,Pm y rb _ y.end_ rc [] e5];have hb:=WB (x:=x) y hk rb y.body y.end_ [] e5 (ay _) (ay _);rw [Em]at hb;rw [<-hb];cases kQ y rb y.body []with
  |none=>rfl
  |some st=>
   simp only;rw [Pn y rc _ st (Tc rc _ _ e6 b7)]
theorem WI {x:ByteArray}{ps:List PR}:∀(qs:List PR)(a k:Nat)(rs:List Int)(now:Int),wY a x.size qs->RA x a rs->(∀y∈qs,PX x y)->(∀q,a<=q->pI q ps 0=pI q qs k)->(∀j,qs[j]? =ps[k+j]?)->ij ps rs a [] now=qs.all (oC x)
 |[],a,k,rs,now,hc,hr,_,_,_=>by
  have hc':a=x.size:=hc;cases rs with
  |nil=>rfl
  |cons r rs=>have:=hr.1;omega
 |y::ys,a,k,rs,now,hc,hr,hx,hp,hj=>by
  obtain⟨c1,c2,c3⟩:=hc;have px:=hx y KN;obtain⟨r1,r2,e1,e2,e3⟩:=JI px.tl px.aT rs a hr (by omega);have hy:ps[k]? =some y:=by have:=hj 0;simpa using this.symm
  have hin:∀q,a<=q->q<y.dU->pI q ps 0=(k:Int):=fun q q1 q2=>by rw [hp q q1,pI,aj ⟨by omega,q2⟩]
  have hne:r1≠[]:=by
   rintro rfl;have:a=y.dU:=e2;omega
  have hout:∀q,y.dU<=q->pI q ps 0=pI q ys (k+1):=fun q q1=>by rw [hp q (by omega),pI,ai (fun h=>by omega)]
  have hj2:∀j,ys[j]? =ps[k+1+j]? :=fun j=>by have:=hj (j+1);rw [show k+1+j=k+(j+1)by omega,<-this];simp
  have ih:=WI ys y.dU (k+1) r2 (k:Int) c3 e3 (fun z hz=>hx z (En _ hz)) hout hj2;have hb:=akl px (by rw [c1];exact e2);rw [c1]at hb;rw [e1,WD hy r1 a y.dU r2 [] now e2 hin (.inl rfl),List.all_cons,<-hb,ai hne];cases hq:kQ y r1 a []with
  |none=>rfl
  |some st=>
   cases st with
   |nil=>simp only;rw [ih];rfl
   |cons u us=>
    simp only;have hd:Sm (some (u::us))=false:=rfl;rw [hd,Bool.false_and];cases r2 with
    |nil=>rfl
    |cons r r2=>
     rw [ij,aj];refine⟨?_,by simp⟩;rw [hout y.dU (ay _)];intro he;have:∀(l:List PR)(m q:Nat),k<m->pI q l m≠(k:Int):=by
      intro l
      induction l with
      |nil=>intro m q _ h;rw [pI]at h;omega
      |cons z zs ihz=>
       intro m q hm h;rw [pI]at h;split at h
       .omega
       .exact ihz (m+1) q (by omega) h
     exact this ys (k+1) y.dU (by omega) he
theorem afJ {x:ByteArray}{ps:List PR}{rs:List Int}(hc:wY 0 x.size ps)(hr:RA x 0 rs)(hx:∀y∈ps,PX x y):ij ps rs 0 [] (-1)=ps.all (oC x):=
 WI ps 0 0 rs (-1) hc hr hx (fun _ _=>rfl) (fun j=>by rw [iz])
theorem alN {x:ByteArray}{ps:List PR}{rs:List Int}(hc:wY 0 x.size ps)(hr:RA x 0 rs)(hx:∀y∈ps,PX x y):JQ x rs ps=vL rs ps:=by
 unfold JQ vL;rw [ajR hc hr hx,afJ hc hr hx]
theorem O4:∀{l:List ByteArray}{i:Nat},p9 l i=none->∀x∈l,∃rs,fH x=some rs
 |[],_,_,x,hx=>by cases hx
 |y::ys,i,h,x,hx=>by
  rw [p9]at h;cases hr:fH y with
  |none=>rw [hr]at h;cases h
  |some l=>
   rw [hr]at h;rcases jF.1 hx with rfl|hx
   .exact⟨l,hr⟩
   .exact O4 h x hx
theorem aaF:∀{l:List (List Int)}{i:Nat},oL l i=none->∀x∈l,x.length<=300
 |[],_,_,x,hx=>by cases hx
 |y::ys,i,h,x,hx=>by
  rw [oL]at h;by_cases hy:300<y.length
  .rw [aj hy]at h;cases h
  .rw [ai hy]at h;rcases jF.1 hx with rfl|hx
   .omega
   .exact aaF h x hx
theorem look_ok {s:ByteArray}(h:(dS s).1=0):s.size<=600/\dS s=(0,0,0)/\∀i,i<(bF s 0 0).length->fH ((bF s 0 0).getD i ⟨#[]⟩)=some ((dP (bF s 0 0)).getD i [])/\((dP (bF s 0 0)).getD i []).length<=300:=by
 have hz:¬600<s.size:=by
  intro hz;unfold dS at h;rw [aj hz]at h;cases h
 unfold dS at h ⊢;rw [ai hz]at h ⊢;cases hb:p9 (bF s 0 0) 0 with
 |some x=>rw [hb]at h;cases h
 |none=>
  rw [hb]at h;simp only at h ⊢;cases hl:oL (dP (bF s 0 0)) 0 with
  |some x=>rw [hl]at h;cases h
  |none=>
   refine⟨by omega,rfl,fun i hi=> ?_⟩;have hrl:(dP (bF s 0 0)).length=(bF s 0 0).length:=by simp [dP]
   have e1:(bF s 0 0).getD i ⟨#[]⟩=(bF s 0 0)[i]:=by rw [aO,aQ hi];rfl
   have e2:(dP (bF s 0 0)).getD i []=(dP (bF s 0 0))[i]'(by omega):=by rw [aO,aQ (by omega)];rfl
   obtain⟨rs,hrs⟩:=O4 hb _ (pV hi);have e3:(dP (bF s 0 0))[i]'(by omega)=rs:=by simp [dP,hrs]
   refine⟨by rw [e1,e2,e3,hrs],?_⟩;rw [e2];exact aaF hl _ (pV _)
theorem akJ {s:ByteArray}(h:(dS s).1=0)(i:Nat)(hi:i<(bF s 0 0).length):∀j,j<((dP (bF s 0 0)).getD i []).length->∃k x,pI ((dZ 0 ((dP (bF s 0 0)).getD i [])).getD j 0) (nE s i) 0=((k:Nat):Int)/\(nE s i)[k]? =some x:=by
 obtain⟨hz,_,hl⟩:=look_ok h;obtain⟨hr,_⟩:=hl i hi;intro j hj;obtain⟨k,x,h1,h2,_,_⟩:=Wu (abN s hz i hi) (rY _) (abT (Fy hr) j hj);exact⟨k,x,by rw [h1];simp,h2⟩
theorem abO(s:ByteArray)(i:Nat):(nE s i).length<=600:=bU (Sl _ _) (ML s)
def lD(l:List Bool):List Value:=l.map fun b=> .bool b
theorem XM {W:World}{b:Nat}{T:TypeId}{a0 a1 a2:Value}(h:W.heap[b]? =some (.cells #[a0,a1,a2] T (0,0)))(x y z:Value):(((W.setCell ⟨b,0,none⟩ x).setCell ⟨b,1,none⟩ y).setCell ⟨b,2,none⟩ z).heap[b]? =some (.cells #[x,y,z] T (0,0)):=by
 have h1:=Y7 W b 0 _ T x h;have h2:=Y7 _ b 1 _ T y h1;have h3:=Y7 _ b 2 _ T z h2;rw [h3];rfl
theorem agT {W:World}{b:Nat}{T:TypeId}{a0 a1 a2:Value}(h:W.heap[b]? =some (.cells #[a0,a1,a2] T (0,0)))(x y z:Value)(o:Obj):
  ((((W.setCell ⟨b,0,none⟩ x).setCell ⟨b,1,none⟩ y).setCell ⟨b,2,none⟩ z).alloc o).drew.cell? ⟨b,0,none⟩=some x/\((((W.setCell ⟨b,0,none⟩ x).setCell ⟨b,1,none⟩ y).setCell ⟨b,2,none⟩ z).alloc o).drew.cell? ⟨b,1,none⟩=some y/\((((W.setCell ⟨b,0,none⟩ x).setCell ⟨b,1,none⟩ y).setCell ⟨b,2,none⟩ z).alloc o).drew.cell? ⟨b,2,none⟩=some z:=by
 have h1:=XM h x y z;have h2:((((W.setCell ⟨b,0,none⟩ x).setCell ⟨b,1,none⟩ y).setCell ⟨b,2,none⟩ z).alloc o).drew.heap[b]? =some (.cells #[x,y,z] T (0,0)):=(dM _ _ _ (eO h1)).trans h1;exact⟨cell_of h2 0,cell_of h2 1,cell_of h2 2⟩
theorem agU {W:World}{b:Nat}{T:TypeId}{a0 a1 a2:Value}(h:W.heap[b]? =some (.cells #[a0,a1,a2] T (0,0)))(x y z:Value):
  (((W.setCell ⟨b,0,none⟩ x).setCell ⟨b,1,none⟩ y).setCell ⟨b,2,none⟩ z).drew.cell? ⟨b,0,none⟩=some x/\(((W.setCell ⟨b,0,none⟩ x).setCell ⟨b,1,none⟩ y).setCell ⟨b,2,none⟩ z).drew.cell? ⟨b,1,none⟩=some y/\(((W.setCell ⟨b,0,none⟩ x).setCell ⟨b,1,none⟩ y).setCell ⟨b,2,none⟩ z).drew.cell? ⟨b,2,none⟩=some z:=by
 have h2:(((W.setCell ⟨b,0,none⟩ x).setCell ⟨b,1,none⟩ y).setCell ⟨b,2,none⟩ z).drew.heap[b]? =some (.cells #[x,y,z] T (0,0)):=XM h x y z;exact⟨cell_of h2 0,cell_of h2 1,cell_of h2 2⟩
theorem ak6(s:ByteArray)(w:World):Calls prog 51 #[.string s] w fun e w'=>Below w.heap.size w w'/\∃v,e= .returned (.tuple #[v,AB s])/\((dS s).1≠0->v= .slice none 0 0)/\((dS s).1=0->w'.ownsRow (w.heap.size+1) 4 1 v (fA s).length (lD (fA s))):=by
 obtain⟨iB,QG,Z7⟩:∃i,prog.info? 4=some i/\(i.zero,i.size,i.bytes)=(some (.bool false),1,1):=by simpa using Tryz.Fa
 simp only [GR]at Z7;obtain⟨Ri,Rj,Rk⟩:=Z7;have HL:=ai4 s (w.alloc (.cells #[.int .i64 0,.int .i64 0,.int .i64 0] 47));obtain⟨F1,F2,F3,hF⟩:∃a b c,dS s=(a,b,c):=⟨_,_,_,rfl⟩
 have HF:=ah hF;have hV:AB s= .agg #[.int .i64 F1,.int .i64 F2,.int .i64 F3]:=by unfold AB;rw [hF]
 rw [hV]at HL ⊢;rw [hF]at HL ⊢;simp only at HL ⊢;clear hF hV;by_cases hE:F1=0
 .subst hE;have dN:Hid ((dS s).1=0):=by show _=_;rw [HF.out]
  have hF0:F2=0/\F3=0:=by
   have:=(look_ok dN.out).2.1;rw [HF.out]at this;simpa using this
  obtain⟨rfl,rfl⟩:=hF0;obtain⟨LS,BJ⟩:∃LS,LS=bF s 0 0:=⟨_,rfl⟩
  have Kl:=ah BJ;have hle:=Jq s 0 0 (by omega);have I4:=(look_ok dN.out).1;rw [<-BJ]at HL hle;obtain⟨N,hN⟩:∃N,N=LS.length:=⟨_,rfl⟩
  have HN:=ah hN;rw [<-hN]at hle;have yY:(dP LS).length=N:=by rw [hN];simp [dP]
  have Du:(fA s).length=N:=by rw [hN,BJ];simp [fA]
  have Ed:=ah yY;have yo:=ah Du;have uR:Hid (∀i,i<N->(fA s).getD i false=vL ((dP LS).getD i []) (nE s i)):=fun i hi=>by
   have hi':i<(bF s 0 0).length:=by rw [<-BJ,<-hN];exact hi
   unfold fA;rw [aO,jO,GC hi',BJ];rfl
  have HOf:Hid (∀(i:Nat) W v,rP W v (nT s)->Calls prog 79 #[v,.int .i64 i] W fun e w'=>∃v',e= .returned v'/\rP w' v' (nE s i)/\Below W.heap.size W w'):=fun i W v hW=>(ajG (nT s) v i W (ML s) hW).mono fun e w' ⟨v',he,ho,hb⟩=>⟨v',he,W9 ho,hb⟩
  have HSf:Hid (∀(i:Nat),i<N->∀W v1 v2,js W v1 ((dP LS).getD i [])->rP W v2 (nE s i)->Calls prog 78 #[v1,v2] W fun e w'=>e= .returned (.bool (vL ((dP LS).getD i []) (nE s i)))/\Below W.heap.size W w'):=fun i hi W v1 v2 h1 h2=>by
   have hi':i<(bF s 0 0).length:=by rw [<-BJ,<-hN];exact hi
   have h3:=((look_ok dN.out).2.2 i hi').2;have h4:=akJ dN.out i hi';rw [<-BJ]at h3 h4;exact alM _ _ v1 v2 W (by omega) (abO s i) h1 h2 h4
  clear BJ hN yY Du;go_enter func51,ntmps51;go_wp2_with fail;refine HL.mono ?_;clear HL;rintro ev W1 ⟨hb1,rv,rfl,_,hrows⟩;have Q7:=hrows (by first|rfl|trivial);have Vg:Hid (wU W1 (w.heap.size+1) rv (dP LS)):=by
   obtain⟨vs,h1,h2⟩:=Q7;exact⟨vs,Ch h1 (by simp),fun j hj=>Ch (h2 j hj) (by simp)⟩
  have qL:Hid (W1.heap[w.heap.size]? =some (.cells #[.int .i64 0,.int .i64 0,.int .i64 0] 47 (0,0))):=cB hb1 (World.alloc_heap_new _ _);have aG:Hid (Below w.heap.size w W1):=((aA _ _).alloc (ay _) _).trans (hb1.mono (by simp));have hz1:w.heap.size<W1.heap.size:=eO qL.out;have HP:=ak5 s (W1.alloc (.cells #[.int .i64 0,.int .i64 0,.int .i64 0] 47));rw [af9]at HP;have yh:Hid _:=HP;have hrl:=Q7.elim fun vs h=>kE h.1
  obtain⟨ra,rc,rfl⟩:=hrl;rw [Ed.out]at Vg ⊢;clear hb1 hrows Q7 HP;go_wp2_with fail;refine zy yh.out ?_;clear yh;rintro ev W2 ⟨pv,rfl,hpo,hb2⟩;have HD2:=ah (W9 hpo);have LR:Below W1.heap.size W1 W2:=((aA _ _).alloc (ay _) _).trans (hb2.mono (by simp));have aJ:=ah LR;have zH:=ah (cB LR qL.out);have UJ:Hid (W2.heap[W1.heap.size]? =some (.cells #[.int .i64 0,.int .i64 0,.int .i64 0] 47 (0,0))):=cB hb2 (World.alloc_heap_new _ _);have gH:=ah (Vg.out.below LR);have hz2:W1.heap.size<W2.heap.size:=eO UJ.out;clear hpo hb2 LR;go_wp2;go_loopg [7,8,9] N (fun gk ov fE _ W=>∃(i:Nat),i<=N/\gk=N - i/\fE= .int .i64 i/\W.ownsRow W2.heap.size 4 1 ov i (lD ((fA s).take i))/\Below W2.heap.size W2 W);case atStart=>exact⟨0,by omega,rfl,rfl,jw _ _ _ _,aA _ _⟩
  case round=>
   rename World=>wa
   obtain⟨i,hi,rfl,rfl,hown,hb⟩:=hrel;obtain⟨oa,oc,rfl⟩:=kE hown;have HB:=ah hb;have hbz:=hb.size;by_cases hlt:i<N
   .have HDa:=ah (HD2.out.below hb);obtain⟨vs,nu,vE⟩:=gH.out.below hb;rw [Ed.out]at nu vE;obtain⟨rg,rd,hre,hrd,_,aoM⟩:=sL nu (by omega);simp only [uY,vN]at hre;obtain⟨rfl,rfl⟩:=hre;have hcv:wa.cell? ⟨rg,i,none⟩=some (vs.getD i undef):=by
     rw [dg nu i (by omega)];have hvl:vs.length=N:=by have:=nu.1;omega
     rw [aQ (by omega),aO,aQ (by omega)];rfl
    have HSa:=ah (js.JA (vE i hlt));have adT:Hid (∀W v2,Below wa.heap.size wa W->rP W v2 (nE s i)->Calls prog 78 #[vs.getD i undef,v2] W fun e w'=>e= .returned (.bool (vL ((dP LS).getD i []) (nE s i)))/\Below W.heap.size W w'):=fun W v2 hW h2=>HSf.out i hlt W _ v2 (HSa.out.below hW) h2
    have hform:=kE (vE i hlt);generalize vs.getD i undef=vi at*;have rD:(fA s).take (i+1)=(fA s).take i++[vL ((dP LS).getD i []) (nE s i)]:=by
     rw [<-uR.out i hlt,pZ (by rw [yo.out];exact hlt)]
     congr 2
     rw [aO,aQ (by rw [yo.out];exact hlt)];rfl
    have HBo:=ah rD;generalize vL ((dP LS).getD i []) (nE s i)=ok at*;have hin:(i:Int)<(N:Int):=by omega
    have CK:=ah hown;clear nu vE hown hb rD;go_wp2
    go_region_with (first
     |(go_at_call 79;refine(HOf.out i _ _ (HDa.out.below ((aA _ _).drew))).mono ?_;rintro e w2 ⟨v',rfl,hD',hb'⟩;have ahi:w2.cell? ⟨rg,i,none⟩=some vi:=jf hb' hcv)
     |(go_at_call 78;refine(adT.out _ _ (((aA _ _).drew).trans (hb'.mono (by simp))) hD').mono ?_;rintro e w3 ⟨rfl,hb3⟩))
    all_goals
     have hw3:Below wa.heap.size wa w3:=(((aA _ _).drew).trans (hb'.mono (by simp))).trans (hb3.mono (by have:=hb'.size;simpa using this));have aI:=ah (HB.out.trans (hw3.mono hbz));have hown:=vJ CK.out hw3;have YV:=aI.out.size;clear hD' hb' hb3 ahi hw3 hcv hform;go_wp2_with(at_builtin;refine nX _ rfl _ _ 36 rfl W2.heap.size 4 iB (.bool false) 1 underlying36 QG Ri Rj Rk rfl (by decide) _ _ _ rfl hown _ _ rfl rfl (by omega) YV ?_);intro v2 w4 hown2 hg2;have fB:Hid (Below W2.heap.size W2 w4):=aI.out.grown hg2 YV (fun y hy=>(hown.lt y hy).1);have Bd:Hid (w4.ownsRow W2.heap.size 4 1 v2 (i+1) (lD ((fA s).take (i+1)))):=by
      show World.ownsRow _ _ _ _ _ _ _;rw [HBo.out,lD,fO];exact hown2
     clear hown hown2 hg2;go_wp2;go_roundg (N - (i+1));case measure=>omega
     case rel=>exact⟨i+1,by omega,rfl,by go_num,Bd.out,fB.out⟩
   .obtain rfl:i=N:=by omega
    have hin:¬(i:Int)<(i:Int):=by omega
    rw [lB (by rw [yo.out];exact ay _)]at hown;have bX:=cB hb zH.out;have L9:=cB hb UJ.out;have k0:=cell_of bX 0;have k1:=cell_of bX 1;have k2:=cell_of bX 2;have l0:=cell_of L9 0;have l1:=cell_of L9 1;have l2:=cell_of L9 2;simp only [wR,wP,wQ]at k0 k1 k2 l0 l1 l2;have f0:=w9 wa w.heap.size 0 _ _ bX;have f1:=w9 wa w.heap.size 1 _ _ bX;have f2:=w9 wa w.heap.size 2 _ _ bX;have HQ:Hid _:=agU bX (.int .i64 0) (.int .i64 0) (.int .i64 0);have CK:=ah hown;have oU:Hid (Below w.heap.size w wa):=aG.out.trans ((aJ.out.trans (hb.mono (by omega))).mono (by omega));clear hown hb bX L9;go_wp2;go_region;go_wp2;obtain⟨q0,q1,q2⟩:=HQ.out;refine cG (v:= .tuple #[.slice oa i oc,.agg #[.int .i64 0,.int .i64 0,.int .i64 0]]) (by simp only [results,results51];simp [go_sem,q0,q1,q2]) rfl ⟨(((oU.out.setCell (ay _) _).setCell (ay _) _).setCell (ay _) _).drew,_,rfl,fun h=>absurd rfl h,fun _=> ?_⟩;rw [yo.out];exact Ch (xL (xL (xL CK.out (by simp;omega) _) (by simp;omega) _) (by simp;omega) _) (by omega)
 .have hE':(F1==0)=false:=by simpa using hE
  have aoh:(F1 !=0)=true:=by simpa using hE
  go_enter func51,ntmps51;go_wp2_with fail;refine HL.mono ?_;clear HL;rintro ev W1 ⟨hb1,v,rfl,hnil,_⟩;have I7:=hnil hE;subst I7;have bX:=cB hb1 (World.alloc_heap_new _ _);have k0:=cell_of bX 0;have k1:=cell_of bX 1;have k2:=cell_of bX 2;simp only [wR,wP,wQ]at k0 k1 k2;have f0:=w9 W1 w.heap.size 0 _ _ bX;have f1:=w9 W1 w.heap.size 1 _ _ bX;have f2:=w9 W1 w.heap.size 2 _ _ bX;have aG:Hid (Below w.heap.size w W1):=((aA _ _).alloc (ay _) _).trans (hb1.mono (by simp));have hz1:w.heap.size<W1.heap.size:=eO bX;have HE:=ah hE;have HQ:Hid _:=agT bX (.int .i64 F1) (.int .i64 F2) (.int .i64 F3) (.cells #[.int .i64 F1,.int .i64 F2,.int .i64 F3] 47);clear hb1 hnil bX hE;go_wp2;go_region;go_wp2;obtain⟨q0,q1,q2⟩:=HQ.out;exact cG (v:= .tuple #[.slice none 0 0,.agg #[.int .i64 F1,.int .i64 F2,.int .i64 F3]]) (by simp only [results,results51];simp [go_sem,q0,q1,q2]) rfl ⟨((((aG.out.setCell (ay _) _).setCell (ay _) _).setCell (ay _) _).alloc (by simp;omega) _).drew,_,rfl,fun _=>rfl,fun h=>absurd h HE.out⟩
theorem akK {s:ByteArray}(hz:s.size<=600)(i:Nat):∀y∈nE s i,PX ((bF s 0 0).getD i ⟨#[]⟩) y:=by
 intro y hy;unfold nE gX at hy;obtain⟨h1,h2⟩:=uW.1 hy;have h3:y.line=i:=by simpa using h2
 rw [SG s hz]at h1;obtain⟨x,h4,h5⟩:=abr s y h1;rw [h3]at h4;rw [aO,h4];exact h5
theorem ai2 {s:ByteArray}(hz:s.size<=600)(i:Nat)(hi:i<(bF s 0 0).length):((bF s 0 0).getD i ⟨#[]⟩).size<=600:=by
 have e:(bF s 0 0).getD i ⟨#[]⟩=(bF s 0 0)[i]:=by rw [aO,aQ hi];rfl
 rw [e];have:=RO s 0 0 _ (pV hi);omega
theorem aiq(s:ByteArray)(h:(dS s).1=0)(i:Nat)(hi:i<(bF s 0 0).length)(v:Value)(w:World)(aL aT aC:Addr)(hE:Env w aL aT aC)(hB:Br w)(hv:yA w v (nE s i)):
  Calls prog 64 #[.string ((bF s 0 0).getD i ⟨#[]⟩),v] w fun e w'=>e= .returned (.bool ((fA s).getD i false))/\Below w.heap.size w w':=by
 obtain⟨hz,_,hl⟩:=look_ok h;obtain⟨hr,hr3⟩:=hl i hi;have hc:=abN s hz i hi;have hx:=akK hz i;have iq:=Fy hr;have hs:=aip _ _ (nE s i) v w aL aT aC (ai2 hz i hi) hr hr3 (abO s i) hE hB hv (fun y hy=>akw iq (hx y hy)) (ajy hc iq hx);rw [alN hc iq hx]at hs;have e:(fA s).getD i false=vL ((dP (bF s 0 0)).getD i []) (nE s i):=by
  unfold fA;rw [aO,jO,GC hi];rfl
 rw [e];exact hs
