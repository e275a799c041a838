import Derived.Test.YtkbinfhclaafhaaGreatDoorZ02
import Derived.Test.YtkbinfhclaafhaaGreatDoorZ04
import Derived.Test.YtkbinfhclaafhaaGreatDoorZ03
namespace Go.Proofs.YtkbinfhclaafhaaGreatDoor
open Go.RowKit
open Go.Proofs.Tryz
set_option maxRecDepth 100000
set_option maxHeartbeats 32000000
set_option linter.all false
theorem anP(t:List Int)(aq:Int)(vo:Value)(B g n cap:Nat)(w:World)(hr:bf w B g n cap t)(hn:n<=100000)(hn0:0<n):
  Calls prog 124 #[.slice (some ⟨g,0,none⟩) n cap,vo,.int .i64 aq] w fun e w'=>e= .returned (.tuple #[])/\bf w' B g n cap (rO aq t)/\w.grownBy w' (some g):=by
 have HR:=ah hr;have HL:=ah hr.len;clear hr;go_enter func124,ntmps124;go_wp2;go_loopg [7] n (fun gk i wr=>∃(k:Nat)(s:Option Int)(t':List Int),k<=n/\gk=n - k/\i= .int .i64 k/\bf wr B g n cap t'/\w.grownBy wr (some g)/\aV (f1 aq) (g1 aq) none t k s t'/\iN t' k s);case atStart=>exact⟨0,none,t,by omega,rfl,rfl,HR.out,jt _ _,aV.start _ _ _ _,iN.start _⟩
 case round=>
  obtain⟨k,s,t',hk,rfl,rfl,hI,hG,hN,hA⟩:=hrel;have HI:=ah hI;have HG:=ah hG;by_cases hlt:k<n
  .have hlt':k<t.length:=by rw [HL.out];exact hlt
   have iU:k<t'.length:=by rw [hI.len];exact hlt
   have hcell:=hI.cell k hlt;rw [hN.at k (ay _)]at hcell;have hfr:=hI.frozen k;obtain⟨c,hx⟩:∃c,c=t.getD k 0:=⟨_,rfl⟩
   rw [<-hx]at hcell;by_cases h8:c=8
   .subst h8;have key:∀v:Int,v=f1 aq s 8 (t.drop (k+1))->Hid (aV (f1 aq) (g1 aq) none t (k+1) (some v) (t'.set k v)/\iN (t'.set k v) (k+1) (some v)):=fun v hv=>
     ⟨hN.step hlt' v (some v) (by rw [<-hx];exact hv) (by rw [<-hx,g1,<-hv]),iN.set v iU⟩
    cases k with
    |zero=>
     obtain rfl:s=none:=by rcases hA with⟨_,h⟩|⟨h,_⟩;exact h;omega
     have HS:=key aq rfl;clear key hI hG hN hA hx hlt' iU;go_wp2;go_roundg (n - 1);case measure=>omega
     case rel=>exact⟨1,_,_,by omega,rfl,rfl,HI.out.set 0 _,HG.out.trans (HI.out.grown 0 _),HS.out.1,HS.out.2⟩
    |succ j=>
     obtain⟨p,hp⟩:∃p,p=t'.getD j 0:=⟨_,rfl⟩
     obtain rfl:s=some p:=by rcases hA with⟨h,_⟩|⟨_,h⟩;omega;rw [h,kr,hp]
     have Im:=hI.cell j (by omega);rw [<-hp]at Im;have sD:∀a b:Int,bf ((wr.setCell ⟨g,j+1,none⟩ (.int .i64 a)).setCell ⟨g,j+1,none⟩ (.int .i64 b)) B g n cap (t'.set (j+1) b)/\w.grownBy ((wr.setCell ⟨g,j+1,none⟩ (.int .i64 a)).setCell ⟨g,j+1,none⟩ (.int .i64 b)) (some g):=fun a b=>by
      have h2:=(hI.set (j+1) a).set (j+1) b;rw [OQ]at h2;exact⟨h2,(hG.trans (hI.grown (j+1) a)).trans ((hI.set (j+1) a).grown (j+1) b)⟩
     have zQ:=ah sD;have Ku:Hid (∀a b c:Int,bf (((wr.setCell ⟨g,j+1,none⟩ (.int .i64 a)).setCell ⟨g,j+1,none⟩ (.int .i64 b)).setCell ⟨g,j+1,none⟩ (.int .i64 c)) B g n cap (t'.set (j+1) c)/\w.grownBy (((wr.setCell ⟨g,j+1,none⟩ (.int .i64 a)).setCell ⟨g,j+1,none⟩ (.int .i64 b)).setCell ⟨g,j+1,none⟩ (.int .i64 c)) (some g)):=fun a b c=>by
      have h2:=(sD a b).1.set (j+1) c;rw [OQ]at h2;exact⟨h2,(sD a b).2.trans ((sD a b).1.grown (j+1) c)⟩
     have HK:=ah key;clear key sD hI hG hN hA hx hlt' iU hp;cases bH:aS p
     .by_cases h21:p=21
      .have HS:=HK.out 12 (by simp [f1,h21]);have AO:(p==21)=true:=by simpa using h21
       have wG:=ah bH;clear h21 bH;go_wp2_with fail;refine(Ay p _).mono ?_;rintro e _ ⟨rfl,rfl⟩;rw [wG.out];go_wp2;go_roundg (n - (j+1+1));case measure=>omega
       case rel=>exact⟨j+1+1,_,_,by omega,rfl,by simp,(Ku.out _ _ _).1,(Ku.out _ _ _).2,HS.out.1,HS.out.2⟩
      .have HS:=HK.out p (by simp [f1,h21,bH]);have AO:(p==21)=false:=by simpa using h21
       have wG:=ah bH;clear h21 bH;go_wp2_with fail;refine(Ay p _).mono ?_;rintro e _ ⟨rfl,rfl⟩;rw [wG.out];go_wp2;go_roundg (n - (j+1+1));case measure=>omega
       case rel=>exact⟨j+1+1,_,_,by omega,rfl,by simp,(zQ.out _ _).1,(zQ.out _ _).2,HS.out.1,HS.out.2⟩
     .have HS:=HK.out 12 (by simp [f1,bH]);have wG:=ah bH;clear bH;go_wp2_with fail;refine(Ay p _).mono ?_;rintro e _ ⟨rfl,rfl⟩;rw [wG.out];go_wp2;go_roundg (n - (j+1+1));case measure=>omega
      case rel=>exact⟨j+1+1,_,_,by omega,rfl,by simp,(Ku.out _ _ _).1,(Ku.out _ _ _).2,HS.out.1,HS.out.2⟩
   .have q8:(c==8)=false:=by simpa using h8
    have h1:=hN.stay hlt' (some c) (by rw [<-hx,Lx h8]) (by rw [<-hx,g1,Lx h8]);have h2:iN t' (k+1) (some c):=by rw [hx,<-hN.at k (ay _)];exact iN.stay
    have bD:=ah h1;have cW:=ah h2;clear h1 h2 hI hG hN hA hx hlt' iU h8;go_wp2;go_roundg (n - (k+1));case measure=>omega
    case rel=>exact⟨k+1,_,_,by omega,rfl,by simp,HI.out,HG.out,bD.out,cW.out⟩
  .have HE:Hid (t'=pass (f1 aq) (g1 aq) none t):=hN.stop (by rw [HL.out];exact hlt);clear hI hG hN hA;go_wp2_with fail;refine(abX (pass (f1 aq) (g1 aq) none t) aq 2 6 B g n cap wr (HE.out▸HI.out) hn).mono ?_;rintro e w2 ⟨rfl,yS,mz⟩;have zD:=ah yS;have HG2:=ah (HG.out.trans mz);have Gb:=ah yS.len;clear yS mz HI HG HE;generalize hb2:kC 2 6 aq (pass (f1 aq) (g1 aq) none t)=tb at zD Gb;have aJ:=ah hb2;clear hb2;go_wp2;go_loopg [9] n (fun gk i wr=>∃(k:Nat)(t':List Int),k<=n/\gk=n - k/\i= .int .i64 k/\bf wr B g n cap t'/\w.grownBy wr (some g)/\aV f3 g3 () tb k () t');case atStart=>exact⟨0,tb,by omega,rfl,rfl,zD.out,HG2.out,aV.start _ _ _ _⟩
   case round=>
    clear zD HG2;obtain⟨k,t',hk,rfl,rfl,hI,hG,hN⟩:=hrel;have HI:=ah hI;have HG:=ah hG;by_cases hlt:k<n
    .have hlt':k<tb.length:=by rw [Gb.out];exact hlt
     have hcell:=hI.cell k hlt;rw [hN.at k (ay _)]at hcell;have hfr:=hI.frozen k;obtain⟨c,hx⟩:∃c,c=tb.getD k 0:=⟨_,rfl⟩
     rw [<-hx]at hcell;by_cases h2:c=2
     .subst h2;have HS:Hid (aV f3 g3 () tb (k+1) () (t'.set k 1)):=hN.step hlt' 1 () (by rw [<-hx];rfl) rfl;clear hI hG hN hx hlt';go_wp2;go_roundg (n - (k+1));case measure=>omega
      case rel=>exact⟨k+1,_,by omega,rfl,by simp,HI.out.set k _,HG.out.trans (HI.out.grown k _),HS.out⟩
     .have q2:(c==2)=false:=by simpa using h2
      have HS:Hid (aV f3 g3 () tb (k+1) () t'):=hN.stay hlt' () (by rw [<-hx,Xw h2]) rfl;clear hI hG hN hx hlt' h2;go_wp2;go_roundg (n - (k+1));case measure=>omega
      case rel=>exact⟨k+1,_,by omega,rfl,by simp,HI.out,HG.out,HS.out⟩
    .have HE:Hid (t'=pass f3 g3 () tb):=hN.stop (by rw [Gb.out];exact hlt);have zF:Hid (bf wr B g n cap (pass f3 g3 () tb)):=HE.out▸hI;have CE:=ah zF.out.len;clear hI hG hN HI HE;generalize hb3:pass f3 g3 () tb=tc at zF CE;have aI:=ah hb3;clear hb3;go_wp2;go_loopg [10] (n - 1) (fun gk i wr=>∃(k:Nat)(s:Int)(t':List Int),1<=k/\k<=n/\gk=n - k/\i= .int .i64 k/\bf wr B g n cap t'/\w.grownBy wr (some g)/\aV f4 g4 none tc k (some s) t'/\s=t'.getD (k - 1) 0);case atStart=>exact⟨1,_,tc,by omega,by omega,by omega,rfl,zF.out,HG.out,abu (by rw [CE.out];exact hn0),rfl⟩
     case round=>
      clear zF HG;obtain⟨k,a,t',hk1,hk,rfl,rfl,hI,hG,hN,hA⟩:=hrel;have HI:=ah hI;have HG:=ah hG;by_cases hlt:k+1<n
      .obtain⟨j,rfl⟩:∃j,k=j+1:=⟨k - 1,by omega⟩
       have hlt':j+1<tc.length:=by rw [CE.out];omega
       have iU:j+1<t'.length:=by rw [hI.len];omega
       have hcell:=hI.cell (j+1) (by omega);rw [hN.at (j+1) (ay _)]at hcell;have Im:=hI.cell (j+1+1) (by omega);rw [hN.at (j+1+1) (by omega)]at Im;have ahh:=hI.cell j (by omega);rw [kr]at hA;rw [<-hA]at ahh;have hfr:=hI.frozen (j+1);obtain⟨c,hx⟩:∃c,c=tc.getD (j+1) 0:=⟨_,rfl⟩
       obtain⟨d,hd⟩:∃d,d=tc.getD (j+1+1) 0:=⟨_,rfl⟩
       rw [<-hx]at hcell;rw [<-hd]at Im;have hmid:f4 (some a) c (tc.drop (j+1+1))=if a=d/\((c=4/\a=3)∨(c=7/\(a=3∨a=6)))then a else c:=by
        rw [drop_at (show j+1+1<tc.length by rw [CE.out];omega),<-hd];exact PB
       have hit:(a=d/\((c=4/\a=3)∨(c=7/\(a=3∨a=6))))->Hid (aV f4 g4 none tc (j+1+1) (some a) (t'.set (j+1) a)/\a=(t'.set (j+1) a).getD (j+1+1 - 1) 0):=fun h=>
        ⟨hN.step hlt' a (some a) (by rw [<-hx,hmid,aj h]) (by rw [<-hx,g4,hmid,aj h]),by rw [kr,hN.prev hlt' a]⟩
       have oM:¬(a=d/\((c=4/\a=3)∨(c=7/\(a=3∨a=6))))->Hid (aV f4 g4 none tc (j+1+1) (some c) t'/\c=t'.getD (j+1+1 - 1) 0):=fun h=>
        ⟨hN.stay hlt' (some c) (by rw [<-hx,hmid,ai h]) (by rw [<-hx,g4,hmid,ai h]),by rw [kr,hN.at (j+1) (ay _),hx]⟩
       clear hI hG hN hA hx hd hmid hlt' iU;by_cases vI:a=d
       .have qd:(a==d)=true:=by simpa using vI
        by_cases AP:c=4
        .have q4:(c==4)=true:=by simpa using AP
         have q7:(c==7)=false:=by simp;omega
         by_cases q3':a=3
         .have q3:(a==3)=true:=by simpa using q3'
          have HS:=hit (⟨vI,.inl ⟨AP,q3'⟩⟩);clear hit oM vI AP q3';go_wp2;go_roundg (n - (j+1+1));case measure=>omega
          case rel=>exact⟨j+1+1,_,_,by omega,by omega,rfl,by simp,HI.out.set (j+1) _,HG.out.trans (HI.out.grown (j+1) _),HS.out.1,HS.out.2⟩
         .have q3:(a==3)=false:=by simpa using q3'
          have HS:=oM (by omega);clear hit oM vI AP q3';go_wp2;go_roundg (n - (j+1+1));case measure=>omega
          case rel=>exact⟨j+1+1,_,_,by omega,by omega,rfl,by simp,HI.out,HG.out,HS.out.1,HS.out.2⟩
        .have q4:(c==4)=false:=by simpa using AP
         by_cases Cn:c=7
         .have q7:(c==7)=true:=by simpa using Cn
          by_cases q3':a=3
          .have q3:(a==3)=true:=by simpa using q3'
           have HS:=hit (⟨vI,.inr ⟨Cn,.inl q3'⟩⟩);clear hit oM vI AP Cn q3';go_wp2;go_roundg (n - (j+1+1));case measure=>omega
           case rel=>exact⟨j+1+1,_,_,by omega,by omega,rfl,by simp,HI.out.set (j+1) _,HG.out.trans (HI.out.grown (j+1) _),HS.out.1,HS.out.2⟩
          .have q3:(a==3)=false:=by simpa using q3'
           by_cases JH:a=6
           .have q6:(a==6)=true:=by simpa using JH
            have HS:=hit (⟨vI,.inr ⟨Cn,.inr JH⟩⟩);clear hit oM vI AP Cn q3' JH;go_wp2;go_roundg (n - (j+1+1));case measure=>omega
            case rel=>exact⟨j+1+1,_,_,by omega,by omega,rfl,by simp,HI.out.set (j+1) _,HG.out.trans (HI.out.grown (j+1) _),HS.out.1,HS.out.2⟩
           .have q6:(a==6)=false:=by simpa using JH
            have HS:=oM (by omega);clear hit oM vI AP Cn q3' JH;go_wp2;go_roundg (n - (j+1+1));case measure=>omega
            case rel=>exact⟨j+1+1,_,_,by omega,by omega,rfl,by simp,HI.out,HG.out,HS.out.1,HS.out.2⟩
         .have q7:(c==7)=false:=by simpa using Cn
          have HS:=oM (by omega);clear hit oM vI AP Cn;go_wp2;go_roundg (n - (j+1+1));case measure=>omega
          case rel=>exact⟨j+1+1,_,_,by omega,by omega,rfl,by simp,HI.out,HG.out,HS.out.1,HS.out.2⟩
       .have qd:(a==d)=false:=by simpa using vI
        have HS:=oM (by omega);clear hit oM vI;go_wp2;go_roundg (n - (j+1+1));case measure=>omega
        case rel=>exact⟨j+1+1,_,_,by omega,by omega,rfl,by simp,HI.out,HG.out,HS.out.1,HS.out.2⟩
      .have HE:Hid (t'=pass f4 g4 none tc):=abv hN (by rw [CE.out];exact hlt);have ya:Hid (bf wr B g n cap (pass f4 g4 none tc)):=HE.out▸hI;have wH:=ah ya.out.len;clear hI hG hN HI HE hA;generalize hb4:pass f4 g4 none tc=td at ya wH;have fB:=ah hb4;clear hb4;go_wp2;go_loopg [12] n (fun gk i wr=>∃(k:Nat)(s:Option Int)(t':List Int),k<=n/\gk=n - k/\i= .int .i64 k/\bf wr B g n cap t'/\w.grownBy wr (some g)/\aV f5 g5 none td k s t'/\iN t' k s);case atStart=>exact⟨0,none,td,by omega,rfl,rfl,ya.out,HG.out,aV.start _ _ _ _,iN.start _⟩
       case round=>
        clear ya HG;obtain⟨k,s,t',hk,rfl,rfl,hI,hG,hN,hA⟩:=hrel;have HI:=ah hI;have HG:=ah hG;have HN:=ah hN;have HA:=ah hA;clear hI hG hN hA;by_cases hlt:k<n
        .go_wp2;go_loopg [13] (n - k) (fun gk jv wj=>∃j:Nat,k<=j/\j<=n/\gk=n - j/\jv= .int .i64 j/\wj=wr/\∀q,k<=q->q<j->td.getD q 0=5);case atStart=>exact⟨k,by omega,by omega,rfl,rfl,rfl,fun q h1 h2=>by omega⟩
         case round=>
          obtain⟨j,hkj,hjn,rfl,rfl,hw,hrun⟩:=hrel;subst hw;by_cases sB:j<n
          .have Am:=HI.out.cell j sB;rw [HN.out.at j hkj]at Am;obtain⟨c,hx⟩:∃c,c=td.getD j 0:=⟨_,rfl⟩
           rw [<-hx]at Am;by_cases h5:c=5
           .have q5:(c==5)=true:=by simpa using h5
            have jN:Hid (∀q,k<=q->q<j+1->td.getD q 0=5):=by
             intro q h1 h2;rcases cK q j with h|h
             .exact hrun q h1 h
             .rw [show q=j by omega,<-hx,h5]
            clear hrun hx h5;go_wp2;go_roundg (n - (j+1));case measure=>omega
            case rel=>exact⟨j+1,by omega,by omega,rfl,by simp,rfl,jN.out⟩
           .have q5:(c==5)=false:=by simpa using h5
            by_cases si:k<j
            .have gi:j<=td.length:=by rw [wH.out];omega
             have HE:Hid (nO (td.drop j)=(c==3)):=by rw [hx];exact Xu (by rw [wH.out];exact sB) (by rw [<-hx];exact h5)
             clear hx h5;rcases HA.out with⟨bX,hs'⟩|⟨bX,hs'⟩
             .subst bX;obtain rfl:s=none:=hs';by_cases hc3:c=3
              .have qc:(c==3)=true:=by simpa using hc3
               have HS:Hid _:=JK HN.out hrun gi si (.inr (by rw [HE.out,hc3];rfl));clear hrun gi;go_wp2;go_loopg [14] (j - 0) (fun gk qv wq=>∃m:Nat,0+m<=j/\gk=j - 0 - m/\qv= .int .i64 ((0+m:Nat):Int)/\bf wq B g n cap (oD t' 0 m)/\w.grownBy wq (some g));case atStart=>exact⟨0,by omega,rfl,rfl,HI.out,HG.out⟩
               case round=>
                obtain⟨m,hm,rfl,rfl,bO,dH⟩:=hrel;have dG:=ah bO;have fU:=ah dH;by_cases kB:0+m<j
                .have jl:=bO.frozen (0+m);have dR:=bO.cell (0+m) (by omega);generalize(oD t' 0 m).getD (0+m) 0=cq at dR;clear bO dH;obtain⟨q,hq⟩:∃q,q=0+m:=⟨_,rfl⟩
                 have HQ:=ah hq;rw [<-hq]at jl dR kB ⊢;clear hq;go_wp2;go_roundg (j - 0 - (m+1));case measure=>have:=HQ.out;omega
                 case rel=>
                  refine⟨m+1,by have:=HQ.out;omega,rfl,by have:=HQ.out;simp;omega,?_,?_⟩
                  .rw [HQ.out];exact dG.out.set (0+m) 3
                  .exact fU.out.trans (dG.out.grown q 3)
                .obtain rfl:j=m:=by omega
                 clear bO dH;have hkm:0+j=j:=by omega
                 rw [hkm];clear hkm;go_wp2;go_roundg (n - j);case measure=>omega
                 case rel=>exact⟨j,_,_,by omega,rfl,by simp,dG.out,fU.out,HS.out.1,HS.out.2⟩
              .have qc:(c==3)=false:=by simpa using hc3
               have HS:Hid _:=JM HN.out hrun gi si (by simp) (by rw [HE.out];exact qc);clear hrun gi;go_wp2;go_roundg (n - j);case measure=>omega
               case rel=>exact⟨j,_,_,by omega,rfl,by simp,HI.out,HG.out,HS.out.1,HS.out.2⟩
             .obtain⟨k',rfl⟩:∃k',k=k'+1:=⟨k - 1,by omega⟩
              obtain⟨p,hp⟩:∃p,p=t'.getD k' 0:=⟨_,rfl⟩
              have jy:=HI.out.cell k' (by omega);rw [<-hp]at jy;obtain rfl:s=some p:=by rw [hs',kr,hp]
              clear hp hs';by_cases Ar:p=3
              .have qp:(p==3)=true:=by simpa using Ar
               have HS:Hid _:=JK HN.out hrun gi si (.inl (by rw [Ar]));clear hrun gi;go_wp2;go_loopg [14] (j - (k'+1)) (fun gk qv wq=>∃m:Nat,(k'+1)+m<=j/\gk=j - (k'+1) - m/\qv= .int .i64 (((k'+1)+m:Nat):Int)/\bf wq B g n cap (oD t' (k'+1) m)/\w.grownBy wq (some g));case atStart=>exact⟨0,by omega,rfl,rfl,HI.out,HG.out⟩
               case round=>
                obtain⟨m,hm,rfl,rfl,bO,dH⟩:=hrel;have dG:=ah bO;have fU:=ah dH;by_cases kB:(k'+1)+m<j
                .have jl:=bO.frozen ((k'+1)+m);have dR:=bO.cell ((k'+1)+m) (by omega);generalize(oD t' (k'+1) m).getD ((k'+1)+m) 0=cq at dR;clear bO dH;obtain⟨q,hq⟩:∃q,q=(k'+1)+m:=⟨_,rfl⟩
                 have HQ:=ah hq;rw [<-hq]at jl dR kB ⊢;clear hq;go_wp2;go_roundg (j - (k'+1) - (m+1));case measure=>have:=HQ.out;omega
                 case rel=>
                  refine⟨m+1,by have:=HQ.out;omega,rfl,by have:=HQ.out;simp;omega,?_,?_⟩
                  .rw [HQ.out];exact dG.out.set ((k'+1)+m) 3
                  .exact fU.out.trans (dG.out.grown q 3)
                .obtain rfl:m=j - (k'+1):=by omega
                 clear bO dH;have hkm:(k'+1)+(j - (k'+1))=j:=by omega
                 rw [hkm];clear hkm;go_wp2;go_roundg (n - j);case measure=>omega
                 case rel=>exact⟨j,_,_,by omega,rfl,by simp,dG.out,fU.out,HS.out.1,HS.out.2⟩
              .have qp:(p==3)=false:=by simpa using Ar
               by_cases hc3:c=3
               .have qc:(c==3)=true:=by simpa using hc3
                have HS:Hid _:=JK HN.out hrun gi si (.inr (by rw [HE.out,hc3];rfl));clear hrun gi;go_wp2;go_loopg [14] (j - (k'+1)) (fun gk qv wq=>∃m:Nat,(k'+1)+m<=j/\gk=j - (k'+1) - m/\qv= .int .i64 (((k'+1)+m:Nat):Int)/\bf wq B g n cap (oD t' (k'+1) m)/\w.grownBy wq (some g));case atStart=>exact⟨0,by omega,rfl,rfl,HI.out,HG.out⟩
                case round=>
                 obtain⟨m,hm,rfl,rfl,bO,dH⟩:=hrel;have dG:=ah bO;have fU:=ah dH;by_cases kB:(k'+1)+m<j
                 .have jl:=bO.frozen ((k'+1)+m);have dR:=bO.cell ((k'+1)+m) (by omega);generalize(oD t' (k'+1) m).getD ((k'+1)+m) 0=cq at dR;clear bO dH;obtain⟨q,hq⟩:∃q,q=(k'+1)+m:=⟨_,rfl⟩
                  have HQ:=ah hq;rw [<-hq]at jl dR kB ⊢;clear hq;go_wp2;go_roundg (j - (k'+1) - (m+1));case measure=>have:=HQ.out;omega
                  case rel=>
                   refine⟨m+1,by have:=HQ.out;omega,rfl,by have:=HQ.out;simp;omega,?_,?_⟩
                   .rw [HQ.out];exact dG.out.set ((k'+1)+m) 3
                   .exact fU.out.trans (dG.out.grown q 3)
                 .obtain rfl:m=j - (k'+1):=by omega
                  clear bO dH;have hkm:(k'+1)+(j - (k'+1))=j:=by omega
                  rw [hkm];clear hkm;go_wp2;go_roundg (n - j);case measure=>omega
                  case rel=>exact⟨j,_,_,by omega,rfl,by simp,dG.out,fU.out,HS.out.1,HS.out.2⟩
               .have qc:(c==3)=false:=by simpa using hc3
                have HS:Hid _:=JM HN.out hrun gi si (by simpa using Ar) (by rw [HE.out];exact qc);clear hrun gi;go_wp2;go_roundg (n - j);case measure=>omega
                case rel=>exact⟨j,_,_,by omega,rfl,by simp,HI.out,HG.out,HS.out.1,HS.out.2⟩
            .obtain rfl:j=k:=by omega
             have HS:Hid (aV f5 g5 none td (j+1) (some c) t'/\iN t' (j+1) (some c)):=by rw [hx];exact S5 HN.out (by rw [wH.out];exact sB) (by rw [<-hx];exact h5)
             clear hx h5 hrun;go_wp2;go_roundg (n - (j+1));case measure=>omega
             case rel=>exact⟨j+1,_,_,by omega,rfl,by simp,HI.out,HG.out,HS.out.1,HS.out.2⟩
          .have gi:j<=td.length:=by rw [wH.out];omega
           have si:k<j:=by omega
           have HE:Hid (nO (td.drop j)=false):=Xv (by rw [wH.out];exact sB);rcases HA.out with⟨bX,hs'⟩|⟨bX,hs'⟩
           .subst bX;obtain rfl:s=none:=hs';have HS:Hid _:=JM HN.out hrun gi si (by simp) (HE.out);clear hrun gi;go_wp2;go_roundg (n - j);case measure=>omega
            case rel=>exact⟨j,_,_,by omega,rfl,by simp,HI.out,HG.out,HS.out.1,HS.out.2⟩
           .obtain⟨k',rfl⟩:∃k',k=k'+1:=⟨k - 1,by omega⟩
            obtain⟨p,hp⟩:∃p,p=t'.getD k' 0:=⟨_,rfl⟩
            have jy:=HI.out.cell k' (by omega);rw [<-hp]at jy;obtain rfl:s=some p:=by rw [hs',kr,hp]
            clear hp hs';by_cases Ar:p=3
            .have qp:(p==3)=true:=by simpa using Ar
             have HS:Hid _:=JK HN.out hrun gi si (.inl (by rw [Ar]));clear hrun gi;go_wp2;go_loopg [14] (j - (k'+1)) (fun gk qv wq=>∃m:Nat,(k'+1)+m<=j/\gk=j - (k'+1) - m/\qv= .int .i64 (((k'+1)+m:Nat):Int)/\bf wq B g n cap (oD t' (k'+1) m)/\w.grownBy wq (some g));case atStart=>exact⟨0,by omega,rfl,rfl,HI.out,HG.out⟩
             case round=>
              obtain⟨m,hm,rfl,rfl,bO,dH⟩:=hrel;have dG:=ah bO;have fU:=ah dH;by_cases kB:(k'+1)+m<j
              .have jl:=bO.frozen ((k'+1)+m);have dR:=bO.cell ((k'+1)+m) (by omega);generalize(oD t' (k'+1) m).getD ((k'+1)+m) 0=cq at dR;clear bO dH;obtain⟨q,hq⟩:∃q,q=(k'+1)+m:=⟨_,rfl⟩
               have HQ:=ah hq;rw [<-hq]at jl dR kB ⊢;clear hq;go_wp2;go_roundg (j - (k'+1) - (m+1));case measure=>have:=HQ.out;omega
               case rel=>
                refine⟨m+1,by have:=HQ.out;omega,rfl,by have:=HQ.out;simp;omega,?_,?_⟩
                .rw [HQ.out];exact dG.out.set ((k'+1)+m) 3
                .exact fU.out.trans (dG.out.grown q 3)
              .obtain rfl:m=j - (k'+1):=by omega
               clear bO dH;have hkm:(k'+1)+(j - (k'+1))=j:=by omega
               rw [hkm];clear hkm;go_wp2;go_roundg (n - j);case measure=>omega
               case rel=>exact⟨j,_,_,by omega,rfl,by simp,dG.out,fU.out,HS.out.1,HS.out.2⟩
            .have qp:(p==3)=false:=by simpa using Ar
             have HS:Hid _:=JM HN.out hrun gi si (by simpa using Ar) (HE.out);clear hrun gi;go_wp2;go_roundg (n - j);case measure=>omega
             case rel=>exact⟨j,_,_,by omega,rfl,by simp,HI.out,HG.out,HS.out.1,HS.out.2⟩
        .have HE:Hid (t'=pass f5 g5 none td):=HN.out.stop (by rw [wH.out];exact hlt);have Kk:Hid (bf wr B g n cap (pass f5 g5 none td)):=HE.out▸HI.out;have D9:=ah Kk.out.len;clear HN HI HE HA;generalize dB:pass f5 g5 none td=te at Kk D9;have dx:=ah dB;clear dB;go_wp2;go_loopg [15] n (fun gk i wr=>∃(k:Nat)(t':List Int),k<=n/\gk=n - k/\i= .int .i64 k/\bf wr B g n cap t'/\w.grownBy wr (some g)/\aV f6 g3 () te k () t');case atStart=>exact⟨0,te,by omega,rfl,rfl,Kk.out,HG.out,aV.start _ _ _ _⟩
         case round=>
          clear Kk HG;obtain⟨k,t',hk,rfl,rfl,hI,hG,hN⟩:=hrel;have HI:=ah hI;have HG:=ah hG;by_cases hlt:k<n
          .have hlt':k<te.length:=by rw [D9.out];exact hlt
           have hcell:=hI.cell k hlt;rw [hN.at k (ay _)]at hcell;have hfr:=hI.frozen k;obtain⟨c,hx⟩:∃c,c=te.getD k 0:=⟨_,rfl⟩
           rw [<-hx]at hcell;have hit:(c=4∨c=5∨c=7)->Hid (aV f6 g3 () te (k+1) () (t'.set k 12)):=fun h=>hN.step hlt' 12 () (by rw [<-hx,agJ h]) rfl
           have oM:¬(c=4∨c=5∨c=7)->Hid (aV f6 g3 () te (k+1) () t'):=fun h=>hN.stay hlt' () (by rw [<-hx,Xy h]) rfl
           clear hI hG hN hx hlt';by_cases h4:c=4
           .have HS:=hit (.inl h4);have q4:(c==4)=true:=by simpa using h4
            clear hit oM h4;go_wp2;go_roundg (n - (k+1));case measure=>omega
            case rel=>exact⟨k+1,_,by omega,rfl,by simp,HI.out.set k _,HG.out.trans (HI.out.grown k _),HS.out⟩
           have q4:(c==4)=false:=by simpa using h4
           by_cases h5:c=5
           .have HS:=hit (.inr (.inl h5));have q5:(c==5)=true:=by simpa using h5
            clear hit oM h4 h5;go_wp2;go_roundg (n - (k+1));case measure=>omega
            case rel=>exact⟨k+1,_,by omega,rfl,by simp,HI.out.set k _,HG.out.trans (HI.out.grown k _),HS.out⟩
           have q5:(c==5)=false:=by simpa using h5
           by_cases h7:c=7
           .have HS:=hit (.inr (.inr h7));have q7:(c==7)=true:=by simpa using h7
            clear hit oM h4 h5 h7;go_wp2;go_roundg (n - (k+1));case measure=>omega
            case rel=>exact⟨k+1,_,by omega,rfl,by simp,HI.out.set k _,HG.out.trans (HI.out.grown k _),HS.out⟩
           have q7:(c==7)=false:=by simpa using h7
           have HS:=oM (by omega);clear hit oM h4 h5 h7;go_wp2;go_roundg (n - (k+1));case measure=>omega
           case rel=>exact⟨k+1,_,by omega,rfl,by simp,HI.out,HG.out,HS.out⟩
          .have HE:Hid (t'=pass f6 g3 () te):=hN.stop (by rw [D9.out];exact hlt);have HW:Hid (rO aq t=kC 0 0 aq (pass f6 g3 () te)):=by show rO aq t=_;unfold rO;rw [aJ.out,aI.out,fB.out,dx.out]
           clear hI hG hN;go_wp2_with fail;refine(abX (pass f6 g3 () te) aq 0 0 B g n cap wr (HE.out▸HI.out) hn).mono ?_;rintro e w2 ⟨rfl,yS,mz⟩;have zD:=ah yS;have HG2:=ah (HG.out.trans mz);clear yS mz HI HG HE;go_wp2;go_end0;exact⟨rfl,HW.out▸zD.out,HG2.out⟩
theorem xU {P:Program}(w:World){ops:Array Oper}{rest:List Oper}{o:Oper}{a:Act}{Q:Exit->Act->World->Prop}(hgd:o.guard=none)(s x:Operand)(t:TypeId)
  (ho:o.op= .call {callee:= .builtin .append,args:=#[s,x],argTypes:=#[t,t]})
  (base:Nat) (e:TypeId) (i:TypeInfo) (z:Value) (bytes:Nat) (ht:P.underlying t=some (.slice e)) (hi:P.info? e=some i) (hz:i.zero=some z)
  (hsize:i.size=1) (hby:i.bytes=bytes) (hzs:z.cells.size=1) (oJ:bytes<=64)
  (v:Value) (n:Nat) (xs:List Value) (hs:a.eval s=v) (hown:w.ownsRow base e 1 v n xs)
  (y:Value) (e':TypeId) (k:Nat) (hx:a.eval x= .slice (some ⟨k,0,none⟩) 1 1) (hk:k=w.heap.size) (h1:y.oneCell'=true) (hn:n<=1000000) (hbase:base<=w.heap.size)
  (h:∀v' w',w'.ownsRow base e 1 v' (n+1) (xs++[y])->w.grownBy w' v.ownBlock->(v'.ownBlock=v.ownBlock∨v'.ownBlock=some (w.heap.size+1))->wpList P ops Q rest (a.put o.dst v') w'):wpList P ops Q (o::rest) a (w.alloc (.cells #[y] e')):=by
 subst hk;refine an2 _ hgd s x t ho base e i z 1 bytes ht hi hz hsize hby hzs (by decide) v n xs hs (hown.alloc _) ⟨w.heap.size,0,none⟩ 1 1 [y] hx rfl ?_ ?_ ?_ ?_ ?_ ?_
 .intro j u hj
  match j,hj with
  |0,hj=>simp at hj;subst hj;simp [Addr.add]
 .intro u hu;simp at hu;subst hu;exact h1
 .unfold maxLen;omega
 .have:(n+1)*bytes<=1000001*64:=zZ (by omega) oJ;omega
 .simp;omega
 .intro v' w' h2 h3 _ h5;refine h v' w' h2 ⟨h3.os,h3.tape,h3.output,?_,fun k hk hne=> ?_⟩ (by simpa using h5)
  .have:=h3.size;simp at this;omega
  .rw [h3.block k (by simp;omega) hne];exact dM w _ k hk
theorem PZ {w w':World}{r:Option Nat}(h:Below w.heap.size w w'):w.grownBy w' r:=⟨h.os,h.tape,h.output,h.size,fun k hk _=>h.block k hk⟩
theorem Ac {w:World}{r:Option Nat}:w.grownBy w.drew r:=⟨rfl,rfl,rfl,ay _,fun _ _ _=>rfl⟩
def nY(a b:Option Nat):Prop:=∀k,a=some k->b=some k->False
theorem nY.symm {a b:Option Nat}(h:nY a b):nY b a:=fun k h1 h2=>h k h2 h1
theorem nY.ne {a b:Option Nat}(h:nY a b):a=none∨a≠b:=by
 cases a with
 |none=>exact .inl rfl
 |some k=>exact .inr fun e=>h k rfl e.symm
theorem rJ {w:World}{B:Nat}{e:TypeId}{z n:Nat}{v:Value}{xs:List Value}(h:w.ownsRow B e z v n xs):∀k,v.ownBlock=some k->k<w.heap.size:=fun k hk=>(h.lt k hk).2
theorem nY.push {w:World}{a a' b:Option Nat}(h:nY a b)(h1:a'=a∨a'=some (w.heap.size+1))(hb:∀k,b=some k->k<w.heap.size):nY a' b:=by
 intro k h2 h3;rcases h1 with rfl|h1
 .exact h k h2 h3
 .rw [h1]at h2;have:=aK h2;have:=hb k h3;omega
structure mj(w0 w:World)(B:Nat)(tv ov rv:Value)(t o r:List Int):Prop where
 below:Below B w0 w
 base:B<=w.heap.size
 ht:w.ownsRow B 3 1 tv t.length (iv t)
 ho:w.ownsRow B 3 1 ov o.length (iv o)
 hr:w.ownsRow B 3 1 rv r.length (iv r)
 to':nY tv.ownBlock ov.ownBlock
 tr:nY tv.ownBlock rv.ownBlock
 or':nY ov.ownBlock rv.ownBlock
theorem mj.start(w0 w:World)(B:Nat)(hb:Below B w0 w)(hB:B<=w.heap.size):mj w0 w B (.slice none 0 0) (.slice none 0 0) (.slice none 0 0) [] [] []:=
 ⟨hb,hB,⟨rfl,.inl ⟨rfl,rfl⟩⟩,⟨rfl,.inl ⟨rfl,rfl⟩⟩,⟨rfl,.inl ⟨rfl,rfl⟩⟩,fun k h=>(by cases h),fun k h=>(by cases h),fun k h=>(by cases h)⟩
theorem mj.SR {w0 w w':World}{B:Nat}{tv ov rv v':Value}{t o r:List Int}{a:Int}(h:mj w0 w B tv ov rv t o r)(h1:w'.ownsRow B 3 1 v' (t.length+1) (iv t++[.int .i64 a]))(hg:w.grownBy w' tv.ownBlock)(hv:v'.ownBlock=tv.ownBlock∨v'.ownBlock=some (w.heap.size+1)):mj w0 w' B v' ov rv (t++[a]) o r:=
 ⟨h.below.grown hg h.base (sJ h.ht),bU h.base hg.size,by rw [Dx]at h1;simpa using h1,dO h.ho hg h.to'.symm.ne,dO h.hr hg h.tr.symm.ne,h.to'.push hv (rJ h.ho),h.tr.push hv (rJ h.hr),h.or'⟩
theorem mj.akN {w0 w w':World}{B:Nat}{tv ov rv v':Value}{t o r:List Int}{a:Int}(h:mj w0 w B tv ov rv t o r)(h1:w'.ownsRow B 3 1 v' (o.length+1) (iv o++[.int .i64 a]))(hg:w.grownBy w' ov.ownBlock)(hv:v'.ownBlock=ov.ownBlock∨v'.ownBlock=some (w.heap.size+1)):mj w0 w' B tv v' rv t (o++[a]) r:=
 ⟨h.below.grown hg h.base (sJ h.ho),bU h.base hg.size,dO h.ht hg h.to'.ne,by rw [Dx]at h1;simpa using h1,dO h.hr hg h.or'.symm.ne,(h.to'.symm.push hv (rJ h.ht)).symm,h.tr,h.or'.push hv (rJ h.hr)⟩
theorem mj.JG {w0 w w':World}{B:Nat}{tv ov rv v':Value}{t o r:List Int}{a:Int}(h:mj w0 w B tv ov rv t o r)(h1:w'.ownsRow B 3 1 v' (r.length+1) (iv r++[.int .i64 a]))(hg:w.grownBy w' rv.ownBlock)(hv:v'.ownBlock=rv.ownBlock∨v'.ownBlock=some (w.heap.size+1)):mj w0 w' B tv ov v' t o (r++[a]):=
 ⟨h.below.grown hg h.base (sJ h.hr),bU h.base hg.size,dO h.ht hg h.tr.ne,dO h.ho hg h.or'.ne,by rw [Dx]at h1;simpa using h1,h.to',(h.tr.symm.push hv (rJ h.ht)).symm,(h.or'.symm.push hv (rJ h.ho)).symm⟩
theorem Tryz.Ro:(prog.info? 31).map (fun i=>(i.zero,i.size,i.bytes))=some (some (.slice none 0 0),1,24):=by kernel_rfl
structure r7(w0 w:World)(B:Nat)(ov rv:Value)(vs:List Value)(x:List (List Nat)×List Nat):Prop where
 below:Below B w0 w
 base:B<=w.heap.size
 out:w.ownsRow B 31 1 ov x.1.length vs
 cur:w.ownsRow B 3 1 rv x.2.length (iv (nl x.2))
 old:∀i,i<x.1.length->w.ownsRow B 3 1 (vs.getD i .nilFunc) (x.1.getD i []).length (iv (nl (x.1.getD i [])))
 Ey:∀i,i<x.1.length->nY (vs.getD i .nilFunc).ownBlock rv.ownBlock
theorem r7.start(w:World):r7 w w w.heap.size (.slice none 0 0) (.slice none 0 0) [] ([],[]):=
 ⟨aA _ _,ay _,⟨rfl,.inl ⟨rfl,rfl⟩⟩,⟨rfl,.inl ⟨rfl,rfl⟩⟩,fun i h=>by simp at h,fun i h=>by simp at h⟩
theorem r7.len {w0 w:World}{B:Nat}{ov rv:Value}{vs:List Value}{x:List (List Nat)×List Nat}(h:r7 w0 w B ov rv vs x):vs.length=x.1.length:=by have:=h.out.1;omega
theorem r7.grow {w0 w w':World}{B:Nat}{ov rv Cs:Value}{vs:List Value}{x:List (List Nat)×List Nat}{p:Nat}(h:r7 w0 w B ov rv vs x)(h1:w'.ownsRow B 3 1 Cs (x.2.length+1) (iv (nl x.2)++[.int .i64 (p:Nat)]))(hg:w.grownBy w' rv.ownBlock)(hv:Cs.ownBlock=rv.ownBlock∨Cs.ownBlock=some (w.heap.size+1)):r7 w0 w' B ov Cs vs (x.1,x.2++[p]):=
 ⟨h.below.grown hg h.base (sJ h.cur),bU h.base hg.size,dO h.out hg (kD h.out h.cur (by decide)),by rw [Dx,MA]at h1;simpa using h1,
  fun i hi=>dO (h.old i hi) hg (h.Ey i hi).ne,fun i hi=>((h.Ey i hi).symm.push hv (rJ (h.old i hi))).symm⟩
theorem r7.shift {w0 w w':World}{B:Nat}{ov Cg rv:Value}{vs:List Value}{x:List (List Nat)×List Nat}(h:r7 w0 w B ov rv vs x)(h1:w'.ownsRow B 31 1 Cg (x.1.length+1) (vs++[rv]))(hg:w.grownBy w' ov.ownBlock):r7 w0 w' B Cg (.slice none 0 0) (vs++[rv]) (x.1++[x.2],[]):=by
 have hl:=h.len;refine⟨h.below.grown hg h.base (sJ h.out),bU h.base hg.size,by simpa using h1,⟨rfl,.inl ⟨rfl,rfl⟩⟩,?_,fun i _ k _ hk=>by cases hk⟩;intro i hi;simp only [bP,eW,kq]at hi;rcases cK i x.1.length with h'|h'
 .simp only [aO];rw [qV (by omega),qV h'];have:=dO (h.old i h') hg (kD (h.old i h') h.out (by decide));simpa [aO]using this
 .have hie:i=x.1.length:=by omega
  subst hie;simp only [aO];rw [pT (by omega),pT (by omega),hl,nK];have:=dO h.cur hg (kD h.cur h.out (by decide));simpa using this
theorem alE {lv:List Int}{lf:List Bool}{n k:Nat}{x:List (List Nat)×List Nat}(hk:k<n):vK lv lf (n - k) k x=vK lv lf (n - (k+1)) (k+1) (DM lv lf k x):=by
 rw [show n - k=(n - (k+1))+1 by omega,vK]
theorem vg {w:World}{r:Option Nat}{n:Nat}:w.grownBy (w.drewN n) r:=⟨rfl,rfl,rfl,ay _,fun _ _ _=>rfl⟩
def xW(w:World)(b off:Nat)(l:List Bool):Prop:=∀i,i<l.length->w.cell? ⟨b,off+i,none⟩=some (.bool (l.getD i false))
theorem xW.stay {w w':World}{B b off:Nat}{l:List Bool}(h:xW w b off l)(hb:Below B w w')(hlt:b<B):xW w' b off l:=fun i hi=>by rw [hb.cell (p:=⟨b,off+i,none⟩) hlt];exact h i hi
theorem acm(lv:List Int)(lf:List Bool)(n gl ol cl gf of' cf:Nat)(w:World)(hl:lv.length=n)(hf:lf.length=n)(hn:n<=100000)(yX:bG w gl ol lv)(hfi:xW w gf of' lf)(hgl:gl<w.heap.size)(su:gf<w.heap.size):
  Calls prog 121 #[.slice (some ⟨gl,ol,none⟩) n cl,.slice (some ⟨gf,of',none⟩) n cf] w fun ev w'=>∃(v:Value)(vs:List Value),ev= .returned v/\Below w.heap.size w w'/\w'.ownsRow w.heap.size 31 1 v (cQ lv lf).length vs/\∀i,i<(cQ lv lf).length->w'.ownsRow w.heap.size 3 1 (vs.getD i .nilFunc) ((cQ lv lf).getD i []).length (iv (nl ((cQ lv lf).getD i []))):=by
 obtain⟨iI,eY,eZ,fe,fh⟩:=gW Tryz.qB;obtain⟨iS,Iy,Jg,Jh,Ji⟩:=gW Tryz.Ro;obtain⟨R,hR⟩:∃R,R=cQ lv lf:=⟨_,rfl⟩
 rw [<-hR];have HR:Hid (R=vK lv lf (n - 0) 0 ([],[])):=by rw [hR,cQ,hl];rfl
 have Ba:=ah yX;have zC:=ah hfi;have HL:Hid (lv.length=n/\lf.length=n/\gl<w.heap.size/\gf<w.heap.size):=⟨hl,hf,hgl,su⟩
 clear hR hl hf yX hfi hgl su;go_enter func121,ntmps121;go_wp2;go_loopg [5,6,7] n (fun gh ov rv fE wr=>∃(k:Nat)(vs:List Value)(x:List (List Nat)×List Nat),k<=n/\gh=n - k/\fE= .int .i64 k/\r7 w wr w.heap.size ov rv vs x/\yC lv lf k x/\R=vK lv lf (n - k) k x);case atStart=>exact⟨0,[],([],[]),by omega,rfl,rfl,r7.start w,yC.start _ _,HR.out⟩
 case round=>
  clear HR;obtain⟨k,vs,x,hk,rfl,rfl,hS,hok,hE⟩:=hrel;obtain⟨oa,oc,rfl⟩:=ey hS.out;obtain⟨ra,rc,rfl⟩:=ey hS.cur;have HS:=ah hS;have dN:=ah hok.step;have HE:Hid (k<n->R=vK lv lf (n - (k+1)) (k+1) (DM lv lf k x)):=fun h=>by rw [hE];exact alE h
  by_cases hlt:k<n
  .have YY:=zC.out.stay hS.below HL.out.2.2.2 k (by rw [HL.out.2.1];exact hlt);have hcl:=Ba.out.stay hS.below HL.out.2.2.1 k (by rw [HL.out.1];exact hlt);have mR:=ah (HE.out hlt);have ahw:x.1.flatten.length+x.2.length<=k:=by
    have:=congrArg List.length hok.flat;rw [bP]at this;have h2:=yw (jW lf) (List.range k);rw [KL]at h2;omega
   have hx1:x.1.length<=k:=by
    have h3:∀l:List (List Nat),(∀r∈l,r≠[])->l.length<=l.flatten.length:=by
     intro l
     induction l with
     |nil=>intro _;simp
     |cons a l ih=>
      intro hl;have:=ih (fun r hr=>hl r (by simp [hr]));have:=jc.2 (hl a (by simp));simp only [eW,yq,bP];omega
    have:=h3 x.1 hok.ne;omega
   have hx2:x.2.length<=k:=by omega
   have vA:x.2≠[]->x.2.headD 0<k:=by
    intro hne;have hm:x.2.headD 0∈x.1.flatten++x.2:=kK.2 (.inr (by cases hx:x.2 with|nil=>exact absurd hx hne|cons a l=>simp));rw [hok.flat]at hm;exact GG.1 (uW.1 hm).1
   clear ahw;have hst:DM lv lf k x=if lf.getD k false=false then x else if x.2≠[]/\lv.getD (x.2.headD 0) 0≠lv.getD k 0 then(x.1++[x.2],[k])else(x.1,x.2++[k]):=rfl
   cases hb:lf.getD k false
   .rw [hb]at YY;rw [hb,aj rfl]at hst;rw [hst]at mR dN;clear hb hst hS hok hE HE vA hcl;go_wp2;go_roundg (n - (k+1));case measure=>omega
    case rel=>exact⟨k+1,vs,x,by omega,rfl,by simp,HS.out,dN.out,mR.out⟩
   .rw [hb]at YY;rw [hb,ai (by decide)]at hst;clear hb;by_cases hne:x.2=[]
    .rw [ai (fun h=>h.1 hne)]at hst;rw [hst]at mR dN;have hl0:x.2.length=0:=by rw [hne];rfl
     have hrow:=hS.cur;have hbz:=hS.base;rw [hl0]at hrow ⊢;clear hst hok hE HE vA hcl hS;have uR:=HS;rw [hl0]at uR;clear hl0 HS;go_wp2;go_quiet(fail);go_wp2_with(at_builtin;refine xU _ rfl _ _ 31 rfl w.heap.size 3 iI (.int .i64 0) 8 underlying31 eY eZ fe fh rfl (by decide) _ _ _ rfl hrow _ _ _ rfl rfl rfl (by omega) hbz ?_);intro v' w5 b9 cA lM;have BP:=(vg (w:=wr) (r:=(Value.slice ra 0 rc).ownBlock)).trans cA;have fC:Hid (r7 w w5 w.heap.size _ v' vs (x.1,x.2++[k])):=uR.out.grow (by rw [hne];exact b9) BP lM;clear b9 cA lM hrow BP;go_wp2;go_roundg (n - (k+1));case measure=>omega
     case rel=>exact⟨k+1,vs,_,by omega,rfl,by simp,fC.out,dN.out,mR.out⟩
    .have nt:0<x.2.length:=jc.2 hne;obtain⟨g,cap,hv,hcap,sw,_⟩:=fS hS.cur nt;obtain⟨hv1,hv2⟩:ra=some ⟨g,0,none⟩/\rc=cap:=by simpa using hv
     clear hv;subst hv1;subst hv2;have hc0:=iJ hS.cur 0 (by rw [gw];exact nt);rw [mJ _ _ nt]at hc0;have hh0:x.2.getD 0 0=x.2.headD 0:=by cases x.2<;>rfl
     rw [hh0]at hc0;have aoE:=vA hne;have Qu:=Ba.out.stay hS.below HL.out.2.2.1 (x.2.headD 0) (by rw [HL.out.1];omega);generalize x.2.headD 0=p0 at*;generalize lv.getD p0 0=l0 at*;generalize lv.getD k 0=l1 at*;have aoK:p0<n:=by omega
     have hgt:((0:Int)<(x.2.length:Int)):=by omega
     have hrow:=hS.cur;have vC:=hS.out;have hbz:=hS.base;by_cases hll:l0=l1
     .rw [ai (fun h=>h.2 hll)]at hst;rw [hst]at mR dN;have ahx:(l0 !=l1)=false:=by simpa using hll
      clear hst hok hE HE vA hS hh0 hll vC;go_wp2;go_quiet(fail);go_wp2_with(at_builtin;refine xU _ rfl _ _ 31 rfl w.heap.size 3 iI (.int .i64 0) 8 underlying31 eY eZ fe fh rfl (by decide) _ _ _ rfl hrow _ _ _ rfl rfl rfl (by omega) hbz ?_);intro v' w5 b9 cA lM;have BP:=(vg (w:=wr) (r:=(Value.slice (some ⟨g,0,none⟩) x.2.length rc).ownBlock)).trans cA;have fC:=ah (HS.out.grow b9 BP lM);clear b9 cA lM hrow BP;go_wp2;go_roundg (n - (k+1));case measure=>omega
      case rel=>exact⟨k+1,vs,_,by omega,rfl,by simp,fC.out,dN.out,mR.out⟩
     .rw [aj ⟨hne,hll⟩]at hst;rw [hst]at mR dN;have ahx:(l0 !=l1)=true:=by simpa using hll
      clear hst hok hE HE vA hS hh0 hll hrow;go_wp2;go_quiet(fail);go_wp2_with(at_builtin;refine xU _ rfl _ _ 127 rfl w.heap.size 31 iS (.slice none 0 0) 24 underlying127 Iy Jg Jh Ji rfl (by decide) _ _ _ rfl vC _ _ _ rfl rfl rfl (by omega) hbz ?_);intro v' w5 b9 cA lM;obtain⟨Ce,zh,rfl⟩:=ey b9;have BP:=(vg (w:=wr) (r:=(Value.slice oa x.1.length oc).ownBlock)).trans cA;have qj:=HS.out.shift b9 BP;have fC:=ah qj;have ZK:=qj.cur;have ahc:=qj.base;clear b9 cA lM vC BP qj;go_wp2_with(at_builtin;refine xU _ rfl _ _ 31 rfl w.heap.size 3 iI (.int .i64 0) 8 underlying31 eY eZ fe fh rfl (by decide) _ _ _ rfl ZK _ _ _ rfl rfl rfl (by simp) ahc ?_);intro v6 w6 lK jU I6;have qO:=ah (fC.out.grow lK jU I6);clear lK jU I6 ZK;go_wp2;go_roundg (n - (k+1));case measure=>omega
      case rel=>exact⟨k+1,_,_,by omega,rfl,by simp,qO.out,dN.out,mR.out⟩
  .have hkn:k=n:=by omega
   have mR:Hid (R=sM x):=by
    show _=_;rw [hE,hkn,nK];rfl
   by_cases hne:x.2=[]
   .have iW:Hid (R=x.1):=by
     show _=_;rw [mR.out,sM,aj hne]
    have hl0:x.2.length=0:=by rw [hne];rfl
    rw [hl0];clear hS hok hE HE dN hl0 mR hkn;go_wp2;refine cG (v:= .slice oa x.1.length oc) (by simp [results,results121,go_sem]) rfl ⟨_,vs,rfl,HS.out.below,?_,?_⟩
    .rw [iW.out];exact HS.out.out
    .rw [iW.out];exact HS.out.old
   .have nt:0<x.2.length:=jc.2 hne;have hgt:((0:Int)<(x.2.length:Int)):=by omega
    have iW:Hid (R=x.1++[x.2]):=by
     show _=_;rw [mR.out,sM,ai hne]
    have hx1:x.1.length<=100000:=by
     have:=congrArg List.length hok.flat;rw [bP]at this;have h2:=yw (jW lf) (List.range k);rw [KL]at h2;have h3:∀l:List (List Nat),(∀r∈l,r≠[])->l.length<=l.flatten.length:=by
      intro l
      induction l with
      |nil=>intro _;simp
      |cons a l ih=>
       intro hl;have:=ih (fun r hr=>hl r (by simp [hr]));have:=jc.2 (hl a (by simp));simp only [eW,yq,bP];omega
     have:=h3 x.1 hok.ne;omega
    have vC:=hS.out;have hbz:=hS.base;clear hS hok hE HE dN mR hkn;go_wp2_with(at_builtin;refine xU _ rfl _ _ 127 rfl w.heap.size 31 iS (.slice none 0 0) 24 underlying127 Iy Jg Jh Ji rfl (by decide) _ _ _ rfl vC _ _ _ rfl rfl rfl (by omega) hbz ?_);intro v' w5 b9 cA lM;obtain⟨Ce,zh,rfl⟩:=ey b9;have fC:=ah (HS.out.shift b9 cA);clear b9 cA lM vC;go_wp2;refine cG (v:= .slice Ce (x.1.length+1) zh) (by simp [results,results121,go_sem]) rfl ⟨_,vs++[.slice ra x.2.length rc],rfl,fC.out.below,?_,?_⟩
    .rw [iW.out];exact fC.out.out
    .rw [iW.out];exact fC.out.old
theorem ajd {cs:List Int}{i:Nat}(hm:mt cs i<cs.length)(_hi:i<=cs.length):cs.getD (mt cs i) 0=21:=by
 have key:∀(l:List Int)(n:Int)(d:Nat),cN l n=some d->l.getD d 0=21:=by
  intro l
  induction l with
  |nil=>intro n d h;cases h
  |cons c r ih=>
   intro n d h;rw [cN]at h;by_cases hc:c=21
   .rw [aj hc]at h;by_cases h0:n - 1=0
    .rw [aj h0]at h;obtain rfl:=aK h;simpa using hc
    .rw [ai h0]at h;cases hr:cN r (n - 1)with
     |none=>rw [hr]at h;cases h
     |some d'=>rw [hr]at h;obtain rfl:=aK h;simpa using ih _ _ hr
   .rw [ai hc]at h;cases hr:cN r (if aS c=true then n+1 else n)with
    |none=>rw [hr]at h;cases h
    |some d'=>rw [hr]at h;obtain rfl:=aK h;simpa using ih _ _ hr
 unfold mt at hm ⊢;cases hd:cN (cs.drop i) 0 with
 |none=>rw [hd]at hm;simp at hm
 |some d=>
  have:=key _ _ _ hd;simp only;rw [aO,yu]at this;rw [aO];exact this
theorem aaO {cs:List Int}{k:Nat}(h:k<cs.length)(hi:aS (cs.getD k 0)=true):k<mt cs k:=by
 have hs:=kL.start cs k (by omega);have hc:cs.getD k 0≠21:=by intro e;rw [e,Jj]at hi;cases hi
 have h1:=hs.plain h hc;have:mt cs k=cs.length∨∃d,cN (cs.drop (k+1)) (if aS (cs.getD k 0)=true then(0:Int)+1 else 0)=some d/\mt cs k=k+(d+(k+1 - k)):=by
  unfold mt;rw [h1.2.2];cases hm:cN (cs.drop (k+1)) (if aS (cs.getD k 0)=true then(0:Int)+1 else 0)with
  |none=>exact .inl rfl
  |some d=>exact .inr ⟨d,rfl,rfl⟩
 rcases this with h'|⟨d,_,h'⟩<;>omega
theorem aje {cs:List Int}{i j:Nat}(hi:i<cs.length)(hj:j<cs.length)(h1:aS (cs.getD i 0)=true)(h2:aS (cs.getD j 0)=true)(he:mt cs i=mt cs j)(hm:mt cs i<cs.length):i=j:=by
 have key:∀i j,i<cs.length->j<cs.length->aS (cs.getD i 0)=true->aS (cs.getD j 0)=true->mt cs i=mt cs j->mt cs i<cs.length->¬i<j:=by
  intro i j hi hj h1 h2 he hm hlt;obtain⟨d,hd,hlt'⟩:=aaP hi h1 hm hlt (by rw [he];exact aaO hj h2) h2;have:mt cs j=j+d:=by unfold mt;rw [hd]
  omega
 have a:=key i j hi hj h1 h2 he hm;have b:=key j i hj hi h2 h1 he.symm (by omega);omega
theorem DB {rs:List (List Nat)}{m:Nat}:∀n k,rH rs m n=some k->k<n/\(rs.getD k []).headD 0=m
 |0,k,h=>by cases h
 |n+1,k,h=>by
  rw [rH]at h;split at h
  .rename_i hh;obtain rfl:=aK h;exact⟨VM _,hh⟩
  .have:=DB n k h;exact⟨by omega,this.2⟩
theorem aaW {rs:List (List Nat)}{m:Nat}:∀n,rH rs m n=none->∀k,k<n->(rs.getD k []).headD 0≠m
 |0,_,k,hk=>by omega
 |n+1,h,k,hk=>by
  rw [rH]at h;split at h
  .cases h
  .rename_i hh;rcases cK k n with h'|h'
   .exact aaW n h k h'
   .obtain rfl:k=n:=by omega
    exact hh
structure kN(n:Nat)(rs:List (List Nat)):Prop where
 ne:∀r∈rs,r≠[]
 lt:∀r∈rs,∀p∈r,p<n
 rI:rs.flatten.Nodup
def nx(cs:List Int)(rs:List (List Nat))(i:Nat):Option Nat:=if i<rs.length then gD cs rs ((rs.getD i []).getLastD 0)else none
theorem dm {α:Type}{l:List α}{i:Nat}{d:α}(h:i<l.length):l.getD i d∈l:=by
 rw [aO,aQ h];exact pV h
theorem xD {r:List Nat}(h:r≠[]):r.getLastD 0∈r:=by
 rw [pW,El h];exact aeb h
theorem head_mem {r:List Nat}(h:r≠[]):r.headD 0∈r:=by
 cases r with
 |nil=>exact absurd rfl h
 |cons a l=>simp
theorem LC:∀{rs:List (List Nat)},rs.flatten.Nodup->∀{i j p:Nat},p∈rs.getD i []->p∈rs.getD j []->i=j
 |[],_,i,j,p,h,_=>by simp at h
 |r::rs,hn,i,j,p,hi,hj=>by
  rw [yq,Eo]at hn;have up:∀k,p∈rs.getD k []->p∈rs.flatten:=by
   intro k hk;rcases cK k rs.length with h|h
   .exact OO.2 ⟨_,dm h,hk⟩
   .rw [aO,pU h]at hk;cases hk
  cases i with
  |zero=>
   cases j with
   |zero=>rfl
   |succ j=>exact absurd rfl (hn.2.2 p (by simpa using hi) p (up j (by simpa using hj)))
  |succ i=>
   cases j with
   |zero=>exact absurd rfl (hn.2.2 p (by simpa using hj) p (up i (by simpa using hi)))
   |succ j=>rw [LC hn.2.1 (i:=i) (j:=j) (p:=p) (by simpa using hi) (by simpa using hj)]
theorem Jy {cs:List Int}{rs:List (List Nat)}(h:kN cs.length rs){i k:Nat}(hn:nx cs rs i=some k):
  i<rs.length/\k<rs.length/\aS (cs.getD ((rs.getD i []).getLastD 0) 0)=true/\(rs.getD k []).headD 0=mt cs ((rs.getD i []).getLastD 0)/\(rs.getD i []).getLastD 0<cs.length/\mt cs ((rs.getD i []).getLastD 0)<cs.length:=by
 unfold nx at hn;split at hn
 .rename_i hi;unfold gD at hn;split at hn
  .rename_i bH;obtain⟨hk,hh⟩:=DB _ _ hn;have m1:rs.getD i []∈rs:=dm hi;have m2:rs.getD k []∈rs:=dm hk;refine⟨hi,hk,bH,hh,h.lt _ m1 _ (xD (h.ne _ m1)),?_⟩;rw [<-hh];exact h.lt _ m2 _ (head_mem (h.ne _ m2))
  .cases hn
 .cases hn
theorem ajA {cs:List Int}{rs:List (List Nat)}(h:kN cs.length rs):∀i j k,nx cs rs i=some k->nx cs rs j=some k->i=j:=by
 intro i j k h1 h2;obtain⟨a1,_,a3,a4,a5,a6⟩:=Jy h h1;obtain⟨b1,_,b3,b4,b5,b6⟩:=Jy h h2;have:(rs.getD i []).getLastD 0=(rs.getD j []).getLastD 0:=aje a5 b5 a3 b3 (by rw [<-a4,<-b4]) a6;have m1:=xD (h.ne _ (dm (d:=[]) a1));have m2:=xD (h.ne _ (dm (d:=[]) b1));rw [<-this]at m2;exact LC h.rI m1 m2
theorem ajz {cs:List Int}{rs:List (List Nat)}(h:kN cs.length rs){s:Nat}(hb:gA cs (rs.getD s [])=true):∀i,nx cs rs i≠some s:=by
 intro i hn;obtain⟨a1,a2,a3,a4,a5,a6⟩:=Jy h hn;have h21:=ajd a6 (fW a5);have hop:0<=opener cs (mt cs ((rs.getD i []).getLastD 0)):=(aa7 cs _).2 ⟨_,aaO a5 a3,a3,rfl⟩;unfold gA at hb;rw [a4,h21,mX hop]at hb;cases hb
theorem K7 {cs:List Int}{rs:List (List Nat)}(h:kN cs.length rs):∀f (pre:List Nat) i,i<rs.length->bV cs rs f (pre++rs.getD i [])=pre++(mL (nx cs rs) f i).flatMap (rs.getD · [])
 |0,pre,i,hi=>by simp [bV,mL]
 |f+1,pre,i,hi=>by
  have hne:=h.ne _ (dm (d:=[]) hi);have hlast:(pre++rs.getD i []).getLastD 0=(rs.getD i []).getLastD 0:=by
   rw [pW,KI,El hne,pW,El hne];rfl
  rw [bV,mL,hlast];have hn:nx cs rs i=gD cs rs ((rs.getD i []).getLastD 0):=by rw [nx,aj hi]
  rw [<-hn];cases hk:nx cs rs i with
  |none=>simp
  |some k=>
   simp only;rw [K7 h f (pre++rs.getD i []) k (Jy h hk).2.1];simp
theorem XJ {rs:List (List Nat)}(h:rs.flatten.Nodup):∀(l:List Nat),l.Nodup->(l.flatMap (rs.getD · [])).Nodup
 |[],_=>by simp
 |i::l,hl=>by
  rw [Bn]at hl;rw [uV,Eo];refine⟨?_,XJ h l hl.2,?_⟩
  .rcases cK i rs.length with hi|hi
   .exact h.sublist (VI (dm hi))
   .rw [aO,pU hi];simp
  .intro a ha b hb hab;subst hab;obtain⟨j,hj,hb⟩:=GF.1 hb;have:=LC h ha hb;subst this;exact hl.1 hj
def GX(cs:List Int)(rs:List (List Nat)):List Nat:=(List.range rs.length).filter fun i=>gA cs (rs.getD i [])
theorem XE(cs:List Int):∀rs:List (List Nat),rs.filter (gA cs)=(GX cs rs).map (rs.getD · [])
 |[]=>rfl
 |r::rs=>by
  have ih:=XE cs rs;unfold GX at ih ⊢;rw [eW,aem,qU,qU];have e:(List.map Nat.succ (List.range rs.length)).filter (fun i=>gA cs ((r::rs).getD i []))=((List.range rs.length).filter fun i=>gA cs (rs.getD i [])).map Nat.succ:=by
   rw [List.filter_map];rfl
  rw [e,ih];cases hb:gA cs r<;>simp [hb,Function.comp_def]
theorem acq {cs:List Int}{rs:List (List Nat)}(h:kN cs.length rs)(f:Nat):((rs.filter (gA cs)).flatMap (bV cs rs f)).Nodup:=by
 have hb:∀s∈GX cs rs,s<rs.length/\gA cs (rs.getD s [])=true:=by
  intro s hs;unfold GX at hs;rw [uW,GG]at hs;exact hs
 have e:(rs.filter (gA cs)).flatMap (bV cs rs f)=((GX cs rs).flatMap (mL (nx cs rs) f)).flatMap (rs.getD · []):=by
  rw [XE,List.flatMap_map,List.flatMap_assoc];have:∀l:List Nat,(∀s∈l,s<rs.length)->l.flatMap (fun a=>bV cs rs f (rs.getD a []))=l.flatMap fun x=>(mL (nx cs rs) f x).flatMap (rs.getD · []):=by
   intro l
   induction l with
   |nil=>intro _;rfl
   |cons a l ih=>
    intro hl;rw [uV,uV,ih (fun s hs=>hl s (by simp [hs]))];have:=K7 h f [] a (hl a (by simp));simp only [yx]at this;rw [this]
  exact this _ fun s hs=>(hb s hs).1
 rw [e];refine XJ h.rI _ (abb (ajA h) f _ ?_ fun s hs=>ajz h (hb s hs).2);exact Vw _ aeh
theorem aa9 {cs lv:List Int}{rs:List (List Nat)}(h:kN cs.length rs)(hl:∀r∈rs,∀p∈r,lv.getD p 0=lv.getD (r.headD 0) 0)(hm:∀i,i<cs.length->aS (cs.getD i 0)=true->mt cs i<cs.length->lv.getD (mt cs i) 0=lv.getD i 0):
  ∀f i,i<rs.length->∀p∈(mL (nx cs rs) f i).flatMap (rs.getD · []),lv.getD p 0=lv.getD ((rs.getD i []).headD 0) 0
 |0,i,hi,p,hp=>by simp [mL]at hp;exact hl _ (dm hi) p (by simpa [aO]using hp)
 |f+1,i,hi,p,hp=>by
  rw [mL]at hp;cases hk:nx cs rs i with
  |none=>rw [hk]at hp;simp at hp;exact hl _ (dm hi) p (by simpa [aO]using hp)
  |some k=>
   rw [hk]at hp;simp only [uV]at hp;rcases kK.1 hp with hp|hp
   .exact hl _ (dm hi) p hp
   .obtain⟨a1,a2,a3,a4,a5,a6⟩:=Jy h hk;rw [aa9 h hl hm f k a2 p hp,a4,hm _ a5 a3 a6];exact hl _ (dm hi) _ (xD (h.ne _ (dm (d:=[]) hi)))
theorem afA {cs lv:List Int}{rs:List (List Nat)}(h:kN cs.length rs)(hl:∀r∈rs,∀p∈r,lv.getD p 0=lv.getD (r.headD 0) 0)(hm:∀i,i<cs.length->aS (cs.getD i 0)=true->mt cs i<cs.length->lv.getD (mt cs i) 0=lv.getD i 0){f:Nat}{r:List Nat}(hr:r∈rs):∀p∈bV cs rs f r,p<cs.length/\lv.getD p 0=lv.getD ((bV cs rs f r).headD 0) 0:=by
 obtain⟨i,hi,Au⟩:=ad9 hr;have hg:rs.getD i []=r:=by rw [aO,aQ hi,<-Au];rfl
 have hc:=K7 h f [] i hi;simp only [yx]at hc;rw [hg]at hc;have hhead:(bV cs rs f r).headD 0=r.headD 0:=by
  rw [hc];have:∃t,mL (nx cs rs) f i=i::t:=by
   cases f with
   |zero=>exact⟨[],rfl⟩
   |succ f=>rw [mL];cases nx cs rs i with
    |none=>exact⟨[],rfl⟩
    |some k=>exact⟨_,rfl⟩
  obtain⟨t,ht⟩:=this;rw [ht,uV,hg];cases hr':r with
  |nil=>exact absurd hr' (h.ne r hr)
  |cons a l=>rfl
 intro p hp;rw [hhead,hc]at*;refine⟨?_,?_⟩
 .obtain⟨j,_,hj⟩:=GF.1 hp;rcases cK j rs.length with h'|h'
  .exact h.lt _ (dm h') p hj
  .rw [aO,pU h']at hj;cases hj
 .rw [aa9 h hl hm f i hi p hp,hg]
