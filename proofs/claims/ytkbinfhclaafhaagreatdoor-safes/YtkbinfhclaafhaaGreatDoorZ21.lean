import Derived.Test.YtkbinfhclaafhaaGreatDoorZ20
import Derived.Test.YtkbinfhclaafhaaGreatDoorZ03
import Derived.Test.YtkbinfhclaafhaaGreatDoorZ10
import Derived.Test.YtkbinfhclaafhaaGreatDoorZ15
import Derived.Test.YtkbinfhclaafhaaGreatDoorZ16
import Derived.Test.YtkbinfhclaafhaaGreatDoorZ01
import Derived.Lib.SmallJoins
import Derived.BigQuiet
import Derived.Deep.LoopGhost
import Derived.WalkSmall
import Derived.RangeFuncOwn
import Derived.WalkMore
namespace Go.Proofs.YtkbinfhclaafhaaGreatDoor
open Go.RowKit
open Go.Proofs.Tryz
set_option maxRecDepth 100000
set_option maxHeartbeats 32000000
set_option linter.all false
theorem bf.swap {w:World}{B g n cap:Nat}{t:List Int}(h:bf w B g n cap t)(a b:Nat):bf ((w.setCell ⟨g,a,none⟩ (.int .i64 (t.getD b 0))).setCell ⟨g,b,none⟩ (.int .i64 (t.getD a 0))) B g n cap (AZ t a b 0):=(h.set a _).set b _
theorem ak4(lv:List Int)(b off cap n:Nat)(w:World)(hl:lv.length=n)(hn:n<=1000)(hc:bG w b off lv)(hlv:∀l∈lv,0<=l/\l<=1000):
  Calls prog 49 #[.slice (some ⟨b,off,none⟩) n cap] w fun e w'=>∃v',e= .returned v'/\w'.ownsRow w.heap.size 3 1 v' n (iv (lT lv))/\Below w.heap.size w w':=by
 obtain⟨iI,eY,eZ,fe,fh⟩:=gW Tryz.qB;have HC:Hid (∀W,Below w.heap.size w W->bG W b off lv):=fun W hb=>hc.below hb
 have HL:=ah hl;have HV:=ah hlv;have htop:=M6 (lv:=lv) (fun l h=>(hlv l h).2);have Vn:Hid (jM lv=0∨0<n):=by
  by_cases h0:0<n
  .exact .inr h0
  .left;have:lv=[]:=OJ.1 (by omega);rw [this];rfl
 obtain⟨T,hT⟩:∃T,T=jM lv:=⟨_,rfl⟩
 have HT:=ah hT;rw [<-hT]at htop Vn;obtain⟨R,hR⟩:∃R,R=lT lv:=⟨_,rfl⟩
 have HR:Hid (R=eU lv T.toNat T (dK n)):=by show R=_;rw [hR,lT,hT,<-hl]
 rw [<-hR];clear hc hl hlv hT hR;go_enter func49,ntmps49;go_wp2;go_loopg [3,4,5] n (fun gk av tv fE W=>∃(k:Nat)(t:Int),k<=n/\gk=n - k/\fE= .int .i64 k/\tv= .int .i64 t/\t=jM (lv.take k)/\W.ownsRow w.heap.size 3 1 av k (iv (dK k))/\Below w.heap.size w W);case atStart=>exact⟨0,0,by omega,rfl,rfl,rfl,by simp [jM],jw _ _ _ _,aA _ _⟩
 case round=>
  obtain⟨k,t,hk,rfl,rfl,rfl,ht,hown,hb⟩:=hrel;obtain⟨qa,qc,rfl⟩:=ey hown;by_cases hlt:k<n
  .have hkl:k<lv.length:=by rw [HL.out];exact hlt
   have hcell:=HC.out wr hb k hkl;have hs:=acP lv k hkl;rw [<-ht]at hs;have Mo:=HV.out _ (dm (d:=0) hkl);obtain⟨x,hx⟩:∃x,x=lv.getD k 0:=⟨_,rfl⟩
   rw [<-hx]at hcell hs Mo;have HS:=ah hs;have HB:=ah hb;have htb:=M6 (lv:=lv.take k) (fun l h=>(HV.out l (KO h)).2);rw [<-ht]at htb;have hbz:=hb.size;have hkn:(k:Int)<(n:Int):=by omega
   clear hs hx ht hb hkl;go_wp2_with(at_builtin;refine nX _ rfl _ _ 31 rfl w.heap.size 3 iI (.int .i64 0) 8 underlying31 eY eZ fe fh rfl (by decide) _ _ _ rfl hown _ _ rfl rfl (by omega) hbz ?_);intro v2 w2 hown2 hg2;have bq:Below w.heap.size w w2:=HB.out.grown hg2 hbz (fun y hy=>(hown.lt y hy).1);have Im:w2.cell? ⟨b,off+k,none⟩=some (.int .i64 x):=by
    have h1:=HC.out wr HB.out k (by rw [HL.out];exact hlt);have h2:=HC.out w2 bq k (by rw [HL.out];exact hlt);rw [h2,<-h1];exact hcell
   have aJ:=ah bq;have bK:Hid (w2.ownsRow w.heap.size 3 1 v2 (k+1) (iv (dK (k+1)))):=by
    show World.ownsRow _ _ _ _ _ _ _;rw [aac];have e:iv (dK k++[(k:Int)])=iv (dK k)++[.int .i64 (k:Int)]:=by simp [iv]
    rw [e];exact hown2
   clear hown hown2 hg2 bq hcell HB;by_cases hgt:t<x
   .have HM:Hid (x=jM (lv.take (k+1))):=by show x=_;rw [HS.out];omega
    go_wp2;go_roundg (n - (k+1));case measure=>omega
    case rel=>exact⟨k+1,x,by omega,rfl,by go_num,rfl,HM.out,bK.out,aJ.out⟩
   .have HM:Hid (t=jM (lv.take (k+1))):=by show t=_;rw [HS.out];omega
    go_wp2;go_roundg (n - (k+1));case measure=>omega
    case rel=>exact⟨k+1,t,by omega,rfl,by go_num,rfl,HM.out,bK.out,aJ.out⟩
  .obtain rfl:k=n:=by omega
   have hkn:¬(k:Int)<(k:Int):=by omega
   have htT:t=T:=by rw [ht,HT.out,lB (by rw [HL.out];exact ay _)]
   subst htT;have HO:=ah hown;have HB:=ah hb;clear hown hb ht HT;obtain⟨t0,t1⟩:=htop;go_wp2;go_loopg [6] t.toNat (fun gk vv W=>∃(m:Nat),m<=t.toNat/\gk=t.toNat - m/\vv= .int .i64 (t - m)/\W.ownsRow w.heap.size 3 1 (.slice qa k qc) k (iv (eU lv m t (dK k)))/\Below w.heap.size w W);case atStart=>exact⟨0,by omega,rfl,by simp,HO.out,HB.out⟩
   case round=>
    clear HO HB;obtain⟨m,hm,rfl,rfl,hown,hb⟩:=hrel;obtain⟨a,ha⟩:∃a,a=eU lv m t (dK k):=⟨_,rfl⟩
    rw [<-ha]at hown;by_cases hlt:m<t.toNat
    .have bX:0<k:=by
      rcases Vn.out with h|h
      .omega
      .exact h
     obtain⟨g,akU,hre,_,Iw,hgB⟩:=fS hown bX;have Dp:qa=some ⟨g,0,none⟩:=(show qa=some ⟨g,0,none⟩/\qc=akU by simpa using hre).1;subst Dp;have hal:a.length=k:=by rw [ha];exact(FM lv m t _ (by rw [xC,HL.out])).trans HL.out
     have U7:Hid (a.Perm (dK k)):=by show a.Perm _;rw [ha];exact TN lv m t _ (by rw [xC,HL.out])
     have NG:Hid (rX lv a (t - m)):=by
      have:=acY (lv:=lv) (T:=t) m;rw [HL.out,<-ha]at this;exact this
     have yc:Hid (eU lv (m+1) t (dK k)=dV (mask (t - m) lv) a []):=by show _=_;rw [M9,<-ha]
     have Gc:Hid ((mask (t - m) lv).length=a.length/\a.length=k):=⟨by rw [xG,HL.out,hal],hal⟩
     obtain⟨v,hv⟩:∃v,v=t - (m:Int):=⟨_,rfl⟩
     have Oi:=ah hv;have hv0:0<v:=by omega
     have hv1:v<=1000:=by omega
     rw [<-hv]at NG yc Gc ⊢;have HO:=ah hown;have HB:=ah hb;have Vr:=ah hgB;obtain⟨bs,hbs⟩:∃bs,bs=mask v lv:=⟨_,rfl⟩
     have uL:Hid (∀j,j<k->bs[j]? =some (decide (v<=lv.getD (a.getD j 0).toNat 0))):=fun j hj=>by
      rw [hbs,DA _ _ _ (by rw [HL.out];exact hj),NG.out.at (by rw [hal,HL.out]) j (by rw [HL.out];exact hj)]
     rw [<-hbs]at yc Gc;clear hown hb ha hv hal hbs hre Iw hgB NG;go_wp2;go_loopg [7] (k+1) (fun gk fE W=>∃(i:Nat)(cur:List Int),i<=k+1/\gk=k+1 - i/\fE= .int .i64 i/\bf W w.heap.size g k qc cur/\Below w.heap.size w W/\mo bs a (min i k) cur);case atStart=>exact⟨0,a,by omega,rfl,rfl,HO.out,HB.out,by rw [GN];exact mo.start bs a⟩
     case round=>
      clear HO HB;obtain⟨i,cur,hi,rfl,rfl,hO,hb,ER⟩:=hrel;by_cases hik:i<k
      .rw [jd (by omega)]at ER;have hcl:=hO.len;have HO:=ah hO;have HB:=ah hb;have Kz:=ah ER;have hik':(i:Int)<(k:Int):=by omega
       clear hO hb ER;obtain⟨W1,hW1⟩:∃W1,W1=wr:=⟨_,rfl⟩
       subst hW1;go_wp2;go_loopg [8] (k - i) (fun gk jv W=>∃(j:Nat),i<=j/\j<=k/\gk=k - j/\jv= .int .i64 j/\W=W1/\∀q,i<=q->q<j->bs[q]? =some true);case atStart=>exact⟨i,by omega,by omega,rfl,rfl,rfl,fun q h1 h2=>by omega⟩
       case round=>
        obtain⟨j,hij,hjk,rfl,rfl,hW,hall⟩:=hrel;subst hW;have HA:=ah hall;clear hall;by_cases hgo:j<k/\bs[j]? =some true
        .obtain⟨hj,Ih⟩:=hgo;have BO:=uL.out j hj;obtain⟨p,hp,hpe⟩:=abA U7.out j hj;have Am:wr.cell? ⟨g,j,none⟩=some (.int .i64 (p:Int)):=by rw [HO.out.cell j hj,Kz.out.at j hij,hpe]
         have hlp:=HC.out wr HB.out p (by rw [HL.out];exact hp);rw [hpe,CR,Ih]at BO;have hvy:v<=lv.getD p 0:=by have:=aK BO;simpa using this.symm
         have D2:Hid (∀q,i<=q->q<j+1->bs[q]? =some true):=fun q h1 h2=>by
          by_cases e:q=j
          .rw [e];exact Ih
          .exact HA.out q h1 (by omega)
         generalize lv.getD p 0=y at*;have hj':(j:Int)<(k:Int):=by omega
         have hp':(p:Int)<(k:Int):=by omega
         clear BO Ih hpe;go_wp2;go_roundg (k - (j+1));case measure=>omega
         case rel=>exact⟨j+1,by omega,by omega,rfl,by go_num,rfl,D2.out⟩
        .have HE:Hid (j<k->bs[j]? =some false):=fun hj=>by
          have BO:=uL.out j hj;cases hd:decide (v<=lv.getD (a.getD j 0).toNat 0)with
          |true=>rw [hd]at BO;exact absurd ⟨hj,BO⟩ hgo
          |false=>rw [hd]at BO;exact BO
         have hjn:¬(j<k)∨∃p:Nat,j<k/\p<k/\wr.cell? ⟨g,j,none⟩=some (.int .i64 (p:Int))/\¬v<=lv.getD p 0:=by
          by_cases hj:j<k
          .right;obtain⟨p,hp,hpe⟩:=abA U7.out j hj;refine⟨p,hj,hp,by rw [HO.out.cell j hj,Kz.out.at j hij,hpe],?_⟩;have h1:=HE.out hj;rw [uL.out j hj,hpe,CR]at h1;simpa using aK h1
          .exact .inl hj
         have Cz:Hid _:=HB;clear hgo;rcases hjn with hj|⟨p,hj,hp,Am,hvy⟩
         all_goals
          first
          |have hj':¬(j:Int)<(k:Int):=by omega
          |have hlp:=HC.out wr HB.out p (by rw [HL.out];exact hp)
           generalize lv.getD p 0=y at*;have hj':(j:Int)<(k:Int):=by omega
           have hp':(p:Int)<(k:Int):=by omega
          go_wp2;clear hj';go_loopg [9,10] (j - i) (fun gk av bv W=>∃(s:Nat)(z:Int)(cur':List Int),i+s+s<=j/\gk=j - i - s/\av= .int .i64 ((i+s:Nat):Int)/\bv= .int .i64 z/\z=(j:Int) - s - 1/\bf W w.heap.size g k qc cur'/\Below w.heap.size w W/\kX cur' (i+s) (j - s)=kX cur i j);case atStart=>exact⟨0,(j:Int) - 1,cur,by omega,by omega,rfl,rfl,by omega,HO.out,HB.out,rfl⟩
          case round=>
           clear HO HB Cz;obtain⟨s,z,cur',hs,rfl,rfl,rfl,hz,hO,hb,ir⟩:=hrel;have EX:=hO.len;by_cases IC:i+s+1<j - s
           .obtain⟨y,rfl⟩:∃y:Nat,z=(y:Int):=⟨z.toNat,by omega⟩
            have hy:y=j - s - 1:=by omega
            obtain⟨x,hx⟩:∃x,x=i+s:=⟨_,rfl⟩
            rw [<-hx]at ir ⊢;have Ds:=abY cur' x (j - s) 0 (by omega) (by omega);rw [<-hy,ir]at Ds;have hxk:x<k:=by omega
            have hyk:y<k:=by omega
            have cx:=hO.cell x hxk;have cy:=hO.cell y hyk;have fx:=hO.frozen x;have cy2:=(hO.set x (cur'.getD y 0)).cell y hyk;have fy2:=(hO.set x (cur'.getD y 0)).frozen y;have bK:=ah (hO.swap x y);have aJ:Hid (Below w.heap.size w ((wr.setCell ⟨g,x,none⟩ (.int .i64 (cur'.getD y 0))).setCell ⟨g,y,none⟩ (.int .i64 (cur'.getD x 0)))):=(hb.setCell (p:=⟨g,x,none⟩) Vr.out _).setCell (p:=⟨g,y,none⟩) Vr.out _;have N3:Hid (kX (AZ cur' x y 0) (i+(s+1)) (j - (s+1))=kX cur i j):=by
             show _=_;rw [show i+(s+1)=x+1 by omega,show j - (s+1)=y by omega];exact Ds
            have Bj:Hid (x=i+s/\y=j - s - 1/\i+s+1<j - s):=⟨hx,hy,IC⟩
            have hxy:(x:Int)<(y:Int):=by omega
            have ahV:(x:Int)<(k:Int):=by omega
            have ahW:(y:Int)<(k:Int):=by omega
            have hy1:(1:Int)<=(y:Int):=by omega
            clear hO hb ir Ds hx hy hz hs IC EX;generalize cur'.getD x 0=ux at*;generalize cur'.getD y 0=uy at*;go_wp2;go_roundg (j - i - (s+1));case measure=>have:=Bj.out;omega
            case rel=>exact⟨s+1,(y:Int) - 1,_,by have:=Bj.out;omega,rfl,by have:=Bj.out;rw [show i+(s+1)=x+1 by omega];go_num,rfl,by have:=Bj.out;omega,bK.out,aJ.out,N3.out⟩
           .have hxz:¬((i+s:Nat):Int)<z:=by omega
            have hce:cur'=kX cur i j:=by rw [<-ir,S0 cur' (i+s) (j - s) (by omega) (by omega) (by omega)]
            have bK:=ah hO;have aJ:=ah hb;have uN:=ah Gc.out;by_cases hji:i<j
            .have Od:Hid (mo bs a (min (j+1) k) cur'):=by
              have h1:=Kz.out.turn uN.out.1 hij (by rw [uN.out.2];exact hjk) HA.out (fun h=>HE.out (by rw [<-uN.out.2];exact h));rw [<-hce]at h1;by_cases h2:j<k
              .rw [jd (by omega)];exact h1.skip uN.out.1 (by rw [uN.out.2];exact h2) (HE.out h2)
              .rw [Et (by omega)];have:j=k:=by omega
               rw [<-this];exact h1
             have ahs:(i:Int)<(j:Int):=by omega
             clear hO hb ir hce hz EX;generalize((i+s:Nat):Int)=xs at*;go_wp2;go_roundg (k+1 - (j+1));case measure=>omega
             case rel=>exact⟨j+1,cur',by omega,rfl,by go_num,bK.out,aJ.out,Od.out⟩
            .have L5:j=i:=by omega
             have Od:Hid (mo bs a (min (i+1) k) cur'):=by
              rw [jd (by omega)];have h1:=Kz.out.skip uN.out.1 (by rw [uN.out.2];exact hik) (by rw [<-L5];exact HE.out (by rw [L5];exact hik));have h2:cur'=cur:=by rw [hce,L5];exact S0 cur i i (ay _) (by have:=hcl;omega) (by omega)
              rw [h2];exact h1
             have ahs:¬(i:Int)<(j:Int):=by omega
             clear hO hb ir hce hz EX L5;generalize((i+s:Nat):Int)=xs at*;go_wp2;go_roundg (k+1 - (i+1));case measure=>omega
             case rel=>exact⟨i+1,cur',by omega,rfl,by go_num,bK.out,aJ.out,Od.out⟩
      .have hik':¬(i:Int)<(k:Int):=by omega
       rw [Et (by omega)]at ER;have he:=ER.stop Gc.out.1 (by rw [Gc.out.2];exact ay _);have bK:Hid (wr.ownsRow w.heap.size 3 1 (.slice (some ⟨g,0,none⟩) k qc) k (iv (eU lv (m+1) t (dK k)))):=by
        show World.ownsRow _ _ _ _ _ _ _;rw [yc.out,<-he];exact hO
       have HB:=ah hb;clear hO hb ER he;go_wp2;go_roundg (t.toNat - (m+1));case measure=>omega
       case rel=>exact⟨m+1,by omega,rfl,by rw [Oi.out];go_num,bK.out,HB.out⟩
    .obtain rfl:m=t.toNat:=by omega
     have hv:¬0<t - (t.toNat:Int):=by omega
     have HO:Hid (wr.ownsRow w.heap.size 3 1 (.slice qa k qc) k (iv R)):=by show World.ownsRow _ _ _ _ _ _ _;rw [HR.out,<-ha];exact hown
     have HB:=ah hb;generalize t - (t.toNat:Int)=z at*;clear hown hb ha;go_wp2;go_ret;exact⟨_,rfl,HO.out,HB.out⟩
theorem ak8(w:World)(B g n c cap i j:Nat)(cur:List Int)(hij:i<=j)(hjn:j<=n)(hn:n<=1000)(h:bf w B g n c cur):
  Calls prog 100 #[.slice (some ⟨g,i,none⟩) (j - i) cap] w fun e w'=>e= .returned (.tuple #[])/\bf w' B g n c (kX cur i j)/\w.grownBy w' (some g):=by
 have HO:=ah h;clear h;obtain⟨l,hl⟩:∃l,l=j - i:=⟨_,rfl⟩
 rw [<-hl];have nt:l<=1000:=by omega
 have HL:Hid (l=j - i/\i<=j/\j<=n):=⟨hl,hij,hjn⟩
 clear hl hij hjn;go_enter func100,ntmps100;go_wp2;go_loopg [2,3] l (fun gk av bv W=>∃(s:Nat)(z:Int)(cur':List Int),s+s<=l/\gk=l - s/\av= .int .i64 ((s:Nat):Int)/\bv= .int .i64 z/\z=(l:Int) - s - 1/\bf W B g n c cur'/\w.grownBy W (some g)/\kX cur' (i+s) (j - s)=kX cur i j);case atStart=>exact⟨0,(l:Int) - 1,cur,by omega,by omega,rfl,rfl,by omega,HO.out,jt _ _,rfl⟩
 case round=>
  clear HO;obtain⟨s,z,cur',hs,rfl,rfl,rfl,hz,hO,hG,ir⟩:=hrel;have EX:=hO.len;have hL:=HL.out;by_cases IC:s+1<l - s
  .obtain⟨y,rfl⟩:∃y:Nat,z=(y:Int):=⟨z.toNat,by omega⟩
   have Ds:=abY cur' (i+s) (j - s) 0 (by omega) (by omega);rw [show j - s - 1=i+y by omega,ir]at Ds;have cx:=hO.cell (i+s) (by omega);have cy:=hO.cell (i+y) (by omega);have fx:=hO.frozen (i+s);have fy:=hO.frozen (i+y);have hne:i+s≠i+y:=by omega
   have bK:Hid (bf ((wr.setCell ⟨g,i+s,none⟩ (.int .i64 (cur'.getD (i+y) 0))).setCell ⟨g,i+y,none⟩ (.int .i64 (cur'.getD (i+s) 0))) B g n c (AZ cur' (i+s) (i+y) 0)):=hO.swap (i+s) (i+y);have HG2:Hid (w.grownBy ((wr.setCell ⟨g,i+s,none⟩ (.int .i64 (cur'.getD (i+y) 0))).setCell ⟨g,i+y,none⟩ (.int .i64 (cur'.getD (i+s) 0))) (some g)):=(hG.trans (hO.grown (i+s) _)).trans ((hO.set (i+s) _).grown (i+y) _);have N3:Hid (kX (AZ cur' (i+s) (i+y) 0) (i+(s+1)) (j - (s+1))=kX cur i j):=by
    show _=_;rw [show i+(s+1)=i+s+1 by omega,show j - (s+1)=i+y by omega];exact Ds
   have Bj:Hid (y=l - s - 1/\s+1<l - s):=⟨by omega,IC⟩
   have hxy:(s:Int)<(y:Int):=by omega
   have ahV:(s:Int)<(l:Int):=by omega
   have ahW:(y:Int)<(l:Int):=by omega
   have hy1:(1:Int)<=(y:Int):=by omega
   clear hO hG ir Ds hz hs IC EX hL;generalize cur'.getD (i+s) 0=ux at*;generalize cur'.getD (i+y) 0=uy at*;go_wp2;go_region;all_goals
    go_wp2;go_roundg (l - (s+1));case measure=>have:=Bj.out;omega
    case rel=>exact⟨s+1,(y:Int) - 1,_,by have:=Bj.out;omega,rfl,by go_num,rfl,by have:=Bj.out;omega,KR bK.out,HG2.out.trans Ac,N3.out⟩
  .have hxz:¬((s:Nat):Int)<z:=by omega
   have hce:cur'=kX cur i j:=by rw [<-ir,S0 cur' (i+s) (j - s) (by omega) (by omega) (by omega)]
   have HF:Hid (bf wr B g n c (kX cur i j)/\w.grownBy wr (some g)):=by rw [<-hce];exact⟨hO,hG⟩
   clear hO hG ir hce hz EX hL;go_wp2;go_end0;exact⟨rfl,HF.out.1,HF.out.2⟩
structure OS(W w:World)(bx bo g n b off cap:Nat)(lv cur:List Int):Prop where
 row:bf W w.heap.size g n n cur
 G5:W.heap[bx]? =some (.cells #[.slice (some ⟨b,off,none⟩) n cap] 31 (0,0))
 GZ:W.heap[bo]? =some (.cells #[.slice (some ⟨g,0,none⟩) n n] 31 (0,0))
 lv:bG W b off lv
 hb:Below w.heap.size w W
section
variable{W W' w:World}{bx bo g n b off cap:Nat}{lv cur cur':List Int}
theorem OS.cx(h:OS W w bx bo g n b off cap lv cur):W.cell? ⟨bx,0,none⟩=some (.slice (some ⟨b,off,none⟩) n cap):=az h.G5 0
theorem OS.co(h:OS W w bx bo g n b off cap lv cur):W.cell? ⟨bo,0,none⟩=some (.slice (some ⟨g,0,none⟩) n n):=az h.GZ 0
theorem OS.below(h:OS W w bx bo g n b off cap lv cur)(hb:Below W.heap.size W W'):OS W' w bx bo g n b off cap lv cur:=
 ⟨eH h.row hb,cB hb h.G5,cB hb h.GZ,h.lv.below hb,h.hb.trans (hb.mono h.hb.size)⟩
theorem OS.turn(h:OS W w bx bo g n b off cap lv cur)(hr:bf W' w.heap.size g n n cur')(hg:W.grownBy W' (some g))(mD:b<w.heap.size):OS W' w bx bo g n b off cap lv cur':=by
 obtain⟨cc,hh⟩:=yV h.row;have hgB:=(h.row.lt g rfl).1;have hB:Below w.heap.size w W':=h.hb.grown hg h.hb.size (fun y hy=>by cases hy;exact hgB);refine⟨hr,(hg.block bx (bZ h.G5) ?_).trans h.G5,(hg.block bo (bZ h.GZ) ?_).trans h.GZ,h.lv.grown hg (by omega),hB⟩
 .intro e;cases e;exact absurd (uZ h.G5 hh) (by decide)
 .intro e;cases e;exact absurd (uZ h.GZ hh) (by decide)
end
theorem ajS(W w:World)(bx bo g n b off cap tb:Nat)(lv cur:List Int)(v:Int)(h:OS W w bx bo g n b off cap lv cur)(hl:lv.length=n)(ht:W.cell? ⟨tb,0,none⟩=some (.int .i64 v))(i:Nat)(hi:i<n):
  Calls prog 98 #[.int .i64 i,.pointer (some ⟨bx,0,none⟩),.pointer (some ⟨tb,0,none⟩)] W fun e W'=>e= .returned (.bool (decide (v<=lv.getD i 0)))/\Below W.heap.size W W':=by
 have cx:=h.cx;have ci:=h.lv i (by omega);have hi':(i:Int)<(n:Int):=by omega
 clear h;generalize lv.getD i 0=y at*;go_enter func98,ntmps98;go_wp2;go_region;all_goals
  go_wp2;go_ret;exact⟨rfl,(aA _ _).drew⟩
theorem ajT(W w:World)(bx bo g n b off cap:Nat)(lv cur:List Int)(h:OS W w bx bo g n b off cap lv cur)(hn:n<=1000)(mD:b<w.heap.size)(i j:Nat)(hij:i<j)(hj:j<=n):
  Calls prog 99 #[.int .i64 i,.int .i64 j,.pointer (some ⟨bo,0,none⟩)] W fun e W'=>e= .returned (.tuple #[])/\OS W' w bx bo g n b off cap lv (kX cur i j)/\W.grownBy W' (some g):=by
 have co:=h.co;have HR:Hid (∀cp,Calls prog 100 #[.slice (some ⟨g,i,none⟩) (j - i) cp] W fun e w'=>e= .returned (.tuple #[])/\bf w' w.heap.size g n n (kX cur i j)/\W.grownBy w' (some g)):=fun cp=>ak8 W w.heap.size g n n cp i j cur (by omega) hj hn h.row
 have HO:=ah h;have h1:(i:Int)<=(j:Int):=by omega
 have h2:(j:Int)<=(n:Int):=by omega
 have h3:(i:Int)<=(n:Int):=by omega
 have h4:¬i=n:=by omega
 have h5:¬n=i:=by omega
 clear h;go_enter func99,ntmps99;go_wp2_with fail;refine(HR.out _).mono ?_;rintro ev W2 ⟨rfl,eu,hg2⟩;have H2:Hid (OS W2 w bx bo g n b off cap lv (kX cur i j)/\W.grownBy W2 (some g)):=⟨HO.out.turn eu hg2 mD,hg2⟩
 clear eu hg2 HR;go_wp2;go_end0;exact⟨rfl,H2.out.1,H2.out.2⟩
theorem OS.set {W w:World}{bx bo g n b off cap:Nat}{lv cur:List Int}(h:OS W w bx bo g n b off cap lv cur)(mD:b<w.heap.size)(k:Nat)(a:Int):OS (W.setCell ⟨g,k,none⟩ (.int .i64 a)) w bx bo g n b off cap lv (cur.set k a):=h.turn (h.row.set k a) (h.row.grown k a) mD
theorem ah1(n k:Nat)(hk:k<n):(dK k++List.replicate (n - k) 0).set k (k:Int)=dK (k+1)++List.replicate (n - (k+1)) 0:=by
 rw [aac,uX _ _ (by rw [xC];exact ay _),xC,nK,show n - k=(n - (k+1))+1 by omega,Er];simp
def JO(w:World)(bx bo g n b off cap tb:Nat)(lv:List Int)(v:Int)(bs:List Bool)(A:List Int)(a:Nat)(cur:List Int)(W:World):Prop:=
 OS W w bx bo g n b off cap lv cur/\W.heap[tb]? =some (.cells #[.int .i64 v] 3 (0,0))/\mo bs A (min a n) cur
theorem ajU(w:World)(bx bo g n b off cap tb:Nat)(lv:List Int)(v:Int)(A:List Int)(hn:n<=1000)(mD:b<w.heap.size)(hl:lv.length=n)(hA:A.length=n)(htb:tb≠g):
  GS n 98 99 #[.pointer (some ⟨bx,0,none⟩),.pointer (some ⟨tb,0,none⟩)] #[.pointer (some ⟨bo,0,none⟩)] (JO w bx bo g n b off cap tb lv v (mask v lv) A) (fun _ i=>decide (v<=lv.getD i 0)) where
 asks x a W i hJ _ hi:=by
  obtain⟨hO,hT,hU⟩:=hJ;refine(ajS W w bx bo g n b off cap tb lv x v hO hl (az hT 0) i hi).mono ?_;rintro e W' ⟨rfl,hb⟩;exact⟨rfl,hO.below hb,cB hb hT,hU⟩
 skip x a W hJ ha hb:=by
  obtain⟨hO,hT,hU⟩:=hJ;rw [jd (by omega)]at hU;refine⟨x,hO,hT,?_⟩;rw [jd (by omega)];exact hU.skip (by rw [xG,hl,hA]) (by omega) (by rw [DA _ _ _ (by omega),hb])
 tell x a c W hJ hac hcn hall hend:=by
  obtain⟨hO,hT,hU⟩:=hJ;rw [jd (by omega)]at hU;refine(ajT W w bx bo g n b off cap lv x hO hn mD a c hac hcn).mono ?_;rintro e W' ⟨rfl,hO',hg'⟩;refine⟨rfl,_,hO',(hg'.block tb (bZ hT) (fun e=>htb (aK e))).trans hT,?_⟩;have h1:=hU.turn (j:=c) (by rw [xG,hl,hA]) (by omega) (by omega) (fun q h1 h2=>by rw [DA _ _ _ (by omega),hall q h1 h2]) (fun h=>by rw [DA _ _ _ (by omega),hend (by omega)]);by_cases hc:c<n
  .rw [jd (by omega)];exact h1.skip (by rw [xG,hl,hA]) (by omega) (by rw [DA _ _ _ (by omega),hend hc])
  .rw [Et (by omega)];have:c=n:=by omega
   rw [<-this];exact h1
theorem aeS(lv:List Int)(b off cap n:Nat)(w:World)(hl:lv.length=n)(hn:n<=1000)(mD:b<w.heap.size)(hc:bG w b off lv)(hlv:∀l∈lv,0<=l/\l<=126):
  Calls prog 59 #[.slice (some ⟨b,off,none⟩) n cap] w fun e w'=>∃g,e= .returned (.slice (some ⟨g,0,none⟩) n n)/\bh w' w.heap.size 3 g n (iv (JC lv))/\Below w.heap.size w w':=by
 obtain⟨R,hR⟩:∃R,R=JC lv:=⟨_,rfl⟩
 have wK:=ah hR;rw [<-hR];clear hR;have hmk:=run_make_row' (P:=prog) 31 3 (.int .i64 0) 8 underlying31 Tryz.qB rfl .i64 .i64 n (by omega) (by omega);have ID:∀(fn:Fn)(first cap:Array Value)(w:World),(Instr.makeFunc fn first cap).run prog w= .ok (.func fn first cap) w:=fun _ _ _ _=>rfl
 have hw0:Below w.heap.size w (((w.alloc (.cells #[.slice (some ⟨b,off,none⟩) n cap] 31)).alloc (.cells (madeCells #[.int .i64 0] n) 3)).alloc (.cells #[.slice (some ⟨w.heap.size+1,0,none⟩) n n] 31)):=(((aA _ _).alloc (ay _) _).alloc (by simp) _).alloc (by simp;omega) _;have UW:Hid (OS (((w.alloc (.cells #[.slice (some ⟨b,off,none⟩) n cap] 31)).alloc (.cells (madeCells #[.int .i64 0] n) 3)).alloc (.cells #[.slice (some ⟨w.heap.size+1,0,none⟩) n n] 31)) w w.heap.size (w.heap.size+1+1) (w.heap.size+1) n b off cap lv (dK 0++List.replicate (n - 0) 0)):=by
  have z1:(w.alloc (.cells #[.slice (some ⟨b,off,none⟩) n cap] 31)).heap.size=w.heap.size+1:=by simp
  have z2:((w.alloc (.cells #[.slice (some ⟨b,off,none⟩) n cap] 31)).alloc (.cells (madeCells #[.int .i64 0] n) 3)).heap.size=w.heap.size+1+1:=by simp
  refine⟨?_,?_,?_,hc.below hw0,hw0⟩
  .have:=bh.made (w:=w.alloc (.cells #[.slice (some ⟨b,off,none⟩) n cap] 31)) (B:=w.heap.size) (n:=n) (e:=3) (z:= .int .i64 0) (by simp) (by omega);rw [z1]at this;have e:iv (dK 0++List.replicate (n - 0) 0)=List.replicate n (.int .i64 0):=by simp [iv,dK]
   show World.ownsRow _ _ _ _ _ _ _;rw [e];exact nM this _
  .refine cB ((aA _ _).alloc (ay _) _) (cB ((aA _ _).alloc (ay _) _) ?_);exact mP
  .rw [<-z2];exact mP
 have HL:=ah hl;have HV:=ah hlv;have o5:Hid (∀(l:Int)(W:World),0<=l->Calls prog 96 #[.int .i64 l] W fun e w'=>e= .returned (.int .i64 (l%2))/\w'=W):=fun l W h=>AW l W h
 clear hl hlv hw0 hc;obtain⟨bx,EW⟩:∃bx,bx=w.heap.size:=⟨_,rfl⟩
 obtain⟨g,hg⟩:∃g,g=w.heap.size+1:=⟨_,rfl⟩
 obtain⟨bo,rD⟩:∃bo,bo=w.heap.size+1+1:=⟨_,rfl⟩
 go_enter func59,ntmps59;go_wp2;generalize hW0:(((w.alloc (.cells #[.slice (some ⟨b,off,none⟩) n cap] 31)).alloc (.cells (madeCells #[.int .i64 0] n) 3)).alloc (.cells #[.slice (some ⟨w.heap.size+1,0,none⟩) n n] 31))=W0 at*;have CJ:Hid (OS W0 w bx bo g n b off cap lv (dK 0++List.replicate (n - 0) 0)):=by rw [EW,rD,hg];exact UW.out
 rw [<-rD,<-hg,<-EW];have HGx:Hid (w.heap.size<=g):=by show _<=_;omega
 clear hW0 UW EW hg rD hmk;go_loopg [4,5,14] n (fun gk hv ov fE W=>∃(k:Nat)(hi lo:Int),k<=n/\gk=n - k/\fE= .int .i64 k/\hv= .int .i64 hi/\ov= .int .i64 lo/\hi=jM (lv.take k)/\lo=nA (lv.take k)/\OS W w bx bo g n b off cap lv (dK k++List.replicate (n - k) 0));case atStart=>exact⟨0,0,127,by omega,rfl,rfl,rfl,rfl,by simp [jM],by simp [nA],CJ.out⟩
 case round=>
  clear CJ;obtain⟨k,hi,lo,hk,rfl,rfl,rfl,rfl,hhi,hlo,hO⟩:=hrel;by_cases hlt:k<n
  .have hkl:k<lv.length:=by rw [HL.out];exact hlt
   have cx:=hO.cx;have co:=hO.co;have cl:=hO.lv k hkl;have cg:=hO.row.cell k hlt;have fg:=hO.row.frozen k;have ht:=acP lv k hkl;have hw:=ai5 lv k hkl;have Mo:=HV.out _ (dm (d:=0) hkl);rw [<-hhi]at ht;rw [<-hlo]at hw;have hib:=M6 (lv:=lv.take k) (fun l h=>by have:=(HV.out l (KO h)).2;omega);have lob:=aaG (lv:=lv.take k) (fun l h=>(HV.out l (KO h)).1);rw [<-hhi]at hib;rw [<-hlo]at lob;obtain⟨x,hx⟩:∃x,x=lv.getD k 0:=⟨_,rfl⟩
   rw [<-hx]at cl ht hw Mo;have bK:Hid (OS (wr.setCell ⟨g,k,none⟩ (.int .i64 (k:Int))) w bx bo g n b off cap lv (dK (k+1)++List.replicate (n - (k+1)) 0)):=by
    have:=hO.set mD k (k:Int);rw [ah1 n k hlt]at this;exact this
   have HT:=ah ht;have HW:=ah hw;have hkn:(k:Int)<(n:Int):=by omega
   obtain⟨x0,x1⟩:=Mo;have Ob:Hid (∀W,Calls prog 96 #[.int .i64 x] W fun e w'=>e= .returned (.int .i64 (x%2))/\w'=W):=fun W=>o5.out x W x0
   have h2:x%2=0∨x%2=1:=by omega
   have iX:=ah h2;obtain⟨par,hpar⟩:∃par,par=x%2:=⟨_,rfl⟩
   rw [<-hpar]at Ob HW iX;generalize(dK k++List.replicate (n - k) 0).getD k 0=old at*;clear hO ht hw hx hhi hlo hkl h2 hpar;have HM:=ah HT.out.symm;rcases iX.out with hp0|hp1
   .have HN:Hid (lo=nA (lv.take (k+1))):=by show lo=_;rw [HW.out,ai (by omega)]
    subst hp0;go_wp2_with fail;refine(Ob.out _).mono ?_;rintro ev wx ⟨rfl,hwx⟩;have jK:=hwx.symm;subst jK;go_wp2;go_roundg (n - (k+1));case measure=>omega
    case rel=>exact⟨k+1,max hi x,lo,by omega,rfl,by go_num,rfl,rfl,HM.out,HN.out,bK.out⟩
   .have HN:Hid (min lo x=nA (lv.take (k+1))):=by show min lo x=_;rw [HW.out,aj hp1]
    subst hp1;go_wp2_with fail;refine(Ob.out _).mono ?_;rintro ev wx ⟨rfl,hwx⟩;have jK:=hwx.symm;subst jK;go_wp2;go_roundg (n - (k+1));case measure=>omega
    case rel=>exact⟨k+1,max hi x,min lo x,by omega,rfl,by go_num,rfl,rfl,HM.out,HN.out,bK.out⟩
  .obtain rfl:k=n:=by omega
   have hkn:¬(k:Int)<(k:Int):=by omega
   have e1:lv.take k=lv:=lB (by rw [HL.out];exact ay _);rw [e1]at hhi hlo;have htb:=M6 (lv:=lv) (fun l h=>by have:=(HV.out l h).2;omega);have hlb:=aaG (lv:=lv) (fun l h=>(HV.out l h).1);rw [<-hhi]at htb;rw [<-hlo]at hlb;have bK:Hid (OS wr w bx bo g k b off cap lv (eU lv 0 hi (dK k))):=by
    have:=hO;rw [nK,GI,lu]at this;exact this
   have HR:Hid (R=eU lv (hi - lo+1).toNat hi (dK k)):=by show _=_;rw [wK.out,JC,hhi,hlo,HL.out]
   clear hO hhi hlo e1;obtain⟨J4,Ra⟩:∃J4,J4=wr.heap.size:=⟨_,rfl⟩
   have rT:Hid (OS (wr.alloc (.cells #[.int .i64 hi] 3)) w bx bo g k b off cap lv (eU lv 0 hi (dK k))/\(wr.alloc (.cells #[.int .i64 hi] 3)).heap[J4]? =some (.cells #[.int .i64 (hi - (0:Nat))] 3 (0,0))/\J4≠g):=by
    refine⟨bK.out.below ((aA _ _).alloc (ay _) _),by rw [Ra,show hi - ((0:Nat):Int)=hi by omega];exact mP,?_⟩;have:=(bK.out.row.lt g rfl).2;omega
   go_wp2;generalize wr.alloc (.cells #[.int .i64 hi] 3)=W1 at*;rw [<-Ra];clear Ra bK;go_loopg [8] (hi - lo+1).toNat (fun gk tv W=>∃(m tb:Nat),m<=(hi - lo+1).toNat/\gk=(hi - lo+1).toNat - m/\tv= .pointer (some ⟨tb,0,none⟩)/\OS W w bx bo g k b off cap lv (eU lv m hi (dK k))/\W.heap[tb]? =some (.cells #[.int .i64 (hi - m)] 3 (0,0))/\tb≠g);case atStart=>exact⟨0,J4,by omega,rfl,rfl,rT.out.1,rT.out.2.1,rT.out.2.2⟩
   case round=>
    clear rT;obtain⟨m,tb,hm,rfl,rfl,hO,hT,htg⟩:=hrel;have ct:=az hT 0;by_cases hlt:m<(hi - lo+1).toNat
    .have hvl:lo<=hi - (m:Int):=by omega
     have hal:(eU lv m hi (dK k)).length=k:=(FM lv m hi _ (by rw [xC,HL.out])).trans HL.out;have Nv:Hid (Calls prog 97 #[.int .i64 k,.func (.func 98) #[] #[.pointer (some ⟨bx,0,none⟩),.pointer (some ⟨tb,0,none⟩)],.func (.func 99) #[] #[.pointer (some ⟨bo,0,none⟩)]] wr fun e w'=>e= .returned (.tuple #[])/\∃q cur,k<=q/\JO w bx bo g k b off cap tb lv (hi - m) (mask (hi - m) lv) (eU lv m hi (dK k)) q cur w'):=
      Lq k _ _ _ _ _ _ hn (ajU w bx bo g k b off cap tb lv (hi - m) _ hn mD HL.out hal htg) (lF func98 (by kernel_rfl) (by kernel_rfl)) (lF func99 (by kernel_rfl) (by kernel_rfl)) _ wr ⟨hO,hT,by rw [GN];exact mo.start _ _⟩
     have cx:=hO.cx;have Nn:Hid ((mask (hi - m) lv).length=(eU lv m hi (dK k)).length/\(eU lv m hi (dK k)).length=k):=⟨by rw [xG,HL.out,hal],hal⟩
     have yc:Hid (eU lv (m+1) hi (dK k)=dV (mask (hi - m) lv) (eU lv m hi (dK k)) []):=M9 _ _ _ _;generalize eU lv m hi (dK k)=A at*;obtain⟨v,hv⟩:∃v,v=hi - (m:Int):=⟨_,rfl⟩
     have Oi:=ah hv;have hv0:0<=v:=by omega
     have hv1:v<=1000:=by omega
     rw [<-hv]at ct hvl Nv Nn yc;clear hO hT hal hv;go_wp2_with fail;refine Nv.out.mono ?_;rintro ev W2 ⟨rfl,q,cur,hq,nR,oH,Qh⟩;rw [Et hq]at Qh;have hce:=Qh.stop Nn.out.1 (by rw [Nn.out.2];exact ay _);rw [hce,<-yc.out]at nR;have WT:=az oH 0;have bK:=ah nR;have HG2:Hid (g<W2.heap.size):=(nR.row.lt g rfl).2;clear Nv nR oH Qh hce cx ct hq;go_wp2;go_roundg ((hi - lo+1).toNat - (m+1));case measure=>omega
     case rel=>exact⟨m+1,W2.heap.size,by omega,rfl,rfl,bK.out.below ((aA _ _).alloc (ay _) _),by rw [show hi - ((m+1:Nat):Int)=v - 1 by have:=Oi.out;omega];exact mP,by have:=HG2.out;omega⟩
    .have hvl:¬lo<=hi - (m:Int):=by omega
     obtain rfl:m=(hi - lo+1).toNat:=by omega
     have co:=hO.co;have HF:Hid (bh wr w.heap.size 3 g k (iv R)/\Below w.heap.size w wr):=⟨by rw [HR.out];exact hO.row,hO.hb⟩
     clear hO hT;generalize hi - (((hi - lo+1).toNat:Nat):Int)=v at*;generalize eU lv (hi - lo+1).toNat hi (dK k)=A at*;go_wp2;go_ret;exact⟨g,rfl,HF.out.1,HF.out.2⟩
def rq(para:Int)(st:List aU):Prop:=∀e∈st,para<=e.l
theorem rq.app {para:Int}{st:List aU}{e:aU}(h:rq para st)(he:para<=e.l):rq para (st++[e]):=fun y hy=>by
 rcases kK.1 hy with hy|hy
 .exact h y hy
 .rw [pY.1 hy];exact he
theorem rq.sub {para:Int}{st st':List aU}(h:rq para st)(hs:∀e∈st',e∈st):rq para st':=fun e he=>h e (hs e he)
theorem rq.pre {para:Int}{x:XS}(h:rq para x.st)(c:Int):rq para (dL x c).st:=by
 unfold dL;split
 .unfold iD;split
  .exact h
  .split
   .exact h
   .exact h.sub (SP _)
 .exact h
theorem rq.post {para:Int}{x:XS}(h:rq para x.st)(hne:x.st≠[])(cs:List Int)(i:Nat)(c:Int):rq para (eN cs i x c).st:=by
 have ht:para<=(aR x.st).l:=h _ (M5 hne);have hn:∀bJ,para<=fG (aR x.st).l bJ:=fun bJ=>by have:=R8 (aR x.st).l bJ;omega
 have hb:∀bJ,rq para (iO x bJ).st:=fun bJ=>by
  unfold iO;simp only;split
  .exact h.app (hn _)
  .exact h
 unfold eN;split
 .unfold iZ;simp only;generalize(if c=15 then(0:Int)else if c=16 then 1 else -1)=o at*;generalize hq:fG (aR x.st).l _=n;have Mk:para<=n:=by rw [<-hq];exact hn _
  split
  .exact h.app Mk
  .split<;>exact h
 .split
  .exact hb _
  .split
   .exact hb _
   .split
    .exact hb _
    .split
     .unfold jA;split
      .exact h
      .split
       .exact h
       .split
        .exact h.sub fun e he=>Vz _ he
        .exact h
     .exact h
theorem adg(cs:List Int)(para:Int)(hp:0<=para/\para<=125):∀i,rq para (dW cs para i).st
 |0=>by intro e he;rw [dW]at he;rw [pY.1 he];exact KE _
 |i+1=>by rw [dW];exact((adg cs para hp i).pre _).post ((wm cs para hp i).pre _).ne cs i _
theorem adp(cs:List Int)(para:Int)(hp:0<=para/\para<=125)(i:Nat):para<=(gG cs para i).l:=
 ((adg cs para hp i).pre _) _ (M5 ((wm cs para hp i).pre _).ne)
theorem XF {P:Int->Prop}{para:Int}(hp:P para):∀(cs os:List Int)(prev:Int),P prev->(∀o∈os,P o)->∀x∈lG para prev cs os,P x
 |[],_,_,_,_,x,hx=>by cases hx
 |_::_,[],_,_,_,x,hx=>by cases hx
 |c::cs,o::os,prev,hv,ho,x,hx=>by
  have h1:P (if nV c cs=true then para else if bN c=false then prev else o):=by
   split
   .exact hp
   .split
    .exact hv
    .exact ho o (by simp)
  rw [lG]at hx;rcases jF.1 hx with rfl|hx
  .exact h1
  .exact XF hp cs os _ h1 (fun y hy=>ho y (by simp [hy])) x hx
theorem ah2 {c l:Int}(h0:0<=l)(h:l<=125):l<=mF c l/\mF c l<=126:=by
 unfold mF;split
 .split
  .omega
  .split<;>omega
 .split<;>omega
theorem aiW {cs:List Int}(hcs:∀c∈cs,0<=c/\c<=21)(rs:List Int)(d:Int)(hp:0<=gz cs d/\gz cs d<=125):∀x∈gu rs cs d,gz cs d<=x/\x<=126:=by
 unfold gu;generalize gz cs d=para at*;refine XF (P:=fun x=>para<=x/\x<=126) (by omega) _ _ _ (by omega) ?_;refine Tm (P:=fun x=>para<=x/\x<=126) _ _ (fun x hx=> ?_) fun o ho=> ?_
 .obtain⟨s,hs,hx⟩:=GF.1 hx;obtain⟨_,_,_,_,a5⟩:=MV hcs hp hs;obtain⟨b1,b2,_⟩:=acU hx;obtain⟨h1,h2⟩:=a5 _ b1;have h3:(aZ cs para).getD x.1 0=(gG cs para x.1).l:=by rw [aZ,DK _ _ _ _ h1]
  have h4:=Ng cs para hp x.1;have h5:=adp cs para hp x.1;have:=ah2 (c:=x.2.2) (l:=x.2.1) (by omega) (by omega);omega
 .obtain⟨i,_,rfl⟩:=jr.1 (show o∈(List.range cs.length).map fun i=>(gG cs para i).l from ho);have:=Ng cs para hp i;have:=adp cs para hp i;omega
theorem Ss(lv:List Int):(lT lv).length=lv.length:=FM _ _ _ _ (xC _)
theorem ajP(lv:List Int):(lT lv).Perm (dK lv.length):=TN _ _ _ _ (xC _)
structure RP where
 line:Nat
 start:Nat
 from_:Nat
 body:Nat
 at_:Nat
def bt(s:ByteArray)(i:Nat):Int:=if i<s.size then((s.get! i).toNat:Int)else 10
theorem nN {s:ByteArray}{i:Nat}(h:i<s.size):bt s i=((s[i]'h).toNat:Int):=by rw [bt,aj h,get_eq s i h]
theorem yL {s:ByteArray}{i:Nat}(h:¬i<s.size):bt s i=10:=by rw [bt,ai h]
theorem eO {w:World}{k:Nat}{o:Obj}(h:w.heap[k]? =some o):k<w.heap.size:=(Ni.1 h).1
theorem rA(w:World)(o:Obj)(a:Addr)(h:a.block<w.heap.size):(w.alloc o).cell? a=w.cell? a:=World.cell?_of_block (dM w o _ h)
theorem mZ(w:World)(r:Option Nat):w.grownBy w r:=⟨rfl,rfl,rfl,ay _,fun _ _ _=>rfl⟩
theorem ag5 {a b c:World}{r:Option Nat}(h:a.grownBy b r)(k:b.grownBy c r):a.grownBy c r:=
 ⟨k.os.trans h.os,k.tape.trans h.tape,k.output.trans h.output,bU h.size k.size,fun i hi hne=>(k.block i (ku hi h.size) hne).trans (h.block i hi hne)⟩
theorem Tn(W:World)(b i:Nat)(v:Value):W.grownBy (W.setCell ⟨b,i,none⟩ v) (some b):=⟨rfl,rfl,rfl,by simp,fun k _ hne=>gK _ _ _ _ (fun e=>hne (by rw [e]))⟩
theorem lH {a b:World}{rb i:Nat}{v:Value}(h:a.grownBy b (some rb)):a.grownBy (b.setCell ⟨rb,i,none⟩ v) (some rb):=ag5 h (Tn _ _ _ _)
theorem BH {a b:World}{r:Option Nat}(h:a.grownBy b r){m:Nat}:a.grownBy (b.drewN m) r:=⟨h.os,h.tape,h.output,h.size,h.block⟩
theorem BG {a b:World}{r:Option Nat}(h:a.grownBy b r):a.grownBy b.drew r:=⟨h.os,h.tape,h.output,h.size,h.block⟩
def Rd(w:World)(rb:Nat)(s:ByteArray)(tv:Value)(p:RP)(st:Bool):Prop:=
 w.heap[rb]? =some (.cells #[.string s,tv,.int .i64 p.line,.int .i64 p.start,.int .i64 p.from_,.int .i64 p.body,.int .i64 p.at_,.bool st] 244 (0,0))
section
variable{w w':World}{rb:Nat}{s:ByteArray}{tv:Value}{p:RP}{st:Bool}
theorem Rd.c0(h:Rd w rb s tv p st):w.cell? ⟨rb,0,none⟩=some (.string s):=az h 0
theorem Rd.c1(h:Rd w rb s tv p st):w.cell? ⟨rb,1,none⟩=some tv:=az h 1
theorem Rd.c2(h:Rd w rb s tv p st):w.cell? ⟨rb,2,none⟩=some (.int .i64 p.line):=az h 2
theorem Rd.c3(h:Rd w rb s tv p st):w.cell? ⟨rb,3,none⟩=some (.int .i64 p.start):=az h 3
theorem Rd.c4(h:Rd w rb s tv p st):w.cell? ⟨rb,4,none⟩=some (.int .i64 p.from_):=az h 4
theorem Rd.c5(h:Rd w rb s tv p st):w.cell? ⟨rb,5,none⟩=some (.int .i64 p.body):=az h 5
theorem Rd.c6(h:Rd w rb s tv p st):w.cell? ⟨rb,6,none⟩=some (.int .i64 p.at_):=az h 6
theorem Rd.c7(h:Rd w rb s tv p st):w.cell? ⟨rb,7,none⟩=some (.bool st):=az h 7
theorem Rd.fz(h:Rd w rb s tv p st)(j:Nat):w.frozen? ⟨rb,j,none⟩=false:=cH h j
theorem Rd.lt(h:Rd w rb s tv p st):rb<w.heap.size:=eO h
theorem Rd.set(p':RP)(st':Bool)(hh:w'.heap[rb]? =some (.cells #[.string s,tv,.int .i64 p'.line,.int .i64 p'.start,.int .i64 p'.from_,.int .i64 p'.body,.int .i64 p'.at_,.bool st'] 244 (0,0))):Rd w' rb s tv p' st':=hh
theorem Rd.other(h:Rd w rb s tv p st){r:Option Nat}(hg:w.grownBy w' r)(hne:some rb≠r):Rd w' rb s tv p st:=(hg.block rb h.lt hne).trans h
theorem Rd.s2(h:Rd w rb s tv p st)(v:Nat):Rd (w.setCell ⟨rb,2,none⟩ (.int .i64 v)) rb s tv ⟨v,p.start,p.from_,p.body,p.at_⟩ st:=by unfold Rd;rw [fK h];rfl
theorem Rd.s3(h:Rd w rb s tv p st)(v:Nat):Rd (w.setCell ⟨rb,3,none⟩ (.int .i64 v)) rb s tv ⟨p.line,v,p.from_,p.body,p.at_⟩ st:=by unfold Rd;rw [fK h];rfl
theorem Rd.s4(h:Rd w rb s tv p st)(v:Nat):Rd (w.setCell ⟨rb,4,none⟩ (.int .i64 v)) rb s tv ⟨p.line,p.start,v,p.body,p.at_⟩ st:=by unfold Rd;rw [fK h];rfl
theorem Rd.s5(h:Rd w rb s tv p st)(v:Nat):Rd (w.setCell ⟨rb,5,none⟩ (.int .i64 v)) rb s tv ⟨p.line,p.start,p.from_,v,p.at_⟩ st:=by unfold Rd;rw [fK h];rfl
theorem Rd.s6(h:Rd w rb s tv p st)(v:Nat):Rd (w.setCell ⟨rb,6,none⟩ (.int .i64 v)) rb s tv ⟨p.line,p.start,p.from_,p.body,v⟩ st:=by unfold Rd;rw [fK h];rfl
theorem Rd.s7(h:Rd w rb s tv p st)(v:Bool):Rd (w.setCell ⟨rb,7,none⟩ (.bool v)) rb s tv p v:=by unfold Rd;rw [fK h];rfl
theorem Rd.drewN(h:Rd w rb s tv p st)(m:Nat):Rd (w.drewN m) rb s tv p st:=h
end
theorem SX {a b:Bool}(h:a=b):Ending.returned (.bool a)= .returned (.bool b):=by rw [h]
def kW(s:ByteArray)(p:RP)(st:Bool):Bool:=st||decide (p.at_=s.size)
def vG(s:ByteArray)(p:RP)(st:Bool):Bool:=kW s p st||decide (bt s p.at_=10)
theorem abc(w:World)(rb:Nat)(s:ByteArray)(tv:Value)(p:RP)(st:Bool)(h:Rd w rb s tv p st):
  Calls prog 177 #[.pointer (some ⟨rb,0,none⟩)] w fun e w'=>e= .returned (.bool (kW s p st))/\∃m,w'=w.drewN m:=by
 have c0:=h.c0;have c6:=h.c6;have c7:=h.c7;clear h;obtain⟨ln,sa,fr,bo,at'⟩:=p;unfold kW;simp only at c6 ⊢;cases st with
 |true=>
  go_enter func177,ntmps177;go_wp2_with fail;go_quiet(fail);go_wp2;go_ret;exact⟨rfl,_,rfl⟩
 |false=>
  go_enter func177,ntmps177;go_wp2_with fail;go_quiet(fail);go_wp2;go_ret;exact⟨SX (by rw [FR,Cw];simp;omega),_,rfl⟩
theorem aaC(w:World)(rb:Nat)(s:ByteArray)(tv:Value)(p:RP)(st:Bool)(h:Rd w rb s tv p st)(hle:p.at_<=s.size):
  Calls prog 182 #[.pointer (some ⟨rb,0,none⟩)] w fun e w'=>e= .returned (.bool (vG s p st))/\∃m,w'=w.drewN m:=by
 have HO:Hid (∀m,Calls prog 177 #[.pointer (some ⟨rb,0,none⟩)] (w.drewN m) fun e w'=>e= .returned (.bool (kW s p st))/\∃k,w'=(w.drewN m).drewN k):=fun m=>abc _ rb s tv p st (h.drewN m)
 have c0:=h.c0;have c6:=h.c6;clear h;unfold vG;by_cases ho:kW s p st=true
 .rw [ho]at HO ⊢;clear ho hle;go_enter func182,ntmps182;go_wp2_with fail;go_quiet(first|(go_at_call 177;refine Calls.quiet_of (HO.out _)));go_wp2;go_ret;exact⟨rfl,_,rfl⟩
 .have ho:kW s p st=false:=by simpa using ho
  have hlt:p.at_<s.size:=by
   unfold kW at ho;simp only [FT,BA]at ho;omega
  rw [ho]at HO ⊢;rw [nN hlt];clear ho hle;obtain⟨ln,sa,fr,bo,at'⟩:=p;simp only at hlt c6 ⊢;have hl':(at':Int)<(s.size:Int):=by omega
  obtain⟨c,hc⟩:∃c,s[at']'hlt=c:=⟨_,rfl⟩
  rw [hc];go_enter func182,ntmps182;go_wp2_with fail;go_quiet(first|(go_at_call 177;refine Calls.quiet_of (HO.out _)));go_wp2;go_ret;exact⟨SX (by rw [FR,Cw];simp),_,rfl⟩
def mY(p:RP):RP:=⟨p.line+1,p.at_+1,p.at_+1,p.at_+1,p.at_+1⟩
theorem agN(w:World)(rb:Nat)(s:ByteArray)(tv:Value)(p:RP)(st:Bool)(h:Rd w rb s tv p st)(hle:p.at_<=100000)(hl:p.line<=100000):
  Calls prog 180 #[.pointer (some ⟨rb,0,none⟩)] w fun e w'=>(∃v,e= .returned v)/\Rd w' rb s tv (mY p) st/\w.grownBy w' (some rb):=by
 obtain⟨ln,sa,fr,bo,at'⟩:=p;simp only at hle hl;unfold mY;simp only;obtain⟨bB,ha1⟩:∃bB,at'+1=bB:=⟨_,rfl⟩
 rw [ha1];have HA:=ah ha1;clear ha1;have HH:=ah h;have c2:=h.c2;have c6:=h.c6;have f2:=h.fz 2;have f3:=h.fz 3;have f4:=h.fz 4;have f5:=h.fz 5;have f6:=h.fz 6;have c3:=h.c3;have c4:=h.c4;have c5:=h.c5;clear h;simp only at c2 c3 c4 c5 c6;go_enter func180,ntmps180;go_wp2;have e6:((at':Int)+1)=(bB:Int):=by have:=HA.out;omega
 have e2:((ln:Int)+1)=((ln+1:Nat):Int):=by omega
 rw [e6,e2];clear e6 e2 c2 c3 c4 c5 c6 f2 f3 f4 f5 f6;have h1:=(HH.out.s6 bB).s2 (ln+1);have g1:w.grownBy ((w.setCell ⟨rb,6,none⟩ (.int .i64 (bB:Int))).setCell ⟨rb,2,none⟩ (.int .i64 ((ln+1:Nat):Int))) (some rb):=lH (lH (mZ _ _));generalize(w.setCell ⟨rb,6,none⟩ (.int .i64 (bB:Int))).setCell ⟨rb,2,none⟩ (.int .i64 ((ln+1:Nat):Int))=W at*;have c6:=h1.c6;have c3:=h1.c3;have c4:=h1.c4;have c5:=h1.c5;have f3:=h1.fz 3;have f4:=h1.fz 4;have f5:=h1.fz 5;simp only at c3 c4 c5 c6;have H1:=ah h1;have G1:=ah g1;clear h1 g1 HH;go_region;all_goals
  go_wp2;go_end0;refine⟨⟨_,rfl⟩,?_,?_⟩
  .first
    |exact((H1.out.s3 bB).s4 bB).s5 bB
    |exact((H1.out.s3 bB).s5 bB).s4 bB
    |exact((H1.out.s4 bB).s3 bB).s5 bB
    |exact((H1.out.s4 bB).s5 bB).s3 bB
    |exact((H1.out.s5 bB).s3 bB).s4 bB
    |exact((H1.out.s5 bB).s4 bB).s3 bB
  .exact BH (lH (lH (lH G1.out)))
theorem amg(w:World)(rb:Nat)(s:ByteArray)(tv:Value)(p:RP)(st:Bool)(h:Rd w rb s tv p st)(hlt:p.at_<s.size)(hz:s.size<=100000):
  Calls prog 178 #[.pointer (some ⟨rb,0,none⟩)] w fun e w'=>e= .returned (.agg #[.int .u8 (bt s p.at_),.int .u8 (bt s (p.at_+1))])/\Below w.heap.size w w':=by
 have c0:=h.c0;have c6:=h.c6;have HR:=ah h.lt;clear h;rw [nN hlt];obtain⟨ln,sa,fr,bo,at'⟩:=p;simp only at hlt c6 ⊢;have hl':(at':Int)<(s.size:Int):=by omega
 obtain⟨c,hc⟩:∃c,s[at']'hlt=c:=⟨_,rfl⟩
 rw [hc];have x0:(w.alloc (.cells #[.int .u8 0,.int .u8 0] 246)).cell? ⟨rb,0,none⟩=some (.string s):=(rA _ _ _ HR.out).trans c0;have x6:(w.alloc (.cells #[.int .u8 0,.int .u8 0] 246)).cell? ⟨rb,6,none⟩=some (.int .i64 at'):=(rA _ _ _ HR.out).trans c6;have y0:((w.alloc (.cells #[.int .u8 0,.int .u8 0] 246)).alloc (.cells #[.int .u8 0,.int .u8 0] 246)).cell? ⟨rb,0,none⟩=some (.string s):=(rA _ _ _ (by simp;have:=HR.out;omega)).trans x0;have y6:((w.alloc (.cells #[.int .u8 0,.int .u8 0] 246)).alloc (.cells #[.int .u8 0,.int .u8 0] 246)).cell? ⟨rb,6,none⟩=some (.int .i64 at'):=(rA _ _ _ (by simp;have:=HR.out;omega)).trans x6;by_cases h2:at'+1<s.size
 .rw [nN h2];obtain⟨d,hd⟩:∃d,s[at'+1]'h2=d:=⟨_,rfl⟩
  rw [hd];have h2':(at':Int)+1<(s.size:Int):=by omega
  go_enter func178,ntmps178;go_wp2;go_region;all_goals
   have z0:((w.alloc (.cells #[.int .u8 0,.int .u8 0] 246)).alloc (.cells #[.int .u8 c.toNat,.int .u8 10] 246)).cell? ⟨rb,0,none⟩=some (.string s):=(rA _ _ _ (by simp;have:=HR.out;omega)).trans x0;have z6:((w.alloc (.cells #[.int .u8 0,.int .u8 0] 246)).alloc (.cells #[.int .u8 c.toNat,.int .u8 10] 246)).cell? ⟨rb,6,none⟩=some (.int .i64 at'):=(rA _ _ _ (by simp;have:=HR.out;omega)).trans x6;go_wp2;go_region;go_wp2;go_region;all_goals
    go_wp2;exact cG (v:= .agg #[.int .u8 c.toNat,.int .u8 d.toNat]) (by simp [results,results178,Tryz.isAgg246,Tryz.sizeOf246,go_sem]) rfl ⟨rfl,(((((aA _ _).alloc (ay _) _).alloc (by simp) _).drew).drew).drew⟩
 .rw [yL h2];have h2':¬(at':Int)+1<(s.size:Int):=by omega
  go_enter func178,ntmps178;go_wp2;go_region;all_goals
   have z0:((w.alloc (.cells #[.int .u8 0,.int .u8 0] 246)).alloc (.cells #[.int .u8 c.toNat,.int .u8 10] 246)).cell? ⟨rb,0,none⟩=some (.string s):=(rA _ _ _ (by simp;have:=HR.out;omega)).trans x0;have z6:((w.alloc (.cells #[.int .u8 0,.int .u8 0] 246)).alloc (.cells #[.int .u8 c.toNat,.int .u8 10] 246)).cell? ⟨rb,6,none⟩=some (.int .i64 at'):=(rA _ _ _ (by simp;have:=HR.out;omega)).trans x6;go_wp2;go_region;go_wp2;exact cG (v:= .agg #[.int .u8 c.toNat,.int .u8 10]) (by simp [results,results178,Tryz.isAgg246,Tryz.sizeOf246,go_sem]) rfl ⟨rfl,((((aA _ _).alloc (ay _) _).alloc (by simp) _).drew).drew⟩
def bQ(s:ByteArray)(i:Nat):Nat:=if i<s.size/\bt s i≠10 then bQ s (i+1)else i
termination_by s.size - i
theorem Jo {s:ByteArray}{i:Nat}(h:i<=s.size):bQ s i<=s.size:=by
 fun_induction bQ s i with
 |case1 i h1 ih=>exact ih (by omega)
 |case2 i h1=>exact h
theorem Dz(s:ByteArray)(i:Nat):i<=bQ s i:=by
 fun_induction bQ s i with
 |case1 i h1 ih=>omega
 |case2 i h1=>omega
theorem amL(w:World)(rb:Nat)(s:ByteArray)(tv:Value)(p:RP)(st:Bool)(h:Rd w rb s tv p st)(hle:p.at_<=s.size)(hz:s.size<=100000):
  Calls prog 183 #[.pointer (some ⟨rb,0,none⟩)] w fun e w'=>(∃v,e= .returned v)/\Rd w' rb s tv {p with at_:=if st then p.at_ else bQ s p.at_} st/\w.grownBy w' (some rb):=by
 obtain⟨ln,sa,fr,bo,mq⟩:=p;simp only at hle ⊢;obtain⟨E,hE⟩:∃E,(if st then mq else bQ s mq)=E:=⟨_,rfl⟩
 rw [hE];have HE:=ah hE;clear hE;go_enter func183,ntmps183;go_wp2;go_loopg [] (s.size - mq) (fun gh W=>∃a,a<=s.size/\gh=s.size - a/\Rd W rb s tv ⟨ln,sa,fr,bo,a⟩ st/\w.grownBy W (some rb)/\(if st then a else bQ s a)=E);case atStart=>exact⟨mq,hle,rfl,h,mZ _ _,HE.out⟩
 case round=>
  obtain⟨a,ha,rfl,hR,hG,pE⟩:=hrel;have HR:=ah hR;have HG:=ah hG;have HL:Hid (∀_x:Nat,Calls prog 182 #[.pointer (some ⟨rb,0,none⟩)] wr fun e w'=>e= .returned (.bool (vG s ⟨ln,sa,fr,bo,a⟩ st))/\∃m,w'=wr.drewN m):=fun _=>aaC wr rb s tv ⟨ln,sa,fr,bo,a⟩ st hR ha
  have Kh:=ah pE;by_cases hb:vG s ⟨ln,sa,fr,bo,a⟩ st=true
  .rw [hb]at HL;have HX:Hid (a=E):=by
    show _=_;unfold vG kW at hb;simp only [FU,Lj]at hb;cases st with
    |true=>exact pE
    |false=>
     rw [ai (by decide),bQ,ai]at pE
     .exact pE
     .rintro⟨h1,h2⟩;rcases hb with(h3|h3)|h3
      .cases h3
      .omega
      .exact h2 h3
   clear hb hR hG pE;go_wp2_with(go_at_call 182;refine(HL.out 0).mono ?_;rintro ev wx ⟨rfl,m,rfl⟩);go_end0;refine⟨⟨_,rfl⟩,?_,BH HG.out⟩;rw [<-HX.out];exact HR.out.drewN _
  .have hb:vG s ⟨ln,sa,fr,bo,a⟩ st=false:=by simpa using hb
   rw [hb]at HL;unfold vG kW at hb;simp only [FT,BA]at hb;obtain⟨⟨rfl,h2⟩,h3⟩:=hb;have HX:Hid ((if false then a+1 else bQ s (a+1))=E):=by
    show(if false=true then _ else _)=_;rw [ai (by decide)]at pE ⊢;rw [bQ,aj ⟨by omega,h3⟩]at pE;exact pE
   have c6:=hR.c6;have f6:=hR.fz 6;simp only at c6;have ha1:a<s.size:=by omega
   clear hR hG pE h2 h3;go_wp2_with(go_at_call 182;refine(HL.out 0).mono ?_;rintro ev wx ⟨rfl,m,rfl⟩);go_roundg (s.size - (a+1));case measure=>omega
   case rel=>exact⟨a+1,by omega,rfl,(HR.out.drewN _).s6 (a+1),lH (BH HG.out),HX.out⟩
def Same(A B:World):Prop:=∀(k:Nat)(o:Obj),A.heap[k]? =some o->o.isCells=false->B.heap[k]? =some o
def akH {α:Type}(Kp:World->World->Prop)(I:List α->World->Prop)(Ix:Code->List α->World->Prop)(xs:List α)(W:World):Exit->Act->World->Prop
 | .normal,_,W'=>Same W W'/\Kp W W'/\I xs W'
 | .ret,_,W'=>Same W W'/\Kp W W'/\Ix .ret xs W'
 | .exit id,_,W'=>Same W W'/\Kp W W'/\Ix (.exit id) xs W'
 | .goto t,_,W'=>Same W W'/\Kp W W'/\Ix (.goto t) xs W'
 | .panic _,_,_=>False
 | .outgrown,_,_=>False
theorem pL {W:World}{l k:Nat}{o:Obj}(h:k≠l):(W.putObj l o).heap[k]? =W.heap[k]? :=World.putObj_heap_other h
