import Derived.Test.YtkbinfhclaafhaaGreatDoorZ01
import Derived.Test.YtkbinfhclaafhaaGreatDoorZ02
namespace Go.Proofs.YtkbinfhclaafhaaGreatDoor
open Go.RowKit
open Go.Proofs.Tryz
set_option maxRecDepth 100000
set_option maxHeartbeats 32000000
set_option linter.all false
def xI:List Int:=[40,91,123,12296]
def AV:List Int:=[41,93,125,12297]
def Bx(c:Int):Nat->Int×Int
 |0=>(0,0)
 |m+1=>if c=xI.getD (3 - m) 0 then(1,c)else if c=AV.getD (3 - m) 0 then(2,xI.getD (3 - m) 0)else Bx c m
theorem afk(r:Int):brk r=Bx (canon r) 4:=by
 unfold brk;generalize canon r=c;simp only [Bx,xI,AV];by_cases h1:c=40
 .subst h1;rfl
 by_cases h2:c=41
 .subst h2;rfl
 by_cases h3:c=91
 .subst h3;rfl
 by_cases h4:c=93
 .subst h4;rfl
 by_cases h5:c=123
 .subst h5;rfl
 by_cases h6:c=125
 .subst h6;rfl
 by_cases h7:c=12296
 .subst h7;rfl
 by_cases h8:c=12297
 .subst h8;rfl
 simp [h1,h2,h3,h4,h5,h6,h7,h8]
theorem afj(c:Int)(m:Nat)(hm:m<4):Bx c (4 - m)=if c=xI.getD m 0 then(1,c)else if c=AV.getD m 0 then(2,xI.getD m 0)else Bx c (4 - (m+1)):=by
 rw [show 4 - m=(4 - (m+1))+1 by omega,Bx,show 3 - (4 - (m+1))=m by omega]
theorem Wj(r:Int)(w:World):Calls prog 191 #[.int .i64 r] w fun e w'=>e= .returned (.tuple #[.int .i64 (brk r).1,.int .i64 (brk r).2])/\Below w.heap.size w w':=by
 have Dd:=afk r;generalize brk r=q at*;have HB:Hid (Below w.heap.size w ((w.alloc (.cells #[.int .i64 40,.int .i64 91,.int .i64 123,.int .i64 12296] 3)).alloc (.cells #[.int .i64 41,.int .i64 93,.int .i64 125,.int .i64 12297] 3))):=
  ((aA _ _).alloc (ay _) _).alloc (by simp) _
 have hc1:∀m:Nat,m<4->((w.alloc (.cells #[.int .i64 40,.int .i64 91,.int .i64 123,.int .i64 12296] 3)).alloc (.cells #[.int .i64 41,.int .i64 93,.int .i64 125,.int .i64 12297] 3)).cell? ⟨w.heap.size,m,none⟩=some (.int .i64 (xI.getD m 0)):=by
  intro m hm
  match m,hm with
  |0,_=>simp [xI]
  |1,_=>simp [xI]
  |2,_=>simp [xI]
  |3,_=>simp [xI]
 have hc2:∀m:Nat,m<4->((w.alloc (.cells #[.int .i64 40,.int .i64 91,.int .i64 123,.int .i64 12296] 3)).alloc (.cells #[.int .i64 41,.int .i64 93,.int .i64 125,.int .i64 12297] 3)).cell? ⟨w.heap.size+1,m,none⟩=some (.int .i64 (AV.getD m 0)):=by
  intro m hm
  match m,hm with
  |0,_=>simp [AV]
  |1,_=>simp [AV]
  |2,_=>simp [AV]
  |3,_=>simp [AV]
 have H1:=ah hc1;have H2:=ah hc2;obtain⟨c,hc⟩:∃c,c=canon r:=⟨_,rfl⟩
 have h3:(r=9001/\c=12296)∨(r=9002/\c=12297)∨((r==9001)=false/\(r==9002)=false/\c=r):=by
  rw [hc];unfold canon;by_cases h1:r=9001
  .exact .inl ⟨h1,by rw [aj h1]⟩
  .by_cases h2:r=9002
   .exact .inr (.inl ⟨h2,by rw [ai h1,aj h2]⟩)
   .exact .inr (.inr ⟨by simpa using h1,by simpa using h2,by rw [ai h1,ai h2]⟩)
 have HQ:Hid (q=Bx c 4):=by show q=_;rw [Dd,hc]
 clear Dd hc hc1 hc2;rcases h3 with⟨rfl,rfl⟩|⟨rfl,rfl⟩|⟨q1,q2,rfl⟩
 all_goals
  go_enter func191,ntmps191;go_wp2;go_loop [6] (fun k=>∃m:Nat,m<=4/\k= .int .i64 m/\q=Bx _ (4 - m)) (fun k=>4 - (intOf k).toNat);case atStart=>exact⟨0,by omega,rfl,HQ.out⟩
  case round=>
   obtain⟨m,hm,rfl,hT⟩:=hrel;have HT:=ah hT;clear hT HQ;by_cases hlt:m<4
   .have e1:=H1.out m hlt;have e2:=H2.out m hlt;have hT:=HT.out;rw [afj _ m hlt]at hT;generalize xI.getD m 0=o at*;generalize AV.getD m 0=s at*;split at hT
    .rename_i h;have hb:(_==o)=true:=yH.2 h;have HV:=ah hT;clear hT h HT;go_wp2;exact cG (v:= .tuple #[.int .i64 q.1,.int .i64 q.2]) (by rw [HV.out];simp [results,results191,go_sem]) rfl ⟨rfl,HB.out⟩
    .rename_i h;split at hT
     .rename_i h';have hb:(_==o)=false:=GY.2 h;have hb':(_==s)=true:=yH.2 h';have HV:=ah hT;clear hT h h' HT;go_wp2;go_region;go_wp2;exact cG (v:= .tuple #[.int .i64 q.1,.int .i64 q.2]) (by rw [HV.out];simp [results,results191,go_sem]) rfl ⟨rfl,HB.out.drew⟩
     .rename_i h';have hb:(_==o)=false:=GY.2 h;have hb':(_==s)=false:=GY.2 h';have HV:=ah hT;clear hT h h' HT;go_wp2;go_round;case rel=>exact⟨m+1,by omega,by go_num,HV.out⟩
      case measure=>simp [intOf];omega
   .have HV:Hid (q=(0,0)):=by have:=HT.out;rw [show 4 - m=0 by omega]at this;exact this
    go_wp2;exact cG (v:= .tuple #[.int .i64 q.1,.int .i64 q.2]) (by rw [HV.out];simp [results,results191,go_sem]) rfl ⟨rfl,HB.out⟩
theorem Tryz.dF(a b:Int)(w:World):(Instr.field 194 (.agg #[.int .i64 a,.int .i64 b]) 0).run prog w= .ok (.int .i64 a) w:=by kernel_rfl
theorem Tryz.pairT(a b:Int)(w:World):(Instr.field 194 (.agg #[.int .i64 a,.int .i64 b]) 1).run prog w= .ok (.int .i64 b) w:=by kernel_rfl
theorem bG.stay {w w':World}{B b off:Nat}{l:List Int}(h:bG w b off l)(hb:Below B w w')(hlt:b<B):bG w' b off l:=fun i hi=>by rw [hb.cell (p:=⟨b,off+i,none⟩) hlt];exact h i hi
def Az(f z:Nat):Nat->Nat
 |0=>f
 |_=>z
def xQ(orig:List Int)(d:Int)(f z:Nat)(t:List Int):Nat->List Int
 |0=>t
 |j+1=>nH orig d (Az f z j) (xQ orig d f z t j)
theorem acH(orig:List Int)(d:Int)(f z:Nat)(t:List Int)(j:Nat)(_:j<2):xQ orig d f z t (j+1)=nH orig d (Az f z j) (xQ orig d f z t j):=rfl
theorem aar {f z n:Nat}(hfz:f<z)(hz:z<n):∀j,Az f z j<n
 |0=>Nat.lt_trans hfz hz
 |_+1=>hz
theorem pq {W w:World}{g b k:Nat}(h:W.grownBy w (some g))(hb:b<W.heap.size)(hne:b≠g):w.cell? ⟨b,k,none⟩=W.cell? ⟨b,k,none⟩:=by
 simp only [World.cell?];rw [h.block b hb (by simpa using hne)]
theorem aj7(t orig:List Int)(f z:Nat)(e aq:Int)(B g n cap go oo co:Nat)(w:World)(hr:bf w B g n cap t)(hn:n<=100000)(ho:orig.length=n)(Mg:bG w go oo orig)(hgo:go<w.heap.size)(hne:go≠g)(hfz:f<z)(hz:z<n):
  Calls prog 126 #[.slice (some ⟨g,0,none⟩) n cap,.slice (some ⟨go,oo,none⟩) n co,.agg #[.int .i64 f,.int .i64 z],.int .i64 e,.int .i64 aq] w fun ev w'=>ev= .returned (.tuple #[])/\bf w' B g n cap (qG t orig (f,z) e aq)/\w.grownBy w' (some g):=by
 have HR:=ah hr;have HO:=ah Mg;have Ea:=ah ho;have F9:Hid (go<w.heap.size/\go≠g):=⟨hgo,hne⟩
 clear hr Mg ho hgo hne;have fF:=Tryz.dF;have fT:=Tryz.pairT;obtain⟨q,hq⟩:∃q,q=qG t orig (f,z) e aq:=⟨_,rfl⟩
 rw [<-hq];have HQ:=ah hq;clear hq;have hBw:B<=g/\g<w.heap.size:=yE HR.out g rfl;have kI:Hid (w.grownBy (w.alloc (.cells #[.int .i64 f,.int .i64 z] 194)) (some g)):=⟨rfl,rfl,rfl,by simp,fun k hk _=>dM w _ k hk⟩
 have dz:Hid (bf (w.alloc (.cells #[.int .i64 f,.int .i64 z] 194)) B g n cap t):=nM HR.out _;have CJ:Hid (bG (w.alloc (.cells #[.int .i64 f,.int .i64 z] 194)) go oo orig):=HO.out.stay ((aA w.heap.size w).alloc (ay _) _) F9.out.1;have c0:(w.alloc (.cells #[.int .i64 f,.int .i64 z] 194)).cell? ⟨w.heap.size,0,none⟩=some (.int .i64 f):=by simp
 have c1:(w.alloc (.cells #[.int .i64 f,.int .i64 z] 194)).cell? ⟨w.heap.size,1,none⟩=some (.int .i64 z):=by simp
 have HC:Hid (w.heap.size<(w.alloc (.cells #[.int .i64 f,.int .i64 z] 194)).heap.size):=by show _<_;simp
 have FX:=ah hBw;clear hBw HR HO;go_enter func126,ntmps126;go_wp2;generalize w.alloc (.cells #[.int .i64 f,.int .i64 z] 194)=W1 at*;generalize w.heap.size=h at*;go_loopg [10,11,12] (z - (f+1)) (fun gk sv ov i wr=>∃m:Nat,f+1+m<=z/\gk=z - (f+1) - m/\sv= .bool (kz (Ct e) t (f+1) m)/\ov= .bool (kz (vH e) t (f+1) m)/\i= .int .i64 ((f+1+m:Nat):Int)/\wr=W1);case atStart=>exact⟨0,by omega,rfl,rfl,rfl,by simp,rfl⟩
 case round=>
  obtain⟨m,hm,rfl,rfl,rfl,rfl,hw⟩:=hrel;subst hw;have hsm:=show kz (Ct e) t (f+1) (m+1)=(kz (Ct e) t (f+1) m||(bC (t.getD (f+1+m) 0)==e))from rfl
  have IJ:=show kz (vH e) t (f+1) (m+1)=(kz (vH e) t (f+1) m||(decide (0<=bC (t.getD (f+1+m) 0))&&bC (t.getD (f+1+m) 0) !=e))from rfl
  by_cases hlt:f+1+m<z
  .have hcell:=dz.out.cell (f+1+m) (by omega);generalize t.getD (f+1+m) 0=c at hcell hsm IJ;obtain⟨p,hp⟩:∃p,p=f+1+m:=⟨_,rfl⟩
   have HP:=ah hp;rw [<-hp]at hcell hlt ⊢;clear hp;obtain⟨sc,hsc⟩:∃sc,sc=bC c:=⟨_,rfl⟩
   rw [<-hsc]at hsm IJ;have uQ:=ah hsc;clear hsc;generalize kz (Ct e) t (f+1) m=sm at*;generalize kz (vH e) t (f+1) m=om at*;have CN:=ah hsm;have UY:=ah IJ;clear hsm IJ;have pn:p<n:=by omega
   have hh:∃b1 b2,b1=(sc==e)/\b2=decide (0<=sc):=⟨_,_,rfl,rfl⟩
   cases sm<;>cases om<;>rcases Int.lt_or_le sc 0 with hs0|hs0<;>by_cases xA:sc=e
   all_goals
    first
    |have ZW:(sc==e)=true:=by simpa using xA
     have ZX:(sc !=e)=false:=by simpa using xA
    |have ZW:(sc==e)=false:=by simpa using xA
     have ZX:(sc !=e)=true:=by simpa using xA
    have N6:=CN.out;have Gi:=UY.out;rw [ZW]at N6;rw [ZX]at Gi
    first
    |rw [mX hs0]at Gi
    |rw [rB (by omega)]at Gi
    have adS:Hid _:=N6;have adN:Hid _:=Gi;clear N6 Gi hh CN UY xA;go_wp2_with fail;refine(rM c _).mono ?_;rintro ev _ ⟨rfl,rfl⟩;rw [<-uQ.out];go_wp2;go_roundg (z - (f+1) - (m+1));case measure=>have:=HP.out;omega
    case rel=>exact⟨m+1,by have:=HP.out;omega,rfl,by rw [adS.out];rfl,by rw [adN.out];rfl,by have:=HP.out;simp;omega,rfl⟩
  .have E1:m=z - (f+1):=by omega
   subst E1;clear hsm IJ hlt;rw [show f+1+(z - (f+1))=z by omega];cases hS:kz (Ct e) t (f+1) (z - (f+1))
   .cases hO:kz (vH e) t (f+1) (z - (f+1))
    .have HV:Hid (q=t):=by show q=t;rw [HQ.out];unfold qG;rw [aj ⟨hS,hO⟩]
     clear hS hO;go_wp2;refine cG (zj rfl _ _ _) rfl ?_;exact⟨rfl,HV.out▸dz.out,kI.out⟩
    .have HV0:Hid (q=xQ orig (jL aq t f) f z t 2):=by
      show q=_;have hp:xM t (f,z) e aq=jL aq t f:=by unfold xM;rw [ai (by rw [hS];decide)]
      rw [HQ.out];unfold qG;rw [ai (by rw [hO];simp),hp];rfl
     clear hS hO;go_wp2;go_loopg [15,16] f (fun gk lv iv wl=>∃m:Nat,m<=f/\gk=f - m/\lv= .int .i64 (jL aq t m)/\iv= .int .i64 m/\wl=wr);case atStart=>exact⟨0,by omega,rfl,rfl,rfl,rfl⟩
     case round=>
      obtain⟨m,hm,rfl,rfl,rfl,hw⟩:=hrel;subst hw;by_cases hlt:m<f
      .have hcell:=dz.out.cell m (by omega);have hl:=show jL aq t (m+1)=if bC (t.getD m 0)<0 then jL aq t m else bC (t.getD m 0)from rfl
       generalize t.getD m 0=c at hcell hl;obtain⟨sc,hsc⟩:∃sc,sc=bC c:=⟨_,rfl⟩
       rw [<-hsc]at hl;have uQ:=ah hsc;clear hsc;have hmn:m<n:=by omega
       rcases Int.lt_or_le sc 0 with hs0|hs0
       .have Kl:Hid (jL aq t (m+1)=jL aq t m):=by show _=_;rw [hl,aj hs0]
        clear hl;go_wp2_with fail;refine(rM c _).mono ?_;rintro ev _ ⟨rfl,rfl⟩;rw [<-uQ.out];go_wp2;go_roundg (f - (m+1));case measure=>omega
        case rel=>exact⟨m+1,by omega,rfl,by rw [Kl.out],by simp,rfl⟩
       .have Kl:Hid (jL aq t (m+1)=sc):=by show _=_;rw [hl,ai (by omega)]
        clear hl;go_wp2_with fail;refine(rM c _).mono ?_;rintro ev _ ⟨rfl,rfl⟩;rw [<-uQ.out];go_wp2;go_roundg (f - (m+1));case measure=>omega
        case rel=>exact⟨m+1,by omega,rfl,by rw [Kl.out],by simp,rfl⟩
      .obtain rfl:f=m:=by omega
       clear hlt;generalize jL aq t f=l at*;by_cases hle:l=e;all_goals
        first|subst hle|(have hle':(l !=e)=true:=(by simpa using hle);clear hle)
        have HV:=ah HV0.out;have gH:Hid (bf (wr.alloc (.cells #[.int .i64 f,.int .i64 z] 3)) B g n cap t):=nM dz.out _;have HG2:Hid (w.grownBy (wr.alloc (.cells #[.int .i64 f,.int .i64 z] 3)) (some g)):=kI.out.trans ⟨rfl,rfl,rfl,by simp,fun k hk _=>dM wr _ k hk⟩;have bK:Hid (bG (wr.alloc (.cells #[.int .i64 f,.int .i64 z] 3)) go oo orig):=CJ.out.stay ((aA wr.heap.size wr).alloc (ay _) _) (by have:=F9.out.1;have:=HC.out;omega);have d0:(wr.alloc (.cells #[.int .i64 f,.int .i64 z] 3)).cell? ⟨wr.heap.size,0,none⟩=some (.int .i64 f):=by simp
        have d1:(wr.alloc (.cells #[.int .i64 f,.int .i64 z] 3)).cell? ⟨wr.heap.size,1,none⟩=some (.int .i64 z):=by simp
        have HD:Hid (∀j:Nat,j<2->(wr.alloc (.cells #[.int .i64 f,.int .i64 z] 3)).cell? ⟨wr.heap.size,j,none⟩=some (.int .i64 (Az f z j:Nat))):=by
         intro j hj
         match j,hj with
         |0,_=>exact d0
         |1,_=>exact d1
        have zR:Hid (wr.heap.size<(wr.alloc (.cells #[.int .i64 f,.int .i64 z] 3)).heap.size/\wr.heap.size≠g/\go<(wr.alloc (.cells #[.int .i64 f,.int .i64 z] 3)).heap.size/\go≠g):=by
         have h1:=F9.out;have h2:=HC.out;have h3:=FX.out;exact⟨by simp,by omega,by simp;omega,h1.2⟩
        clear d0 d1;go_wp2;generalize wr.alloc (.cells #[.int .i64 f,.int .i64 z] 3)=W2 at*;generalize wr.heap.size=h2 at*;go_loopg [85] 2 (fun gk iv wr=>∃(j:Nat)(t':List Int),j<=2/\gk=2 - j/\iv= .int .i64 j/\bf wr B g n cap t'/\W2.grownBy wr (some g)/\t'=xQ orig l f z t j);case atStart=>exact⟨0,t,by omega,rfl,rfl,gH.out,jt _ _,rfl⟩
        case round=>
         clear dz CJ kI c0 c1;obtain⟨j,t',hj2,rfl,rfl,hI,hG,hE⟩:=hrel;have HI:=ah hI;have HG:=ah hG;have HE:=ah hE;clear hE;by_cases hj:j<2
         .have hk:=HD.out j hj;rw [<-pq hG zR.out.1 zR.out.2.1]at hk;have hkk:Az f z j<n:=aar hfz hz j;have HST:=ah (acH orig l f z t j hj);generalize Az f z j=kk at*;have hcell:=hI.cell kk hkk;have hfr:=hI.frozen kk;generalize t'.getD kk 0=cc at hcell;clear hI hG;go_wp2;rw [mX (show((j:Int)<2)by omega)];go_loopg [20] (n - (kk+1)) (fun gk iv wi=>∃m:Nat,kk+1+m<=n/\gk=n - (kk+1+m)/\iv= .int .i64 ((kk+1+m:Nat):Int)/\bf wi B g n cap (bL t' kk l (1+m))/\W2.grownBy wi (some g)/\pJ (orig.drop (kk+1))=m+pJ (orig.drop (kk+1+m)));case atStart=>exact⟨0,by omega,rfl,by simp,HI.out.set kk l,HG.out.trans (HI.out.grown kk l),by simp⟩
          case round=>
           obtain⟨m,hm,rfl,rfl,xm,Aj,hN⟩:=hrel;have zG:=ah xm;have CD:=ah Aj;have HN:=ah hN;clear HI HG hcell hfr hk;by_cases iU:kk+1+m<n
           .have ho:=bK.out (kk+1+m) (by rw [Ea.out];exact iU);rw [<-pq Aj zR.out.2.2.1 zR.out.2.2.2]at ho;have hnm:=Sd (l:=orig) (m:=kk+1+m) (by rw [Ea.out];exact iU);have dR:=xm.cell (kk+1+m) iU;have jl:=xm.frozen (kk+1+m);generalize(bL t' kk l (1+m)).getD (kk+1+m) 0=cq at dR;generalize orig.getD (kk+1+m) 0=oc at ho hnm;have Gg:=ah hnm;clear xm Aj hN hnm;obtain⟨p,hp⟩:∃p,p=kk+1+m:=⟨_,rfl⟩
            have HP:=ah hp;rw [<-hp]at ho dR jl iU ⊢;clear hp;by_cases h8:oc=8
            .subst h8;go_wp2;go_roundg (n - (kk+1+(m+1)));case measure=>have:=HP.out;omega
             case rel=>
              refine⟨m+1,by have:=HP.out;omega,rfl,by have:=HP.out;simp;omega,?_,CD.out.trans (zG.out.grown p l),?_⟩
              .have h1:=zG.out.set p l;rw [HP.out,show kk+1+m=kk+(1+m)by omega]at h1;rw [HP.out,show kk+1+m=kk+(1+m)by omega,show 1+(m+1)=(1+m)+1 by omega];exact h1
              .have h1:=Gg.out;simp only [y8]at h1;rw [HN.out,h1,show kk+1+(m+1)=kk+1+m+1 by omega];omega
            .have q8:(oc==8)=false:=by simpa using h8
             have HF:Hid (bL t' kk l (1+m)=xQ orig l f z t (j+1)):=by
              show _=_;rw [HST.out,<-HE.out,nH,HN.out,Gg.out,ai h8,qY]
             clear h8;go_wp2;go_roundg (2 - (j+1));case measure=>omega
             case rel=>exact⟨j+1,_,by omega,rfl,by simp,HF.out▸zG.out,CD.out,rfl⟩
           .have HF:Hid (bL t' kk l (1+m)=xQ orig l f z t (j+1)):=by
             show _=_;rw [HST.out,<-HE.out,nH,HN.out,Sc (by rw [Ea.out];exact iU),qY]
            clear xm Aj hN;obtain⟨p,hp⟩:∃p,p=kk+1+m:=⟨_,rfl⟩
            rw [<-hp]at iU ⊢;have qA:p=n:=by omega
            clear hp;subst qA;go_wp2;go_roundg (2 - (j+1));case measure=>omega
            case rel=>exact⟨j+1,_,by omega,rfl,by simp,HF.out▸zG.out,CD.out,rfl⟩
         .obtain rfl:j=2:=by omega
          clear hI hG;go_wp2;go_end0;refine⟨rfl,?_,HG2.out.trans HG.out⟩;rw [HV.out];exact HE.out▸HI.out
   .have HV:Hid (q=xQ orig e f z t 2):=by
     show q=_;have hp:xM t (f,z) e aq=e:=by unfold xM;rw [aj hS]
     rw [HQ.out];unfold qG;rw [ai (by rw [hS];simp),hp];rfl
    clear hS;have gH:Hid (bf (wr.alloc (.cells #[.int .i64 f,.int .i64 z] 3)) B g n cap t):=nM dz.out _;have HG2:Hid (w.grownBy (wr.alloc (.cells #[.int .i64 f,.int .i64 z] 3)) (some g)):=kI.out.trans ⟨rfl,rfl,rfl,by simp,fun k hk _=>dM wr _ k hk⟩;have bK:Hid (bG (wr.alloc (.cells #[.int .i64 f,.int .i64 z] 3)) go oo orig):=CJ.out.stay ((aA wr.heap.size wr).alloc (ay _) _) (by have:=F9.out.1;have:=HC.out;omega);have d0:(wr.alloc (.cells #[.int .i64 f,.int .i64 z] 3)).cell? ⟨wr.heap.size,0,none⟩=some (.int .i64 f):=by simp
    have d1:(wr.alloc (.cells #[.int .i64 f,.int .i64 z] 3)).cell? ⟨wr.heap.size,1,none⟩=some (.int .i64 z):=by simp
    have HD:Hid (∀j:Nat,j<2->(wr.alloc (.cells #[.int .i64 f,.int .i64 z] 3)).cell? ⟨wr.heap.size,j,none⟩=some (.int .i64 (Az f z j:Nat))):=by
     intro j hj
     match j,hj with
     |0,_=>exact d0
     |1,_=>exact d1
    have zR:Hid (wr.heap.size<(wr.alloc (.cells #[.int .i64 f,.int .i64 z] 3)).heap.size/\wr.heap.size≠g/\go<(wr.alloc (.cells #[.int .i64 f,.int .i64 z] 3)).heap.size/\go≠g):=by
     have h1:=F9.out;have h2:=HC.out;have h3:=FX.out;exact⟨by simp,by omega,by simp;omega,h1.2⟩
    clear d0 d1;go_wp2;generalize wr.alloc (.cells #[.int .i64 f,.int .i64 z] 3)=W2 at*;generalize wr.heap.size=h2 at*;go_loopg [85] 2 (fun gk iv wr=>∃(j:Nat)(t':List Int),j<=2/\gk=2 - j/\iv= .int .i64 j/\bf wr B g n cap t'/\W2.grownBy wr (some g)/\t'=xQ orig e f z t j);case atStart=>exact⟨0,t,by omega,rfl,rfl,gH.out,jt _ _,rfl⟩
    case round=>
     clear dz CJ kI c0 c1;obtain⟨j,t',hj2,rfl,rfl,hI,hG,hE⟩:=hrel;have HI:=ah hI;have HG:=ah hG;have HE:=ah hE;clear hE;by_cases hj:j<2
     .have hk:=HD.out j hj;rw [<-pq hG zR.out.1 zR.out.2.1]at hk;have hkk:Az f z j<n:=aar hfz hz j;have HST:=ah (acH orig e f z t j hj);generalize Az f z j=kk at*;have hcell:=hI.cell kk hkk;have hfr:=hI.frozen kk;generalize t'.getD kk 0=cc at hcell;clear hI hG;go_wp2;rw [mX (show((j:Int)<2)by omega)];go_loopg [20] (n - (kk+1)) (fun gk iv wi=>∃m:Nat,kk+1+m<=n/\gk=n - (kk+1+m)/\iv= .int .i64 ((kk+1+m:Nat):Int)/\bf wi B g n cap (bL t' kk e (1+m))/\W2.grownBy wi (some g)/\pJ (orig.drop (kk+1))=m+pJ (orig.drop (kk+1+m)));case atStart=>exact⟨0,by omega,rfl,by simp,HI.out.set kk e,HG.out.trans (HI.out.grown kk e),by simp⟩
      case round=>
       obtain⟨m,hm,rfl,rfl,xm,Aj,hN⟩:=hrel;have zG:=ah xm;have CD:=ah Aj;have HN:=ah hN;clear HI HG hcell hfr hk;by_cases iU:kk+1+m<n
       .have ho:=bK.out (kk+1+m) (by rw [Ea.out];exact iU);rw [<-pq Aj zR.out.2.2.1 zR.out.2.2.2]at ho;have hnm:=Sd (l:=orig) (m:=kk+1+m) (by rw [Ea.out];exact iU);have dR:=xm.cell (kk+1+m) iU;have jl:=xm.frozen (kk+1+m);generalize(bL t' kk e (1+m)).getD (kk+1+m) 0=cq at dR;generalize orig.getD (kk+1+m) 0=oc at ho hnm;have Gg:=ah hnm;clear xm Aj hN hnm;obtain⟨p,hp⟩:∃p,p=kk+1+m:=⟨_,rfl⟩
        have HP:=ah hp;rw [<-hp]at ho dR jl iU ⊢;clear hp;by_cases h8:oc=8
        .subst h8;go_wp2;go_roundg (n - (kk+1+(m+1)));case measure=>have:=HP.out;omega
         case rel=>
          refine⟨m+1,by have:=HP.out;omega,rfl,by have:=HP.out;simp;omega,?_,CD.out.trans (zG.out.grown p e),?_⟩
          .have h1:=zG.out.set p e;rw [HP.out,show kk+1+m=kk+(1+m)by omega]at h1;rw [HP.out,show kk+1+m=kk+(1+m)by omega,show 1+(m+1)=(1+m)+1 by omega];exact h1
          .have h1:=Gg.out;simp only [y8]at h1;rw [HN.out,h1,show kk+1+(m+1)=kk+1+m+1 by omega];omega
        .have q8:(oc==8)=false:=by simpa using h8
         have HF:Hid (bL t' kk e (1+m)=xQ orig e f z t (j+1)):=by
          show _=_;rw [HST.out,<-HE.out,nH,HN.out,Gg.out,ai h8,qY]
         clear h8;go_wp2;go_roundg (2 - (j+1));case measure=>omega
         case rel=>exact⟨j+1,_,by omega,rfl,by simp,HF.out▸zG.out,CD.out,rfl⟩
       .have HF:Hid (bL t' kk e (1+m)=xQ orig e f z t (j+1)):=by
         show _=_;rw [HST.out,<-HE.out,nH,HN.out,Sc (by rw [Ea.out];exact iU),qY]
        clear xm Aj hN;obtain⟨p,hp⟩:∃p,p=kk+1+m:=⟨_,rfl⟩
        rw [<-hp]at iU ⊢;have qA:p=n:=by omega
        clear hp;subst qA;go_wp2;go_roundg (2 - (j+1));case measure=>omega
        case rel=>exact⟨j+1,_,by omega,rfl,by simp,HF.out▸zG.out,CD.out,rfl⟩
     .obtain rfl:j=2:=by omega
      clear hI hG;go_wp2;go_end0;refine⟨rfl,?_,HG2.out.trans HG.out⟩;rw [HV.out];exact HE.out▸HI.out
theorem ey {w:World}{B:Nat}{e:TypeId}{z n:Nat}{v:Value}{xs:List Value}(h:w.ownsRow B e z v n xs):∃a cap,v= .slice a n cap:=by
 rcases h.2 with⟨rfl,rfl⟩|⟨g,cap,cur,rfl,_⟩
 .exact⟨none,0,rfl⟩
 .exact⟨_,cap,rfl⟩
theorem fS {w:World}{B:Nat}{e:TypeId}{z n:Nat}{v:Value}{xs:List Value}(h:w.ownsRow B e z v n xs)(hn:0<n):∃g cap,v= .slice (some ⟨g,0,none⟩) n cap/\n<=cap/\g<w.heap.size/\B<=g:=by
 rcases h.2 with⟨rfl,rfl⟩|⟨g,cap,cur,rfl,hb,hh,hc,_⟩
 .omega
 .refine⟨g,cap,rfl,hc,?_,hb⟩;rcases cK g w.heap.size with h'|h'
  .exact h'
  .rw [uJ h']at hh;cases hh
theorem bZ {w:World}{k:Nat}{o:Obj}(h:w.heap[k]? =some o):k<w.heap.size:=by
 rcases cK k w.heap.size with h'|h'
 .exact h'
 .rw [uJ h']at h;cases h
theorem dO {w w':World}{B:Nat}{e:TypeId}{z n:Nat}{v:Value}{xs:List Value}{r:Option Nat}(h:w.ownsRow B e z v n xs)(hg:w.grownBy w' r)(hne:v.ownBlock=none∨v.ownBlock≠r):w'.ownsRow B e z v n xs:=
 nC h fun k o hk ho=>by
  rw [hg.block k (bZ ho) ?_]
  .exact ho
  .rw [hk]at hne;rcases hne with hne|hne
   .cases hne
   .exact hne
theorem eH {w w':World}{B:Nat}{e:TypeId}{z n:Nat}{v:Value}{xs:List Value}(h:w.ownsRow B e z v n xs)(hb:Below w.heap.size w w'):w'.ownsRow B e z v n xs:=
 nC h fun k o _ ho=>by rw [hb.block k (bZ ho)];exact ho
theorem kD {w:World}{B B':Nat}{e e':TypeId}{z z' n n':Nat}{v v':Value}{xs xs':List Value}(h:w.ownsRow B e z v n xs)(h':w.ownsRow B' e' z' v' n' xs')(he:e≠e'):v.ownBlock=none∨v.ownBlock≠v'.ownBlock:=by
 rcases h.2 with⟨rfl,_⟩|⟨g,cap,cur,rfl,_,hh,_⟩
 .exact .inl rfl
 .rcases h'.2 with⟨rfl,_⟩|⟨g',cap',cur',rfl,_,hh',_⟩
  .exact .inr (by simp [Value.ownBlock])
  .refine .inr ?_;simp only [Value.ownBlock];intro e1;obtain rfl:=aK e1;rw [hh]at hh';simp at hh';exact he hh'.2
theorem MJ {w:World}{B:Nat}{e:TypeId}{z n g cap:Nat}{xs:List Value}(h:w.ownsRow B e z (.slice (some ⟨g,0,none⟩) n cap) n xs)(k:Nat)(hk:k<=n):w.ownsRow B e z (.slice (some ⟨g,0,none⟩) k cap) k (xs.take (k*z)):=by
 obtain⟨h1,h2⟩:=h;have hkz:k*z<=n*z:=Nat.mul_le_mul_right z hk;refine⟨by rw [rW];omega,?_⟩;rcases h2 with⟨h,_⟩|⟨g',cap',cur,e1,h3,h4,h5,h6,h7,h8⟩
 .cases h
 .cases e1;refine .inr ⟨g,cap,cur,rfl,h3,h4,by omega,h6,h7,?_⟩;rw [<-h8,List.take_take,jd hkz]
theorem sJ {w:World}{B:Nat}{e:TypeId}{z n:Nat}{v:Value}{xs:List Value}(h:w.ownsRow B e z v n xs):∀k,v.ownBlock=some k->B<=k:=fun k hk=>(h.lt k hk).1
def nl(l:List Nat):List Int:=l.map Int.ofNat
theorem gw(l:List Nat):(nl l).length=l.length:=by simp [nl]
theorem mJ(l:List Nat)(k:Nat)(h:k<l.length):(nl l).getD k 0=(l.getD k 0:Nat):=by simp [nl,aO,aQ h]
theorem mH(l:List Int):(iv l).length=l.length:=by simp [iv]
theorem iJ {w:World}{B g n cap:Nat}{e:TypeId}{l:List Int}(h:w.ownsRow B e 1 (.slice (some ⟨g,0,none⟩) n cap) n (iv l))(k:Nat)(hk:k<l.length):w.cell? ⟨g,k,none⟩=some (.int .i64 (l.getD k 0)):=by
 rw [dg h k (by have:=h.1;rw [mH]at this;omega)];simp [iv,aO,aQ hk]
theorem Dx(l:List Int)(a:Int):iv l++[.int .i64 a]=iv (l++[a]):=by simp [iv]
theorem MA(l:List Nat)(a:Nat):nl l++[(a:Int)]=nl (l++[a]):=by simp [nl]
theorem Rw(l:List Nat)(k:Nat):(iv (nl l)).take (k*1)=iv (nl (l.take k)):=by simp [iv,nl,VF]
theorem adb {P:Program}(w:World){ops:Array Oper}{rest:List Oper}{o:Oper}{a:Act}{Q:Exit->Act->World->Prop}(hgd:o.guard=none)(s x:Operand)(t:TypeId)
  (ho:o.op= .call {callee:= .builtin .append,args:=#[s,x],argTypes:=#[t,t]})
  (base:Nat) (e:TypeId) (i:TypeInfo) (z:Value) (bytes:Nat) (ht:P.underlying t=some (.slice e)) (hi:P.info? e=some i) (hz:i.zero=some z)
  (hsize:i.size=2) (hby:i.bytes=bytes) (hzs:z.cells.size=2) (oJ:bytes<=64)
  (v:Value) (n:Nat) (xs:List Value) (hs:a.eval s=v) (hown:w.ownsRow base e 2 v n xs)
  (y0 y1:Value) (e':TypeId) (k:Nat) (hx:a.eval x= .slice (some ⟨k,0,none⟩) 1 1) (hk:k=w.heap.size) (h0:y0.oneCell'=true) (h1:y1.oneCell'=true) (hn:n<=1000000) (hbase:base<=w.heap.size)
  (h:∀v' w',w'.ownsRow base e 2 v' (n+1) (xs++[y0,y1])->w.grownBy w' v.ownBlock->wpList P ops Q rest (a.put o.dst v') w'):wpList P ops Q (o::rest) a (w.alloc (.cells #[y0,y1] e')):=by
 subst hk;refine FO _ hgd s x t ho base e i z 2 bytes ht hi hz hsize hby hzs (by decide) v n xs hs (hown.alloc _) ⟨w.heap.size,0,none⟩ 1 1 [y0,y1] hx rfl ?_ ?_ ?_ ?_ ?_ ?_
 .intro j u hj
  match j,hj with
  |0,hj=>simp at hj;subst hj;simp [Addr.add]
  |1,hj=>simp at hj;subst hj;simp [Addr.add]
 .intro u hu;simp at hu;rcases hu with rfl|rfl
  .exact h0
  .exact h1
 .unfold maxLen;omega
 .have:(n+1)*bytes<=1000001*64:=zZ (by omega) oJ;omega
 .simp;omega
 .intro v' w' h2 h3 _;refine h v' w' h2 ⟨h3.os,h3.tape,h3.output,?_,fun k hk hne=> ?_⟩
  .have:=h3.size;simp at this;omega
  .rw [h3.block k (by simp;omega) hne];exact dM w _ k hk
def fu(l:List (Nat×Nat)):List Value:=l.flatMap fun p=>[.int .i64 (p.1:Nat),.int .i64 (p.2:Nat)]
theorem abk(l:List (Nat×Nat)):(fu l).length=l.length*2:=by
 induction l with
 |nil=>rfl
 |cons a r ih=>simp only [fu,uV,bP]at ih ⊢;rw [ih];simp;omega
theorem abl(l:List (Nat×Nat))(p:Nat×Nat):fu l++[.int .i64 (p.1:Nat),.int .i64 (p.2:Nat)]=fu (l++[p]):=by simp [fu]
structure o8(w0 w:World)(B:Nat)(sv ov:Value)(x:List Nat×List (Nat×Nat)):Prop where
 below:Below B w0 w
 st:w.ownsRow B 3 1 sv x.1.length (iv (nl x.1))
 out:w.ownsRow B 194 2 ov x.2.length (fu x.2)
 base:B<=w.heap.size
theorem o8.call {w0 w w':World}{B:Nat}{sv ov:Value}{x:List Nat×List (Nat×Nat)}(h:o8 w0 w B sv ov x)(hb:Below w.heap.size w w'):o8 w0 w' B sv ov x:=
 ⟨h.below.trans (hb.mono h.base),eH h.st hb,eH h.out hb,bU h.base hb.size⟩
theorem o8.start(w:World):o8 w w w.heap.size (.slice none 0 0) (.slice none 0 0) ([],[]):=
 ⟨aA _ _,⟨rfl,.inl ⟨rfl,rfl⟩⟩,⟨rfl,.inl ⟨rfl,rfl⟩⟩,ay _⟩
theorem o8.push {w0 w w':World}{B:Nat}{sv ov sv':Value}{x:List Nat×List (Nat×Nat)}{i:Nat}(h:o8 w0 w B sv ov x)(hr:w'.ownsRow B 3 1 sv' (x.1.length+1) (iv (nl x.1)++[.int .i64 (i:Nat)]))(hg:w.grownBy w' sv.ownBlock):o8 w0 w' B sv' ov (x.1++[i],x.2):=
 ⟨h.below.grown hg h.base (sJ h.st),by rw [Dx,MA]at hr;simpa using hr,dO h.out hg (kD h.out h.st (by decide)),bU h.base hg.size⟩
theorem o8.pair {w0 w w':World}{B g cap:Nat}{ov Cg:Value}{x:List Nat×List (Nat×Nat)}{i m:Nat}(h:o8 w0 w B (.slice (some ⟨g,0,none⟩) x.1.length cap) ov x)(hm:m<x.1.length)
  (hr:w'.ownsRow B 194 2 Cg (x.2.length+1) (fu x.2++[.int .i64 (x.1.getD m 0:Nat),.int .i64 (i:Nat)])) (hg:w.grownBy w' ov.ownBlock):o8 w0 w' B (.slice (some ⟨g,0,none⟩) m cap) Cg (x.1.take m,x.2++[(x.1.getD m 0,i)]):=by
 have h1:=dO h.st hg (kD h.st h.out (by decide));have h2:=MJ h1 m (by omega);rw [Rw]at h2;refine⟨h.below.grown hg h.base (sJ h.out),by simpa [jd (fW hm)]using h2,?_,bU h.base hg.size⟩;rw [abl x.2 (x.1.getD m 0,i)]at hr;simpa using hr
def DM(lv:List Int)(lf:List Bool)(i:Nat)(x:List (List Nat)×List Nat):List (List Nat)×List Nat:=
 if lf.getD i false=false then x
 else if x.2≠[]/\lv.getD (x.2.headD 0) 0≠lv.getD i 0 then(x.1++[x.2],[i])else(x.1,x.2++[i])
def sM(x:List (List Nat)×List Nat):List (List Nat):=if x.2=[]then x.1 else x.1++[x.2]
def vK(lv:List Int)(lf:List Bool):Nat->Nat->List (List Nat)×List Nat->List (List Nat)
 |0,_,x=>sM x
 |n+1,i,x=>vK lv lf n (i+1) (DM lv lf i x)
def cQ(lv:List Int)(lf:List Bool):List (List Nat):=vK lv lf lv.length 0 ([],[])
def rH(rs:List (List Nat))(m:Nat):Nat->Option Nat
 |0=>none
 |k+1=>if(rs.getD k []).headD 0=m then some k else rH rs m k
def gD(cs:List Int)(rs:List (List Nat))(last:Nat):Option Nat:=if aS (cs.getD last 0)=true then rH rs (mt cs last) rs.length else none
def bV(cs:List Int)(rs:List (List Nat)):Nat->List Nat->List Nat
 |0,at'=>at'
 |f+1,at'=>match gD cs rs (at'.getLastD 0)with
  |none=>at'
  |some k=>bV cs rs f (at'++rs.getD k [])
structure Sq where
 at':List Nat
 level:Int
 aq:Int
 ax:Int
def jG(lv:List Int)(lf:List Bool)(para:Int):Nat->Int
 |0=>para
 |k+1=>if lf.getD k false=true then lv.getD k 0 else jG lv lf para k
def kO(lv:List Int)(lf:List Bool)(para:Int)(len:Nat):Nat->Int
 |0=>para
 |m+1=>if lf.getD (len - (m+1)) false=true then lv.getD (len - (m+1)) 0 else kO lv lf para len m
def oz(cs lv:List Int)(lf:List Bool)(para:Int)(last:Nat):Int:=if aS (cs.getD last 0)=true/\mt cs last=cs.length then para else kO lv lf para cs.length (cs.length - (last+1))
def qf(cs lv:List Int)(lf:List Bool)(para:Int)(at':List Nat):Sq:=
 ⟨at',lv.getD (at'.headD 0) 0,iy (lv.getD (at'.headD 0) 0) (jG lv lf para (at'.headD 0)),iy (lv.getD (at'.headD 0) 0) (oz cs lv lf para (at'.getLastD 0))⟩
def gA(cs:List Int)(r:List Nat):Bool:= !(cs.getD (r.headD 0) 0==21&&decide (0<=opener cs (r.headD 0)))
def gF(cs lv:List Int)(lf:List Bool)(para:Int):List Sq:=
 ((cQ lv lf).filter (gA cs)).map fun r=>qf cs lv lf para (bV cs (cQ lv lf) cs.length r)
def bz(l:List Int)(at':List Nat):List Int:=at'.map fun p=>l.getD p 0
def jH(l:List aU):Int:=((l.filter (·.i)).length:Int)
theorem afS:jH []=0:=rfl
theorem EF(l:List aU)(e:aU):jH (l++[e])=jH l+(if e.i=true then 1 else 0):=by
 unfold jH;rw [qQ,bP,qU,Ej];cases e.i<;>simp
theorem Lf(l:List aU):0<=jH l:=by unfold jH;omega
theorem abK(base:List aU)(e:aU)(he:e.i=true):∀(r:List aU),(∀y∈r,y.i=false)->gJ (base++e::r.reverse)=base
 |[],_=>by simpa using MM base e he
 |y::r,h=>by
  have:base++e::(y::r).reverse=(base++e::r.reverse)++[y]:=by simp
  rw [this,MN _ _ (h y (by simp))];exact abK base e he r (fun z hz=>h z (by simp [hz]))
theorem akB(base:List aU)(e:aU)(he:e.i=true)(s:List aU)(h:∀y∈s,y.i=false):gJ (base++e::s)=base:=by
 have:=abK base e he s.reverse (by simpa using h);simpa using this
theorem abL(base:List aU):∀(r:List aU),0<jH r.reverse->∃s,gJ (base++r.reverse)=base++s/\jH s=jH r.reverse - 1
 |[],h=>by simp [jH]at h
 |y::r,h=>by
  rw [List.reverse_cons]at h ⊢;rw [<-eV];cases hy:y.i with
  |true=>
   refine⟨r.reverse,MM _ _ hy,?_⟩;rw [EF,hy,aj rfl];omega
  |false=>
   rw [EF,hy,ai (by decide)]at h;obtain⟨s,h1,h2⟩:=abL base r (by omega);refine⟨s,by rw [MN _ _ hy];exact h1,?_⟩;rw [EF,hy,ai (by decide)];omega
theorem akA(base s:List aU)(h:0<jH s):∃s',gJ (base++s)=base++s'/\jH s'=jH s - 1:=by
 have:=abL base s.reverse (by simpa using h);simpa using this
inductive kJ (base:List aU) (lQ:Int) (n:Int) (x:XS):Prop
 |over (h1:x.st=base) (h2:x.aH=lQ+n) (h3:0<=lQ)
 |val (e:aU) (s:List aU) (h1:x.st=base++e::s) (h2:e.i=true) (h3:x.aH+jH s+1=n) (h4:0<=x.aH)
theorem acN(a:List aU)(e:aU):aR (a++[e])=e:=by simp [aR]
theorem kJ.aeX {x:XS}(bJ:Int)(h0:0<=x.aH):kJ x.st x.aH 1 (iO x bJ):=by
 unfold iO;simp only;split
 .rename_i hf;unfold jx at hf;simp at hf;exact .val ⟨_, -1,true⟩ [] (by simp;rfl) rfl (by simp only;rw [afS];omega) h0
 .exact .over rfl rfl h0
theorem kJ.begin {base:List aU}{lQ n:Int}{x:XS}(h:kJ base lQ n x)(hn:1<=n)(bJ:Int):kJ base lQ (n+1) (iO x bJ):=by
 unfold iO;simp only;split
 .rename_i hf;unfold jx at hf;simp at hf;cases h with
  |over h1 h2 h3=>omega
  |val e s h1 h2 h3 h4=>
   refine .val e (s++[⟨_, -1,true⟩]) (by simp only;rw [h1];simp;rfl) h2 ?_ h4;rw [EF];simp only [y8];omega
 .cases h with
  |over h1 h2 h3=>exact .over h1 (by simp only;omega) h3
  |val e s h1 h2 h3 h4=>exact .val e s h1 h2 (by simp only;omega) (by simp only;omega)
theorem kJ.Pt {base:List aU}{lQ n:Int}{x:XS}(h:kJ base lQ n x)(hn:1<=n)(c:Int):kJ base lQ n (iZ x c):=by
 unfold iZ;simp only;generalize(if c=15 then(0:Int)else if c=16 then 1 else -1)=o;generalize fG (aR x.st).l _=nn;split
 .rename_i hf;unfold jx at hf;simp at hf;cases h with
  |over h1 h2 h3=>omega
  |val e s h1 h2 h3 h4=>
   refine .val e (s++[⟨_,_,false⟩]) (by simp only;rw [h1];simp;exact⟨rfl,rfl⟩) h2 (by simp only;rw [EF];simp;omega) h4
 .split
  .cases h with
   |over h1 h2 h3=>exact .over h1 h2 h3
   |val e s h1 h2 h3 h4=>exact .val e s h1 h2 h3 h4
  .exact h
theorem kJ.pop {base:List aU}{lQ n:Int}{x:XS}(h:kJ base lQ n x)(hn:1<=n):kJ base lQ n (jA x):=by
 unfold jA;split
 .exact h
 .rename_i hz;cases h with
  |over h1 h2 h3=>omega
  |val e s h1 h2 h3 h4=>
   split
   .exact .val e s h1 h2 h3 h4
   .split
    .rename_i hc;obtain⟨hi,_⟩:=hc;rcases wO s with rfl|⟨s',y,rfl⟩
     .rw [h1,acN]at hi;rw [h2]at hi;cases hi
     .have e1:x.st=(base++e::s')++[y]:=by rw [h1];simp
      rw [e1,acN]at hi;refine .val e s' (by simp only;rw [e1,Ei]) h2 ?_ h4;have:=EF s' y;rw [hi,ai (by decide)]at this;simp only [zW]at h3;simp only;omega
    .exact .val e s h1 h2 h3 h4
theorem kJ.end {base:List aU}{lQ n m:Int}{x:XS}(h:kJ base lQ n x)(hn:2<=n)(ho:dJ m x):kJ base lQ (n - 1) (iD x):=by
 unfold iD;split
 .cases h with
  |over h1 h2 h3=>exact .over h1 (by simp only;omega) h3
  |val e s h1 h2 h3 h4=>exact .val e s h1 h2 (by simp only;omega) (by simp only;omega)
 .rename_i hz;cases h with
  |over h1 h2 h3=>omega
  |val e s h1 h2 h3 h4=>
   have hv:x.valid=jH x.st:=ho.cnt;have hc:jH x.st=jH base+1+jH s:=by
    unfold jH;rw [h1,qQ,bP,qU,aj h2,eW];omega
   have hb:=Lf base;have hs:=Lf s;rw [ai (by omega)];obtain⟨s',e1,e2⟩:=akA (base++[e]) s (by omega);refine .val e s' ?_ h2 (by simp only;omega) h4;simp only;rw [h1,show base++e::s=(base++[e])++s by simp,e1];simp
theorem kJ.out {base:List aU}{lQ m:Int}{x:XS}(h:kJ base lQ 1 x)(ho:dJ m x):(iD x).st=base:=by
 unfold iD;cases h with
 |over h1 h2 h3=>rw [aj (by omega)];exact h1
 |val e s h1 h2 h3 h4=>
  have hs:=Lf s;have hb:=Lf base;have hv:x.valid=jH x.st:=ho.cnt;have hc:jH x.st=jH base+1+jH s:=by
   unfold jH;rw [h1,qQ,bP,qU,aj h2,eW];omega
  rw [ai (by omega),ai (by omega)];simp only;rw [h1];refine akB base e h2 s ?_;intro y hy;cases hi:y.i with
  |false=>rfl
  |true=>
   exfalso;have:y∈s.filter (·.i):=uW.2 ⟨hy,hi⟩;have:=List.length_pos_of_mem this;unfold jH at h3;omega
theorem aam {c:Int}(h:aS c=true):c=18∨c=19∨c=20:=by unfold aS at h;simp at h;omega
theorem ado(cs:List Int)(i:Nat)(x:XS)(c:Int)(h:aS c=true):∃bJ,eN cs i x c=iO x bJ:=by
 unfold eN;rcases aam h with rfl|rfl|rfl
 .exact⟨0,by simp⟩
 .exact⟨1,by simp⟩
 .exact⟨_,by simp;rfl⟩
theorem kJ.step {cs:List Int}{para:Int}(hp:0<=para/\para<=125){base:List aU}{lQ n:Int}{k:Nat}(h:kJ base lQ n (dW cs para k))(hn:1<=n)(h2:cs.getD k 0=21->2<=n):
  kJ base lQ (if cs.getD k 0=21 then n - 1 else if aS (cs.getD k 0)=true then n+1 else n) (dW cs para (k+1)):=by
 have hok:=wm cs para hp k;rw [dW];generalize dW cs para k=x at*;generalize cs.getD k 0=c at*;by_cases h21:c=21
 .subst h21;rw [aj rfl,dL,aj rfl];have:=h.end (h2 rfl) hok;unfold eN;simpa using this
 .rw [ai h21,dL,ai h21];by_cases hi:aS c=true
  .rw [aj hi];obtain⟨bJ,ho⟩:=ado cs k x c hi;rw [ho];exact h.begin hn bJ
  .rw [ai hi];unfold eN;split
   .exact h.Pt hn c
   .rw [ai (by rintro rfl;exact hi rfl),ai (by rintro rfl;exact hi rfl),ai (by rintro rfl;exact hi rfl)];split
    .exact h.pop hn
    .exact h
theorem Rn {cs:List Int}{para:Int}(hp:0<=para/\para<=125){base:List aU}{lQ:Int}:∀(f k:Nat)(n:Int)(d:Nat),cs.length<=k+f->1<=n->kJ base lQ n (dW cs para k)->cN (cs.drop k) n=some d->(iD (dW cs para (k+d))).st=base/\cs.getD (k+d) 0=21
 |0,k,n,d,hf,_,_,hm=>by rw [jD (by omega)]at hm;cases hm
 |f+1,k,n,d,hf,hn,h,hm=>by
  rcases cK k cs.length with hk|hk
  .rw [drop_at hk,cN]at hm;by_cases h21:cs.getD k 0=21
   .rw [aj h21]at hm;by_cases h1:n - 1=0
    .rw [aj h1]at hm;obtain rfl:=aK hm;obtain rfl:n=1:=by omega
     exact⟨h.out (wm cs para hp k),h21⟩
    .rw [ai h1]at hm;cases hr:cN (cs.drop (k+1)) (n - 1)with
     |none=>rw [hr]at hm;cases hm
     |some d'=>
      rw [hr]at hm;obtain rfl:=aK hm;have:=h.step hp hn (fun _=>by omega);rw [aj h21]at this;have:=Rn hp f (k+1) (n - 1) d' (by omega) (by omega) this hr;rw [show k+(d'+1)=k+1+d' by omega];exact this
   .rw [ai h21]at hm;cases hr:cN (cs.drop (k+1)) (if aS (cs.getD k 0)=true then n+1 else n)with
    |none=>rw [hr]at hm;cases hm
    |some d'=>
     rw [hr]at hm;obtain rfl:=aK hm;have:=h.step hp hn (fun h'=>absurd h' h21);rw [ai h21]at this;have:=Rn hp f (k+1) _ d' (by omega) (by split<;>omega) this hr;rw [show k+(d'+1)=k+1+d' by omega];exact this
  .rw [jD hk]at hm;cases hm
theorem ajg {cs:List Int}{para:Int}(hp:0<=para/\para<=125){i:Nat}(hi:i<cs.length)(bH:aS (cs.getD i 0)=true)(hm:mt cs i<cs.length):gG cs para (mt cs i)=gG cs para i/\cs.getD (mt cs i) 0=21:=by
 have h21:¬cs.getD i 0=21:=by intro e;rw [e]at bH;cases bH
 obtain⟨bJ,ho⟩:=ado cs i (dW cs para i) (cs.getD i 0) bH;have hstart:kJ (dW cs para i).st (dW cs para i).aH 1 (dW cs para (i+1)):=by
  rw [dW,dL,ai h21,ho];exact kJ.aeX bJ (wm cs para hp i).aH.1
 unfold mt at hm ⊢;cases hd:cN (cs.drop i) 0 with
 |none=>rw [hd]at hm;simp at hm
 |some d=>
  simp only;rw [drop_at hi,cN,ai h21,aj bH]at hd;cases hr:cN (cs.drop (i+1)) (0+1)with
  |none=>rw [hr]at hd;cases hd
  |some d'=>
   rw [hr]at hd;obtain rfl:=aK hd;have:=Rn hp cs.length (i+1) 1 d' (by omega) (KE _) hstart hr;rw [show i+(d'+1)=i+1+d' by omega];refine⟨?_,this.2⟩;unfold gG;rw [this.2,dL,aj rfl,this.1,dL,ai h21]
def Mx(cs:List Int)(i:Nat)(x:List Int×List Nat):List Int×List Nat:=
 if aS (cs.getD i 0)=true then(x.1.set i (-1),x.2++[i])
 else if cs.getD i 0=21 then(match x.2.getLast? with
  |some k=>(((x.1.set i (-1)).set k (i:Int)).set i (k:Int),x.2.dropLast)
  |none=>(x.1.set i (-1),x.2))
 else(x.1.set i (-1),x.2)
def qC(cs:List Int):Nat->List Int×List Nat
 |0=>(List.replicate cs.length 0,[])
 |i+1=>Mx cs i (qC cs i)
def lS(cs:List Int):List Int:=(qC cs cs.length).1
structure o7(cs:List Int)(i:Nat)(x:List Int×List Nat):Prop where
 le:i<=cs.length
 len:x.1.length=cs.length
 opn:∀(d k:Nat),x.2[d]? =some k->kL cs k i ((x.2.length:Int) - d)/\aS (cs.getD k 0)=true/\k<i/\x.1.getD k 0= -1
 B6:∀k,k<i->aS (cs.getD k 0)=true->k∈x.2∨(mt cs k<i/\x.1.getD k 0=mt cs k)
 Cm:∀k,k<i->cs.getD k 0=21->(x.1.getD k 0= -1/\∀j,j<k->aS (cs.getD j 0)=true->mt cs j≠k)∨∃j,j<k/\aS (cs.getD j 0)=true/\mt cs j=k/\x.1.getD k 0=j
 xJ:∀k,k<i->aS (cs.getD k 0)=false->cs.getD k 0≠21->x.1.getD k 0= -1
 rI:x.2.Nodup
theorem o7.start(cs:List Int):o7 cs 0 (List.replicate cs.length 0,[]):=
 ⟨rY _,by simp,fun d k h=>by simp at h,fun k h=>by omega,fun k h=>by omega,fun k h=>by omega,by simp⟩
theorem xd {l:List Int}{k:Nat}(h:k<l.length)(v:Int):(l.set k v).getD k 0=v:=by
 rw [aO,VD h];rfl
theorem getD_set_ne {l:List Int}{k j:Nat}(h:k≠j)(v:Int):(l.set k v).getD j 0=l.getD j 0:=by
 rw [aO,ad8 h,aO]
theorem o7.plain {cs:List Int}{i:Nat}{x:List Int×List Nat}(h:o7 cs i x)(hi:i<cs.length)(h1:aS (cs.getD i 0)=false)(h2:cs.getD i 0≠21):o7 cs (i+1) (x.1.set i (-1),x.2):=by
 refine⟨hi,by simp [h.len],?_,?_,?_,?_,h.rI⟩
 .intro d k hk;obtain⟨a,b,c,e⟩:=h.opn d k hk;refine⟨?_,b,by omega,by simp only;rw [getD_set_ne (by omega)];exact e⟩;have:=a.plain hi h2;rw [h1]at this;simpa using this
 .intro k hk hik;rcases cK k i with hk'|hk'
  .rcases h.B6 k hk' hik with h'|⟨h',h''⟩
   .exact .inl h'
   .exact .inr ⟨by omega,by simp only;rw [getD_set_ne (by omega)];exact h''⟩
  .obtain rfl:k=i:=by omega
   rw [h1]at hik;cases hik
 .intro k hk h21;rcases cK k i with hk'|hk'
  .simp only;rw [getD_set_ne (by omega)];exact h.Cm k hk' h21
  .obtain rfl:k=i:=by omega
   exact absurd h21 h2
 .intro k hk hik h21;simp only;rcases cK k i with hk'|hk'
  .rw [getD_set_ne (by omega)];exact h.xJ k hk' hik h21
  .obtain rfl:k=i:=by omega
   rw [xd (by rw [h.len];exact hi)]
theorem o7.push {cs:List Int}{i:Nat}{x:List Int×List Nat}(h:o7 cs i x)(hi:i<cs.length)(h1:aS (cs.getD i 0)=true):o7 cs (i+1) (x.1.set i (-1),x.2++[i]):=by
 have h2:cs.getD i 0≠21:=by intro e;rw [e]at h1;cases h1
 refine⟨hi,by simp [h.len],?_,?_,?_,?_,?_⟩
 .intro d k hk;simp only at hk;rcases cK d x.2.length with hd|hd
  .rw [qV hd]at hk;obtain⟨a,b,c,e⟩:=h.opn d k hk;refine⟨?_,b,by omega,by simp only;rw [getD_set_ne (by omega)];exact e⟩;have:=a.plain hi h2;rw [aj h1]at this;simp only [bP,eW,kq];rw [show(((x.2.length+(0+1):Nat):Int) - d)=((x.2.length:Int) - d)+1 by omega];exact this
  .rw [pT hd]at hk;have hd0:d - x.2.length=0:=by
    rcases Es (d - x.2.length)with h'|h'
    .exact h'
    .rw [pU (by simp;omega)]at hk;cases hk
   rw [hd0]at hk;obtain rfl:i=k:=by simpa using hk
   refine⟨?_,h1,by omega,by simp only;rw [xd (by rw [h.len];exact hi)]⟩;have:=(kL.start cs i (by omega)).plain hi h2;rw [aj h1]at this;simp only [bP,eW,kq];rw [show(((x.2.length+(0+1):Nat):Int) - d)=0+1 by omega];exact this
 .intro k hk hik;rcases cK k i with hk'|hk'
  .rcases h.B6 k hk' hik with h'|⟨h',h''⟩
   .exact .inl (by simp [h'])
   .exact .inr ⟨by omega,by simp only;rw [getD_set_ne (by omega)];exact h''⟩
  .obtain rfl:k=i:=by omega
   exact .inl (by simp)
 .intro k hk h21;rcases cK k i with hk'|hk'
  .simp only;rw [getD_set_ne (by omega)];exact h.Cm k hk' h21
  .obtain rfl:k=i:=by omega
   exact absurd h21 h2
 .intro k hk hik h21;simp only;rcases cK k i with hk'|hk'
  .rw [getD_set_ne (by omega)];exact h.xJ k hk' hik h21
  .obtain rfl:k=i:=by omega
   rw [h1]at hik;cases hik
 .simp only;rw [Eo];refine⟨h.rI,by simp,?_⟩;intro a ha b hb;simp at hb;subst hb;obtain⟨d,hd⟩:=VC ha;have:=(h.opn d a hd).2.2.1;omega
theorem o7.none {cs:List Int}{i:Nat}{x:List Int×List Nat}(h:o7 cs i x)(hi:i<cs.length)(h2:cs.getD i 0=21)(hx:x.2=[]):o7 cs (i+1) (x.1.set i (-1),x.2):=by
 refine⟨hi,by simp [h.len],?_,?_,?_,?_,h.rI⟩
 .intro d k hk;rw [hx]at hk;simp at hk
 .intro k hk hik;rcases cK k i with hk'|hk'
  .rcases h.B6 k hk' hik with h'|⟨h',h''⟩
   .exact .inl h'
   .exact .inr ⟨by omega,by simp only;rw [getD_set_ne (by omega)];exact h''⟩
  .obtain rfl:k=i:=by omega
   rw [h2]at hik;cases hik
 .intro k hk h21;rcases cK k i with hk'|hk'
  .simp only;rw [getD_set_ne (by omega)];exact h.Cm k hk' h21
  .obtain rfl:k=i:=by omega
   refine .inl ⟨by simp only;rw [xd (by rw [h.len];exact hi)],fun j hj hij=> ?_⟩;rcases h.B6 j hj hij with h'|⟨h',_⟩
   .rw [hx]at h';cases h'
   .omega
 .intro k hk hik h21;simp only;rcases cK k i with hk'|hk'
  .rw [getD_set_ne (by omega)];exact h.xJ k hk' hik h21
  .obtain rfl:k=i:=by omega
   exact absurd h2 h21
theorem o7.akG {cs:List Int}{i o:Nat}{x:List Int×List Nat}{st:List Nat}(h:o7 cs i x)(hi:i<cs.length)(h2:cs.getD i 0=21)(hx:x.2=st++[o]):o7 cs (i+1) (((x.1.set i (-1)).set o (i:Int)).set i (o:Int),st):=by
 have hlen:=h.len;have ho:x.2[st.length]? =some o:=by rw [hx];simp
 obtain⟨a,b,c,e⟩:=h.opn _ _ ho;have Me:mt cs o=i:=a.hit hi h2 (by rw [hx];simp;omega);have QY:=h.rI;rw [hx,Eo]at QY;have hno:o ∉ st:=fun hm=>QY.2.2 o hm o (by simp) rfl
 have get:∀k,k<i->k≠o->(((x.1.set i (-1)).set o (i:Int)).set i (o:Int)).getD k 0=x.1.getD k 0:=by
  intro k hk hko;rw [getD_set_ne (by omega),getD_set_ne (by omega),getD_set_ne (by omega)]
 have ag3:(((x.1.set i (-1)).set o (i:Int)).set i (o:Int)).getD o 0=i:=by
  rw [getD_set_ne (by omega),xd (by simp;omega)]
 have ag2:(((x.1.set i (-1)).set o (i:Int)).set i (o:Int)).getD i 0=o:=by
  rw [xd (by simp;omega)]
 refine⟨hi,by simp [hlen],?_,?_,?_,?_,QY.1⟩
 .intro d k hk;simp only at hk;have hd:d<st.length:=(qW.1 hk).1;have hk':x.2[d]? =some k:=by rw [hx,qV hd];exact hk
  obtain⟨a',b',c',e'⟩:=h.opn d k hk';have hkm:k∈st:=VG hk;refine⟨?_,b',by omega,?_⟩
  .have:=a'.Cm hi h2 (by rw [hx];simp;omega);simp only;rw [show((st.length:Int) - d)=((x.2.length:Int) - d) - 1 by rw [hx];simp;omega];exact this
  .simp only;rw [get k c' (by rintro rfl;exact hno hkm)];exact e'
 .intro k hk hik;rcases cK k i with hk'|hk'
  .by_cases hko:k=o
   .subst hko;exact .inr ⟨by omega,by simp only;rw [ag3,Me]⟩
   .rcases h.B6 k hk' hik with h'|⟨h',h''⟩
    .rw [hx]at h';refine .inl ?_;simp at h';rcases h' with h'|h'
     .exact h'
     .exact absurd h' hko
    .exact .inr ⟨by omega,by simp only;rw [get k hk' hko];exact h''⟩
  .obtain rfl:k=i:=by omega
   rw [h2]at hik;cases hik
 .intro k hk h21;rcases cK k i with hk'|hk'
  .have hko:k≠o:=by rintro rfl;rw [h21]at b;cases b
   simp only;rw [get k hk' hko];exact h.Cm k hk' h21
  .obtain rfl:k=i:=by omega
   exact .inr ⟨o,c,b,Me,by simp only;rw [ag2]⟩
 .intro k hk hik h21;rcases cK k i with hk'|hk'
  .have hko:k≠o:=by rintro rfl;rw [hik]at b;cases b
   simp only;rw [get k hk' hko];exact h.xJ k hk' hik h21
  .obtain rfl:k=i:=by omega
   exact absurd h2 h21
theorem Jr(cs:List Int):∀i,i<=cs.length->o7 cs i (qC cs i)
 |0,_=>o7.start cs
 |i+1,hi=>by
  have h:=Jr cs i (by omega);rw [qC,Mx];by_cases h1:aS (cs.getD i 0)=true
  .rw [aj h1];exact h.push (by omega) h1
  .rw [ai h1];by_cases h2:cs.getD i 0=21
   .rw [aj h2];rcases wO (qC cs i).2 with hx|⟨st,o,hx⟩
    .have:=h.none (by omega) h2 hx;rw [hx]at this ⊢;exact this
    .rw [zW]at hx;have:=h.akG (by omega) h2 hx;rw [hx];simpa using this
   .rw [ai h2];exact h.plain (by omega) (by simpa using h1) h2
theorem aaH(cs:List Int):(lS cs).length=cs.length:=(Jr cs _ (ay _)).len
theorem RU {cs:List Int}{k:Nat}(hk:k<cs.length)(hi:aS (cs.getD k 0)=true):(lS cs).getD k 0=if mt cs k<cs.length then(mt cs k:Int)else -1:=by
 have h:=Jr cs _ (ay _);rcases h.B6 k hk hi with h'|⟨h1,h2⟩
 .obtain⟨d,hd⟩:=VC h';obtain⟨a,_,_,e⟩:=h.opn d k hd;rw [ai (by rw [a.stop (by omega)];omega)];exact e
 .rw [aj h1];exact h2
theorem aa6(cs:List Int)(i:Nat):∀n,n<=i->(0<=xH cs i n↔∃j,i - n<=j/\j<i/\aS (cs.getD j 0)=true/\mt cs j=i)
 |0,_=>by
  rw [xH];constructor
  .intro h;omega
  .rintro⟨j,h1,h2,_⟩;omega
 |n+1,hn=>by
  rw [xH];have ih:=aa6 cs i n (by omega);by_cases h:aS (cs.getD (i - (n+1)) 0)=true/\mt cs (i - (n+1))=i
  .rw [aj h];constructor
   .intro _;exact⟨i - (n+1),ay _,by omega,h.1,h.2⟩
   .intro _;omega
  .rw [ai h,ih];constructor
   .rintro⟨j,h1,h2⟩;exact⟨j,by omega,h2⟩
   .rintro⟨j,h1,h2,h3,h4⟩;rcases Nat.eq_or_lt_of_le h1 with h'|h'
    .subst h';exact absurd ⟨h3,h4⟩ h
    .exact⟨j,by omega,h2,h3,h4⟩
theorem aa7(cs:List Int)(i:Nat):0<=opener cs i↔∃j,j<i/\aS (cs.getD j 0)=true/\mt cs j=i:=by
 unfold opener;rw [aa6 cs i i (ay _)];constructor
 .rintro⟨j,_,h⟩;exact⟨j,h⟩
 .rintro⟨j,h⟩;exact⟨j,by omega,h⟩
theorem ai7 {cs:List Int}{k:Nat}(hk:k<cs.length)(hp:cs.getD k 0=21):((lS cs).getD k 0≠ -1↔0<=opener cs k):=by
 rw [aa7];have h:=Jr cs _ (ay _);rcases h.Cm k hk hp with⟨h1,h2⟩|⟨j,h1,h2,h3,h4⟩
 .constructor
  .intro h';exact absurd h1 h'
  .rintro⟨j,a,b,c⟩;exact absurd c (h2 j a b)
 .constructor
  .intro _;exact⟨j,h1,h2,h3⟩
  .intro _ h';have:(lS cs).getD k 0=j:=h4;omega
def oN(cs:List Int)(to':Nat):Nat->Nat->Int
 |0,_=>0
 |f+1,i=>if i<to' then(if cs.getD i 0=0 then 0 else if cs.getD i 0=1∨cs.getD i 0=2 then 1 else if aS (cs.getD i 0)=true then oN cs to' f (mt cs i+1)else oN cs to' f (i+1))else 0
theorem SL(cs:List Int):∀f i,oN cs cs.length f i=jI cs f i
 |0,i=>rfl
 |f+1,i=>by rw [oN,jI,SL cs f,SL cs f]
theorem My:∀(l:List Int)(n a:Int)(d:Nat),1<=n->1<=a->cN l (n+a)=some d->∃d',d'<d/\cN l n=some d'
 |[],n,a,d,_,_,h=>by cases h
 |c::r,n,a,d,hn,ha,h=>by
  rw [cN]at h;rw [cN];by_cases hc:c=21
  .rw [aj hc]at h ⊢;rw [ai (by omega)]at h;cases hr:cN r (n+a - 1)with
   |none=>rw [hr]at h;cases h
   |some d1=>
    rw [hr]at h;obtain rfl:=aK h;by_cases h1:n - 1=0
    .rw [aj h1];exact⟨0,by simp,rfl⟩
    .rw [ai h1];obtain⟨d',h2,h3⟩:=My r (n - 1) a d1 (by omega) ha (by rw [show n - 1+a=n+a - 1 by omega];exact hr);rw [h3];exact⟨d'+1,by simp;omega,rfl⟩
  .rw [ai hc]at h ⊢;cases hi:aS c with
   |true=>
    rw [hi,aj rfl]at h;rw [aj rfl];cases hr:cN r (n+a+1)with
    |none=>rw [hr]at h;cases h
    |some d1=>
     rw [hr]at h;obtain rfl:=aK h;obtain⟨d',h2,h3⟩:=My r (n+1) a d1 (by omega) ha (by rw [show n+1+a=n+a+1 by omega];exact hr);rw [h3];exact⟨d'+1,by simp;omega,rfl⟩
   |false=>
    rw [hi,ai (by decide)]at h;rw [ai (by decide)];cases hr:cN r (n+a)with
    |none=>rw [hr]at h;cases h
    |some d1=>
     rw [hr]at h;obtain rfl:=aK h;obtain⟨d',h2,h3⟩:=My r n a d1 hn ha hr;rw [h3];exact⟨d'+1,by simp;omega,rfl⟩
theorem RZ:∀(l:List Int)(n:Int)(d q:Nat),cN l n=some d->d<q->cN (l.take q) n=some d
 |[],n,d,q,h,_=>by cases h
 |c::r,n,d,0,_,hq=>by omega
 |c::r,n,d,q+1,h,hq=>by
  rw [VJ];rw [cN]at h ⊢;by_cases hc:c=21
  .rw [aj hc]at h ⊢;by_cases h1:n - 1=0
   .rw [aj h1]at h ⊢;exact h
   .rw [ai h1]at h ⊢;cases hr:cN r (n - 1)with
    |none=>rw [hr]at h;cases h
    |some d1=>
     rw [hr]at h;obtain rfl:=aK h;rw [RZ r (n - 1) d1 q hr (by simp at hq;omega)];rfl
  .rw [ai hc]at h ⊢;cases hr:cN r (if aS c=true then n+1 else n)with
   |none=>rw [hr]at h;cases h
   |some d1=>
    rw [hr]at h;obtain rfl:=aK h;rw [RZ r _ d1 q hr (by simp at hq;omega)];rfl
theorem WY {cs:List Int}{i m:Nat}(hi:i<cs.length)(bH:aS (cs.getD i 0)=true)(hm:cN (cs.drop i) 0=some (m - i))(him:i<m):∀j,i+1+j<=m->∃n:Int,1<=n/\cN (cs.drop (i+1+j)) n=some (m - (i+1+j))
 |0,h=>by
  have h21:¬cs.getD i 0=21:=by intro e;rw [e]at bH;cases bH
  rw [drop_at hi,cN,ai h21,aj bH]at hm;cases hr:cN (cs.drop (i+1)) (0+1)with
  |none=>rw [hr]at hm;cases hm
  |some d=>
   rw [hr]at hm;have:=aK hm;simp at this;refine⟨0+1,by omega,?_⟩;rw [show i+1+0=i+1 by omega,hr]
   congr 1
   omega
 |j+1,h=>by
  obtain⟨n,hn,h1⟩:=WY hi bH hm him j (by omega);have hk:i+1+j<cs.length:=by
   rcases cK (i+1+j) cs.length with h'|h'
   .exact h'
   .rw [jD h']at h1;cases h1
  rw [drop_at hk,cN]at h1;by_cases hc:cs.getD (i+1+j) 0=21
  .rw [aj hc]at h1;by_cases h0:n - 1=0
   .rw [aj h0]at h1;have:=aK h1;omega
   .rw [ai h0]at h1;cases hr:cN (cs.drop (i+1+j+1)) (n - 1)with
    |none=>rw [hr]at h1;cases h1
    |some d=>
     rw [hr]at h1;have:=aK h1;simp at this;refine⟨n - 1,by omega,?_⟩;rw [show i+1+(j+1)=i+1+j+1 by omega,hr]
     congr 1
     omega
  .rw [ai hc]at h1;cases hr:cN (cs.drop (i+1+j+1)) (if aS (cs.getD (i+1+j) 0)=true then n+1 else n)with
   |none=>rw [hr]at h1;cases h1
   |some d=>
    rw [hr]at h1;have:=aK h1;simp at this;refine⟨if aS (cs.getD (i+1+j) 0)=true then n+1 else n,?_,?_⟩
    .split<;>omega
    .rw [show i+1+(j+1)=i+1+j+1 by omega,hr]
     congr 1
     omega
theorem aaP {cs:List Int}{i k:Nat}(hi:i<cs.length)(bH:aS (cs.getD i 0)=true)(hm:mt cs i<cs.length)(h1:i<k)(h2:k<mt cs i)(hk:aS (cs.getD k 0)=true):∃d,cN (cs.drop k) 0=some d/\k+d<mt cs i:=by
 have hgt:i<mt cs i:=by omega
 have hd:cN (cs.drop i) 0=some (mt cs i - i):=by
  unfold mt at hm ⊢;cases hd:cN (cs.drop i) 0 with
  |none=>rw [hd]at hm;simp at hm
  |some d=>simp
 obtain⟨n,hn,hj⟩:=WY hi bH hd hgt (k - (i+1)) (by omega);rw [show i+1+(k - (i+1))=k by omega]at hj;have hkl:k<cs.length:=by omega
 have h21:¬cs.getD k 0=21:=by intro e;rw [e]at hk;cases hk
 rw [drop_at hkl,cN,ai h21,aj hk]at hj;rw [drop_at hkl,cN,ai h21,aj hk];cases hr:cN (cs.drop (k+1)) (n+1)with
 |none=>rw [hr]at hj;cases hj
 |some d1=>
  rw [hr]at hj;have e1:=aK hj;simp at e1;obtain⟨d',h3,h4⟩:=My (cs.drop (k+1)) 1 n d1 (by omega) hn (by rw [show 1+n=n+1 by omega];exact hr);refine⟨d'+1,by rw [show(0:Int)+1=1 by omega,h4];rfl,by omega⟩
theorem ajh {cs:List Int}{i k:Nat}(hi:i<cs.length)(bH:aS (cs.getD i 0)=true)(h1:i<k)(h2:k<mt cs i)(hk:aS (cs.getD k 0)=true):mt ((cs.take (mt cs i)).drop (i+1)) (k - (i+1))+(i+1)=mt cs k:=by
 have hle:=rG cs i (by omega);have hdd:((cs.take (mt cs i)).drop (i+1)).drop (k - (i+1))=(cs.drop k).take (mt cs i - k):=by
  rw [OD,show i+1+(k - (i+1))=k by omega,List.drop_take]
 rcases cK (mt cs i) cs.length with hm|hm
 .obtain⟨d,hd,hlt⟩:=aaP hi bH hm h1 h2 hk;have e1:mt cs k=k+d:=by unfold mt;rw [hd]
  have e2:mt ((cs.take (mt cs i)).drop (i+1)) (k - (i+1))=k - (i+1)+d:=by
   have h3:=RZ _ _ _ (mt cs i - k) hd (by omega);rw [<-hdd]at h3;generalize(cs.take (mt cs i)).drop (i+1)=u at*;unfold mt;rw [h3]
  rw [e1,e2];omega
 .have hm':mt cs i=cs.length:=by omega
  have ht:cs.take (mt cs i)=cs:=by rw [hm'];exact KQ
  rw [ht]at hdd ⊢;unfold mt;rw [OD,show i+1+(k - (i+1))=k by omega];cases hd:cN (cs.drop k) 0 with
  |none=>simp;omega
  |some d=>simp;omega
theorem SM {cs:List Int}{i:Nat}(hi:i<cs.length)(bH:aS (cs.getD i 0)=true):∀f q,oN cs (mt cs i) f (i+1+q)=jI ((cs.take (mt cs i)).drop (i+1)) f q
 |0,q=>rfl
 |f+1,q=>by
  have hle:=rG cs i (by omega);have hlen:((cs.take (mt cs i)).drop (i+1)).length=mt cs i - (i+1):=by rw [KJ,rW];omega
  rw [oN,jI,hlen];by_cases hq:i+1+q<mt cs i
  .rw [aj hq,aj (show q<mt cs i - (i+1)by omega)];have hg:((cs.take (mt cs i)).drop (i+1)).getD q 0=cs.getD (i+1+q) 0:=by
    rw [aO,yu,OI,aj hq,aO]
   rw [hg];by_cases hk:aS (cs.getD (i+1+q) 0)=true
   .have:=ajh hi bH (show i<i+1+q by omega) hq hk;rw [show i+1+q - (i+1)=q by omega]at this;rw [aj hk,aj hk,<-this,show mt ((cs.take (mt cs i)).drop (i+1)) q+(i+1)+1=i+1+(mt ((cs.take (mt cs i)).drop (i+1)) q+1)by omega,SM hi bH f]
   .rw [ai hk,ai hk,show i+1+q+1=i+1+(q+1)by omega,SM hi bH f]
  .rw [ai hq,ai (show¬q<mt cs i - (i+1)by omega)]
theorem agY {cs:List Int}{i:Nat}(hi:i<cs.length)(bH:aS (cs.getD i 0)=true)(f:Nat)(hf:mt cs i - (i+1)<=f):oN cs (mt cs i) f (i+1)=qg cs i:=by
 have:=SM hi bH f 0;rw [show i+1+0=i+1 by omega]at this;rw [this];unfold qg found;have hle:=rG cs i (by omega);have hlen:((cs.take (mt cs i)).drop (i+1)).length=mt cs i - (i+1):=by rw [KJ,rW];omega
 exact PO _ _ _ _ (by omega) (by omega)
