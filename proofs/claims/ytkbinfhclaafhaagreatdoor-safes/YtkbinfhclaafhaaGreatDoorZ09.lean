import Derived.Test.YtkbinfhclaafhaaGreatDoorZ07
import Derived.BigQuiet
import Derived.Test.YtkbinfhclaafhaaGreatDoorZ02
namespace Go.Proofs.YtkbinfhclaafhaaGreatDoor
open Go.RowKit
open Go.Proofs.Tryz
set_option maxRecDepth 100000
set_option maxHeartbeats 32000000
set_option linter.all false
structure aW(w:World)(B sb gc n cc:Nat)(pv rv bv:Value)(au aq ax:Int)(t:List Int):Prop where
 cell:w.heap[sb]? =some (.cells #[pv,rv,.slice (some ⟨gc,0,none⟩) n cc,bv,.int .i64 au,.int .i64 aq,.int .i64 ax] 220 (0,0))
 row:w.ownsRow B 108 1 (.slice (some ⟨gc,0,none⟩) n cc) n (iv t)
section
variable{w w':World}{B sb gc n cc:Nat}{pv rv bv:Value}{au aq ax:Int}{t:List Int}
theorem aW.len(h:aW w B sb gc n cc pv rv bv au aq ax t):t.length=n:=by have:=h.row.1;simpa [iv]using this
theorem aW.ne(h:aW w B sb gc n cc pv rv bv au aq ax t):sb≠gc:=by
 rcases h.row.2 with⟨e,_⟩|⟨g,cp,cur,e,_,hh,_⟩
 .cases e
 .injection e with e1
  injection e1 with e4
  injection e4 with e5
  subst e5;intro e;have:=h.cell;rw [e,hh]at this;simp at this
theorem aW.at(h:aW w B sb gc n cc pv rv bv au aq ax t)(k:Nat)(hk:k<n):w.cell? ⟨gc,k,none⟩=some (.int .i64 (t.getD k 0)):=iJ h.row k (by rw [h.len];exact hk)
theorem aW.frozen(h:aW w B sb gc n cc pv rv bv au aq ax t)(k:Nat):w.frozen? ⟨gc,k,none⟩=false:=Bu h.row k
theorem aW.f2(h:aW w B sb gc n cc pv rv bv au aq ax t):w.cell? ⟨sb,2,none⟩=some (.slice (some ⟨gc,0,none⟩) n cc):=az h.cell 2
theorem aW.f4(h:aW w B sb gc n cc pv rv bv au aq ax t):w.cell? ⟨sb,4,none⟩=some (.int .i64 au):=az h.cell 4
theorem aW.f5(h:aW w B sb gc n cc pv rv bv au aq ax t):w.cell? ⟨sb,5,none⟩=some (.int .i64 aq):=az h.cell 5
theorem aW.f6(h:aW w B sb gc n cc pv rv bv au aq ax t):w.cell? ⟨sb,6,none⟩=some (.int .i64 ax):=az h.cell 6
theorem aW.set(h:aW w B sb gc n cc pv rv bv au aq ax t)(k:Nat)(a:Int):aW (w.setCell ⟨gc,k,none⟩ (.int .i64 a)) B sb gc n cc pv rv bv au aq ax (t.set k a):=
 ⟨by rw [gK _ _ _ _ h.ne];exact h.cell,by rw [<-Fg];exact(z7 h.row k (.int .i64 a)).1⟩
theorem aW.grown(h:aW w B sb gc n cc pv rv bv au aq ax t)(k:Nat)(a:Int):w.grownBy (w.setCell ⟨gc,k,none⟩ (.int .i64 a)) (some gc):=(z7 h.row k (.int .i64 a)).2
theorem aW.below(h:aW w B sb gc n cc pv rv bv au aq ax t)(hb:Below w.heap.size w w'):aW w' B sb gc n cc pv rv bv au aq ax t:=⟨cB hb h.cell,eH h.row hb⟩
end
def fP(aq ax:Int)(t:List Int)(j:Int):Int:=if j<0 then aq else if(t.length:Int)<=j then ax else t.getD j.toNat 0
theorem O1(w:World)(B sb gc n cc:Nat)(pv rv bv:Value)(au aq ax:Int)(t:List Int)(h:aW w B sb gc n cc pv rv bv au aq ax t)(j:Int):
  Calls prog 207 #[.pointer (some ⟨sb,0,none⟩),.int .i64 j] w fun e w'=>e= .returned (.int .i64 (fP aq ax t j))/\w'=w:=by
 have a2:=h.f2;have a5:=h.f5;have a6:=h.f6;unfold fP;rw [h.len];by_cases h0:j<0
 .rw [aj h0];clear h;go_enter func207,ntmps207;go_wp2;go_ret;exact⟨rfl,rfl⟩
 .rw [ai h0];by_cases h1:(n:Int)<=j
  .rw [aj h1];clear h;go_enter func207,ntmps207;go_wp2;go_ret;exact⟨rfl,rfl⟩
  .rw [ai h1];obtain⟨k,rfl⟩:∃k:Nat,j=k:=⟨j.toNat,by omega⟩
   have hk:k<n:=by omega
   have ak:=h.at k hk;rw [CR];clear h;generalize t.getD k 0=c at*;go_enter func207,ntmps207;go_wp2;go_ret;exact⟨rfl,rfl⟩
def f2(s c:Int)(_:List Int):Int:=if c=3/\s=2 then 6 else c
def g2(s c:Int)(_:List Int):Int:=if c=0∨c=1∨c=2 then c else s
theorem abt:∀(t:List Int)(s:Int),pass f2 g2 s t=kC 2 6 s t
 |[],_=>rfl
 |c::r,s=>by
  rw [pass,kC,abt r,f2,g2];by_cases h:c=0∨c=1∨c=2
  .rw [aj h,ai (by omega),ai (by omega)]
  .rw [ai h]
def f7(s c:Int)(_:List Int):Int:=if c=3/\s=0 then 0 else c
def g7(s c:Int)(_:List Int):Int:=if c=0∨c=1 then c else s
theorem abw:∀(t:List Int)(s:Int),pass f7 g7 s t=Jv s t
 |[],_=>rfl
 |c::r,s=>by
  rw [pass,Jv,abw r,f7,g7];by_cases h:c=0∨c=1
  .rw [aj h,aj h,ai (by omega)]
  .rw [ai h,ai h]
def r9(e:Int)(_:Unit)(c:Int)(_:List Int):Int:=Ca e c
theorem abz(e:Int):∀t:List Int,pass (r9 e) g3 () t=t.map (Ca e)
 |[]=>rfl
 |c::r=>by rw [pass,pX,abz e r];rfl
theorem anI(w:World)(B sb gc n cc:Nat)(pv rv bv:Value)(au aq ax:Int)(t:List Int)(h:aW w B sb gc n cc pv rv bv au aq ax t)(hn:n<=1000):
  Calls prog 146 #[.pointer (some ⟨sb,0,none⟩)] w fun e w'=>e= .returned (.tuple #[])/\aW w' B sb gc n cc pv rv bv au aq ax (pass f3 g3 () t)/\w.grownBy w' (some gc):=by
 have cE:=ah h;have HL:=ah h.len;have c2:=h.f2;have c5:=h.f5;clear h;go_enter func146,ntmps146;go_wp2;clear c2 c5;go_loopg [9] n (fun gk iv wr=>∃(k:Nat)(s:Unit)(t':List Int),k<=n/\gk=n - k/\iv= .int .i64 k/\aW wr B sb gc n cc pv rv bv au aq ax t'/\w.grownBy wr (some gc)/\aV f3 g3 () t k s t');case atStart=>exact⟨0,(),t,by omega,rfl,rfl,cE.out,jt _ _,aV.start _ _ _ _⟩
 case round=>
  clear cE;obtain⟨k,s,t',hk,rfl,rfl,hS,hG,hN⟩:=hrel;by_cases hlt:k<n
  .have hlt':k<t.length:=by rw [HL.out];exact hlt
   have hcell:=hS.at k hlt;rw [hN.at k (ay _)]at hcell;have hfr:=hS.frozen k;have c2:=hS.f2;have hkn:(k:Int)<(n:Int):=by omega
   have HS:=ah hS;have HG:=ah hG;have cM:∀s',t.getD k 0=f3 s (t.getD k 0) (t.drop (k+1))->s'=g3 s (t.getD k 0) (t.drop (k+1))->Hid (aV f3 g3 () t (k+1) s' t'):=fun s' h1 h2=>hN.stay hlt' s' h1 h2
   have cZ:∀v s',v=f3 s (t.getD k 0) (t.drop (k+1))->s'=g3 s (t.getD k 0) (t.drop (k+1))->Hid (aV f3 g3 () t (k+1) s' (t'.set k v)):=fun v s' h1 h2=>hN.step hlt' v s' h1 h2
   have htl:t'.length=n:=hS.len;clear hS hG hN;generalize t.drop (k+1)=rest at*;generalize t.getD k 0=c at*;by_cases h2:c=2
   .subst h2;have HK:=cZ 1 () rfl rfl;clear cM cZ;go_wp2;go_roundg (n - (k+1));case measure=>omega
    case rel=>exact⟨k+1,(),_,by omega,rfl,by go_num,HS.out.set k 1,HG.out.trans (HS.out.grown k 1),HK.out⟩
   .have q2:(c==2)=false:=by simpa using h2
    have HK:=cM () (Xw h2).symm rfl;clear cM cZ;go_wp2;go_roundg (n - (k+1));case measure=>omega
    case rel=>exact⟨k+1,(),_,by omega,rfl,by go_num,HS.out,HG.out,HK.out⟩
  .have hpe:t'=pass f3 g3 () t:=hN.stop (by rw [HL.out];exact hlt);have HS:Hid (aW wr B sb gc n cc pv rv bv au aq ax (pass f3 g3 () t)):=by rw [<-hpe];exact hS
   have HG:=ah hG;have hkn:¬(k:Int)<(n:Int):=by omega
   clear hS hG hN hpe;go_wp2;go_end0;exact⟨rfl,HS.out,HG.out⟩
theorem anM(w:World)(B sb gc n cc:Nat)(pv rv bv:Value)(au aq ax:Int)(t:List Int)(h:aW w B sb gc n cc pv rv bv au aq ax t)(hn:n<=1000):
  Calls prog 149 #[.pointer (some ⟨sb,0,none⟩)] w fun e w'=>e= .returned (.tuple #[])/\aW w' B sb gc n cc pv rv bv au aq ax (pass f6 g3 () t)/\w.grownBy w' (some gc):=by
 have cE:=ah h;have HL:=ah h.len;have c2:=h.f2;have c5:=h.f5;clear h;go_enter func149,ntmps149;go_wp2;clear c2 c5;go_loopg [9] n (fun gk iv wr=>∃(k:Nat)(s:Unit)(t':List Int),k<=n/\gk=n - k/\iv= .int .i64 k/\aW wr B sb gc n cc pv rv bv au aq ax t'/\w.grownBy wr (some gc)/\aV f6 g3 () t k s t');case atStart=>exact⟨0,(),t,by omega,rfl,rfl,cE.out,jt _ _,aV.start _ _ _ _⟩
 case round=>
  clear cE;obtain⟨k,s,t',hk,rfl,rfl,hS,hG,hN⟩:=hrel;by_cases hlt:k<n
  .have hlt':k<t.length:=by rw [HL.out];exact hlt
   have hcell:=hS.at k hlt;rw [hN.at k (ay _)]at hcell;have hfr:=hS.frozen k;have c2:=hS.f2;have hkn:(k:Int)<(n:Int):=by omega
   have HS:=ah hS;have HG:=ah hG;have cM:∀s',t.getD k 0=f6 s (t.getD k 0) (t.drop (k+1))->s'=g3 s (t.getD k 0) (t.drop (k+1))->Hid (aV f6 g3 () t (k+1) s' t'):=fun s' h1 h2=>hN.stay hlt' s' h1 h2
   have cZ:∀v s',v=f6 s (t.getD k 0) (t.drop (k+1))->s'=g3 s (t.getD k 0) (t.drop (k+1))->Hid (aV f6 g3 () t (k+1) s' (t'.set k v)):=fun v s' h1 h2=>hN.step hlt' v s' h1 h2
   have htl:t'.length=n:=hS.len;clear hS hG hN;generalize t.drop (k+1)=rest at*;generalize t.getD k 0=c at*;by_cases h4:c=4
   .subst h4;have HK:=cZ 12 () rfl rfl;clear cM cZ;go_wp2;go_roundg (n - (k+1));case measure=>omega
    case rel=>exact⟨k+1,(),_,by omega,rfl,by go_num,HS.out.set k 12,HG.out.trans (HS.out.grown k 12),HK.out⟩
   have q4:(c==4)=false:=by simpa using h4
   by_cases h5:c=5
   .subst h5;have HK:=cZ 12 () rfl rfl;clear cM cZ;go_wp2;go_roundg (n - (k+1));case measure=>omega
    case rel=>exact⟨k+1,(),_,by omega,rfl,by go_num,HS.out.set k 12,HG.out.trans (HS.out.grown k 12),HK.out⟩
   have q5:(c==5)=false:=by simpa using h5
   by_cases h7:c=7
   .subst h7;have HK:=cZ 12 () rfl rfl;clear cM cZ;go_wp2;go_roundg (n - (k+1));case measure=>omega
    case rel=>exact⟨k+1,(),_,by omega,rfl,by go_num,HS.out.set k 12,HG.out.trans (HS.out.grown k 12),HK.out⟩
   have q7:(c==7)=false:=by simpa using h7
   have HK:=cM () (Xy (by omega)).symm rfl;clear cM cZ;go_wp2;go_roundg (n - (k+1));case measure=>omega
   case rel=>exact⟨k+1,(),_,by omega,rfl,by go_num,HS.out,HG.out,HK.out⟩
  .have hpe:t'=pass f6 g3 () t:=hN.stop (by rw [HL.out];exact hlt);have HS:Hid (aW wr B sb gc n cc pv rv bv au aq ax (pass f6 g3 () t)):=by rw [<-hpe];exact hS
   have HG:=ah hG;have hkn:¬(k:Int)<(n:Int):=by omega
   clear hS hG hN hpe;go_wp2;go_end0;exact⟨rfl,HS.out,HG.out⟩
theorem anH(w:World)(B sb gc n cc:Nat)(pv rv bv:Value)(au aq ax:Int)(t:List Int)(h:aW w B sb gc n cc pv rv bv au aq ax t)(hn:n<=1000):
  Calls prog 145 #[.pointer (some ⟨sb,0,none⟩)] w fun e w'=>e= .returned (.tuple #[])/\aW w' B sb gc n cc pv rv bv au aq ax (pass f2 g2 aq t)/\w.grownBy w' (some gc):=by
 have cE:=ah h;have HL:=ah h.len;have c2:=h.f2;have c5:=h.f5;clear h;go_enter func145,ntmps145;go_wp2;clear c2 c5;go_loopg [2,14] n (fun gk sv iv wr=>∃(k:Nat)(s:Int)(t':List Int),k<=n/\gk=n - k/\sv= .int .i64 s/\iv= .int .i64 k/\aW wr B sb gc n cc pv rv bv au aq ax t'/\w.grownBy wr (some gc)/\aV f2 g2 aq t k s t');case atStart=>exact⟨0,aq,t,by omega,rfl,rfl,rfl,cE.out,jt _ _,aV.start _ _ _ _⟩
 case round=>
  clear cE;obtain⟨k,s,t',hk,rfl,rfl,rfl,hS,hG,hN⟩:=hrel;by_cases hlt:k<n
  .have hlt':k<t.length:=by rw [HL.out];exact hlt
   have hcell:=hS.at k hlt;rw [hN.at k (ay _)]at hcell;have hfr:=hS.frozen k;have c2:=hS.f2;have hkn:(k:Int)<(n:Int):=by omega
   have HS:=ah hS;have HG:=ah hG;have cM:∀s',t.getD k 0=f2 s (t.getD k 0) (t.drop (k+1))->s'=g2 s (t.getD k 0) (t.drop (k+1))->Hid (aV f2 g2 aq t (k+1) s' t'):=fun s' h1 h2=>hN.stay hlt' s' h1 h2
   have cZ:∀v s',v=f2 s (t.getD k 0) (t.drop (k+1))->s'=g2 s (t.getD k 0) (t.drop (k+1))->Hid (aV f2 g2 aq t (k+1) s' (t'.set k v)):=fun v s' h1 h2=>hN.step hlt' v s' h1 h2
   have htl:t'.length=n:=hS.len;clear hS hG hN;generalize t.drop (k+1)=rest at*;generalize t.getD k 0=c at*;by_cases h0:c=0
   .subst h0;have HK:=cM 0 rfl rfl;clear cM cZ;go_wp2;go_roundg (n - (k+1));case measure=>omega
    case rel=>exact⟨k+1,0,_,by omega,rfl,rfl,by go_num,HS.out,HG.out,HK.out⟩
   have q0:(c==0)=false:=by simpa using h0
   by_cases h1:c=1
   .subst h1;have HK:=cM 1 rfl rfl;clear cM cZ;go_wp2;go_roundg (n - (k+1));case measure=>omega
    case rel=>exact⟨k+1,1,_,by omega,rfl,rfl,by go_num,HS.out,HG.out,HK.out⟩
   have q1:(c==1)=false:=by simpa using h1
   by_cases h2:c=2
   .subst h2;have HK:=cM 2 rfl rfl;clear cM cZ;go_wp2;go_roundg (n - (k+1));case measure=>omega
    case rel=>exact⟨k+1,2,_,by omega,rfl,rfl,by go_num,HS.out,HG.out,HK.out⟩
   have q2:(c==2)=false:=by simpa using h2
   have hg:g2 s c rest=s:=by rw [g2,ai (by omega)]
   by_cases h3:c=3
   .subst h3;by_cases hs:s=2
    .subst hs;have HK:=cZ 6 2 rfl rfl;clear cM cZ;go_wp2;go_roundg (n - (k+1));case measure=>omega
     case rel=>exact⟨k+1,2,_,by omega,rfl,rfl,by go_num,HS.out.set k 6,HG.out.trans (HS.out.grown k 6),HK.out⟩
    .have hs':(s==2)=false:=by simpa using hs
     have HK:=cM s (by rw [f2,ai (by omega)]) hg.symm;clear cM cZ;go_wp2;go_roundg (n - (k+1));case measure=>omega
     case rel=>exact⟨k+1,s,_,by omega,rfl,rfl,by go_num,HS.out,HG.out,HK.out⟩
   .have q3:(c==3)=false:=by simpa using h3
    have HK:=cM s (by rw [f2,ai (by omega)]) hg.symm;clear cM cZ;go_wp2;go_roundg (n - (k+1));case measure=>omega
    case rel=>exact⟨k+1,s,_,by omega,rfl,rfl,by go_num,HS.out,HG.out,HK.out⟩
  .have hpe:t'=pass f2 g2 aq t:=hN.stop (by rw [HL.out];exact hlt);have HS:Hid (aW wr B sb gc n cc pv rv bv au aq ax (pass f2 g2 aq t)):=by rw [<-hpe];exact hS
   have HG:=ah hG;have hkn:¬(k:Int)<(n:Int):=by omega
   clear hS hG hN hpe;go_wp2;go_end0;exact⟨rfl,HS.out,HG.out⟩
theorem anN(w:World)(B sb gc n cc:Nat)(pv rv bv:Value)(au aq ax:Int)(t:List Int)(h:aW w B sb gc n cc pv rv bv au aq ax t)(hn:n<=1000):
  Calls prog 150 #[.pointer (some ⟨sb,0,none⟩)] w fun e w'=>e= .returned (.tuple #[])/\aW w' B sb gc n cc pv rv bv au aq ax (pass f7 g7 aq t)/\w.grownBy w' (some gc):=by
 have cE:=ah h;have HL:=ah h.len;have c2:=h.f2;have c5:=h.f5;clear h;go_enter func150,ntmps150;go_wp2;clear c2 c5;go_loopg [2,14] n (fun gk sv iv wr=>∃(k:Nat)(s:Int)(t':List Int),k<=n/\gk=n - k/\sv= .int .i64 s/\iv= .int .i64 k/\aW wr B sb gc n cc pv rv bv au aq ax t'/\w.grownBy wr (some gc)/\aV f7 g7 aq t k s t');case atStart=>exact⟨0,aq,t,by omega,rfl,rfl,rfl,cE.out,jt _ _,aV.start _ _ _ _⟩
 case round=>
  clear cE;obtain⟨k,s,t',hk,rfl,rfl,rfl,hS,hG,hN⟩:=hrel;by_cases hlt:k<n
  .have hlt':k<t.length:=by rw [HL.out];exact hlt
   have hcell:=hS.at k hlt;rw [hN.at k (ay _)]at hcell;have hfr:=hS.frozen k;have c2:=hS.f2;have hkn:(k:Int)<(n:Int):=by omega
   have HS:=ah hS;have HG:=ah hG;have cM:∀s',t.getD k 0=f7 s (t.getD k 0) (t.drop (k+1))->s'=g7 s (t.getD k 0) (t.drop (k+1))->Hid (aV f7 g7 aq t (k+1) s' t'):=fun s' h1 h2=>hN.stay hlt' s' h1 h2
   have cZ:∀v s',v=f7 s (t.getD k 0) (t.drop (k+1))->s'=g7 s (t.getD k 0) (t.drop (k+1))->Hid (aV f7 g7 aq t (k+1) s' (t'.set k v)):=fun v s' h1 h2=>hN.step hlt' v s' h1 h2
   have htl:t'.length=n:=hS.len;clear hS hG hN;generalize t.drop (k+1)=rest at*;generalize t.getD k 0=c at*;by_cases h0:c=0
   .subst h0;have HK:=cM 0 rfl rfl;clear cM cZ;go_wp2;go_roundg (n - (k+1));case measure=>omega
    case rel=>exact⟨k+1,0,_,by omega,rfl,rfl,by go_num,HS.out,HG.out,HK.out⟩
   have q0:(c==0)=false:=by simpa using h0
   by_cases h1:c=1
   .subst h1;have HK:=cM 1 rfl rfl;clear cM cZ;go_wp2;go_roundg (n - (k+1));case measure=>omega
    case rel=>exact⟨k+1,1,_,by omega,rfl,rfl,by go_num,HS.out,HG.out,HK.out⟩
   have q1:(c==1)=false:=by simpa using h1
   have hg:g7 s c rest=s:=by rw [g7,ai (by omega)]
   by_cases h3:c=3
   .subst h3;by_cases hs:s=0
    .subst hs;have HK:=cZ 0 0 rfl rfl;clear cM cZ;go_wp2;go_roundg (n - (k+1));case measure=>omega
     case rel=>exact⟨k+1,0,_,by omega,rfl,rfl,by go_num,HS.out.set k 0,HG.out.trans (HS.out.grown k 0),HK.out⟩
    .have hs':(s==0)=false:=by simpa using hs
     have HK:=cM s (by rw [f7,ai (by omega)]) hg.symm;clear cM cZ;go_wp2;go_roundg (n - (k+1));case measure=>omega
     case rel=>exact⟨k+1,s,_,by omega,rfl,rfl,by go_num,HS.out,HG.out,HK.out⟩
   .have q3:(c==3)=false:=by simpa using h3
    have HK:=cM s (by rw [f7,ai (by omega)]) hg.symm;clear cM cZ;go_wp2;go_roundg (n - (k+1));case measure=>omega
    case rel=>exact⟨k+1,s,_,by omega,rfl,rfl,by go_num,HS.out,HG.out,HK.out⟩
  .have hpe:t'=pass f7 g7 aq t:=hN.stop (by rw [HL.out];exact hlt);have HS:Hid (aW wr B sb gc n cc pv rv bv au aq ax (pass f7 g7 aq t)):=by rw [<-hpe];exact hS
   have HG:=ah hG;have hkn:¬(k:Int)<(n:Int):=by omega
   clear hS hG hN hpe;go_wp2;go_end0;exact⟨rfl,HS.out,HG.out⟩
theorem ajk(w:World)(B sb gc n cc:Nat)(pv rv bv:Value)(au aq ax:Int)(t:List Int)(h:aW w B sb gc n cc pv rv bv au aq ax t)(hn:n<=1000)(kU:0<=au):
  Calls prog 153 #[.pointer (some ⟨sb,0,none⟩)] w fun e w'=>e= .returned (.tuple #[])/\aW w' B sb gc n cc pv rv bv au aq ax (pass (r9 (au%2)) g3 () t)/\w.grownBy w' (some gc):=by
 have cE:=ah h;have HL:=ah h.len;have c2:=h.f2;have c5:=h.f5;clear h;go_enter func153,ntmps153;go_wp2;clear c2 c5;go_loopg [9] n (fun gk iv wr=>∃(k:Nat)(s:Unit)(t':List Int),k<=n/\gk=n - k/\iv= .int .i64 k/\aW wr B sb gc n cc pv rv bv au aq ax t'/\w.grownBy wr (some gc)/\aV (r9 (au%2)) g3 () t k s t');case atStart=>exact⟨0,(),t,by omega,rfl,rfl,cE.out,jt _ _,aV.start _ _ _ _⟩
 case round=>
  clear cE;obtain⟨k,s,t',hk,rfl,rfl,hS,hG,hN⟩:=hrel;by_cases hlt:k<n
  .have hlt':k<t.length:=by rw [HL.out];exact hlt
   have hcell:=hS.at k hlt;rw [hN.at k (ay _)]at hcell;have hfr:=hS.frozen k;have c2:=hS.f2;have hkn:(k:Int)<(n:Int):=by omega
   have HS:=ah hS;have HG:=ah hG;have cM:∀s',t.getD k 0=(r9 (au%2)) s (t.getD k 0) (t.drop (k+1))->s'=g3 s (t.getD k 0) (t.drop (k+1))->Hid (aV (r9 (au%2)) g3 () t (k+1) s' t'):=fun s' h1 h2=>hN.stay hlt' s' h1 h2
   have cZ:∀v s',v=(r9 (au%2)) s (t.getD k 0) (t.drop (k+1))->s'=g3 s (t.getD k 0) (t.drop (k+1))->Hid (aV (r9 (au%2)) g3 () t (k+1) s' (t'.set k v)):=fun v s' h1 h2=>hN.step hlt' v s' h1 h2
   have htl:t'.length=n:=hS.len;clear hS hG hN;generalize t.drop (k+1)=rest at*;generalize t.getD k 0=c at*;have c4:=HS.out.f4;cases hb:nB c
   .have HB:=ah hb;have HK:=cM () (by rw [r9,Ca,ai (by rw [hb];decide)]) rfl;clear cM cZ hb;go_wp2_with fail;refine(O8 c _).mono ?_;rintro ev wx ⟨rfl,hx⟩;have hx':=hx.symm;subst hx';rw [HB.out];go_wp2;go_roundg (n - (k+1));case measure=>omega
    case rel=>exact⟨k+1,(),_,by omega,rfl,by go_num,HS.out,HG.out,HK.out⟩
   .have HB:=ah hb;have HK:=cZ (au%2) () (by rw [r9,Ca,aj hb]) rfl;clear cM cZ hb;go_wp2_with fail;refine(O8 c _).mono ?_;rintro ev wx ⟨rfl,hx⟩;have hx':=hx.symm;subst hx';rw [HB.out];go_wp2_with fail
    go_region_with (go_at_call 96;refine(AW au _ kU).mono ?_;rintro ev wx ⟨rfl,hx⟩;subst hx)
    all_goals
     go_wp2;go_roundg (n - (k+1));case measure=>omega
     case rel=>exact⟨k+1,(),_,by omega,rfl,by go_num,(HS.out.below (aA _ _).drew).set k (au%2),(HG.out.trans Ac).trans ((HS.out.below (aA _ _).drew).grown k (au%2)),HK.out⟩
  .have hpe:t'=pass (r9 (au%2)) g3 () t:=hN.stop (by rw [HL.out];exact hlt);have HS:Hid (aW wr B sb gc n cc pv rv bv au aq ax (pass (r9 (au%2)) g3 () t)):=by rw [<-hpe];exact hS
   have HG:=ah hG;have hkn:¬(k:Int)<(n:Int):=by omega
   clear hS hG hN hpe;go_wp2;go_end0;exact⟨rfl,HS.out,HG.out⟩
theorem anG(w:World)(B sb gc n cc:Nat)(pv rv bv:Value)(au aq ax:Int)(t:List Int)(h:aW w B sb gc n cc pv rv bv au aq ax t)(hn:n<=1000)(vD:aq=0∨aq=1):
  Calls prog 144 #[.pointer (some ⟨sb,0,none⟩)] w fun e w'=>e= .returned (.tuple #[])/\aW w' B sb gc n cc pv rv bv au aq ax (pass (f1 aq) (g1 aq) none t)/\w.grownBy w' (some gc):=by
 have cE:=ah h;have HL:=ah h.len;have c2:=h.f2;have c5:=h.f5;clear h;go_enter func144,ntmps144;go_wp2;clear c2 c5;go_loopg [10] n (fun gk iv wr=>∃(k:Nat)(s:Option Int)(t':List Int),k<=n/\gk=n - k/\iv= .int .i64 k/\aW wr B sb gc n cc pv rv bv au aq ax t'/\w.grownBy wr (some gc)/\aV (f1 aq) (g1 aq) none t k s t'/\iN t' k s);case atStart=>exact⟨0,none,t,by omega,rfl,rfl,cE.out,jt _ _,aV.start _ _ _ _,iN.start _⟩
 case round=>
  clear cE;obtain⟨k,s,t',hk,rfl,rfl,hS,hG,hN,hA⟩:=hrel;by_cases hlt:k<n
  .have hlt':k<t.length:=by rw [HL.out];exact hlt
   have hcell:=hS.at k hlt;rw [hN.at k (ay _)]at hcell;have hfr:=hS.frozen k;have c2:=hS.f2;have hkn:(k:Int)<(n:Int):=by omega
   have HS:=ah hS;have HG:=ah hG;have cM:∀s',t.getD k 0=(f1 aq) s (t.getD k 0) (t.drop (k+1))->s'=(g1 aq) s (t.getD k 0) (t.drop (k+1))->Hid (aV (f1 aq) (g1 aq) none t (k+1) s' t'):=fun s' h1 h2=>hN.stay hlt' s' h1 h2
   have cZ:∀v s',v=(f1 aq) s (t.getD k 0) (t.drop (k+1))->s'=(g1 aq) s (t.getD k 0) (t.drop (k+1))->Hid (aV (f1 aq) (g1 aq) none t (k+1) s' (t'.set k v)):=fun v s' h1 h2=>hN.step hlt' v s' h1 h2
   have htl:t'.length=n:=hS.len;have hat:fP aq ax t' ((k:Int) - 1)=s.getD aq:=by
    rcases hA with⟨rfl,rfl⟩|⟨h0,rfl⟩
    .rfl
    .rw [fP,ai (by omega),ai (by rw [hS.len];omega),show((k:Int) - 1).toNat=k - 1 by omega];rfl
   have sD:∀v,iN (t'.set k v) (k+1) (some v):=fun v=>iN.set v (by rw [hS.len];exact hlt)
   have I5:iN t' (k+1) (some (t.getD k 0)):=by have:=iN.stay (t':=t') (k:=k);rw [hN.at k (ay _)]at this;exact this
   have kf:Hid (Calls prog 207 #[.pointer (some ⟨sb,0,none⟩),.int .i64 ((k:Int) - 1)] wr fun e w'=>e= .returned (.int .i64 (s.getD aq))/\w'=wr):=by rw [<-hat];exact O1 wr B sb gc n cc pv rv bv au aq ax t' hS _
   clear hat hA;clear hS hG hN;generalize t.drop (k+1)=rest at*;generalize t.getD k 0=c at*;by_cases h8:c=8
   .subst h8;obtain⟨a,ha⟩:∃a,a=(s.getD aq):=⟨_,rfl⟩
    rw [<-ha]at kf;have hv:f1 aq s 8 rest=if aS a=true∨a=21 then 12 else a:=by
     unfold f1;rw [aj rfl];cases s with
     |none=>rw [Option.getD_none]at ha;subst ha;rw [ai];rintro(h|h);(rcases vD with rfl|rfl<;>cases h);omega
     |some p=>rw [CU]at ha;subst ha;rfl
    cases hi:aS a
    .by_cases h21:a=21
     .rw [aj (.inr h21)]at hv;subst h21;have HK:=cZ 12 (some 12) hv.symm (by rw [g1,hv]);have HA:Hid _:=sD 12;clear cM cZ sD I5 hv ha hi;go_wp2_with fail;refine kf.out.mono ?_;rintro ev wx ⟨rfl,hx⟩;have hx':=hx.symm;subst hx';go_wp2_with fail;refine(mG 21 _).mono ?_;rintro ev wx ⟨rfl,hx⟩;have hx':=hx.symm;subst hx';rw [show aS 21=false from rfl];go_wp2;go_roundg (n - (k+1));case measure=>omega
      case rel=>exact⟨k+1,some 12,_,by omega,rfl,by go_num,HS.out.set k 12,HG.out.trans (HS.out.grown k 12),HK.out,HA.out⟩
     .rw [ai (by rw [hi];rintro(h|h);cases h;exact h21 h)]at hv;have AO:(a==21)=false:=by simpa using h21
      have HK:=cZ a (some a) hv.symm (by rw [g1,hv]);have HA:Hid _:=sD a;have HI:=ah hi;clear cM cZ sD I5 hv ha hi;go_wp2_with fail;refine kf.out.mono ?_;rintro ev wx ⟨rfl,hx⟩;have hx':=hx.symm;subst hx';go_wp2_with fail;refine(mG a _).mono ?_;rintro ev wx ⟨rfl,hx⟩;have hx':=hx.symm;subst hx';rw [HI.out];go_wp2;go_roundg (n - (k+1));case measure=>omega
      case rel=>exact⟨k+1,some a,_,by omega,rfl,by go_num,HS.out.set k a,HG.out.trans (HS.out.grown k a),HK.out,HA.out⟩
    .rw [aj (.inl hi)]at hv;have HK:=cZ 12 (some 12) hv.symm (by rw [g1,hv]);have HA:Hid _:=sD 12;have HI:=ah hi;clear cM cZ sD I5 hv ha hi;go_wp2_with fail;refine kf.out.mono ?_;rintro ev wx ⟨rfl,hx⟩;have hx':=hx.symm;subst hx';go_wp2_with fail;refine(mG a _).mono ?_;rintro ev wx ⟨rfl,hx⟩;have hx':=hx.symm;subst hx';rw [HI.out];go_wp2;go_roundg (n - (k+1));case measure=>omega
     case rel=>exact⟨k+1,some 12,_,by omega,rfl,by go_num,HS.out.set k 12,HG.out.trans (HS.out.grown k 12),HK.out,HA.out⟩
   .have q8:(c !=8)=true:=by simpa using h8
    have HK:=cM (some c) (Lx h8).symm (by rw [g1,Lx h8]);have HA:=ah I5;clear cM cZ sD I5 kf;go_wp2;go_roundg (n - (k+1));case measure=>omega
    case rel=>exact⟨k+1,some c,_,by omega,rfl,by go_num,HS.out,HG.out,HK.out,HA.out⟩
  .have hpe:t'=pass (f1 aq) (g1 aq) none t:=hN.stop (by rw [HL.out];exact hlt);have HS:Hid (aW wr B sb gc n cc pv rv bv au aq ax (pass (f1 aq) (g1 aq) none t)):=by rw [<-hpe];exact hS
   have HG:=ah hG;have hkn:¬(k:Int)<(n:Int):=by omega
   clear hS hG hN hpe;go_wp2;go_end0;exact⟨rfl,HS.out,HG.out⟩
structure GS(n kb kt:Nat)(cb ct:Array Value){σ:Type}(J:Nat->σ->World->Prop)(yG:σ->Nat->Bool):Prop where
 asks:∀x a W (i:Nat),J a x W->a<=i->i<n->Calls prog kb (#[.int .i64 i]++cb) W fun e W'=>e= .returned (.bool (yG x i))/\J a x W'
 skip:∀x a W,J a x W->a<n->yG x a=false->∃x',J (a+1) x' W
 tell:∀x a b W,J a x W->a<b->b<=n->(∀j,a<=j->j<b->yG x j=true)->(b<n->yG x b=false)->Calls prog kt (#[.int .i64 a,.int .i64 b]++ct) W fun e W'=>e= .returned (.tuple #[])/\∃x',J (b+1) x' W'
theorem Lq(n kb kt:Nat)(cb ct:Array Value){σ:Type}(J:Nat->σ->World->Prop)(yG:σ->Nat->Bool)(hn:n<=1000)(h:GS n kb kt cb ct J yG)(eb:∀args w,(callFunc kb args).run prog w= .ok (.enter kb args) w)(et:∀args w,(callFunc kt args).run prog w= .ok (.enter kt args) w)(x0:σ)(w:World)(h0:J 0 x0 w):
  Calls prog 97 #[.int .i64 n,.func (.func kb) #[] cb,.func (.func kt) #[] ct] w fun e w'=>e= .returned (.tuple #[])/\∃k x,n<=k/\J k x w':=by
 have HR:=ah h;have HJ:=ah h0;clear h h0;go_enter func97,ntmps97;go_wp2;go_loopg [6] (n+1) (fun gh fv W=>∃(a:Nat)(x:σ),a<=n+1/\gh=n+1 - a/\fv= .int .i64 a/\J a x W);case atStart=>exact⟨0,x0,by omega,rfl,rfl,HJ.out⟩
 case round=>
  clear HJ;obtain⟨a,x,ha,rfl,rfl,hJ⟩:=hrel;have HJ:=ah hJ;clear hJ;by_cases hlt:a<n
  .have hlt':(a:Int)<(n:Int):=by omega
   obtain⟨W1,hW1⟩:∃W1,W1=wr:=⟨_,rfl⟩
   subst hW1;go_wp2;go_loopg [7] (n - a) (fun gh tv W=>∃b:Nat,a<=b/\b<=n/\gh=n - b/\tv= .int .i64 b/\J a x W/\∀j,a<=j->j<b->yG x j=true);case atStart=>exact⟨a,by omega,by omega,rfl,rfl,HJ.out,fun j h1 h2=>by omega⟩
   case round=>
    clear HJ;obtain⟨b,hab,nS,rfl,rfl,hJ,hall⟩:=hrel;have HA:=ah hall;clear hall;by_cases hb:b<n
    .have hb':(b:Int)<(n:Int):=by omega
     cases hq:yG x b
     .have HC:Hid (Calls prog kb (#[.int .i64 b]++cb) wr fun e W'=>e= .returned (.bool false)/\J a x W'):=by have:=HR.out.asks x a wr b hJ hab hb;rw [hq]at this;exact this
      have HF:Hid (b<n->yG x b=false):=fun _=>hq
      clear hJ hq;go_wp2_with fail;refine HC.out.mono ?_;rintro ev w2 ⟨rfl,hJ2⟩;have D7:=ah hJ2;clear hJ2 HC;by_cases hgt:a<b
      .have Za:(a:Int)<(b:Int):=by omega
       have HT:=ah (HR.out.tell x a b w2 D7.out hgt nS HA.out HF.out);go_wp2_with fail;refine HT.out.mono ?_;rintro ev w3 ⟨rfl,x3,hJ3⟩;have Ga:=ah hJ3;clear hJ3 HT;go_wp2;go_roundg (n+1 - (b+1));case measure=>omega
       case rel=>exact⟨b+1,x3,by omega,rfl,by go_num,Ga.out⟩
      .have Za:¬(a:Int)<(b:Int):=by omega
       obtain rfl:a=b:=by omega
       obtain⟨x3,hJ3⟩:=HR.out.skip x a w2 D7.out hb (HF.out hb);have Ga:=ah hJ3;clear hJ3;go_wp2;go_roundg (n+1 - (a+1));case measure=>omega
       case rel=>exact⟨a+1,x3,by omega,rfl,by go_num,Ga.out⟩
     .have HC:Hid (Calls prog kb (#[.int .i64 b]++cb) wr fun e W'=>e= .returned (.bool true)/\J a x W'):=by have:=HR.out.asks x a wr b hJ hab hb;rw [hq]at this;exact this
      have D2:Hid (∀j,a<=j->j<b+1->yG x j=true):=fun j h1 h2=>by
       rcases cK j b with h|h
       .exact HA.out j h1 h
       .rw [show j=b by omega];exact hq
      clear hJ hq;go_wp2_with fail;refine HC.out.mono ?_;rintro ev w2 ⟨rfl,hJ2⟩;have D7:=ah hJ2;clear hJ2 HC;go_wp2;go_roundg (n - (b+1));case measure=>omega
      case rel=>exact⟨b+1,by omega,by omega,rfl,by go_num,D7.out,D2.out⟩
    .obtain rfl:b=n:=by omega
     have Za:(a:Int)<(b:Int):=hlt';have hb':¬(b:Int)<(b:Int):=by omega
     have HT:Hid (Calls prog kt (#[.int .i64 a,.int .i64 b]++ct) wr fun e W'=>e= .returned (.tuple #[])/\∃x',J (b+1) x' W'):=HR.out.tell x a b wr hJ hlt nS HA.out (fun h=>absurd h hb);clear hJ;go_wp2_with fail;refine HT.out.mono ?_;rintro ev w3 ⟨rfl,x3,hJ3⟩;have Ga:=ah hJ3;clear hJ3 HT;go_wp2;go_roundg (b+1 - (b+1));case measure=>omega
     case rel=>exact⟨b+1,x3,by omega,rfl,by go_num,Ga.out⟩
  .have hlt':¬(a:Int)<(n:Int):=by omega
   go_wp2;go_end0;exact⟨rfl,a,by omega,x,HJ.out⟩
theorem XA(t:List Int)(k:Nat):∀m,oD t k m=bL t k 3 m
 |0=>rfl
 |m+1=>by rw [oD,bL,XA t k m]
theorem acw(w:World)(B sb gc n cc:Nat)(pv rv bv:Value)(au aq ax:Int)(t:List Int)(h:aW w B sb gc n cc pv rv bv au aq ax t)(hn:n<=1000)(a b:Nat)(c:Int)(hab:a<=b)(hb:b<=n):
  Calls prog 210 #[.pointer (some ⟨sb,0,none⟩),.int .i64 a,.int .i64 b,.int .i64 c] w fun e w'=>e= .returned (.tuple #[])/\aW w' B sb gc n cc pv rv bv au aq ax (bL t a c (b - a))/\w.grownBy w' (some gc):=by
 have cE:=ah h;clear h;go_enter func210,ntmps210;go_wp2;go_loopg [8] (b - a) (fun gk iv wr=>∃m:Nat,a+m<=b/\gk=b - a - m/\iv= .int .i64 ((a+m:Nat):Int)/\aW wr B sb gc n cc pv rv bv au aq ax (bL t a c m)/\w.grownBy wr (some gc));case atStart=>exact⟨0,by omega,rfl,rfl,cE.out,jt _ _⟩
 case round=>
  clear cE;obtain⟨m,hm,rfl,rfl,hS,hG⟩:=hrel;by_cases hlt:a+m<b
  .have hcell:=hS.at (a+m) (by omega);have hfr:=hS.frozen (a+m);have c2:=hS.f2;have HS:=ah hS;have HG:=ah hG;have h1:(a:Int)+(m:Int)<(b:Int):=by omega
   have h2:(a:Int)+(m:Int)<(n:Int):=by omega
   clear hS hG;generalize(bL t a c m).getD (a+m) 0=q at*;go_wp2;go_roundg (b - a - (m+1));case measure=>omega
   case rel=>exact⟨m+1,by omega,rfl,by go_num,HS.out.set (a+m) c,HG.out.trans (HS.out.grown (a+m) c)⟩
  .have h1:¬(a:Int)+(m:Int)<(b:Int):=by omega
   have e:m=b - a:=by omega
   have HS:Hid (aW wr B sb gc n cc pv rv bv au aq ax (bL t a c (b - a))):=by rw [<-e];exact hS
   have HG:=ah hG;clear hS hG;go_wp2;go_end0;exact⟨rfl,HS.out,HG.out⟩
theorem aW.boxed {w:World}{B sb gc n cc bx:Nat}{pv rv bv:Value}{au aq ax:Int}{t:List Int}(h:aW w B sb gc n cc pv rv bv au aq ax t)(hb:w.heap[bx]? =some (.cells #[.pointer (some ⟨sb,0,none⟩)] 146 (0,0))):gc≠bx:=by
 rcases h.row.2 with⟨e,_⟩|⟨g,cp,cur,e,_,hh,_⟩
 .cases e
 .injection e with e1
  injection e1 with e4
  injection e4 with e5
  subst e5;intro e;rw [e,hb]at hh;simp at hh
theorem ais(w:World)(B sb gc n cc bx:Nat)(pv rv bv:Value)(au aq ax:Int)(t:List Int)(h:aW w B sb gc n cc pv rv bv au aq ax t)(hb:w.heap[bx]? =some (.cells #[.pointer (some ⟨sb,0,none⟩)] 146 (0,0)))(i:Nat)(hi:i<n):
  Calls prog 208 #[.int .i64 i,.pointer (some ⟨bx,0,none⟩)] w fun e w'=>e= .returned (.bool (t.getD i 0==5))/\w'=w:=by
 have c2:=h.f2;have ci:=h.at i hi;have cb:w.cell? ⟨bx,0,none⟩=some (.pointer (some ⟨sb,0,none⟩)):=az hb 0;have hi':(i:Int)<(n:Int):=by omega
 clear h hb;generalize t.getD i 0=c at*;go_enter func208,ntmps208;go_wp2;go_ret;exact⟨rfl,rfl⟩
theorem ang(w:World)(B sb gc n cc bx:Nat)(pv rv bv:Value)(au aq ax:Int)(t:List Int)(h:aW w B sb gc n cc pv rv bv au aq ax t)(hn:n<=1000)(hb:w.heap[bx]? =some (.cells #[.pointer (some ⟨sb,0,none⟩)] 146 (0,0)))(a b:Nat)(hab:a<=b)(nS:b<=n):
  Calls prog 209 #[.int .i64 a,.int .i64 b,.pointer (some ⟨bx,0,none⟩)] w fun e w'=>e= .returned (.tuple #[])/\aW w' B sb gc n cc pv rv bv au aq ax (if fP aq ax t ((a:Int) - 1)=3∨fP aq ax t b=3 then bL t a 3 (b - a)else t)/\w.grownBy w' (some gc):=by
 have cb:w.cell? ⟨bx,0,none⟩=some (.pointer (some ⟨sb,0,none⟩)):=az hb 0;have HA:Hid (∀j:Int,Calls prog 207 #[.pointer (some ⟨sb,0,none⟩),.int .i64 j] w fun e w'=>e= .returned (.int .i64 (fP aq ax t j))/\w'=w):=fun j=>O1 w B sb gc n cc pv rv bv au aq ax t h j
 have HT:=ah (acw w B sb gc n cc pv rv bv au aq ax t h hn a b 3 hab nS);have HS:=ah h;clear h hb;have H1:Hid (Calls prog 207 #[.pointer (some ⟨sb,0,none⟩),.int .i64 ((a:Int) - 1)] w fun e w'=>e= .returned (.int .i64 (fP aq ax t ((a:Int) - 1)))/\w'=w):=HA.out _;have H2:Hid (Calls prog 207 #[.pointer (some ⟨sb,0,none⟩),.int .i64 b] w fun e w'=>e= .returned (.int .i64 (fP aq ax t b))/\w'=w):=HA.out _;clear HA;generalize fP aq ax t ((a:Int) - 1)=x at*;generalize fP aq ax t b=y at*;by_cases hx:x=3
 .rw [aj (.inl hx)];subst hx;go_enter func209,ntmps209;go_wp2_with fail;refine H1.out.mono ?_;rintro ev wx ⟨rfl,hx⟩;have hx':=hx.symm;subst hx';go_wp2_with fail;refine HT.out.mono ?_;rintro ev w2 ⟨rfl,gB,mz⟩;have cW:=ah gB;have HG2:=ah mz;clear gB mz;go_wp2;go_end0;exact⟨rfl,cW.out,HG2.out⟩
 .have qx:(x==3)=false:=by simpa using hx
  by_cases hy:y=3
  .rw [aj (.inr hy)];subst hy;go_enter func209,ntmps209;go_wp2_with fail;refine H1.out.mono ?_;rintro ev wx ⟨rfl,hx⟩;have hx':=hx.symm;subst hx';go_wp2_with fail;refine H2.out.mono ?_;rintro ev wx ⟨rfl,hx⟩;have hx':=hx.symm;subst hx';go_wp2_with fail;refine HT.out.mono ?_;rintro ev w2 ⟨rfl,gB,mz⟩;have cW:=ah gB;have HG2:=ah mz;clear gB mz;go_wp2;go_end0;exact⟨rfl,cW.out,HG2.out⟩
  .rw [ai (by omega)];have qy:(y==3)=false:=by simpa using hy
   go_enter func209,ntmps209;go_wp2_with fail;refine H1.out.mono ?_;rintro ev wx ⟨rfl,hx⟩;have hx':=hx.symm;subst hx';go_wp2_with fail;refine H2.out.mono ?_;rintro ev wx ⟨rfl,hx⟩;have hx':=hx.symm;subst hx';go_wp2;go_end0;exact⟨rfl,HS.out,jt _ _⟩
theorem aio(w:World)(B sb gc n cc bx:Nat)(pv rv bv:Value)(au aq ax:Int)(t:List Int)(h:aW w B sb gc n cc pv rv bv au aq ax t)(hb:w.heap[bx]? =some (.cells #[.pointer (some ⟨sb,0,none⟩)] 146 (0,0)))(i:Nat)(hi:i<n):
  Calls prog 214 #[.int .i64 i,.pointer (some ⟨bx,0,none⟩)] w fun e w'=>e= .returned (.bool (nB (t.getD i 0)))/\w'=w:=by
 have c2:=h.f2;have ci:=h.at i hi;have cb:w.cell? ⟨bx,0,none⟩=some (.pointer (some ⟨sb,0,none⟩)):=az hb 0;have hi':(i:Int)<(n:Int):=by omega
 clear h hb;generalize t.getD i 0=c at*;go_enter func214,ntmps214;go_wp2_with fail;refine(O8 c _).mono ?_;rintro ev wx ⟨rfl,hx⟩;have hx':=hx.symm;subst hx';go_wp2;go_ret;exact⟨rfl,rfl⟩
theorem anf(w:World)(B sb gc n cc bx:Nat)(pv rv bv:Value)(au aq ax:Int)(t:List Int)(h:aW w B sb gc n cc pv rv bv au aq ax t)(hn:n<=1000)(hb:w.heap[bx]? =some (.cells #[.pointer (some ⟨sb,0,none⟩)] 146 (0,0)))(a b:Nat)(hab:a<=b)(nS:b<=n):
  Calls prog 216 #[.int .i64 a,.int .i64 b,.pointer (some ⟨bx,0,none⟩)] w fun e w'=>e= .returned (.tuple #[])/\aW w' B sb gc n cc pv rv bv au aq ax (if bC (fP aq ax t ((a:Int) - 1))=bC (fP aq ax t b)then bL t a (bC (fP aq ax t ((a:Int) - 1))) (b - a)else t)/\w.grownBy w' (some gc):=by
 have cb:w.cell? ⟨bx,0,none⟩=some (.pointer (some ⟨sb,0,none⟩)):=az hb 0;have HA:Hid (∀j:Int,Calls prog 207 #[.pointer (some ⟨sb,0,none⟩),.int .i64 j] w fun e w'=>e= .returned (.int .i64 (fP aq ax t j))/\w'=w):=fun j=>O1 w B sb gc n cc pv rv bv au aq ax t h j
 have HT:Hid (∀d:Int,Calls prog 210 #[.pointer (some ⟨sb,0,none⟩),.int .i64 a,.int .i64 b,.int .i64 d] w fun e w'=>e= .returned (.tuple #[])/\aW w' B sb gc n cc pv rv bv au aq ax (bL t a d (b - a))/\w.grownBy w' (some gc)):=fun d=>acw w B sb gc n cc pv rv bv au aq ax t h hn a b d hab nS
 have HS:=ah h;clear h hb;have H1:Hid (Calls prog 207 #[.pointer (some ⟨sb,0,none⟩),.int .i64 ((a:Int) - 1)] w fun e w'=>e= .returned (.int .i64 (fP aq ax t ((a:Int) - 1)))/\w'=w):=HA.out _;have H2:Hid (Calls prog 207 #[.pointer (some ⟨sb,0,none⟩),.int .i64 b] w fun e w'=>e= .returned (.int .i64 (fP aq ax t b))/\w'=w):=HA.out _;clear HA;generalize fP aq ax t ((a:Int) - 1)=x at*;generalize fP aq ax t b=y at*;have HX:Hid (∀W,Calls prog 217 #[.int .i64 x] W fun e w'=>e= .returned (.int .i64 (bC x))/\w'=W):=fun W=>KX x W
 have HY:Hid (∀W,Calls prog 217 #[.int .i64 y] W fun e w'=>e= .returned (.int .i64 (bC y))/\w'=W):=fun W=>KX y W
 generalize bC x=sx at*;generalize bC y=sy at*;by_cases hx:sx=sy
 .rw [aj hx];subst hx;go_enter func216,ntmps216;go_wp2_with fail;refine H1.out.mono ?_;rintro ev wx ⟨rfl,hx⟩;have hx':=hx.symm;subst hx';go_wp2_with fail;refine(HX.out _).mono ?_;rintro ev wx ⟨rfl,hx⟩;have hx':=hx.symm;subst hx';go_wp2_with fail;refine H2.out.mono ?_;rintro ev wx ⟨rfl,hx⟩;have hx':=hx.symm;subst hx';go_wp2_with fail;refine(HY.out _).mono ?_;rintro ev wx ⟨rfl,hx⟩;have hx':=hx.symm;subst hx';go_wp2_with fail;refine(HT.out _).mono ?_;rintro ev w2 ⟨rfl,gB,mz⟩;have cW:=ah gB;have HG2:=ah mz;clear gB mz;go_wp2;go_end0;exact⟨rfl,cW.out,HG2.out⟩
 .rw [ai hx];have qx:(sx==sy)=false:=by simpa using hx
  go_enter func216,ntmps216;go_wp2_with fail;refine H1.out.mono ?_;rintro ev wx ⟨rfl,hx⟩;have hx':=hx.symm;subst hx';go_wp2_with fail;refine(HX.out _).mono ?_;rintro ev wx ⟨rfl,hx⟩;have hx':=hx.symm;subst hx';go_wp2_with fail;refine H2.out.mono ?_;rintro ev wx ⟨rfl,hx⟩;have hx':=hx.symm;subst hx';go_wp2_with fail;refine(HY.out _).mono ?_;rintro ev wx ⟨rfl,hx⟩;have hx':=hx.symm;subst hx';go_wp2;go_end0;exact⟨rfl,HS.out,jt _ _⟩
def kR(r:Int):Int:=if r=9001 then 12296 else if r=9002 then 12297 else r
def bW:List Int:=[40,41,91,93,123,125,12296,12297]
def rz:Array Value:=#[.int .i32 40,.int .i32 41,.int .i32 91,.int .i32 93,.int .i32 123,.int .i32 125,.int .i32 12296,.int .i32 12297]
theorem Rm:∀(k:Nat)(_:k<4)(w:World),(Instr.index 304 (.agg rz) (.int .i64 k)).run prog w= .ok (.agg #[.int .i32 (bW.getD (2*k) 0),.int .i32 (bW.getD (2*k+1) 0)]) w
 |0,_,w=>by kernel_rfl
 |1,_,w=>by kernel_rfl
 |2,_,w=>by kernel_rfl
 |3,_,w=>by kernel_rfl
 |k+4,h,_=>by omega
theorem Tryz.Tu:(prog.info? 304).map (·.size)=some rz.size:=by kernel_rfl
theorem Pq(r:Int)(w:World):Calls prog 266 #[.int .i32 r] w fun e w'=>e= .returned (.int .i32 (kR r))/\w'=w:=by
 unfold kR;by_cases h1:r=9001
 .subst h1;rw [aj rfl];go_enter func266,ntmps266;go_wp2;go_ret;exact⟨rfl,rfl⟩
 .rw [ai h1];have q1:(r==9001)=false:=by simpa using h1
  by_cases h2:r=9002
  .subst h2;rw [aj rfl];go_enter func266,ntmps266;go_wp2;go_ret;exact⟨rfl,rfl⟩
  .rw [ai h2];have q2:(r==9002)=false:=by simpa using h2
   go_enter func266,ntmps266;go_wp2;go_ret;exact⟨rfl,rfl⟩
def y9(side:Nat)(r:Int):Bool:=kR r==bW.getD side 0||(kR r==bW.getD (2+side) 0||(kR r==bW.getD (4+side) 0||kR r==bW.getD (6+side) 0))
theorem aik(r:Int)(w:World)(tt:TypeId)(fr:Nat×Nat)(hsp:w.heap[11]? =some (.cells rz tt fr)):
  Calls prog 265 #[.int .i32 r,.int .i64 0] w fun e w'=>e= .returned (.bool (y9 0 r))/\Below w.heap.size w w':=by
 have HI:=ah Rm;have HH:=ah hsp;have HZ:=Tryz.Tu;clear hsp;generalize rz=sv at HI HH HZ;have HC:Hid (∀W,Calls prog 266 #[.int .i32 r] W fun e w'=>e= .returned (.int .i32 (kR r))/\w'=W):=fun W=>Pq r W
 have HP:Hid (y9 0 r=(kR r==bW.getD 0 0||(kR r==bW.getD (2+0) 0||(kR r==bW.getD (4+0) 0||kR r==bW.getD (6+0) 0)))):=rfl;generalize y9 0 r=P at*;generalize kR r=c at*;go_enter func265,ntmps265;go_wp2_with(refine Ua rfl 304 _ rfl 11 rfl tt _ fr _ HH.out underlying304 rfl HZ ?_);go_loopg [8] 4 (fun gk iv W=>∃k:Nat,k<=4/\gk=4 - k/\iv= .int .i64 k/\Below w.heap.size w W/\∀i,i<k->¬bW.getD (2*i) 0=c);case atStart=>exact⟨0,by omega,rfl,rfl,aA _ _,fun i h=>by omega⟩
 case round=>
  obtain⟨k,hk,rfl,rfl,hb,hno⟩:=hrel;have hbz:=hb.size;by_cases hlt:k<4
  .have hlt':(k:Int)<4:=by omega
   have L3:=fun wx=>HI.out k hlt wx
   have HN:=ah hno;have HB:=ah hb;clear hno hb;by_cases he:bW.getD (2*k) 0=c
   .have HQ:Hid (P=true):=by
     show _=_;rw [HP.out,<-he]
     match k,hlt with
     |0,_=>rfl
     |1,_=>rfl
     |2,_=>rfl
     |3,_=>rfl
    have qe:(bW.getD (2*k) 0==c)=true:=by simpa using he
    clear he;generalize bW.getD (2*k+1) 0=b1 at*;generalize bW.getD (2*k) 0=b0 at*;go_wp2_with fail;go_quiet(first|(go_at_call 266;refine Cx (HC.out _)));go_wp2;go_ret;exact⟨iw HQ.out.symm,fZ (HB.out.alloc hbz _) _⟩
   .have qe:(bW.getD (2*k) 0==c)=false:=by simpa using he
    have mV:Hid (∀i,i<k+1->¬bW.getD (2*i) 0=c):=fun i hi=>by
     rcases cK i k with h|h
     .exact HN.out i h
     .rw [show i=k by omega];exact he
    clear he;generalize bW.getD (2*k+1) 0=b1 at*;generalize bW.getD (2*k) 0=b0 at*;go_wp2_with fail;go_quiet(first|(go_at_call 266;refine Cx (HC.out _)));go_wp2;go_roundg (4 - (k+1));case measure=>omega
    case rel=>exact⟨k+1,by omega,rfl,by go_num,fZ (HB.out.alloc hbz _) _,mV.out⟩
  .have hlt':¬(k:Int)<4:=by omega
   have HQ:Hid (P=false):=by
    show _=_;have e0:=hno 0 (by omega);have e1:=hno 1 (by omega);have e2:=hno 2 (by omega);have e3:=hno 3 (by omega);rw [HP.out];simp [bW]at e0 e1 e2 e3 ⊢;omega
   have HB:=ah hb;clear hno hb;go_wp2;go_ret;exact⟨iw HQ.out.symm,HB.out⟩
theorem ail(r:Int)(w:World)(tt:TypeId)(fr:Nat×Nat)(hsp:w.heap[11]? =some (.cells rz tt fr)):
  Calls prog 265 #[.int .i32 r,.int .i64 1] w fun e w'=>e= .returned (.bool (y9 1 r))/\Below w.heap.size w w':=by
 have HI:=ah Rm;have HH:=ah hsp;have HZ:=Tryz.Tu;clear hsp;generalize rz=sv at HI HH HZ;have HC:Hid (∀W,Calls prog 266 #[.int .i32 r] W fun e w'=>e= .returned (.int .i32 (kR r))/\w'=W):=fun W=>Pq r W
 have HP:Hid (y9 1 r=(kR r==bW.getD 1 0||(kR r==bW.getD (2+1) 0||(kR r==bW.getD (4+1) 0||kR r==bW.getD (6+1) 0)))):=rfl;generalize y9 1 r=P at*;generalize kR r=c at*;go_enter func265,ntmps265;go_wp2_with(refine Ua rfl 304 _ rfl 11 rfl tt _ fr _ HH.out underlying304 rfl HZ ?_);go_loopg [8] 4 (fun gk iv W=>∃k:Nat,k<=4/\gk=4 - k/\iv= .int .i64 k/\Below w.heap.size w W/\∀i,i<k->¬bW.getD (2*i+1) 0=c);case atStart=>exact⟨0,by omega,rfl,rfl,aA _ _,fun i h=>by omega⟩
 case round=>
  obtain⟨k,hk,rfl,rfl,hb,hno⟩:=hrel;have hbz:=hb.size;by_cases hlt:k<4
  .have hlt':(k:Int)<4:=by omega
   have L3:=fun wx=>HI.out k hlt wx
   have HN:=ah hno;have HB:=ah hb;clear hno hb;by_cases he:bW.getD (2*k+1) 0=c
   .have HQ:Hid (P=true):=by
     show _=_;rw [HP.out,<-he]
     match k,hlt with
     |0,_=>rfl
     |1,_=>rfl
     |2,_=>rfl
     |3,_=>rfl
    have qe:(bW.getD (2*k+1) 0==c)=true:=by simpa using he
    clear he;generalize bW.getD (2*k+1) 0=b1 at*;generalize bW.getD (2*k) 0=b0 at*;go_wp2_with fail;go_quiet(first|(go_at_call 266;refine Cx (HC.out _)));go_wp2;go_ret;exact⟨iw HQ.out.symm,fZ (HB.out.alloc hbz _) _⟩
   .have qe:(bW.getD (2*k+1) 0==c)=false:=by simpa using he
    have mV:Hid (∀i,i<k+1->¬bW.getD (2*i+1) 0=c):=fun i hi=>by
     rcases cK i k with h|h
     .exact HN.out i h
     .rw [show i=k by omega];exact he
    clear he;generalize bW.getD (2*k+1) 0=b1 at*;generalize bW.getD (2*k) 0=b0 at*;go_wp2_with fail;go_quiet(first|(go_at_call 266;refine Cx (HC.out _)));go_wp2;go_roundg (4 - (k+1));case measure=>omega
    case rel=>exact⟨k+1,by omega,rfl,by go_num,fZ (HB.out.alloc hbz _) _,mV.out⟩
  .have hlt':¬(k:Int)<4:=by omega
   have HQ:Hid (P=false):=by
    show _=_;have e0:=hno 0 (by omega);have e1:=hno 1 (by omega);have e2:=hno 2 (by omega);have e3:=hno 3 (by omega);rw [HP.out];simp [bW]at e0 e1 e2 e3 ⊢;omega
   have HB:=ah hb;clear hno hb;go_wp2;go_ret;exact⟨iw HQ.out.symm,HB.out⟩
theorem EG(r:Int):kR r=canon r:=rfl
theorem ain(r:Int):y9 0 r=decide ((brk r).1=1):=by
 unfold y9 brk;rw [EG];generalize canon r=c;rw [Cw];simp only [bW,ad7,VB,FU,yH,Lj];by_cases h:c=40∨c=91∨c=123∨c=12296
 .rw [aj h];simp;exact h
 .rw [ai h];constructor
  .intro h2;exact absurd h2 h
  .intro h2;split at h2
   .cases h2
   .split at h2
    .cases h2
    .split at h2
     .cases h2
     .split at h2<;>cases h2
theorem aim(r:Int):y9 1 r=decide ((brk r).1=2):=by
 unfold y9 brk;rw [EG];generalize canon r=c;rw [Cw];simp only [bW,ad7,VB,FU,yH,Lj];by_cases h:c=40∨c=91∨c=123∨c=12296
 .rw [aj h];simp;omega
 .rw [ai h];constructor
  .intro h2;rcases h2 with rfl|rfl|rfl|rfl<;>simp
  .intro h2;split at h2
   .omega
   .split at h2
    .omega
    .split at h2
     .omega
     .split at h2
      .omega
      .cases h2
theorem aa8(r:Int)(w:World)(tt:TypeId)(fr:Nat×Nat)(hsp:w.heap[11]? =some (.cells rz tt fr)):
  Calls prog 243 #[.int .i32 r] w fun e w'=>e= .returned (.bool (decide ((brk r).1=1)))/\Below w.heap.size w w':=by
 have HI:Hid (Calls prog 265 #[.int .i32 r,.int .i64 0] w fun e w'=>e= .returned (.bool (decide ((brk r).1=1)))/\Below w.heap.size w w'):=by rw [<-ain];exact aik r w tt fr hsp
 clear hsp;generalize decide ((brk r).1=1)=b at*;go_enter func243,ntmps243;go_wp2_with fail;refine HI.out.mono ?_;rintro ev w2 ⟨rfl,hb⟩;have HB:=ah hb;clear hb;go_wp2;go_ret;exact⟨rfl,HB.out⟩
theorem WJ(r:Int)(w:World)(tt:TypeId)(fr:Nat×Nat)(hsp:w.heap[11]? =some (.cells rz tt fr)):
  Calls prog 245 #[.int .i32 r] w fun e w'=>e= .returned (.bool (decide ((brk r).1=2)))/\Below w.heap.size w w':=by
 have HI:Hid (Calls prog 265 #[.int .i32 r,.int .i64 1] w fun e w'=>e= .returned (.bool (decide ((brk r).1=2)))/\Below w.heap.size w w'):=by rw [<-aim];exact ail r w tt fr hsp
 clear hsp;generalize decide ((brk r).1=2)=b at*;go_enter func245,ntmps245;go_wp2_with fail;refine HI.out.mono ?_;rintro ev w2 ⟨rfl,hb⟩;have HB:=ah hb;clear hb;go_wp2;go_ret;exact⟨rfl,HB.out⟩
def Ah(x y:Int):Bool:=(x==40&&y==41)||((x==91&&y==93)||((x==123&&y==125)||(x==12296&&y==12297)))
theorem agS {a r:Int}(ha:(brk a).1=1)(hr:(brk r).1=2):Ah (canon a) (canon r)=decide ((brk a).2=(brk r).2):=by
 unfold brk at*;generalize canon a=x at*;generalize canon r=y at*;by_cases hx:x=40∨x=91∨x=123∨x=12296
 .rw [aj hx];by_cases hy:y=40∨y=91∨y=123∨y=12296
  .rw [aj hy]at hr;cases hr
  .rw [ai hy]at hr ⊢;by_cases y1:y=41
   .subst y1;unfold Ah;rcases hx with rfl|rfl|rfl|rfl<;>decide
   .rw [ai y1]at hr ⊢;by_cases y2:y=93
    .subst y2;unfold Ah;rcases hx with rfl|rfl|rfl|rfl<;>decide
    .rw [ai y2]at hr ⊢;by_cases y3:y=125
     .subst y3;unfold Ah;rcases hx with rfl|rfl|rfl|rfl<;>decide
     .rw [ai y3]at hr ⊢;by_cases y4:y=12297
      .subst y4;unfold Ah;rcases hx with rfl|rfl|rfl|rfl<;>decide
      .rw [ai y4]at hr;cases hr
 .rw [ai hx]at ha;exfalso;split at ha
  .cases ha
  .split at ha
   .cases ha
   .split at ha
    .cases ha
    .split at ha<;>cases ha
def CW(rs:List Int)(st:List Nat):Prop:=∀a∈st,(brk (rs.getD a 0)).1=1
theorem CW.step {t rs:List Int}{i:Nat}{x y:List Nat×List (Nat×Nat)}(h:CW rs x.1)(hy:nD t rs i x=some y):CW rs y.1:=by
 unfold nD at hy;split at hy
 .split at hy
  .split at hy
   .cases hy
   .obtain rfl:=aK hy;intro a ha;simp at ha;rcases ha with ha|rfl
    .exact h a ha
    .assumption
  .split at hy
   .split at hy
    .obtain rfl:=aK hy;exact fun a ha=>h a (KO ha)
    .obtain rfl:=aK hy;exact h
   .obtain rfl:=aK hy;exact h
 .obtain rfl:=aK hy;exact h
theorem JE {t rs:List Int}{n i:Nat}{x y:List Nat×List (Nat×Nat)}(h:nD t rs i x=some y):dF t rs (n+1) i x=dF t rs n (i+1) y:=by
 rw [dF,h]
theorem aj0 {t rs:List Int}{n i:Nat}{x:List Nat×List (Nat×Nat)}(h:nD t rs i x=none):dF t rs (n+1) i x=none:=by
 rw [dF,h]
