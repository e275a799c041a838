import Derived.Test.YtkbinfhclaafhaaGreatDoorH06
namespace Go.Proofs.YtkbinfhclaafhaaGreatDoor
open Go.RowKit
open Go.Proofs.Tryz
set_option maxRecDepth 100000
set_option maxHeartbeats 32000000
structure aA(w:World)(B sb gc n cc:Nat)(pv rv bv:Value)(ah aa aj:Int)(t:List Int):Prop where
 cell:w.heap[sb]? =some (.cells #[pv,rv,.slice (some ⟨gc,0,none⟩) n cc,bv,.int .i64 ah,.int .i64 aa,.int .i64 aj] 220 (0,0))
 row:w.ownsRow B 108 1 (.slice (some ⟨gc,0,none⟩) n cc) n (iv t)
section
variable{w w':World}{B sb gc n cc:Nat}{pv rv bv:Value}{ah aa aj:Int}{t:List Int}
theorem aA.len(h:aA w B sb gc n cc pv rv bv ah aa aj t):t.length=n:=by have:=h.row.1;simpa [iv]using this
theorem aA.ne(h:aA w B sb gc n cc pv rv bv ah aa aj t):sb≠gc:=by
 rcases h.row.2 with⟨e,_⟩|⟨g,cp,cur,e,_,hh,_⟩
 .cases e
 .injection e with e1
  injection e1 with e4
  injection e4 with e5
  subst e5;intro e;have:=h.cell;rw [e,hh]at this;simp at this
theorem aA.at(h:aA w B sb gc n cc pv rv bv ah aa aj t)(k:Nat)(hk:k<n):w.cell? ⟨gc,k,none⟩=some (.int .i64 (t.getD k 0)):=jZ h.row k (by rw [h.len];exact hk)
theorem aA.frozen(h:aA w B sb gc n cc pv rv bv ah aa aj t)(k:Nat):w.frozen? ⟨gc,k,none⟩=false:=World.ownsRow.frozenAt h.row k
theorem aA.f2(h:aA w B sb gc n cc pv rv bv ah aa aj t):w.cell? ⟨sb,2,none⟩=some (.slice (some ⟨gc,0,none⟩) n cc):=au h.cell 2
theorem aA.f4(h:aA w B sb gc n cc pv rv bv ah aa aj t):w.cell? ⟨sb,4,none⟩=some (.int .i64 ah):=au h.cell 4
theorem aA.f5(h:aA w B sb gc n cc pv rv bv ah aa aj t):w.cell? ⟨sb,5,none⟩=some (.int .i64 aa):=au h.cell 5
theorem aA.f6(h:aA w B sb gc n cc pv rv bv ah aa aj t):w.cell? ⟨sb,6,none⟩=some (.int .i64 aj):=au h.cell 6
theorem aA.set(h:aA w B sb gc n cc pv rv bv ah aa aj t)(k:Nat)(a:Int):aA (w.setCell ⟨gc,k,none⟩ (.int .i64 a)) B sb gc n cc pv rv bv ah aa aj (t.set k a):=
 ⟨by rw [Below.heap_setCell _ _ _ _ h.ne];exact h.cell,by rw [<-BR];exact(World.ownsRow.stored h.row k (.int .i64 a)).1⟩
theorem aA.grown(h:aA w B sb gc n cc pv rv bv ah aa aj t)(k:Nat)(a:Int):w.grownBy (w.setCell ⟨gc,k,none⟩ (.int .i64 a)) (some gc):=(World.ownsRow.stored h.row k (.int .i64 a)).2
theorem aA.ready {σ:Type}{f:σ->Int->List Int->Int}{g:σ->Int->List Int->σ}{s0 s:σ}{t t':List Int}{k:Nat}(h:aA w B sb gc n cc pv rv bv ah aa aj t')(hN:bz f g s0 t k s t')(hL:t.length=n)(hk:k<n):
  ∃c rest,w.cell? ⟨gc,k,none⟩=some (.int .i64 c)/\w.frozen? ⟨gc,k,none⟩=false/\w.cell? ⟨sb,2,none⟩=some (.slice (some ⟨gc,0,none⟩) n cc)/\(k:Int)<(n:Int)/\(∀s',c=f s c rest->s'=g s c rest->Hid (bz f g s0 t (k+1) s' t'))/\∀v s',v=f s c rest->s'=g s c rest->Hid (bz f g s0 t (k+1) s' (t'.set k v)):=
 ⟨_,_,by rw [<-hN.at k (Nat.le_refl _)];exact h.at k hk,h.frozen k,h.f2,by omega,fun s'=>hN.stay (by omega) s',fun v s'=>hN.step (by omega) v s'⟩
theorem aA.below(h:aA w B sb gc n cc pv rv bv ah aa aj t)(hb:Below w.heap.size w w'):aA w' B sb gc n cc pv rv bv ah aa aj t:=⟨aR hb h.cell,own_below h.row hb⟩
end
def dS(aa aj:Int)(t:List Int)(j:Int):Int:=if j<0 then aa else if(t.length:Int)<=j then aj else t.getD j.toNat 0
theorem Kl(w:World)(B sb gc n cc:Nat)(pv rv bv:Value)(ah aa aj:Int)(t:List Int)(h:aA w B sb gc n cc pv rv bv ah aa aj t)(j:Int):
  Calls prog 207 #[.pointer (some ⟨sb,0,none⟩),.int .i64 j] w fun e w'=>e= .returned (.int .i64 (dS aa aj t j))/\w'=w:=by
 have a2:=h.f2;have a5:=h.f5;have a6:=h.f6;unfold dS;rw [h.len];by_cases h0:j<0
 .rw [if_pos h0];clear h;go_enter func207,ntmps207;go_wp2;go_ret;exact⟨rfl,rfl⟩
 .rw [if_neg h0];by_cases h1:(n:Int)<=j
  .rw [if_pos h1];clear h;go_enter func207,ntmps207;go_wp2;go_ret;exact⟨rfl,rfl⟩
  .rw [if_neg h1];obtain⟨k,rfl⟩:∃k:Nat,j=k:=⟨j.toNat,by omega⟩
   have hk:k<n:=by omega
   have ak:=h.at k hk;rw [Int.toNat_natCast];clear h;generalize t.getD k 0=c at*;go_enter func207,ntmps207;go_wp2;go_ret;exact⟨rfl,rfl⟩
def f2(s c:Int)(_:List Int):Int:=if c=3/\s=2 then 6 else c
def g2(s c:Int)(_:List Int):Int:=if c=0∨c=1∨c=2 then c else s
theorem Yf:∀(t:List Int)(s:Int),pass f2 g2 s t=jA 2 6 s t
 |[],_=>rfl
 |c::r,s=>by
  rw [pass,jA,Yf r,f2,g2];by_cases h:c=0∨c=1∨c=2
  .rw [if_pos h,if_neg (by omega),if_neg (by omega)]
  .rw [if_neg h]
def f7(s c:Int)(_:List Int):Int:=if c=3/\s=0 then 0 else c
def g7(s c:Int)(_:List Int):Int:=if c=0∨c=1 then c else s
theorem Yg:∀(t:List Int)(s:Int),pass f7 g7 s t=Ew s t
 |[],_=>rfl
 |c::r,s=>by
  rw [pass,Ew,Yg r,f7,g7];by_cases h:c=0∨c=1
  .rw [if_pos h,if_pos h,if_neg (by omega)]
  .rw [if_neg h,if_neg h]
def wR(e:Int)(_:Unit)(c:Int)(_:List Int):Int:=yP e c
theorem Yj(e:Int):∀t:List Int,pass (wR e) g3 () t=t.map (yP e)
 |[]=>rfl
 |c::r=>by rw [pass,List.map_cons,Yj e r];rfl
theorem ajE(w:World)(B sb gc n cc:Nat)(pv rv bv:Value)(ah aa aj:Int)(t:List Int)(h:aA w B sb gc n cc pv rv bv ah aa aj t)(hn:n<=1000):
  Calls prog 146 #[.pointer (some ⟨sb,0,none⟩)] w fun e w'=>e= .returned (.tuple #[])/\aA w' B sb gc n cc pv rv bv ah aa aj (pass f3 g3 () t)/\w.grownBy w' (some gc):=by
 have cK:Hid (aA w B sb gc n cc pv rv bv ah aa aj t):=h;have HL:Hid (t.length=n):=h.len;have c2:=h.f2;have c5:=h.f5;clear h;go_enter func146,ntmps146;go_wp2;clear c2 c5;go_loopg [9] n (fun gk iv wr=>∃(k:Nat)(s:Unit)(t':List Int),k<=n/\gk=n - k/\iv= .int .i64 k/\aA wr B sb gc n cc pv rv bv ah aa aj t'/\w.grownBy wr (some gc)/\bz f3 g3 () t k s t');case atStart=>exact⟨0,(),t,by omega,rfl,rfl,cK.out,World.grownBy.refl _ _,bz.start _ _ _ _⟩
 case round=>
  clear cK;obtain⟨k,s,t',hk,rfl,rfl,hS,hG,hN⟩:=hrel;by_cases hlt:k<n
  .obtain⟨c,rest,hcell,hfr,c2,hkn,bQ,bY⟩:=hS.ready hN HL.out hlt;have HS:Hid (aA wr B sb gc n cc pv rv bv ah aa aj t'):=hS;have HG:Hid (w.grownBy wr (some gc)):=hG;clear hS hG hN;by_cases h2:c=2
   .subst h2;have HK:=bY 1 () rfl rfl;clear bQ bY;go_wp2;go_roundg (n - (k+1));case measure=>omega
    case rel=>exact⟨k+1,(),_,by omega,rfl,by go_num,HS.out.set k 1,HG.out.trans (HS.out.grown k 1),HK.out⟩
   .have q2:(c==2)=false:=by simpa using h2
    have HK:=bQ () (ada h2).symm rfl;clear bQ bY;go_wp2;go_roundg (n - (k+1));case measure=>omega
    case rel=>exact⟨k+1,(),_,by omega,rfl,by go_num,HS.out,HG.out,HK.out⟩
  .have hpe:t'=pass f3 g3 () t:=hN.stop (by rw [HL.out];exact hlt);have HS:Hid (aA wr B sb gc n cc pv rv bv ah aa aj (pass f3 g3 () t)):=by rw [<-hpe];exact hS
   have HG:Hid (w.grownBy wr (some gc)):=hG;have hkn:¬(k:Int)<(n:Int):=by omega
   clear hS hG hN hpe;go_wp2;go_end0;exact⟨rfl,HS.out,HG.out⟩
theorem ajI(w:World)(B sb gc n cc:Nat)(pv rv bv:Value)(ah aa aj:Int)(t:List Int)(h:aA w B sb gc n cc pv rv bv ah aa aj t)(hn:n<=1000):
  Calls prog 149 #[.pointer (some ⟨sb,0,none⟩)] w fun e w'=>e= .returned (.tuple #[])/\aA w' B sb gc n cc pv rv bv ah aa aj (pass f6 g3 () t)/\w.grownBy w' (some gc):=by
 have cK:Hid (aA w B sb gc n cc pv rv bv ah aa aj t):=h;have HL:Hid (t.length=n):=h.len;have c2:=h.f2;have c5:=h.f5;clear h;go_enter func149,ntmps149;go_wp2;clear c2 c5;go_loopg [9] n (fun gk iv wr=>∃(k:Nat)(s:Unit)(t':List Int),k<=n/\gk=n - k/\iv= .int .i64 k/\aA wr B sb gc n cc pv rv bv ah aa aj t'/\w.grownBy wr (some gc)/\bz f6 g3 () t k s t');case atStart=>exact⟨0,(),t,by omega,rfl,rfl,cK.out,World.grownBy.refl _ _,bz.start _ _ _ _⟩
 case round=>
  clear cK;obtain⟨k,s,t',hk,rfl,rfl,hS,hG,hN⟩:=hrel;by_cases hlt:k<n
  .obtain⟨c,rest,hcell,hfr,c2,hkn,bQ,bY⟩:=hS.ready hN HL.out hlt;have HS:Hid (aA wr B sb gc n cc pv rv bv ah aa aj t'):=hS;have HG:Hid (w.grownBy wr (some gc)):=hG;clear hS hG hN;by_cases h4:c=4
   .subst h4;have HK:=bY 12 () rfl rfl;clear bQ bY;go_wp2;go_roundg (n - (k+1));case measure=>omega
    case rel=>exact⟨k+1,(),_,by omega,rfl,by go_num,HS.out.set k 12,HG.out.trans (HS.out.grown k 12),HK.out⟩
   have q4:(c==4)=false:=by simpa using h4
   by_cases h5:c=5
   .subst h5;have HK:=bY 12 () rfl rfl;clear bQ bY;go_wp2;go_roundg (n - (k+1));case measure=>omega
    case rel=>exact⟨k+1,(),_,by omega,rfl,by go_num,HS.out.set k 12,HG.out.trans (HS.out.grown k 12),HK.out⟩
   have q5:(c==5)=false:=by simpa using h5
   by_cases h7:c=7
   .subst h7;have HK:=bY 12 () rfl rfl;clear bQ bY;go_wp2;go_roundg (n - (k+1));case measure=>omega
    case rel=>exact⟨k+1,(),_,by omega,rfl,by go_num,HS.out.set k 12,HG.out.trans (HS.out.grown k 12),HK.out⟩
   have q7:(c==7)=false:=by simpa using h7
   have HK:=bQ () (adb (by omega)).symm rfl;clear bQ bY;go_wp2;go_roundg (n - (k+1));case measure=>omega
   case rel=>exact⟨k+1,(),_,by omega,rfl,by go_num,HS.out,HG.out,HK.out⟩
  .have hpe:t'=pass f6 g3 () t:=hN.stop (by rw [HL.out];exact hlt);have HS:Hid (aA wr B sb gc n cc pv rv bv ah aa aj (pass f6 g3 () t)):=by rw [<-hpe];exact hS
   have HG:Hid (w.grownBy wr (some gc)):=hG;have hkn:¬(k:Int)<(n:Int):=by omega
   clear hS hG hN hpe;go_wp2;go_end0;exact⟨rfl,HS.out,HG.out⟩
theorem ajD(w:World)(B sb gc n cc:Nat)(pv rv bv:Value)(ah aa aj:Int)(t:List Int)(h:aA w B sb gc n cc pv rv bv ah aa aj t)(hn:n<=1000):
  Calls prog 145 #[.pointer (some ⟨sb,0,none⟩)] w fun e w'=>e= .returned (.tuple #[])/\aA w' B sb gc n cc pv rv bv ah aa aj (pass f2 g2 aa t)/\w.grownBy w' (some gc):=by
 have cK:Hid (aA w B sb gc n cc pv rv bv ah aa aj t):=h;have HL:Hid (t.length=n):=h.len;have c2:=h.f2;have c5:=h.f5;clear h;go_enter func145,ntmps145;go_wp2;clear c2 c5;go_loopg [2,14] n (fun gk sv iv wr=>∃(k:Nat)(s:Int)(t':List Int),k<=n/\gk=n - k/\sv= .int .i64 s/\iv= .int .i64 k/\aA wr B sb gc n cc pv rv bv ah aa aj t'/\w.grownBy wr (some gc)/\bz f2 g2 aa t k s t');case atStart=>exact⟨0,aa,t,by omega,rfl,rfl,rfl,cK.out,World.grownBy.refl _ _,bz.start _ _ _ _⟩
 case round=>
  clear cK;obtain⟨k,s,t',hk,rfl,rfl,rfl,hS,hG,hN⟩:=hrel;by_cases hlt:k<n
  .obtain⟨c,rest,hcell,hfr,c2,hkn,bQ,bY⟩:=hS.ready hN HL.out hlt;have HS:Hid (aA wr B sb gc n cc pv rv bv ah aa aj t'):=hS;have HG:Hid (w.grownBy wr (some gc)):=hG;clear hS hG hN;by_cases h0:c=0
   .subst h0;have HK:=bQ 0 rfl rfl;clear bQ bY;go_wp2;go_roundg (n - (k+1));case measure=>omega
    case rel=>exact⟨k+1,0,_,by omega,rfl,rfl,by go_num,HS.out,HG.out,HK.out⟩
   have q0:(c==0)=false:=by simpa using h0
   by_cases h1:c=1
   .subst h1;have HK:=bQ 1 rfl rfl;clear bQ bY;go_wp2;go_roundg (n - (k+1));case measure=>omega
    case rel=>exact⟨k+1,1,_,by omega,rfl,rfl,by go_num,HS.out,HG.out,HK.out⟩
   have q1:(c==1)=false:=by simpa using h1
   by_cases h2:c=2
   .subst h2;have HK:=bQ 2 rfl rfl;clear bQ bY;go_wp2;go_roundg (n - (k+1));case measure=>omega
    case rel=>exact⟨k+1,2,_,by omega,rfl,rfl,by go_num,HS.out,HG.out,HK.out⟩
   have q2:(c==2)=false:=by simpa using h2
   have hg:g2 s c rest=s:=by rw [g2,if_neg (by omega)]
   by_cases h3:c=3
   .subst h3;by_cases hs:s=2
    .subst hs;have HK:=bY 6 2 rfl rfl;clear bQ bY;go_wp2;go_roundg (n - (k+1));case measure=>omega
     case rel=>exact⟨k+1,2,_,by omega,rfl,rfl,by go_num,HS.out.set k 6,HG.out.trans (HS.out.grown k 6),HK.out⟩
    .have hs':(s==2)=false:=by simpa using hs
     have HK:=bQ s (by rw [f2,if_neg (by omega)]) hg.symm;clear bQ bY;go_wp2;go_roundg (n - (k+1));case measure=>omega
     case rel=>exact⟨k+1,s,_,by omega,rfl,rfl,by go_num,HS.out,HG.out,HK.out⟩
   .have q3:(c==3)=false:=by simpa using h3
    have HK:=bQ s (by rw [f2,if_neg (by omega)]) hg.symm;clear bQ bY;go_wp2;go_roundg (n - (k+1));case measure=>omega
    case rel=>exact⟨k+1,s,_,by omega,rfl,rfl,by go_num,HS.out,HG.out,HK.out⟩
  .have hpe:t'=pass f2 g2 aa t:=hN.stop (by rw [HL.out];exact hlt);have HS:Hid (aA wr B sb gc n cc pv rv bv ah aa aj (pass f2 g2 aa t)):=by rw [<-hpe];exact hS
   have HG:Hid (w.grownBy wr (some gc)):=hG;have hkn:¬(k:Int)<(n:Int):=by omega
   clear hS hG hN hpe;go_wp2;go_end0;exact⟨rfl,HS.out,HG.out⟩
theorem ajJ(w:World)(B sb gc n cc:Nat)(pv rv bv:Value)(ah aa aj:Int)(t:List Int)(h:aA w B sb gc n cc pv rv bv ah aa aj t)(hn:n<=1000):
  Calls prog 150 #[.pointer (some ⟨sb,0,none⟩)] w fun e w'=>e= .returned (.tuple #[])/\aA w' B sb gc n cc pv rv bv ah aa aj (pass f7 g7 aa t)/\w.grownBy w' (some gc):=by
 have cK:Hid (aA w B sb gc n cc pv rv bv ah aa aj t):=h;have HL:Hid (t.length=n):=h.len;have c2:=h.f2;have c5:=h.f5;clear h;go_enter func150,ntmps150;go_wp2;clear c2 c5;go_loopg [2,14] n (fun gk sv iv wr=>∃(k:Nat)(s:Int)(t':List Int),k<=n/\gk=n - k/\sv= .int .i64 s/\iv= .int .i64 k/\aA wr B sb gc n cc pv rv bv ah aa aj t'/\w.grownBy wr (some gc)/\bz f7 g7 aa t k s t');case atStart=>exact⟨0,aa,t,by omega,rfl,rfl,rfl,cK.out,World.grownBy.refl _ _,bz.start _ _ _ _⟩
 case round=>
  clear cK;obtain⟨k,s,t',hk,rfl,rfl,rfl,hS,hG,hN⟩:=hrel;by_cases hlt:k<n
  .obtain⟨c,rest,hcell,hfr,c2,hkn,bQ,bY⟩:=hS.ready hN HL.out hlt;have HS:Hid (aA wr B sb gc n cc pv rv bv ah aa aj t'):=hS;have HG:Hid (w.grownBy wr (some gc)):=hG;clear hS hG hN;by_cases h0:c=0
   .subst h0;have HK:=bQ 0 rfl rfl;clear bQ bY;go_wp2;go_roundg (n - (k+1));case measure=>omega
    case rel=>exact⟨k+1,0,_,by omega,rfl,rfl,by go_num,HS.out,HG.out,HK.out⟩
   have q0:(c==0)=false:=by simpa using h0
   by_cases h1:c=1
   .subst h1;have HK:=bQ 1 rfl rfl;clear bQ bY;go_wp2;go_roundg (n - (k+1));case measure=>omega
    case rel=>exact⟨k+1,1,_,by omega,rfl,rfl,by go_num,HS.out,HG.out,HK.out⟩
   have q1:(c==1)=false:=by simpa using h1
   have hg:g7 s c rest=s:=by rw [g7,if_neg (by omega)]
   by_cases h3:c=3
   .subst h3;by_cases hs:s=0
    .subst hs;have HK:=bY 0 0 rfl rfl;clear bQ bY;go_wp2;go_roundg (n - (k+1));case measure=>omega
     case rel=>exact⟨k+1,0,_,by omega,rfl,rfl,by go_num,HS.out.set k 0,HG.out.trans (HS.out.grown k 0),HK.out⟩
    .have hs':(s==0)=false:=by simpa using hs
     have HK:=bQ s (by rw [f7,if_neg (by omega)]) hg.symm;clear bQ bY;go_wp2;go_roundg (n - (k+1));case measure=>omega
     case rel=>exact⟨k+1,s,_,by omega,rfl,rfl,by go_num,HS.out,HG.out,HK.out⟩
   .have q3:(c==3)=false:=by simpa using h3
    have HK:=bQ s (by rw [f7,if_neg (by omega)]) hg.symm;clear bQ bY;go_wp2;go_roundg (n - (k+1));case measure=>omega
    case rel=>exact⟨k+1,s,_,by omega,rfl,rfl,by go_num,HS.out,HG.out,HK.out⟩
  .have hpe:t'=pass f7 g7 aa t:=hN.stop (by rw [HL.out];exact hlt);have HS:Hid (aA wr B sb gc n cc pv rv bv ah aa aj (pass f7 g7 aa t)):=by rw [<-hpe];exact hS
   have HG:Hid (w.grownBy wr (some gc)):=hG;have hkn:¬(k:Int)<(n:Int):=by omega
   clear hS hG hN hpe;go_wp2;go_end0;exact⟨rfl,HS.out,HG.out⟩
theorem af8(w:World)(B sb gc n cc:Nat)(pv rv bv:Value)(ah aa aj:Int)(t:List Int)(h:aA w B sb gc n cc pv rv bv ah aa aj t)(hn:n<=1000)(mG:0<=ah):
  Calls prog 153 #[.pointer (some ⟨sb,0,none⟩)] w fun e w'=>e= .returned (.tuple #[])/\aA w' B sb gc n cc pv rv bv ah aa aj (pass (wR (ah%2)) g3 () t)/\w.grownBy w' (some gc):=by
 have cK:Hid (aA w B sb gc n cc pv rv bv ah aa aj t):=h;have HL:Hid (t.length=n):=h.len;have c2:=h.f2;have c5:=h.f5;clear h;go_enter func153,ntmps153;go_wp2;clear c2 c5;go_loopg [9] n (fun gk iv wr=>∃(k:Nat)(s:Unit)(t':List Int),k<=n/\gk=n - k/\iv= .int .i64 k/\aA wr B sb gc n cc pv rv bv ah aa aj t'/\w.grownBy wr (some gc)/\bz (wR (ah%2)) g3 () t k s t');case atStart=>exact⟨0,(),t,by omega,rfl,rfl,cK.out,World.grownBy.refl _ _,bz.start _ _ _ _⟩
 case round=>
  clear cK;obtain⟨k,s,t',hk,rfl,rfl,hS,hG,hN⟩:=hrel;by_cases hlt:k<n
  .obtain⟨c,rest,hcell,hfr,c2,hkn,bQ,bY⟩:=hS.ready hN HL.out hlt;have HS:Hid (aA wr B sb gc n cc pv rv bv ah aa aj t'):=hS;have HG:Hid (w.grownBy wr (some gc)):=hG;clear hS hG hN;have c4:=HS.out.f4;cases hb:jY c
   .have HB:Hid (jY c=false):=hb;have HK:=bQ () (by rw [wR,yP,if_neg (by rw [hb];decide)]) rfl;clear bQ bY hb;go_wp2_with fail;refine(Kq c _).mono ?_;rintro ev wx ⟨rfl,hx⟩;have hx':=hx.symm;subst hx';rw [HB.out];go_wp2;go_roundg (n - (k+1));case measure=>omega
    case rel=>exact⟨k+1,(),_,by omega,rfl,by go_num,HS.out,HG.out,HK.out⟩
   .have HB:Hid (jY c=true):=hb;have HK:=bY (ah%2) () (by rw [wR,yP,if_pos hb]) rfl;clear bQ bY hb;go_wp2_with fail;refine(Kq c _).mono ?_;rintro ev wx ⟨rfl,hx⟩;have hx':=hx.symm;subst hx';rw [HB.out];go_wp2_with fail
    go_region_with (go_at_call 96;refine(xJ ah _ mG).mono ?_;rintro ev wx ⟨rfl,hx⟩;subst hx)
    all_goals
     go_wp2;go_roundg (n - (k+1));case measure=>omega
     case rel=>exact⟨k+1,(),_,by omega,rfl,by go_num,(HS.out.below (Below.refl _ _).drew).set k (ah%2),(HG.out.trans zL).trans ((HS.out.below (Below.refl _ _).drew).grown k (ah%2)),HK.out⟩
  .have hpe:t'=pass (wR (ah%2)) g3 () t:=hN.stop (by rw [HL.out];exact hlt);have HS:Hid (aA wr B sb gc n cc pv rv bv ah aa aj (pass (wR (ah%2)) g3 () t)):=by rw [<-hpe];exact hS
   have HG:Hid (w.grownBy wr (some gc)):=hG;have hkn:¬(k:Int)<(n:Int):=by omega
   clear hS hG hN hpe;go_wp2;go_end0;exact⟨rfl,HS.out,HG.out⟩
theorem ajC(w:World)(B sb gc n cc:Nat)(pv rv bv:Value)(ah aa aj:Int)(t:List Int)(h:aA w B sb gc n cc pv rv bv ah aa aj t)(hn:n<=1000)(hso:aa=0∨aa=1):
  Calls prog 144 #[.pointer (some ⟨sb,0,none⟩)] w fun e w'=>e= .returned (.tuple #[])/\aA w' B sb gc n cc pv rv bv ah aa aj (pass (f1 aa) (g1 aa) none t)/\w.grownBy w' (some gc):=by
 have cK:Hid (aA w B sb gc n cc pv rv bv ah aa aj t):=h;have HL:Hid (t.length=n):=h.len;have c2:=h.f2;have c5:=h.f5;clear h;go_enter func144,ntmps144;go_wp2;clear c2 c5;go_loopg [10] n (fun gk iv wr=>∃(k:Nat)(s:Option Int)(t':List Int),k<=n/\gk=n - k/\iv= .int .i64 k/\aA wr B sb gc n cc pv rv bv ah aa aj t'/\w.grownBy wr (some gc)/\bz (f1 aa) (g1 aa) none t k s t'/\Ahead t' k s);case atStart=>exact⟨0,none,t,by omega,rfl,rfl,cK.out,World.grownBy.refl _ _,bz.start _ _ _ _,Ahead.start _⟩
 case round=>
  clear cK;obtain⟨k,s,t',hk,rfl,rfl,hS,hG,hN,hA⟩:=hrel;by_cases hlt:k<n
  .have hlt':k<t.length:=by rw [HL.out];exact hlt
   have hcell:=hS.at k hlt;rw [hN.at k (Nat.le_refl _)]at hcell;have hfr:=hS.frozen k;have c2:=hS.f2;have hkn:(k:Int)<(n:Int):=by omega
   have HS:Hid (aA wr B sb gc n cc pv rv bv ah aa aj t'):=hS;have HG:Hid (w.grownBy wr (some gc)):=hG;have bQ:∀s',t.getD k 0=(f1 aa) s (t.getD k 0) (t.drop (k+1))->s'=(g1 aa) s (t.getD k 0) (t.drop (k+1))->Hid (bz (f1 aa) (g1 aa) none t (k+1) s' t'):=fun s' h1 h2=>hN.stay hlt' s' h1 h2
   have bY:∀v s',v=(f1 aa) s (t.getD k 0) (t.drop (k+1))->s'=(g1 aa) s (t.getD k 0) (t.drop (k+1))->Hid (bz (f1 aa) (g1 aa) none t (k+1) s' (t'.set k v)):=fun v s' h1 h2=>hN.step hlt' v s' h1 h2
   have htl:t'.length=n:=hS.len;have hat:dS aa aj t' ((k:Int) - 1)=s.getD aa:=by
    rcases hA with⟨rfl,rfl⟩|⟨h0,rfl⟩
    .rfl
    .rw [dS,if_neg (by omega),if_neg (by rw [hS.len];omega),show((k:Int) - 1).toNat=k - 1 by omega];rfl
   have hset:∀v,Ahead (t'.set k v) (k+1) (some v):=fun v=>Ahead.set v (by rw [hS.len];exact hlt)
   have Eb:Ahead t' (k+1) (some (t.getD k 0)):=by have:=Ahead.stay (t':=t') (k:=k);rw [hN.at k (Nat.le_refl _)]at this;exact this
   have ji:Hid (Calls prog 207 #[.pointer (some ⟨sb,0,none⟩),.int .i64 ((k:Int) - 1)] wr fun e w'=>e= .returned (.int .i64 (s.getD aa))/\w'=wr):=by rw [<-hat];exact Kl wr B sb gc n cc pv rv bv ah aa aj t' hS _
   clear hat hA;clear hS hG hN;generalize t.drop (k+1)=rest at*;generalize t.getD k 0=c at*;by_cases h8:c=8
   .subst h8;obtain⟨a,ha⟩:∃a,a=(s.getD aa):=⟨_,rfl⟩
    rw [<-ha]at ji;have hv:f1 aa s 8 rest=if aG a=true∨a=21 then 12 else a:=by
     unfold f1;rw [if_pos rfl];cases s with
     |none=>rw [Option.getD_none]at ha;subst ha;rw [if_neg];rintro(h|h);(rcases hso with rfl|rfl<;>cases h);omega
     |some p=>rw [Option.getD_some]at ha;subst ha;rfl
    cases hi:aG a
    .by_cases h21:a=21
     .rw [if_pos (.inr h21)]at hv;subst h21;have HK:=bY 12 (some 12) hv.symm (by rw [g1,hv]);have HA:Hid _:=hset 12;clear bQ bY hset Eb hv ha hi;go_wp2_with fail;refine ji.out.mono ?_;rintro ev wx ⟨rfl,hx⟩;have hx':=hx.symm;subst hx';go_wp2_with fail;refine(kH 21 _).mono ?_;rintro ev wx ⟨rfl,hx⟩;have hx':=hx.symm;subst hx';rw [show aG 21=false from rfl];go_wp2;go_roundg (n - (k+1));case measure=>omega
      case rel=>exact⟨k+1,some 12,_,by omega,rfl,by go_num,HS.out.set k 12,HG.out.trans (HS.out.grown k 12),HK.out,HA.out⟩
     .rw [if_neg (by rw [hi];rintro(h|h);cases h;exact h21 h)]at hv;have IC:(a==21)=false:=by simpa using h21
      have HK:=bY a (some a) hv.symm (by rw [g1,hv]);have HA:Hid _:=hset a;have HI:Hid (aG a=false):=hi;clear bQ bY hset Eb hv ha hi;go_wp2_with fail;refine ji.out.mono ?_;rintro ev wx ⟨rfl,hx⟩;have hx':=hx.symm;subst hx';go_wp2_with fail;refine(kH a _).mono ?_;rintro ev wx ⟨rfl,hx⟩;have hx':=hx.symm;subst hx';rw [HI.out];go_wp2;go_roundg (n - (k+1));case measure=>omega
      case rel=>exact⟨k+1,some a,_,by omega,rfl,by go_num,HS.out.set k a,HG.out.trans (HS.out.grown k a),HK.out,HA.out⟩
    .rw [if_pos (.inl hi)]at hv;have HK:=bY 12 (some 12) hv.symm (by rw [g1,hv]);have HA:Hid _:=hset 12;have HI:Hid (aG a=true):=hi;clear bQ bY hset Eb hv ha hi;go_wp2_with fail;refine ji.out.mono ?_;rintro ev wx ⟨rfl,hx⟩;have hx':=hx.symm;subst hx';go_wp2_with fail;refine(kH a _).mono ?_;rintro ev wx ⟨rfl,hx⟩;have hx':=hx.symm;subst hx';rw [HI.out];go_wp2;go_roundg (n - (k+1));case measure=>omega
     case rel=>exact⟨k+1,some 12,_,by omega,rfl,by go_num,HS.out.set k 12,HG.out.trans (HS.out.grown k 12),HK.out,HA.out⟩
   .have q8:(c !=8)=true:=by simpa using h8
    have HK:=bQ (some c) (Tn h8).symm (by rw [g1,Tn h8]);have HA:Hid _:=Eb;clear bQ bY hset Eb ji;go_wp2;go_roundg (n - (k+1));case measure=>omega
    case rel=>exact⟨k+1,some c,_,by omega,rfl,by go_num,HS.out,HG.out,HK.out,HA.out⟩
  .have hpe:t'=pass (f1 aa) (g1 aa) none t:=hN.stop (by rw [HL.out];exact hlt);have HS:Hid (aA wr B sb gc n cc pv rv bv ah aa aj (pass (f1 aa) (g1 aa) none t)):=by rw [<-hpe];exact hS
   have HG:Hid (w.grownBy wr (some gc)):=hG;have hkn:¬(k:Int)<(n:Int):=by omega
   clear hS hG hN hpe;go_wp2;go_end0;exact⟨rfl,HS.out,HG.out⟩
structure Bd(n kb kt:Nat)(cb ct:Array Value){σ:Type}(J:Nat->σ->World->Prop)(rP:σ->Nat->Bool):Prop where
 asks:∀x a W (i:Nat),J a x W->a<=i->i<n->Calls prog kb (#[.int .i64 i]++cb) W fun e W'=>e= .returned (.bool (rP x i))/\J a x W'
 skip:∀x a W,J a x W->a<n->rP x a=false->∃x',J (a+1) x' W
 tell:∀x a b W,J a x W->a<b->b<=n->(∀j,a<=j->j<b->rP x j=true)->(b<n->rP x b=false)->Calls prog kt (#[.int .i64 a,.int .i64 b]++ct) W fun e W'=>e= .returned (.tuple #[])/\∃x',J (b+1) x' W'
theorem Gd(n kb kt:Nat)(cb ct:Array Value){σ:Type}(J:Nat->σ->World->Prop)(rP:σ->Nat->Bool)(hn:n<=1000)(h:Bd n kb kt cb ct J rP)(eb:∀args w,(callFunc kb args).run prog w= .ok (.enter kb args) w)(et:∀args w,(callFunc kt args).run prog w= .ok (.enter kt args) w)(x0:σ)(w:World)(h0:J 0 x0 w):
  Calls prog 97 #[.int .i64 n,.func (.func kb) #[] cb,.func (.func kt) #[] ct] w fun e w'=>e= .returned (.tuple #[])/\∃k x,n<=k/\J k x w':=by
 have HR:Hid (Bd n kb kt cb ct J rP):=h;have HJ:Hid (J 0 x0 w):=h0;clear h h0;go_enter func97,ntmps97;go_wp2;go_loopg [6] (n+1) (fun gh fv W=>∃(a:Nat)(x:σ),a<=n+1/\gh=n+1 - a/\fv= .int .i64 a/\J a x W);case atStart=>exact⟨0,x0,by omega,rfl,rfl,HJ.out⟩
 case round=>
  clear HJ;obtain⟨a,x,ha,rfl,rfl,hJ⟩:=hrel;have HJ:Hid (J a x wr):=hJ;clear hJ;by_cases hlt:a<n
  .have hlt':(a:Int)<(n:Int):=by omega
   obtain⟨W1,hW1⟩:∃W1,W1=wr:=⟨_,rfl⟩
   subst hW1;go_wp2;go_loopg [7] (n - a) (fun gh tv W=>∃b:Nat,a<=b/\b<=n/\gh=n - b/\tv= .int .i64 b/\J a x W/\∀j,a<=j->j<b->rP x j=true);case atStart=>exact⟨a,by omega,by omega,rfl,rfl,HJ.out,fun j h1 h2=>by omega⟩
   case round=>
    clear HJ;obtain⟨b,hab,hbn,rfl,rfl,hJ,hall⟩:=hrel;have HA:Hid (∀j,a<=j->j<b->rP x j=true):=hall;clear hall;by_cases hb:b<n
    .have hb':(b:Int)<(n:Int):=by omega
     cases hq:rP x b
     .have HC:Hid (Calls prog kb (#[.int .i64 b]++cb) wr fun e W'=>e= .returned (.bool false)/\J a x W'):=by have:=HR.out.asks x a wr b hJ hab hb;rw [hq]at this;exact this
      have HF:Hid (b<n->rP x b=false):=fun _=>hq
      clear hJ hq;go_wp2_with fail;refine HC.out.mono ?_;rintro ev w2 ⟨rfl,hJ2⟩;have HJ2:Hid (J a x w2):=hJ2;clear hJ2 HC;by_cases hgt:a<b
      .have UY:(a:Int)<(b:Int):=by omega
       have HT:Hid (Calls prog kt (#[.int .i64 a,.int .i64 b]++ct) w2 fun e W'=>e= .returned (.tuple #[])/\∃x',J (b+1) x' W'):=HR.out.tell x a b w2 HJ2.out hgt hbn HA.out HF.out;go_wp2_with fail;refine HT.out.mono ?_;rintro ev w3 ⟨rfl,x3,hJ3⟩;have vZ:Hid (J (b+1) x3 w3):=hJ3;clear hJ3 HT;go_wp2;go_roundg (n+1 - (b+1));case measure=>omega
       case rel=>exact⟨b+1,x3,by omega,rfl,by go_num,vZ.out⟩
      .have UY:¬(a:Int)<(b:Int):=by omega
       obtain rfl:a=b:=by omega
       obtain⟨x3,hJ3⟩:=HR.out.skip x a w2 HJ2.out hb (HF.out hb);have vZ:Hid (J (a+1) x3 w2):=hJ3;clear hJ3;go_wp2;go_roundg (n+1 - (a+1));case measure=>omega
       case rel=>exact⟨a+1,x3,by omega,rfl,by go_num,vZ.out⟩
     .have HC:Hid (Calls prog kb (#[.int .i64 b]++cb) wr fun e W'=>e= .returned (.bool true)/\J a x W'):=by have:=HR.out.asks x a wr b hJ hab hb;rw [hq]at this;exact this
      have HA2:Hid (∀j,a<=j->j<b+1->rP x j=true):=fun j h1 h2=>by
       rcases Nat.lt_or_ge j b with h|h
       .exact HA.out j h1 h
       .rw [show j=b by omega];exact hq
      clear hJ hq;go_wp2_with fail;refine HC.out.mono ?_;rintro ev w2 ⟨rfl,hJ2⟩;have HJ2:Hid (J a x w2):=hJ2;clear hJ2 HC;go_wp2;go_roundg (n - (b+1));case measure=>omega
      case rel=>exact⟨b+1,by omega,by omega,rfl,by go_num,HJ2.out,HA2.out⟩
    .obtain rfl:b=n:=by omega
     have UY:(a:Int)<(b:Int):=hlt';have hb':¬(b:Int)<(b:Int):=by omega
     have HT:Hid (Calls prog kt (#[.int .i64 a,.int .i64 b]++ct) wr fun e W'=>e= .returned (.tuple #[])/\∃x',J (b+1) x' W'):=HR.out.tell x a b wr hJ hlt hbn HA.out (fun h=>absurd h hb);clear hJ;go_wp2_with fail;refine HT.out.mono ?_;rintro ev w3 ⟨rfl,x3,hJ3⟩;have vZ:Hid (J (b+1) x3 w3):=hJ3;clear hJ3 HT;go_wp2;go_roundg (b+1 - (b+1));case measure=>omega
     case rel=>exact⟨b+1,x3,by omega,rfl,by go_num,vZ.out⟩
  .have hlt':¬(a:Int)<(n:Int):=by omega
   go_wp2;go_end0;exact⟨rfl,a,by omega,x,HJ.out⟩
theorem Tv(t:List Int)(k:Nat):∀m,wP t k m=dI t k 3 m
 |0=>rfl
 |m+1=>by rw [wP,dI,Tv t k m]
theorem Zi(w:World)(B sb gc n cc:Nat)(pv rv bv:Value)(ah aa aj:Int)(t:List Int)(h:aA w B sb gc n cc pv rv bv ah aa aj t)(hn:n<=1000)(a b:Nat)(c:Int)(hab:a<=b)(hb:b<=n):
  Calls prog 210 #[.pointer (some ⟨sb,0,none⟩),.int .i64 a,.int .i64 b,.int .i64 c] w fun e w'=>e= .returned (.tuple #[])/\aA w' B sb gc n cc pv rv bv ah aa aj (dI t a c (b - a))/\w.grownBy w' (some gc):=by
 have cK:Hid (aA w B sb gc n cc pv rv bv ah aa aj t):=h;clear h;go_enter func210,ntmps210;go_wp2;go_loopg [8] (b - a) (fun gk iv wr=>∃m:Nat,a+m<=b/\gk=b - a - m/\iv= .int .i64 ((a+m:Nat):Int)/\aA wr B sb gc n cc pv rv bv ah aa aj (dI t a c m)/\w.grownBy wr (some gc));case atStart=>exact⟨0,by omega,rfl,rfl,cK.out,World.grownBy.refl _ _⟩
 case round=>
  clear cK;obtain⟨m,hm,rfl,rfl,hS,hG⟩:=hrel;by_cases hlt:a+m<b
  .have hcell:=hS.at (a+m) (by omega);have hfr:=hS.frozen (a+m);have c2:=hS.f2;have HS:Hid (aA wr B sb gc n cc pv rv bv ah aa aj (dI t a c m)):=hS;have HG:Hid (w.grownBy wr (some gc)):=hG;have h1:(a:Int)+(m:Int)<(b:Int):=by omega
   have h2:(a:Int)+(m:Int)<(n:Int):=by omega
   clear hS hG;generalize(dI t a c m).getD (a+m) 0=q at*;go_wp2;go_roundg (b - a - (m+1));case measure=>omega
   case rel=>exact⟨m+1,by omega,rfl,by go_num,HS.out.set (a+m) c,HG.out.trans (HS.out.grown (a+m) c)⟩
  .have h1:¬(a:Int)+(m:Int)<(b:Int):=by omega
   have e:m=b - a:=by omega
   have HS:Hid (aA wr B sb gc n cc pv rv bv ah aa aj (dI t a c (b - a))):=by rw [<-e];exact hS
   have HG:Hid (w.grownBy wr (some gc)):=hG;clear hS hG;go_wp2;go_end0;exact⟨rfl,HS.out,HG.out⟩
theorem aA.boxed {w:World}{B sb gc n cc bx:Nat}{pv rv bv:Value}{ah aa aj:Int}{t:List Int}(h:aA w B sb gc n cc pv rv bv ah aa aj t)(hb:w.heap[bx]? =some (.cells #[.pointer (some ⟨sb,0,none⟩)] 146 (0,0))):gc≠bx:=by
 rcases h.row.2 with⟨e,_⟩|⟨g,cp,cur,e,_,hh,_⟩
 .cases e
 .injection e with e1
  injection e1 with e4
  injection e4 with e5
  subst e5;intro e;rw [e,hb]at hh;simp at hh
theorem ae4(w:World)(B sb gc n cc bx:Nat)(pv rv bv:Value)(ah aa aj:Int)(t:List Int)(h:aA w B sb gc n cc pv rv bv ah aa aj t)(hb:w.heap[bx]? =some (.cells #[.pointer (some ⟨sb,0,none⟩)] 146 (0,0)))(i:Nat)(hi:i<n):
  Calls prog 208 #[.int .i64 i,.pointer (some ⟨bx,0,none⟩)] w fun e w'=>e= .returned (.bool (t.getD i 0==5))/\w'=w:=by
 have c2:=h.f2;have ci:=h.at i hi;have cb:w.cell? ⟨bx,0,none⟩=some (.pointer (some ⟨sb,0,none⟩)):=au hb 0;have hi':(i:Int)<(n:Int):=by omega
 clear h hb;generalize t.getD i 0=c at*;go_enter func208,ntmps208;go_wp2;go_ret;exact⟨rfl,rfl⟩
theorem ajg(w:World)(B sb gc n cc bx:Nat)(pv rv bv:Value)(ah aa aj:Int)(t:List Int)(h:aA w B sb gc n cc pv rv bv ah aa aj t)(hn:n<=1000)(hb:w.heap[bx]? =some (.cells #[.pointer (some ⟨sb,0,none⟩)] 146 (0,0)))(a b:Nat)(hab:a<=b)(hbn:b<=n):
  Calls prog 209 #[.int .i64 a,.int .i64 b,.pointer (some ⟨bx,0,none⟩)] w fun e w'=>e= .returned (.tuple #[])/\aA w' B sb gc n cc pv rv bv ah aa aj (if dS aa aj t ((a:Int) - 1)=3∨dS aa aj t b=3 then dI t a 3 (b - a)else t)/\w.grownBy w' (some gc):=by
 have cb:w.cell? ⟨bx,0,none⟩=some (.pointer (some ⟨sb,0,none⟩)):=au hb 0;have HA:Hid (∀j:Int,Calls prog 207 #[.pointer (some ⟨sb,0,none⟩),.int .i64 j] w fun e w'=>e= .returned (.int .i64 (dS aa aj t j))/\w'=w):=fun j=>Kl w B sb gc n cc pv rv bv ah aa aj t h j
 have HT:Hid (Calls prog 210 #[.pointer (some ⟨sb,0,none⟩),.int .i64 a,.int .i64 b,.int .i64 3] w fun e w'=>e= .returned (.tuple #[])/\aA w' B sb gc n cc pv rv bv ah aa aj (dI t a 3 (b - a))/\w.grownBy w' (some gc)):=Zi w B sb gc n cc pv rv bv ah aa aj t h hn a b 3 hab hbn;have HS:Hid (aA w B sb gc n cc pv rv bv ah aa aj t):=h;clear h hb;have H1:Hid (Calls prog 207 #[.pointer (some ⟨sb,0,none⟩),.int .i64 ((a:Int) - 1)] w fun e w'=>e= .returned (.int .i64 (dS aa aj t ((a:Int) - 1)))/\w'=w):=HA.out _;have H2:Hid (Calls prog 207 #[.pointer (some ⟨sb,0,none⟩),.int .i64 b] w fun e w'=>e= .returned (.int .i64 (dS aa aj t b))/\w'=w):=HA.out _;clear HA;generalize dS aa aj t ((a:Int) - 1)=x at*;generalize dS aa aj t b=y at*;by_cases hx:x=3
 .rw [if_pos (.inl hx)];subst hx;go_enter func209,ntmps209;go_wp2_with fail;refine H1.out.mono ?_;rintro ev wx ⟨rfl,hx⟩;have hx':=hx.symm;subst hx';go_wp2_with fail;refine HT.out.mono ?_;rintro ev w2 ⟨rfl,hS2,hG2⟩;have HS2:Hid _:=hS2;have HG2:Hid (w.grownBy w2 (some gc)):=hG2;clear hS2 hG2;go_wp2;go_end0;exact⟨rfl,HS2.out,HG2.out⟩
 .have qx:(x==3)=false:=by simpa using hx
  by_cases hy:y=3
  .rw [if_pos (.inr hy)];subst hy;go_enter func209,ntmps209;go_wp2_with fail;refine H1.out.mono ?_;rintro ev wx ⟨rfl,hx⟩;have hx':=hx.symm;subst hx';go_wp2_with fail;refine H2.out.mono ?_;rintro ev wx ⟨rfl,hx⟩;have hx':=hx.symm;subst hx';go_wp2_with fail;refine HT.out.mono ?_;rintro ev w2 ⟨rfl,hS2,hG2⟩;have HS2:Hid _:=hS2;have HG2:Hid (w.grownBy w2 (some gc)):=hG2;clear hS2 hG2;go_wp2;go_end0;exact⟨rfl,HS2.out,HG2.out⟩
  .rw [if_neg (by omega)];have qy:(y==3)=false:=by simpa using hy
   go_enter func209,ntmps209;go_wp2_with fail;refine H1.out.mono ?_;rintro ev wx ⟨rfl,hx⟩;have hx':=hx.symm;subst hx';go_wp2_with fail;refine H2.out.mono ?_;rintro ev wx ⟨rfl,hx⟩;have hx':=hx.symm;subst hx';go_wp2;go_end0;exact⟨rfl,HS.out,World.grownBy.refl _ _⟩
theorem ae0(w:World)(B sb gc n cc bx:Nat)(pv rv bv:Value)(ah aa aj:Int)(t:List Int)(h:aA w B sb gc n cc pv rv bv ah aa aj t)(hb:w.heap[bx]? =some (.cells #[.pointer (some ⟨sb,0,none⟩)] 146 (0,0)))(i:Nat)(hi:i<n):
  Calls prog 214 #[.int .i64 i,.pointer (some ⟨bx,0,none⟩)] w fun e w'=>e= .returned (.bool (jY (t.getD i 0)))/\w'=w:=by
 have c2:=h.f2;have ci:=h.at i hi;have cb:w.cell? ⟨bx,0,none⟩=some (.pointer (some ⟨sb,0,none⟩)):=au hb 0;have hi':(i:Int)<(n:Int):=by omega
 clear h hb;generalize t.getD i 0=c at*;go_enter func214,ntmps214;go_wp2_with fail;refine(Kq c _).mono ?_;rintro ev wx ⟨rfl,hx⟩;have hx':=hx.symm;subst hx';go_wp2;go_ret;exact⟨rfl,rfl⟩
theorem ajf(w:World)(B sb gc n cc bx:Nat)(pv rv bv:Value)(ah aa aj:Int)(t:List Int)(h:aA w B sb gc n cc pv rv bv ah aa aj t)(hn:n<=1000)(hb:w.heap[bx]? =some (.cells #[.pointer (some ⟨sb,0,none⟩)] 146 (0,0)))(a b:Nat)(hab:a<=b)(hbn:b<=n):
  Calls prog 216 #[.int .i64 a,.int .i64 b,.pointer (some ⟨bx,0,none⟩)] w fun e w'=>e= .returned (.tuple #[])/\aA w' B sb gc n cc pv rv bv ah aa aj (if bC (dS aa aj t ((a:Int) - 1))=bC (dS aa aj t b)then dI t a (bC (dS aa aj t ((a:Int) - 1))) (b - a)else t)/\w.grownBy w' (some gc):=by
 have cb:w.cell? ⟨bx,0,none⟩=some (.pointer (some ⟨sb,0,none⟩)):=au hb 0;have HA:Hid (∀j:Int,Calls prog 207 #[.pointer (some ⟨sb,0,none⟩),.int .i64 j] w fun e w'=>e= .returned (.int .i64 (dS aa aj t j))/\w'=w):=fun j=>Kl w B sb gc n cc pv rv bv ah aa aj t h j
 have HT:Hid (∀d:Int,Calls prog 210 #[.pointer (some ⟨sb,0,none⟩),.int .i64 a,.int .i64 b,.int .i64 d] w fun e w'=>e= .returned (.tuple #[])/\aA w' B sb gc n cc pv rv bv ah aa aj (dI t a d (b - a))/\w.grownBy w' (some gc)):=fun d=>Zi w B sb gc n cc pv rv bv ah aa aj t h hn a b d hab hbn
 have HS:Hid (aA w B sb gc n cc pv rv bv ah aa aj t):=h;clear h hb;have H1:Hid (Calls prog 207 #[.pointer (some ⟨sb,0,none⟩),.int .i64 ((a:Int) - 1)] w fun e w'=>e= .returned (.int .i64 (dS aa aj t ((a:Int) - 1)))/\w'=w):=HA.out _;have H2:Hid (Calls prog 207 #[.pointer (some ⟨sb,0,none⟩),.int .i64 b] w fun e w'=>e= .returned (.int .i64 (dS aa aj t b))/\w'=w):=HA.out _;clear HA;generalize dS aa aj t ((a:Int) - 1)=x at*;generalize dS aa aj t b=y at*;have HX:Hid (∀W,Calls prog 217 #[.int .i64 x] W fun e w'=>e= .returned (.int .i64 (bC x))/\w'=W):=fun W=>FO x W
 have HY:Hid (∀W,Calls prog 217 #[.int .i64 y] W fun e w'=>e= .returned (.int .i64 (bC y))/\w'=W):=fun W=>FO y W
 generalize bC x=sx at*;generalize bC y=sy at*;by_cases hx:sx=sy
 .rw [if_pos hx];subst hx;go_enter func216,ntmps216;go_wp2_with fail;refine H1.out.mono ?_;rintro ev wx ⟨rfl,hx⟩;have hx':=hx.symm;subst hx';go_wp2_with fail;refine(HX.out _).mono ?_;rintro ev wx ⟨rfl,hx⟩;have hx':=hx.symm;subst hx';go_wp2_with fail;refine H2.out.mono ?_;rintro ev wx ⟨rfl,hx⟩;have hx':=hx.symm;subst hx';go_wp2_with fail;refine(HY.out _).mono ?_;rintro ev wx ⟨rfl,hx⟩;have hx':=hx.symm;subst hx';go_wp2_with fail;refine(HT.out _).mono ?_;rintro ev w2 ⟨rfl,hS2,hG2⟩;have HS2:Hid _:=hS2;have HG2:Hid (w.grownBy w2 (some gc)):=hG2;clear hS2 hG2;go_wp2;go_end0;exact⟨rfl,HS2.out,HG2.out⟩
 .rw [if_neg hx];have qx:(sx==sy)=false:=by simpa using hx
  go_enter func216,ntmps216;go_wp2_with fail;refine H1.out.mono ?_;rintro ev wx ⟨rfl,hx⟩;have hx':=hx.symm;subst hx';go_wp2_with fail;refine(HX.out _).mono ?_;rintro ev wx ⟨rfl,hx⟩;have hx':=hx.symm;subst hx';go_wp2_with fail;refine H2.out.mono ?_;rintro ev wx ⟨rfl,hx⟩;have hx':=hx.symm;subst hx';go_wp2_with fail;refine(HY.out _).mono ?_;rintro ev wx ⟨rfl,hx⟩;have hx':=hx.symm;subst hx';go_wp2;go_end0;exact⟨rfl,HS.out,World.grownBy.refl _ _⟩
