import Derived.Test.YtkbinfhclaafhaaGreatDoorH34
import Derived.Test.YtkbinfhclaafhaaGreatDoorH35
import Derived.Test.YtkbinfhclaafhaaGreatDoorH26
import Derived.Test.YtkbinfhclaafhaaGreatDoorH39
import Derived.Test.YtkbinfhclaafhaaGreatDoorH40
import Derived.Test.YtkbinfhclaafhaaGreatDoorH20
namespace Go.Proofs.YtkbinfhclaafhaaGreatDoor
open Go.RowKit
open Go.Proofs.Tryz
set_option maxRecDepth 100000
set_option maxHeartbeats 32000000
structure sU(w:World)(aL aT aC:Addr):Prop where
 env:Env w aL aT aC
 br:Br w
 mx:pQ w
 pe:jl w
 low:10<=w.heap.size
 tz:ny w
theorem sU.below {w w':World}{aL aT aC:Addr}(h:sU w aL aT aC)(hb:Below w.heap.size w w'):sU w' aL aT aC:=
 ⟨h.env.below hb,h.br.below hb,h.mx.below hb,h.pe.below h.low hb,Nat.le_trans h.low hb.size,cO hb h.tz⟩
theorem EM(s:ByteArray)(w:World)(aL aT aC:Addr)(h:sU w aL aT aC):
  Calls prog 21 #[.string s] w fun e w'=>∃t v,e= .returned (.tuple #[.string t,v,Cu s (aQ s)])/\((dD s (aQ s)).1≠0->t=⟨#[]⟩/\v= .slice none 0 0)/\((dD s (aQ s)).1=0->t=dA s (aQ s).1/\w'.ownsRow w.heap.size 66 3 v (aQ s).1.length (bS (aQ s).1))/\Below w.heap.size w w':=
 ahq s w aL aT aC h.env (aQ s) fun W2 hW2=>
  have h2:=h.below hW2
  adS s W2 aL aT aC h2.env h2.br h2.mx h2.pe h2.low (aQ s) (SC s) fun W3 v h0 hW3 hv=>
   have h3:=h2.below hW3
   acK s v _ W3 aL aT aC h3.env h3.mx h3.pe h3.low h3.tz h0 hv
theorem Iy(s:ByteArray)(w:World)(aL aT aC:Addr)(h:sU w aL aT aC):
  Calls prog 22 #[.string s] w fun e w'=>∃v,e= .returned (.tuple #[v,BV s])/\((aZ s).1≠0->v= .slice none 0 0)/\((aZ s).1=0->w'.ownsRow w.heap.size 4 1 v (cB s).length (jo (cB s)))/\Below w.heap.size w w':=
 ahp s w aL aT aC h.env h.br h.mx h.pe h.low
theorem EY {s:ByteArray}{a b c:Int}(h:dD s (aQ s)=(a,b,c)):Cu s (aQ s)= .agg #[.int .i64 a,.int .i64 b,.int .i64 c]:=by unfold Cu;rw [h]
theorem H9 {s:ByteArray}{a b c:Int}(h:aZ s=(a,b,c)):BV s= .agg #[.int .i64 a,.int .i64 b,.int .i64 c]:=by unfold BV;rw [h]
theorem R8(s:ByteArray)(pl:List (List Pc))(hx:TX s pl)(hz:s.size<=600)(w:World)(aL aT aC:Addr)(h:sU w aL aT aC):
  Calls prog 25 #[.string s] w fun e w'=>e= .returned (.string (yo (az s 0 0) (dw s)))/\Below w.heap.size w w':=by
 refine acm s (dw s) (az s 0 0) w ?_ (fun W=>Om s W (by omega)) (Nat.le_trans (EK s) (by decide)) hx.Wu ?_ (hx.qf hz)
 .refine(aho w s 0 h.pe h.low).mono ?_;rintro e w' ⟨v1,v2,l,rfl,h1,h2,hb,hl|hl⟩
  .obtain⟨rfl,_⟩:=hl;exact⟨v1,v2,rfl,h1,h2,hb⟩
  .exfalso;obtain⟨hp,hs,h0⟩:=hl;have hle:=hp.length_le;have:=EK s;omega
 .intro k;rcases Nat.lt_or_ge k (az s 0 0).length with hk|hk
  .have:=Nb s 0 0 _ (dB (d:=(⟨#[]⟩:ByteArray)) hk);omega
  .rw [List.getD_eq_getElem?_getD,List.getElem?_eq_none hk];decide
theorem afI(s:ByteArray):(aZ s).1=0∨(aZ s).1=1∨(aZ s).1=2:=by
 unfold aZ;split
 .exact .inr (.inl rfl)
 .split
  .exact .inr (.inr rfl)
  .split
   .exact .inr (.inl rfl)
   .exact .inl rfl
theorem Uc(w:World)(aL aT aC:Addr)(h:sU w aL aT aC):
  Calls prog 16 #[] w fun e w'=>e= .returned (.bool true)/\Below w.heap.size w w':=by
 refine aea w 20 ?_ (fun W hW=> ?_) (fun W hW=> ?_)
 .refine(EM gs1 w aL aT aC h).mono ?_;rintro e w' ⟨t,v,rfl,h1,_,hb⟩;rw [EY Sw];rw [Sw]at h1;obtain⟨rfl,rfl⟩:=h1 (by decide);exact⟨rfl,hb⟩
 .refine(EM gs2 W aL aT aC (h.below hW)).mono ?_;obtain⟨e1,e2,e3⟩:=ed2;rintro e w' ⟨t,v,rfl,_,h2,hb⟩;rw [EY e1];rw [e1]at h2;obtain⟨rfl,ho⟩:=h2 rfl;rw [e2]at ho;obtain⟨x,c,rfl⟩:=ES ho;rw [e3];exact⟨x,c,rfl,hb⟩
 .refine(Iy GI W aL aT aC (h.below hW)).mono ?_;rintro e w' ⟨v,rfl,_,h2,hb⟩;rw [H9 WK];have ho:=h2 (by rw [WK]);rw [air]at ho;exact⟨v,rfl,ho,hb⟩
theorem adT(s:ByteArray)(w:World)(aL aT aC:Addr)(h:sU w aL aT aC):
  Calls prog 17 #[.string s] w fun e w'=>e= .returned (.bool true)/\Below w.heap.size w w':=by
 obtain⟨F1,F2,F3,hF⟩:∃a b c,dD s (aQ s)=(a,b,c):=⟨_,_,_,rfl⟩
 obtain⟨G1,G2,G3,hG⟩:∃a b c,aZ s=(a,b,c):=⟨_,_,_,rfl⟩
 by_cases h0:F1=0
 .have hF1:(dD s (aQ s)).1=0:=by rw [hF];exact h0
  have hl0:(aZ s).1=0:=by
   by_cases hc:(aZ s).1=0
   .exact hc
   .unfold dD at hF1;rw [if_pos hc]at hF1;exact hF1
  have hq:(aQ s).2.2= -1:=by
   by_cases hc:(aQ s).2.2= -1
   .exact hc
   .unfold dD at hF1;rw [if_neg (fun a=>a hl0),if_neg hc]at hF1;cases hF1
  have hse:dD s (aQ s)=(0,0,0):=by unfold dD;rw [if_neg (fun a=>a hl0),if_pos hq]
  have hlk:aZ s=(0,0,0):=(look_ok hl0).2.1;obtain⟨pl,mg⟩:=aaI s hl0 hq;obtain⟨b1,b2,b3⟩:=SC s hl0;obtain⟨H1,H2,H3,hH⟩:∃a b c,aZ (dA s (aQ s).1)=(a,b,c):=⟨_,_,_,rfl⟩
  have hsz:=mg.size;have hs6:=mg.sz;have hlen:=mg.len;have hlp:=mg.afs;have hH1:(aZ (dA s (aQ s).1)).1=H1:=by rw [hH]
  have hz0:H1=0->(dA s (aQ s).1).size<=600:=fun e=>(look_ok (by rw [hH1];exact e)).1
  have hsl:(cB s).length=pl.length:=by rw [mg.tx.Ct hs6];simp
  have hsg:∀i,(cB s).getD i false=dP s i:=fun i=>rfl
  refine ad7 w s (dA s (aQ s).1) (yo (az s 0 0) (dw s)) (aQ s).1.length (bS (aQ s).1) (cB s) (cB (dA s (aQ s).1)) (az s 0 0) (az (dA s (aQ s).1) 0 0) H1 H2 H3 ⟨?_,fun W hW=> ?_,fun W=>Om s W (by omega),fun W=>Om _ W (by omega),fun W v B0 ho=>Ri s (aQ s).1 v B0 _ W rfl ho b1 b2 b3,fun W hW=>R8 s pl mg.tx hs6 W aL aT aC (h.below hW),fun hz W hW=> ?_,fun W hW=> ?_,fun e W hW=> ?_,?_,mg.tx.Wu,?_,hlen,?_,fun e=> ?_,fun i hi hs=> ?_,fun e i hi=> ?_,?_⟩
  .refine(EM s w aL aT aC h).mono ?_;rintro e w' ⟨t,v,rfl,_,h2,hb⟩;obtain⟨rfl,ho⟩:=h2 hF1;exact⟨v,by rw [EY hse],ho,hb⟩
  .refine(Iy s W aL aT aC (h.below hW)).mono ?_;rintro e w' ⟨v,rfl,_,h2,hb⟩;exact⟨v,by rw [H9 hlk],h2 hl0,hb⟩
  .rw [<-mg.code hz];exact R8 _ _ mg.mt hz W aL aT aC (h.below hW)
  .refine(Iy _ W aL aT aC (h.below hW)).mono ?_;rintro e w' ⟨v,rfl,_,h2,hb⟩;exact⟨v,by rw [H9 hH],fun e=>h2 (by rw [hH1];exact e),hb⟩
  .have hz:=hz0 e;have hag:=mg.again hz;have VA:dD (dA s (aQ s).1) (aQ (dA s (aQ s).1))=(0,0,0):=by
    unfold dD;rw [if_neg (fun a=>a (by rw [hH1];exact e)),hag];rfl
   refine(EM _ W aL aT aC (h.below hW)).mono ?_;rintro e w' ⟨t,v,rfl,_,h2,hb⟩;obtain⟨rfl,ho⟩:=h2 (by rw [VA]);rw [hag]at ho;obtain⟨x,c,rfl⟩:=ES ho;refine⟨x,c,?_,hb⟩;rw [EY VA,hag,Rh];rfl
  .rw [<-hH1];exact mg.look.2
  .have:=Ep s 0 0 (by omega);omega
  .rw [hsl,hlp]
  .rw [mg.Wp (hz0 e),hlp]
  .exact(mg.same i (by rw [<-hlp];exact hi) hs).symm
  .exact mg.Za (hz0 e) i (by rw [<-mg.Wp (hz0 e)];exact hi)
  .by_cases ha:∀i,i<pl.length->dP s i=true
   .obtain⟨a1,a2⟩:=mg.aaP ha;refine .inl ⟨?_,a2.symm,by rw [a1];rfl⟩;rw [List.all_eq_true];intro x hx;obtain⟨i,hi,rfl⟩:=List.getElem_of_mem hx;have:=ha i (by rw [<-hsl];exact hi);rw [<-hsg,List.getD_eq_getElem?_getD,List.getElem?_eq_getElem hi]at this;exact this
   .obtain⟨i,hi⟩:=Classical.not_forall.1 ha;obtain⟨hi,hs⟩:=Classical.not_imp.1 hi;have hs:dP s i=false:=by simpa using hs
    obtain⟨a1,a2⟩:=mg.agq i hi hs;refine .inr ⟨?_,fun e=>a2 e.symm,fun e=>a1 (List.length_eq_zero_iff.1 e)⟩;rw [List.all_eq_false];have hi':i<(cB s).length:=by rw [hsl];exact hi
    refine⟨(cB s)[i],List.getElem_mem hi',?_⟩;rw [<-hsg,List.getD_eq_getElem?_getD,List.getElem?_eq_getElem hi']at hs;have hs:(cB s)[i]=false:=hs;rw [hs];decide
 .have hsV:=EY hF;have hlV:=H9 hG;refine adV s F1 F2 F3 G1 G2 G3 w ?_ ?_ (fun W hW=> ?_)
  .have hsm:=afI s;rw [hG]at hsm;simp only at hsm;by_cases hc:(aZ s).1=0
   .left;have hG1:G1=0:=by rw [hG]at hc;exact hc
    unfold dD at hF;rw [if_neg (fun a=>a hc)]at hF;by_cases hq:(aQ s).2.2= -1
    .rw [if_pos hq]at hF;injection hF with e1 e2
     exact absurd e1.symm h0
    .rw [if_neg hq]at hF;injection hF with e1 e2
     exact⟨e1.symm,hG1⟩
   .right;unfold dD at hF;rw [if_pos hc,hG]at hF;injection hF with e1 e2
    injection e2 with e2 e3
    subst e1;subst e2;subst e3;exact⟨by omega,h0,rfl,rfl,rfl⟩
  .refine(EM s w aL aT aC h).mono ?_;rintro e w' ⟨t,v,rfl,h1,_,hb⟩;obtain⟨rfl,rfl⟩:=h1 (by rw [hF];exact h0);exact⟨by rw [hsV],hb⟩
  .refine(Iy s W aL aT aC (h.below hW)).mono ?_;rintro e w' ⟨v,rfl,_,_,hb⟩;exact⟨v,by rw [hlV],hb⟩
theorem ad3(ops:List zA)(b off cap n:Nat)(w:World)(aL aT aC:Addr)(hE:sU w aL aT aC)(hl:ops.length=n)(hn:n<=1000000000000000)(hc:Bc w b off ops):
  Calls prog 11 #[.slice (some ⟨b,off,none⟩) n cap] w fun e w'=>e= .returned (.bool true)/\Below w.heap.size w w':=by
 have HC:Hid (Bc w b off ops):=hc;have HL:Hid (ops.length=n):=hl;have HP:Hid (∀s:ByteArray,∀W,Below w.heap.size w W->Calls prog 17 #[.string s] W fun e W'=>e= .returned (.bool true)/\Below W.heap.size W W'):=fun s W hW=>adT s W aL aT aC (hE.below hW)
 have zu:Hid (Calls prog 16 #[] w fun e w'=>e= .returned (.bool true)/\Below w.heap.size w w'):=Uc w aL aT aC hE;clear hc hl hE;go_enter func11,ntmps11;go_wp2_with fail;refine zu.out.mono ?_;rintro e w1 ⟨rfl,hb1⟩;have HB1:Hid (Below w.heap.size w w1):=hb1;clear hb1 zu;go_wp2;go_loopg [4] n (fun gk i wr=>∃k:Nat,k<=n/\gk=n - k/\i= .int .i64 k/\Below w.heap.size w wr);case atStart=>exact⟨0,Nat.zero_le _,rfl,rfl,HB1.out⟩
 case round=>
  clear HB1;obtain⟨k,hk,rfl,rfl,hb⟩:=hrel;have hbz:=hb.size;have akd:(k:Int)<1152921504606846976:=by omega
  by_cases hlt:k<n
  .have hlt':(k:Int)<(n:Int):=by omega
   have hkl:k<ops.length:=by rw [HL.out];exact hlt
   obtain⟨c0,c1,c2,c3,ao,m,cc,he⟩:=(HC.out.below hb) k hkl;generalize ops[k]=o at*;obtain⟨ok,oa,os,oe⟩:=o;simp only at c0 c1 c2 c3 he;subst he;have Qx:Hid (Calls prog 17 #[.string os] wr fun e W'=>e= .returned (.bool true)/\Below wr.heap.size wr W'):=HP.out os wr hb;clear hkl;go_wp2_with fail;refine Qx.out.mono ?_;rintro e w3 ⟨rfl,hb3⟩;have dL:Hid (Below w.heap.size w w3):=hb.trans (hb3.mono hbz);clear hb3 Qx c0 c1 c2 c3 hb;go_wp2;go_roundg (n - (k+1));case measure=>omega
   case rel=>exact⟨k+1,by omega,rfl,by go_num,dL.out⟩
  .have hlt':¬(k:Int)<(n:Int):=by omega
   go_wp2;go_ret;exact⟨rfl,hb⟩
theorem ad4(ao:Option Addr)(cap:Nat)(w:World)(aL aT aC:Addr)(hE:sU w aL aT aC):
  Calls prog 11 #[.slice ao 0 cap] w fun e w'=>e= .returned (.bool true)/\Below w.heap.size w w':=by
 have zu:Hid (Calls prog 16 #[] w fun e w'=>e= .returned (.bool true)/\Below w.heap.size w w'):=Uc w aL aT aC hE;clear hE;go_enter func11,ntmps11;go_wp2_with fail;refine zu.out.mono ?_;rintro e w1 ⟨rfl,hb1⟩;go_wp2;refine wp_loop_rounds 1 ?_;rw [rounds_succ];go_wp2;go_ret;exact⟨rfl,hb1⟩
