import Derived.Test.YtkbinfhclaafhaaGreatDoorH39
import Derived.WalkSpells
import Derived.Test.YtkbinfhclaafhaaGreatDoorRows
import Derived.LaidByTextLater
import Derived.SevenTiedAt
import Derived.LaidOnce
import Derived.Test.YtkbinfhclaafhaaGreatDoorH20
import Derived.Test.YtkbinfhclaafhaaGreatDoorCards
import Derived.ProofKit
import Derived.OpenShut
import Derived.LaidMore
import Derived.LaidLaws
import Derived.LaidHandle
import Derived.LaidSub
import Derived.Lib.SmallJoins
import Derived.Deep.Slices
import Derived.Deep.Strs
import Derived.Stop.Joined
import Derived.SizedLaws
namespace Go.Proofs.YtkbinfhclaafhaaGreatDoor
open Go.RowKit
open Go.Proofs.Tryz
set_option maxRecDepth 100000
set_option maxHeartbeats 32000000
@[local go_sem] theorem Tryz.aj4 (w:World):(binOp .eql 37 (.slice none 0 0) (.slice none 0 0)).run prog w= .ok (.bool true) w:=run_eql_nil_slice w _ _ none 0 0 0 0 underlying37
theorem adV(s:ByteArray)(F1 F2 F3 G1 G2 G3:Int)(w:World)(h:(F1=3/\G1=0)∨(F1≠3/\F1≠0/\G1=F1/\G2=F2/\G3=F3))
  (hS:Calls prog 21 #[.string s] w fun e w'=>e= .returned (.tuple #[.string ⟨#[]⟩,.slice none 0 0,.agg #[.int .i64 F1,.int .i64 F2,.int .i64 F3]])/\Below w.heap.size w w')
  (hT:∀W,Below w.heap.size w W->Calls prog 22 #[.string s] W fun e w'=>∃v,e= .returned (.tuple #[v,.agg #[.int .i64 G1,.int .i64 G2,.int .i64 G3]])/\Below W.heap.size W w'):
  Calls prog 17 #[.string s] w fun e w'=>e= .returned (.bool true)/\Below w.heap.size w w':=by
 have HT:Hid (∀W,Below w.heap.size w W->Calls prog 22 #[.string s] W fun e w'=>∃v,e= .returned (.tuple #[v,.agg #[.int .i64 G1,.int .i64 G2,.int .i64 G3]])/\Below W.heap.size W w'):=hT;have HS:Hid (Calls prog 21 #[.string s] w fun e w'=>e= .returned (.tuple #[.string ⟨#[]⟩,.slice none 0 0,.agg #[.int .i64 F1,.int .i64 F2,.int .i64 F3]])/\Below w.heap.size w w'):=hS;clear hT hS;go_enter func17,ntmps17;go_wp2_with fail;refine Calls.mono HS.out ?_;rintro ev W1 ⟨rfl,hb1⟩;have hz1:=hb1.size;have HB1:Hid (Below w.heap.size w (W1.alloc (.cells #[.int .i64 F1,.int .i64 F2,.int .i64 F3] 33))):=hb1.alloc hz1 _;clear hb1;go_wp2_with fail;refine Calls.mono (HT.out _ HB1.out) ?_;rintro ev W2 ⟨v2,rfl,hb2⟩;have k0:W2.cell? ⟨W1.heap.size,0,none⟩=some (.int .i64 F1):=by rw [hb2.cell (p:=⟨W1.heap.size,0,none⟩) (by simp)];go_simp
 have k1:W2.cell? ⟨W1.heap.size,1,none⟩=some (.int .i64 F2):=by rw [hb2.cell (p:=⟨W1.heap.size,1,none⟩) (by simp)];go_simp
 have k2:W2.cell? ⟨W1.heap.size,2,none⟩=some (.int .i64 F3):=by rw [hb2.cell (p:=⟨W1.heap.size,2,none⟩) (by simp)];go_simp
 have hz2:W1.heap.size<W2.heap.size:=by have:=hb2.size;simp at this;omega
 have HB2:Hid (Below w.heap.size w W2):=HB1.out.trans (hb2.mono (by simp;omega));have hn2:=HB2.out.size;clear hb2;rcases h with⟨h1,h2⟩|⟨h1,h2,h3,h4,h5⟩
 .subst h1;subst h2;go_wp2;go_ret;exact⟨rfl,HB2.out.alloc hn2 _⟩
 .subst h3;subst h4;subst h5;have e1:(G1==3)=false:=by simpa using h1
  have e2:(G1 !=0)=true:=by simpa using h2
  clear h1 h2;go_wp2;go_ret;exact⟨rfl,HB2.out.alloc hn2 _⟩
theorem Ou {w w':World}{B:Nat}{e:TypeId}{z n:Nat}{v:Value}{xs:List Value}(h:w.ownsRow B e z v n xs)(hb:Below w.heap.size w w'):w'.ownsRow B e z v n xs:=
 kK h fun _ _ _ ho=>aR hb ho
theorem agd {a b:ByteArray}(h:a≠b):(a.toList==b.toList)=false:=by
 rw [beq_eq_false_iff_ne,ByteArray.toList_eq,ByteArray.toList_eq];intro e;exact h (ByteArray.ext (Array.ext' e))
def uK(w:World)(g:Nat)(L:List Bool):Prop:=∀k,k<L.length->w.cell? ⟨g,k,none⟩=some (.bool (L.getD k false))
theorem uK.below {w w':World}{g:Nat}{L:List Bool}(h:uK w g L)(hb:Below w.heap.size w w'):uK w' g L:=fun k hk=>cO hb (h k hk)
theorem Dk {w:World}{B0 g n c:Nat}{e:TypeId}{L:List Bool}(h:w.ownsRow B0 e 1 (.slice (some ⟨g,0,none⟩) n c) n (L.map fun b=> .bool b)):uK w g L:=by
 intro k hk;have:=h.cells (g:=g) rfl k (.bool (L.getD k false)) (by rw [List.getElem?_map,List.getD_eq_getElem?_getD,List.getElem?_eq_getElem hk];rfl)
 rwa [zF]at this
theorem Zt {w:World}{B0 g n c:Nat}{e:TypeId}{L:List ByteArray}(h:w.ownsRow B0 e 1 (.slice (some ⟨g,0,none⟩) n c) n (dN L)):wE w g L:=by
 intro k hk;have:=h.cells (g:=g) rfl k (.string (L.getD k ⟨#[]⟩)) (by rw [dN,List.getElem?_map,List.getD_eq_getElem?_getD,List.getElem?_eq_getElem hk];rfl)
 rwa [zF]at this
theorem aaQ(L:List Bool)(i:Nat)(hi:i<L.length):(L.take (i+1)).all id=((L.take i).all id&&L.getD i false):=by
 rw [List.take_add_one,List.all_append,List.getD_eq_getElem?_getD,List.getElem?_eq_getElem hi];simp
structure GC(w:World)(s t c:ByteArray)(m:Nat)(EV:List Value)(was now:List Bool)(A B:List ByteArray)(H1 H2 H3:Int):Prop where
 s1:Calls prog 21 #[.string s] w fun e w'=>∃v,e= .returned (.tuple #[.string t,v,.agg #[.int .i64 0,.int .i64 0,.int .i64 0]])/\w'.ownsRow w.heap.size 66 3 v m EV/\Below w.heap.size w w'
 s2:∀W,Below w.heap.size w W->Calls prog 22 #[.string s] W fun e w'=>∃v,e= .returned (.tuple #[v,.agg #[.int .i64 0,.int .i64 0,.int .i64 0]])/\w'.ownsRow W.heap.size 4 1 v was.length (was.map fun b=> .bool b)/\Below W.heap.size W w'
 l1:∀W,Calls prog 23 #[.string s] W fun e w'=>∃v,e= .returned v/\w'.ownsRow W.heap.size 9 1 v A.length (dN A)/\Below W.heap.size W w'
 l2:∀W,Calls prog 23 #[.string t] W fun e w'=>∃v,e= .returned v/\w'.ownsRow W.heap.size 9 1 v B.length (dN B)/\Below W.heap.size W w'
 ap:∀W v B0,W.ownsRow B0 66 3 v m EV->Calls prog 24 #[.string s,v] W fun e w'=>e= .returned (.string t)/\Below W.heap.size W w'
 c1:∀W,Below w.heap.size w W->Calls prog 25 #[.string s] W fun e w'=>e= .returned (.string c)/\Below W.heap.size W w'
 c2:t.size<=600->∀W,Below w.heap.size w W->Calls prog 25 #[.string t] W fun e w'=>e= .returned (.string c)/\Below W.heap.size W w'
 s3:∀W,Below w.heap.size w W->Calls prog 22 #[.string t] W fun e w'=>∃v,e= .returned (.tuple #[v,.agg #[.int .i64 H1,.int .i64 H2,.int .i64 H3]])/\(H1=0->w'.ownsRow W.heap.size 4 1 v now.length (now.map fun b=> .bool b))/\Below W.heap.size W w'
 s4:H1=0->∀W,Below w.heap.size w W->Calls prog 21 #[.string t] W fun e w'=>∃x cx,e= .returned (.tuple #[.string t,.slice x 0 cx,.agg #[.int .i64 0,.int .i64 0,.int .i64 0]])/\Below W.heap.size W w'
 hH:H1=0∨H1=1
 a0:0<A.length
 aN:A.length<=1000000
 aB:B.length=A.length
 wA:was.length=A.length
 nB:H1=0->now.length=A.length
 same:∀i,i<A.length->was.getD i false=true->A.getD i ⟨#[]⟩=B.getD i ⟨#[]⟩
 nw:H1=0->∀i,i<now.length->now.getD i false=true
 all:(was.all id=true/\s=t/\m=0)∨(was.all id=false/\s≠t/\m≠0)
theorem ad7(w:World)(s t c:ByteArray)(m:Nat)(EV:List Value)(was now:List Bool)(A B:List ByteArray)(H1 H2 H3:Int)(h:GC w s t c m EV was now A B H1 H2 H3):
  Calls prog 17 #[.string s] w fun e w'=>e= .returned (.bool true)/\Below w.heap.size w w':=by
 have G:Hid (GC w s t c m EV was now A B H1 H2 H3):=h;have oV:=h.a0;have hA1:=h.aN;obtain⟨N,hN⟩:∃N,N=A.length:=⟨_,rfl⟩
 have HA:Hid (A.length=N):=hN.symm;have PU:Hid (B.length=N):=by show _=_;rw [h.aB,hN]
 have Da:Hid (was.length=N):=by show _=_;rw [h.wA,hN]
 rw [<-hN]at oV hA1;clear h hN;go_enter func17,ntmps17;go_wp2_with fail;refine Calls.mono G.out.s1 ?_;rintro ev W1 ⟨v1,rfl,ho1,hb1⟩;have hz1:=hb1.size;have HB1:Hid (Below w.heap.size w (W1.alloc (.cells #[.int .i64 0,.int .i64 0,.int .i64 0] 33))):=hb1.alloc hz1 _;have xX:Hid (W1.ownsRow w.heap.size 66 3 v1 m EV):=ho1;clear hb1 ho1;go_wp2_with fail;refine Calls.mono (G.out.s2 _ HB1.out) ?_;rintro ev W2 ⟨v2,rfl,ho2,hb2⟩;have k0:W2.cell? ⟨W1.heap.size,0,none⟩=some (.int .i64 0):=by rw [hb2.cell (p:=⟨W1.heap.size,0,none⟩) (by simp)];go_simp
 have hz2:W1.heap.size<W2.heap.size:=by have:=hb2.size;simp at this;omega
 have PE:Hid (Below W1.heap.size W1 W2):=((Below.refl W1.heap.size W1).alloc (Nat.le_refl _) _).trans (hb2.mono (by simp));have HB2:Hid (Below w.heap.size w W2):=HB1.out.trans (hb2.mono (by simp;omega));rw [Da.out]at ho2;obtain⟨g2,c2,rfl,hc2⟩:=uD ho2 oV;have HW2:Hid (uK W2 g2 was):=Dk ho2;have hg2:g2<W2.heap.size:=by
  have:=HW2.out 0 (by rw [Da.out];exact oV);unfold World.cell? at this;split at this
  .rename_i hh;exact(Array.getElem?_eq_some_iff.1 hh).1
  .cases this
 clear hb2 ho2;have PK:Hid (Below W2.heap.size W2 (W2.alloc (.cells #[.int .i64 0,.int .i64 0,.int .i64 0] 33))):=(Below.refl _ _).alloc (Nat.le_refl _) _;go_wp2_with fail;refine Calls.mono (G.out.l1 _) ?_;rintro ev W3 ⟨v3,rfl,ho3,hb3⟩;rw [HA.out]at ho3;obtain⟨g3,c3,rfl,hc3⟩:=uD ho3 oV;have q0:W3.cell? ⟨W2.heap.size,0,none⟩=some (.int .i64 0):=by rw [hb3.cell (p:=⟨W2.heap.size,0,none⟩) (by simp)];go_simp
 have gY:Hid (wE W3 g3 A):=Zt ho3;have xP:Hid (Below W2.heap.size W2 W3):=PK.out.trans (hb3.mono (by simp));clear ho3 hb3;go_wp2_with fail;refine Calls.mono (G.out.l2 _) ?_;rintro ev W4 ⟨v4,rfl,G8,hb4⟩;rw [PU.out]at G8;obtain⟨g4,c4,rfl,hc4⟩:=uD G8 oV;have q1:W4.cell? ⟨W2.heap.size,0,none⟩=some (.int .i64 0):=cO hb4 q0;have rE:Hid (wE W4 g4 B):=Zt G8;have CG:Hid (Below W3.heap.size W3 W4):=hb4;have xY:Hid (W4.ownsRow w.heap.size 66 3 v1 m EV):=Ou (Ou (Ou xX.out PE.out) xP.out) hb4;clear G8 hb4 q0;go_wp2_with fail;refine Calls.mono (G.out.ap _ _ _ xY.out) ?_;rintro ev W5 ⟨rfl,hb5⟩;obtain⟨x1,cx1,rfl⟩:=ES xY.out;have q2:W5.cell? ⟨W2.heap.size,0,none⟩=some (.int .i64 0):=cO hb5 q1;have AV:Hid (wE W5 g3 A):=(gY.out.below CG.out).below hb5;have bW:Hid (wE W5 g4 B):=rE.out.below hb5;have QK:Hid (uK W5 g2 was):=((HW2.out.below xP.out).below CG.out).below hb5;have n1:=HB2.out.size;have n2:=xP.out.size;have n3:=CG.out.size;have vW:Hid (Below w.heap.size w W5):=HB2.out.trans ((xP.out.mono n1).trans ((CG.out.mono (Nat.le_trans n1 n2)).trans (hb5.mono (Nat.le_trans n1 (Nat.le_trans n2 n3)))));have e0:((N:Int) !=(N:Int))=false:=by simp
 clear hb5 q1 gY rE HW2 xY xX PE xP CG PK HB1 hc2 n1 n2 n3 hg2;go_wp2;go_loopg [11,12] N (fun gk av iv W=>∃(i:Nat),i<=N/\gk=N - i/\av= .bool ((was.take i).all id)/\iv= .int .i64 i/\Below W5.heap.size W5 W);case atStart=>exact⟨0,by omega,rfl,rfl,rfl,Below.refl _ _⟩
 case round=>
  rename World=>wo
  obtain⟨i,hi,rfl,rfl,rfl,hb⟩:=hrel;have HB:Hid (Below W5.heap.size W5 wo):=hb;by_cases hlt:i<N
  .have hin:(i:Int)<(N:Int):=by omega
   have r0:=(QK.out.below hb) i (by rw [Da.out];exact hlt);have r1:=(AV.out.below hb) i (by rw [HA.out];exact hlt);have r2:=(bW.out.below hb) i (by rw [PU.out];exact hlt);have xO:Hid ((was.take (i+1)).all id=((was.take i).all id&&was.getD i false)):=aaQ was i (by rw [Da.out];exact hlt);have hsm:=G.out.same i (by rw [HA.out];exact hlt);generalize(was.take i).all id=al at*;generalize was.getD i false=wi at*;clear hb;cases wi
   .clear hsm;cases al
    .go_wp2_with fail;go_quiet(fail);go_wp2;go_roundg (N - (i+1));case measure=>omega
     case rel=>exact⟨i+1,by omega,rfl,by rw [xO.out];rfl,by go_num,Go.below_drewN HB.out _⟩
    .go_wp2_with fail;go_quiet(fail);go_wp2;go_roundg (N - (i+1));case measure=>omega
     case rel=>exact⟨i+1,by omega,rfl,by rw [xO.out];rfl,by go_num,Go.below_drewN HB.out _⟩
   .have hsm:=hsm rfl;rw [<-hsm]at r2;clear hsm;generalize A.getD i ⟨#[]⟩=ln at*;cases al
    .go_wp2_with fail;go_quiet(fail);go_wp2;go_roundg (N - (i+1));case measure=>omega
     case rel=>exact⟨i+1,by omega,rfl,by rw [xO.out];rfl,by go_num,Go.below_drewN HB.out _⟩
    .go_wp2_with fail;go_quiet(fail);go_wp2;go_roundg (N - (i+1));case measure=>omega
     case rel=>exact⟨i+1,by omega,rfl,by rw [xO.out];rfl,by go_num,Go.below_drewN HB.out _⟩
  .obtain rfl:i=N:=by omega
   have hin:¬(i:Int)<(i:Int):=by omega
   have e6:was.take i=was:=List.take_of_length_le (by rw [Da.out];exact Nat.le_refl _);rw [e6];have n5:=vW.out.size;have xR:Hid (Below w.heap.size w wo):=vW.out.trans (hb.mono n5);clear hb HB e6 q2 QK AV bW k0;rcases G.out.all with⟨a1,a2,a3⟩|⟨a1,a2,a3⟩
   .rw [a1];subst a2;subst a3;go_wp2_with fail;refine Calls.mono (G.out.c1 _ xR.out) ?_;rintro ev W6 ⟨rfl,hb6⟩;have bO:Hid (Below w.heap.size w W6):=xR.out.trans (hb6.mono xR.out.size);clear hb6 xR;by_cases hlong:s.size<=600
    .go_wp2_with fail;all_goals try(exfalso;rename (!decide ((600:Int)<((s.size:Nat):Int)))=false=>hh;rw [decide_eq_false (by omega)]at hh;cases hh)
     refine Calls.mono (G.out.c2 hlong _ bO.out) ?_;rintro ev W7 ⟨rfl,jv⟩;have fe:Hid (Below w.heap.size w W7):=bO.out.trans (jv.mono bO.out.size);clear jv bO;go_wp2_with fail;refine Calls.mono (G.out.s3 _ fe.out) ?_;rintro ev W8 ⟨v8,rfl,iw,ug⟩;have gX:Hid (Below w.heap.size w W8):=fe.out.trans (ug.mono fe.out.size);have n8:=gX.out.size;clear ug;rcases G.out.hH with hH|hH
     .subst hH;have iw:=iw rfl;rw [G.out.nB rfl,HA.out]at iw;obtain⟨g8,c8,rfl,hc8⟩:=uD iw oV;obtain⟨W9,iq⟩:∃W9,W9=W8.alloc (.cells #[.int .i64 0,.int .i64 H2,.int .i64 H3] 33):=⟨_,rfl⟩
      have wm:Hid (uK W9 g8 now):=by rw [iq];exact(Dk iw).below ((Below.refl _ _).alloc (Nat.le_refl _) _)
      have pF:Hid (Below w.heap.size w W9):=by rw [iq];exact gX.out.alloc n8 _
      have kS:Hid (now.length=i):=by show _=_;rw [G.out.nB rfl,HA.out]
      have wB:Hid (W8.alloc (.cells #[.int .i64 0,.int .i64 H2,.int .i64 H3] 33)=W9):=iq.symm;clear iw iq;go_wp2;rw [wB.out];go_loopg [18] i (fun gk iv W=>∃(j:Nat),j<=i/\gk=i - j/\iv= .int .i64 j/\Below W9.heap.size W9 W);case atStart=>exact⟨0,by omega,rfl,rfl,Below.refl _ _⟩
      case round=>
       rename World=>wq
       obtain⟨j,hj,rfl,rfl,hb⟩:=hrel;have HB:Hid (Below W9.heap.size W9 wq):=hb;by_cases hlt:j<i
       .have hjn:(j:Int)<(i:Int):=by omega
        have r0:=(wm.out.below hb) j (by rw [kS.out];exact hlt);rw [G.out.nw rfl j (by rw [kS.out];exact hlt)]at r0;clear hb;go_wp2;go_roundg (i - (j+1));case measure=>omega
        case rel=>exact⟨j+1,by omega,rfl,by go_num,HB.out⟩
       .obtain rfl:j=i:=by omega
        have hjn:¬(j:Int)<(j:Int):=by omega
        have nQ:Hid (Below w.heap.size w wq):=pF.out.trans (hb.mono pF.out.size);clear hb HB;go_wp2_with fail;refine Calls.mono (G.out.s4 rfl _ nQ.out) ?_;rintro ev Wz ⟨xz,cz,rfl,hbz⟩;have mX:Hid (Below w.heap.size w Wz):=nQ.out.trans (hbz.mono nQ.out.size);clear hbz;go_wp2;go_ret;exact⟨rfl,mX.out.alloc mX.out.size _⟩
     .subst hH;go_wp2;go_ret;exact⟨rfl,gX.out.alloc n8 _⟩
    .have fe:Hid (Below w.heap.size w W6):=bO.out;clear bO;go_wp2_with fail;all_goals try(exfalso;rename (!decide ((600:Int)<((s.size:Nat):Int)))=true=>hh;rw [decide_eq_true (by omega)]at hh;cases hh)
     refine Calls.mono (G.out.s3 _ fe.out) ?_;rintro ev W8 ⟨v8,rfl,iw,ug⟩;have gX:Hid (Below w.heap.size w W8):=fe.out.trans (ug.mono fe.out.size);have n8:=gX.out.size;clear ug;rcases G.out.hH with hH|hH
     .subst hH;have iw:=iw rfl;rw [G.out.nB rfl,HA.out]at iw;obtain⟨g8,c8,rfl,hc8⟩:=uD iw oV;obtain⟨W9,iq⟩:∃W9,W9=W8.alloc (.cells #[.int .i64 0,.int .i64 H2,.int .i64 H3] 33):=⟨_,rfl⟩
      have wm:Hid (uK W9 g8 now):=by rw [iq];exact(Dk iw).below ((Below.refl _ _).alloc (Nat.le_refl _) _)
      have pF:Hid (Below w.heap.size w W9):=by rw [iq];exact gX.out.alloc n8 _
      have kS:Hid (now.length=i):=by show _=_;rw [G.out.nB rfl,HA.out]
      have wB:Hid (W8.alloc (.cells #[.int .i64 0,.int .i64 H2,.int .i64 H3] 33)=W9):=iq.symm;clear iw iq;go_wp2;rw [wB.out];go_loopg [18] i (fun gk iv W=>∃(j:Nat),j<=i/\gk=i - j/\iv= .int .i64 j/\Below W9.heap.size W9 W);case atStart=>exact⟨0,by omega,rfl,rfl,Below.refl _ _⟩
      case round=>
       rename World=>wq
       obtain⟨j,hj,rfl,rfl,hb⟩:=hrel;have HB:Hid (Below W9.heap.size W9 wq):=hb;by_cases hlt:j<i
       .have hjn:(j:Int)<(i:Int):=by omega
        have r0:=(wm.out.below hb) j (by rw [kS.out];exact hlt);rw [G.out.nw rfl j (by rw [kS.out];exact hlt)]at r0;clear hb;go_wp2;go_roundg (i - (j+1));case measure=>omega
        case rel=>exact⟨j+1,by omega,rfl,by go_num,HB.out⟩
       .obtain rfl:j=i:=by omega
        have hjn:¬(j:Int)<(j:Int):=by omega
        have nQ:Hid (Below w.heap.size w wq):=pF.out.trans (hb.mono pF.out.size);clear hb HB;go_wp2_with fail;refine Calls.mono (G.out.s4 rfl _ nQ.out) ?_;rintro ev Wz ⟨xz,cz,rfl,hbz⟩;have mX:Hid (Below w.heap.size w Wz):=nQ.out.trans (hbz.mono nQ.out.size);clear hbz;go_wp2;go_ret;exact⟨rfl,mX.out.alloc mX.out.size _⟩
     .subst hH;go_wp2;go_ret;exact⟨rfl,gX.out.alloc n8 _⟩
   .rw [a1];have ess:(s.toList==t.toList)=false:=agd a2;have em0:((m:Int)==0)=false:=by rw [beq_eq_false_iff_ne];omega
    clear a1 a2 a3;go_wp2_with fail;refine Calls.mono (G.out.c1 _ xR.out) ?_;rintro ev W6 ⟨rfl,hb6⟩;have bO:Hid (Below w.heap.size w W6):=xR.out.trans (hb6.mono xR.out.size);clear hb6 xR;by_cases hlong:t.size<=600
    .go_wp2_with fail;all_goals try(exfalso;rename (!decide ((600:Int)<((t.size:Nat):Int)))=false=>hh;rw [decide_eq_false (by omega)]at hh;cases hh)
     refine Calls.mono (G.out.c2 hlong _ bO.out) ?_;rintro ev W7 ⟨rfl,jv⟩;have fe:Hid (Below w.heap.size w W7):=bO.out.trans (jv.mono bO.out.size);clear jv bO;go_wp2_with fail;refine Calls.mono (G.out.s3 _ fe.out) ?_;rintro ev W8 ⟨v8,rfl,iw,ug⟩;have gX:Hid (Below w.heap.size w W8):=fe.out.trans (ug.mono fe.out.size);have n8:=gX.out.size;clear ug;rcases G.out.hH with hH|hH
     .subst hH;have iw:=iw rfl;rw [G.out.nB rfl,HA.out]at iw;obtain⟨g8,c8,rfl,hc8⟩:=uD iw oV;obtain⟨W9,iq⟩:∃W9,W9=W8.alloc (.cells #[.int .i64 0,.int .i64 H2,.int .i64 H3] 33):=⟨_,rfl⟩
      have wm:Hid (uK W9 g8 now):=by rw [iq];exact(Dk iw).below ((Below.refl _ _).alloc (Nat.le_refl _) _)
      have pF:Hid (Below w.heap.size w W9):=by rw [iq];exact gX.out.alloc n8 _
      have kS:Hid (now.length=i):=by show _=_;rw [G.out.nB rfl,HA.out]
      have wB:Hid (W8.alloc (.cells #[.int .i64 0,.int .i64 H2,.int .i64 H3] 33)=W9):=iq.symm;clear iw iq;go_wp2;rw [wB.out];go_loopg [18] i (fun gk iv W=>∃(j:Nat),j<=i/\gk=i - j/\iv= .int .i64 j/\Below W9.heap.size W9 W);case atStart=>exact⟨0,by omega,rfl,rfl,Below.refl _ _⟩
      case round=>
       rename World=>wq
       obtain⟨j,hj,rfl,rfl,hb⟩:=hrel;have HB:Hid (Below W9.heap.size W9 wq):=hb;by_cases hlt:j<i
       .have hjn:(j:Int)<(i:Int):=by omega
        have r0:=(wm.out.below hb) j (by rw [kS.out];exact hlt);rw [G.out.nw rfl j (by rw [kS.out];exact hlt)]at r0;clear hb;go_wp2;go_roundg (i - (j+1));case measure=>omega
        case rel=>exact⟨j+1,by omega,rfl,by go_num,HB.out⟩
       .obtain rfl:j=i:=by omega
        have hjn:¬(j:Int)<(j:Int):=by omega
        have nQ:Hid (Below w.heap.size w wq):=pF.out.trans (hb.mono pF.out.size);clear hb HB;go_wp2_with fail;refine Calls.mono (G.out.s4 rfl _ nQ.out) ?_;rintro ev Wz ⟨xz,cz,rfl,hbz⟩;have mX:Hid (Below w.heap.size w Wz):=nQ.out.trans (hbz.mono nQ.out.size);clear hbz;go_wp2;go_ret;exact⟨rfl,mX.out.alloc mX.out.size _⟩
     .subst hH;go_wp2;go_ret;exact⟨rfl,gX.out.alloc n8 _⟩
    .have fe:Hid (Below w.heap.size w W6):=bO.out;clear bO;go_wp2_with fail;all_goals try(exfalso;rename (!decide ((600:Int)<((t.size:Nat):Int)))=true=>hh;rw [decide_eq_true (by omega)]at hh;cases hh)
     refine Calls.mono (G.out.s3 _ fe.out) ?_;rintro ev W8 ⟨v8,rfl,iw,ug⟩;have gX:Hid (Below w.heap.size w W8):=fe.out.trans (ug.mono fe.out.size);have n8:=gX.out.size;clear ug;rcases G.out.hH with hH|hH
     .subst hH;have iw:=iw rfl;rw [G.out.nB rfl,HA.out]at iw;obtain⟨g8,c8,rfl,hc8⟩:=uD iw oV;obtain⟨W9,iq⟩:∃W9,W9=W8.alloc (.cells #[.int .i64 0,.int .i64 H2,.int .i64 H3] 33):=⟨_,rfl⟩
      have wm:Hid (uK W9 g8 now):=by rw [iq];exact(Dk iw).below ((Below.refl _ _).alloc (Nat.le_refl _) _)
      have pF:Hid (Below w.heap.size w W9):=by rw [iq];exact gX.out.alloc n8 _
      have kS:Hid (now.length=i):=by show _=_;rw [G.out.nB rfl,HA.out]
      have wB:Hid (W8.alloc (.cells #[.int .i64 0,.int .i64 H2,.int .i64 H3] 33)=W9):=iq.symm;clear iw iq;go_wp2;rw [wB.out];go_loopg [18] i (fun gk iv W=>∃(j:Nat),j<=i/\gk=i - j/\iv= .int .i64 j/\Below W9.heap.size W9 W);case atStart=>exact⟨0,by omega,rfl,rfl,Below.refl _ _⟩
      case round=>
       rename World=>wq
       obtain⟨j,hj,rfl,rfl,hb⟩:=hrel;have HB:Hid (Below W9.heap.size W9 wq):=hb;by_cases hlt:j<i
       .have hjn:(j:Int)<(i:Int):=by omega
        have r0:=(wm.out.below hb) j (by rw [kS.out];exact hlt);rw [G.out.nw rfl j (by rw [kS.out];exact hlt)]at r0;clear hb;go_wp2;go_roundg (i - (j+1));case measure=>omega
        case rel=>exact⟨j+1,by omega,rfl,by go_num,HB.out⟩
       .obtain rfl:j=i:=by omega
        have hjn:¬(j:Int)<(j:Int):=by omega
        have nQ:Hid (Below w.heap.size w wq):=pF.out.trans (hb.mono pF.out.size);clear hb HB;go_wp2_with fail;refine Calls.mono (G.out.s4 rfl _ nQ.out) ?_;rintro ev Wz ⟨xz,cz,rfl,hbz⟩;have mX:Hid (Below w.heap.size w Wz):=nQ.out.trans (hbz.mono nQ.out.size);clear hbz;go_wp2;go_ret;exact⟨rfl,mX.out.alloc mX.out.size _⟩
     .subst hH;go_wp2;go_ret;exact⟨rfl,gX.out.alloc n8 _⟩
theorem aea(w:World)(f3:Int)
  (h1:Calls prog 21 #[.string ⟨#[120,32,61,32,34,215,144,34,59,32,121,32,61,32,34,215,145,34,59,32,226,128,174]⟩] w fun e w'=>e= .returned (.tuple #[.string ⟨#[]⟩,.slice none 0 0,.agg #[.int .i64 3,.int .i64 0,.int .i64 f3]])/\Below w.heap.size w w')
  (h2:∀W,Below w.heap.size w W->Calls prog 21 #[.string ⟨#[120,32,61,32,34,226,128,174,215,144,34,59,32,47,47,32,111,107]⟩] W fun e w'=>∃x c,e= .returned (.tuple #[.string ⟨#[120,32,61,32,34,92,117,50,48,50,101,92,117,48,53,100,48,34,59,32,47,47,32,111,107]⟩,.slice x 2 c,.agg #[.int .i64 0,.int .i64 0,.int .i64 0]])/\Below W.heap.size W w')
  (h3:∀W,Below w.heap.size w W->Calls prog 22 #[.string ⟨#[120,32,61,32,49,59,10,34,226,128,174,34]⟩] W fun e w'=>∃v,e= .returned (.tuple #[v,.agg #[.int .i64 0,.int .i64 0,.int .i64 0]])/\w'.ownsRow W.heap.size 4 1 v 2 [.bool true,.bool false]/\Below W.heap.size W w'):
  Calls prog 16 #[] w fun e w'=>e= .returned (.bool true)/\Below w.heap.size w w':=by
 have H1:Hid (Calls prog 21 #[.string ⟨#[120,32,61,32,34,215,144,34,59,32,121,32,61,32,34,215,145,34,59,32,226,128,174]⟩] w fun e w'=>e= .returned (.tuple #[.string ⟨#[]⟩,.slice none 0 0,.agg #[.int .i64 3,.int .i64 0,.int .i64 f3]])/\Below w.heap.size w w'):=h1;have H2:Hid (∀W,Below w.heap.size w W->Calls prog 21 #[.string ⟨#[120,32,61,32,34,226,128,174,215,144,34,59,32,47,47,32,111,107]⟩] W fun e w'=>∃x c,e= .returned (.tuple #[.string ⟨#[120,32,61,32,34,92,117,50,48,50,101,92,117,48,53,100,48,34,59,32,47,47,32,111,107]⟩,.slice x 2 c,.agg #[.int .i64 0,.int .i64 0,.int .i64 0]])/\Below W.heap.size W w'):=h2;have H3:Hid (∀W,Below w.heap.size w W->Calls prog 22 #[.string ⟨#[120,32,61,32,49,59,10,34,226,128,174,34]⟩] W fun e w'=>∃v,e= .returned (.tuple #[v,.agg #[.int .i64 0,.int .i64 0,.int .i64 0]])/\w'.ownsRow W.heap.size 4 1 v 2 [.bool true,.bool false]/\Below W.heap.size W w'):=h3;clear h1 h2 h3;go_enter func16,ntmps16;go_wp2_with fail;refine Calls.mono H1.out ?_;rintro ev W1 ⟨rfl,hb1⟩;have hz1:=hb1.size;have HB1:Hid (Below w.heap.size w (W1.alloc (.cells #[.int .i64 3,.int .i64 0,.int .i64 f3] 33))):=hb1.alloc hz1 _;clear hb1;go_wp2_with fail;refine Calls.mono (H2.out _ HB1.out) ?_;rintro ev W2 ⟨x2,c2,rfl,hb2⟩;have k0:W2.cell? ⟨W1.heap.size,0,none⟩=some (.int .i64 3):=by rw [hb2.cell (p:=⟨W1.heap.size,0,none⟩) (by simp)];go_simp
 have k1:W2.cell? ⟨W1.heap.size,1,none⟩=some (.int .i64 0):=by rw [hb2.cell (p:=⟨W1.heap.size,1,none⟩) (by simp)];go_simp
 have hz2:W1.heap.size<W2.heap.size:=by have:=hb2.size;simp at this;omega
 have HB2:Hid (Below w.heap.size w (W2.alloc (.cells #[.int .i64 0,.int .i64 0,.int .i64 0] 33))):=(HB1.out.trans (hb2.mono (by simp;omega))).alloc (by omega) _;have AX:Hid (Below W2.heap.size W2 (W2.alloc (.cells #[.int .i64 0,.int .i64 0,.int .i64 0] 33))):=(Below.refl _ _).alloc (Nat.le_refl _) _;clear hb2;go_wp2_with fail;refine Calls.mono (H3.out _ HB2.out) ?_;rintro ev W3 ⟨v3,rfl,ho3,hb3⟩;obtain⟨g3,c3,rfl,hc3⟩:=uD ho3 (by decide);have b0:W3.cell? ⟨g3,0,none⟩=some (.bool true):=by have:=ho3.cells (g:=g3) rfl 0 (.bool true) rfl;rwa [zF]at this
 have b1:W3.cell? ⟨g3,1,none⟩=some (.bool false):=by have:=ho3.cells (g:=g3) rfl 1 (.bool false) rfl;rwa [zF]at this
 have q0:W3.cell? ⟨W2.heap.size,0,none⟩=some (.int .i64 0):=by rw [hb3.cell (p:=⟨W2.heap.size,0,none⟩) (by simp)];go_simp
 have xP:Hid (Below W2.heap.size W2 W3):=AX.out.trans (hb3.mono (by simp));have j0:W3.cell? ⟨W1.heap.size,0,none⟩=some (.int .i64 3):=cO xP.out k0;have j1:W3.cell? ⟨W1.heap.size,1,none⟩=some (.int .i64 0):=cO xP.out k1;have hz3:W2.heap.size<W3.heap.size:=by have:=hb3.size;simp at this;omega
 have HB3:Hid (Below w.heap.size w W3):=HB2.out.trans (hb3.mono (by simp;omega));have hg3:g3<W3.heap.size:=by
  unfold World.cell? at b0;split at b0
  .rename_i hh;exact(Array.getElem?_eq_some_iff.1 hh).1
  .cases b0
 have yO:W1.heap.size<W3.heap.size:=by omega
 clear ho3 hb3 k0 k1;go_wp2;go_ret;exact⟨rfl,HB3.out.alloc (by omega) _⟩
theorem TX.look {s:ByteArray}{pl:List (List Pc)}(h:TX s pl)(hz:s.size<=600)(hl:∀p∈pl,(ai p).length<=300):aZ s=(0,0,0):=by
 have hb:∀(l:List ByteArray)(i:Nat),(∀x∈l,∃rs,dh x=some rs)->nA l i=none:=by
  intro l
  induction l with
  |nil=>intro i _;rfl
  |cons x l ih=>
   intro i hx;obtain⟨rs,hr⟩:=hx x (by simp);rw [nA,hr];exact ih _ fun y hy=>hx y (by simp [hy])
 have hg:∀(l:List (List Int))(i:Nat),(∀x∈l,x.length<=300)->nY l i=none:=by
  intro l
  induction l with
  |nil=>intro i _;rfl
  |cons x l ih=>
   intro i hx;rw [nY,if_neg (by have:=hx x (by simp);omega)];exact ih _ fun y hy=>hx y (by simp [hy])
 unfold aZ;rw [if_neg (by omega),hb _ 0 ?_,h.runes,hg _ 0 ?_]
 .intro x hx;obtain⟨p,hp,rfl⟩:=List.mem_map.1 hx;exact hl p hp
 .intro x hx;rw [h.lines]at hx;obtain⟨p,hp,rfl⟩:=List.mem_map.1 hx;exact⟨_,IM fun r hr=>(h.lr p hp r hr).1⟩
theorem KY(sf:Nat->Bool)(ln:Nat->ByteArray)(st:Nat->Nat)(x:PR)(post:List PR)(hs:sf x.line=false)(hf:nG (ln x.line) x≠ -1):∀(pre:List PR)(l:List Ed),(∀y∈pre,nG (ln y.line) y= -1)->dY sf ln st (pre++x::post) l=([],(x.line:Int),nG (ln x.line) x)
 |[],l,_=>by rw [List.nil_append,dY,if_neg (by rw [hs];decide),if_pos hf]
 |y::pre,l,h=>by
  rw [List.cons_append,dY];split
  .exact KY sf ln st x post hs hf pre l fun z hz=>h z (by simp [hz])
  .rw [if_neg (fun a=>a (h y (by simp)))];exact KY sf ln st x post hs hf pre _ fun z hz=>h z (by simp [hz])
theorem Gg(sf:Nat->Bool)(ln:Nat->ByteArray)(st:Nat->Nat):∀(ps:List PR)(l:List Ed),(∀y∈ps,nG (ln y.line) y= -1)->(dY sf ln st ps l).2.2= -1
 |[],l,_=>rfl
 |y::ps,l,h=>by
  rw [dY];split
  .exact Gg sf ln st ps l fun z hz=>h z (by simp [hz])
  .rw [if_neg (fun a=>a (h y (by simp)))];exact Gg sf ln st ps _ fun z hz=>h z (by simp [hz])
theorem TX.sf {s:ByteArray}{pl:List (List Pc)}(h:TX s pl)(hz:s.size<=600)(i:Nat)(hi:i<pl.length):dP s i=pq (ai (pl.getD i [])) (cZ i 0 (pl.getD i [])):=by
 unfold dP;rw [h.Ct hz,sj _ _ _ _ hi]
theorem TX.ln {s:ByteArray}{pl:List (List Pc)}(h:TX s pl)(i:Nat)(hi:i<pl.length):gW s i=txt (ai (pl.getD i [])):=by
 unfold gW;rw [h.lines,Ag (fun p=>txt (ai p)) pl i [] _ hi]
theorem NR {rs:List Int}{ps:List PR}(h:jd ps rs 0 [] (-1)=false):pq rs ps=false:=by
 unfold pq;rw [h,Bool.and_false]
def gs1:ByteArray:=⟨#[120,32,61,32,34,215,144,34,59,32,121,32,61,32,34,215,145,34,59,32,226,128,174]⟩
def gs2:ByteArray:=⟨#[120,32,61,32,34,226,128,174,215,144,34,59,32,47,47,32,111,107]⟩
def gt2:ByteArray:=⟨#[120,32,61,32,34,92,117,50,48,50,101,92,117,48,53,100,48,34,59,32,47,47,32,111,107]⟩
def GI:ByteArray:=⟨#[120,32,61,32,49,59,10,34,226,128,174,34]⟩
def GH:List Pc:=[⟨0,[120,32,61,32],[],[]⟩,⟨1,[34],[1488],[34]⟩,⟨0,[59,32,121,32,61,32],[],[]⟩,⟨1,[34],[1489],[34]⟩,⟨0,[59,32,8238],[],[]⟩]
def DD:List Pc:=[⟨0,[120,32,61,32],[],[]⟩,⟨1,[34],[8238,1488],[34]⟩,⟨0,[59,32],[],[]⟩,⟨2,[47,47],[32,111,107],[]⟩]
def DF:List Pc:=[⟨0,[120,32,61,32,49,59],[],[]⟩]
def Lv:List Pc:=[⟨1,[34],[8238],[34]⟩]
theorem Ia {l:List Int}(h:(l.all fun r=>decide (((0<=r/\r<55296)∨(57344<=r/\r<=1114111))/\r≠10))=true):LR l:=by
 intro r hr;have:=List.all_eq_true.1 h r hr;simpa [VR]using this
theorem GU {a:Pc}{l:List Pc}(h:a.k≠0):∀y ys,a::l=y::ys->y.k≠0:=fun y ys e=>by injection e with e1 e2;rw [<-e1];exact h
theorem UQ:∀(y:Pc) ys,([]:List Pc)=y::ys->y.k≠0:=fun y ys e=>by cases e
theorem I5:TX gs1 [GH]:=
 ⟨by simp,⟨false,.code (by decide) (by decide) (GU (by decide)) (.str (by decide) (.code (by decide) (by decide) (GU (by decide)) (.str (by decide) (.code (by decide) (by decide) UQ (.nil false))))),trivial⟩,fun p hp=>by rw [List.mem_singleton.1 hp];exact Ia (by decide),by decide⟩
theorem CE:TX gs2 [DD]:=
 ⟨by simp,⟨false,.code (by decide) (by decide) (GU (by decide)) (.str (by decide) (.code (by decide) (by decide) (GU (by decide)) .lc)),trivial⟩,fun p hp=>by rw [List.mem_singleton.1 hp];exact Ia (by decide),by decide⟩
theorem Z6:TX GI [DF,Lv]:=
 ⟨by simp,⟨false,.code (by decide) (by decide) UQ (.nil false),⟨false,.str (by decide) (.nil false),trivial⟩⟩,fun p hp=>by
  simp only [List.mem_cons,List.not_mem_nil,or_false]at hp;rcases hp with rfl|rfl<;>exact Ia (by decide),by decide⟩
theorem afH:aZ gs1=(0,0,0):=I5.look (by decide) fun p hp=>by rw [List.mem_singleton.1 hp];decide
theorem WJ:aZ gs2=(0,0,0):=CE.look (by decide) fun p hp=>by rw [List.mem_singleton.1 hp];decide
theorem WK:aZ GI=(0,0,0):=Z6.look (by decide) fun p hp=>by
 simp only [List.mem_cons,List.not_mem_nil,or_false]at hp;rcases hp with rfl|rfl<;>decide
theorem sf1:dP gs1 0=false:=(I5.sf (by decide) 0 (by decide)).trans (NR (by decide))
theorem Zj:dP gs2 0=false:=(CE.sf (by decide) 0 (by decide)).trans (NR (by decide))
theorem air:cB GI=[true,false]:=by
 rw [Z6.Ct (by decide)];show [pq (ai DF) (cZ 0 0 DF),pq (ai Lv) (cZ 1 0 Lv)]=_;rw [MZ 0 DF (fun r hr=>(Ia (l:=ai DF) (by decide) r hr).1) fun x hx=> .inl (by rw [List.mem_singleton.1 hx];intro r hr;exact List.all_eq_true.1 (show([120,32,61,32,49,59].all fun r=>bI r==false)=true by decide) r hr|>beq_iff_eq.1),NR (by decide)]
theorem Nl(i:Nat)(h:i=0):gW gs1 i=txt (ai GH):=by subst h;exact I5.ln 0 (by decide)
theorem WH(i:Nat)(h:i=0):gW gs2 i=txt (ai DD):=by subst h;exact CE.ln 0 (by decide)
theorem Sw:dD gs1 (aQ gs1)=(3,0,20):=by
 have e:aQ gs1=([],0,20):=by
  unfold aQ;rw [I5.parts (by decide)];have hl:jy 0 [GH]=[⟨0,0,0,4,0,0⟩,⟨0,1,4,8,5,7⟩,⟨0,0,8,14,0,0⟩,⟨0,1,14,18,15,17⟩]++(⟨0,0,18,23,0,0⟩:PR)::[]:=by rfl
  have hf:nG (txt (ai GH)) ⟨0,0,18,23,0,0⟩=20:=by decide
  rw [hl,KY (dP gs1) (gW gs1) (nO gs1) ⟨0,0,18,23,0,0⟩ [] sf1 (by rw [Nl _ rfl,hf];decide) _ _ ?_,Nl _ rfl,hf]
  .rfl
  .intro y hy;have hy0:y.line=0:=by
    simp only [List.mem_cons,List.not_mem_nil,or_false]at hy;rcases hy with rfl|rfl|rfl|rfl<;>rfl
   rw [Nl _ hy0];simp only [List.mem_cons,List.not_mem_nil,or_false]at hy;rcases hy with rfl|rfl|rfl|rfl<;>decide
 unfold dD;rw [e,afH];rfl
theorem mg2:MG gs2 [DD]:=by
 refine QM CE (by rw [WJ]) ?_;unfold aQ;rw [CE.parts (by decide)];refine Gg _ _ _ _ _ fun y hy=> ?_
 have hl:jy 0 [DD]=[⟨0,0,0,4,0,0⟩,⟨0,1,4,11,5,10⟩,⟨0,0,11,13,0,0⟩,⟨0,2,13,18,15,18⟩]:=by rfl
 rw [hl]at hy;have hy0:y.line=0:=by
  simp only [List.mem_cons,List.not_mem_nil,or_false]at hy;rcases hy with rfl|rfl|rfl|rfl<;>rfl
 rw [WH _ hy0];simp only [List.mem_cons,List.not_mem_nil,or_false]at hy;rcases hy with rfl|rfl|rfl|rfl<;>decide
theorem ed2:dD gs2 (aQ gs2)=(0,0,0)/\(aQ gs2).1.length=2/\dA gs2 (aQ gs2).1=gt2:=by
 have h:=mg2;have h22:(aQ gs2).2.2= -1:=by
  unfold aQ;rw [CE.parts (by decide)];refine Gg _ _ _ _ _ fun y hy=> ?_
  have hl:jy 0 [DD]=[⟨0,0,0,4,0,0⟩,⟨0,1,4,11,5,10⟩,⟨0,0,11,13,0,0⟩,⟨0,2,13,18,15,18⟩]:=by rfl
  rw [hl]at hy;have hy0:y.line=0:=by
   simp only [List.mem_cons,List.not_mem_nil,or_false]at hy;rcases hy with rfl|rfl|rfl|rfl<;>rfl
  rw [WH _ hy0];simp only [List.mem_cons,List.not_mem_nil,or_false]at hy;rcases hy with rfl|rfl|rfl|rfl<;>decide
 refine⟨?_,?_,?_⟩
 .unfold dD;rw [WJ,if_neg (by decide),if_pos h22]
 .rw [h.ed,mR,mR,if_neg (by rw [Zj];decide)];decide
 .rw [h.mt.eq,gD,gD,if_neg (by rw [Zj];decide)];decide
section
open Go
theorem adA:prog.laidByTextLater (Rows.guardedRow.laid.take 13) [.data,.data,.data,.data,.data,.data,.data,.handle,.data,.data,.sentinel,.sentinel,.sentinel] true:=
 Program.laidByTextLater_by_one 163 8 109 (by kernel_rfl) (by kernel_rfl) (by kernel_rfl) (by kernel_rfl) (by kernel_rfl) (by kernel_rfl) (fun _ _=>by kernel_rfl)
theorem adB:Tryz.pinned.checked.prog.headLifts.contains "ownunsafe" =false:=by kernel_rfl
theorem ady:Tryz.pinned.checked.prog.listedFits Rows.guardedRow.laid=true:=by
 unfold Program.listedFits;rw [adB];kernel_rfl
theorem adz:Rows.guardedRow.laidByTextAt .later Tryz.pinned [.data,.data,.data,.data,.data,.data,.data,.handle,.data,.data,.sentinel,.sentinel,.sentinel,.pinned,.pinned] true:=
 OpenClaim.laidByTextAt_pinned rfl rfl adA rfl rfl rfl rfl (fun y hy e=>by
  simp only [Rows.guardedRow,List.zip_cons_cons,List.zip_nil_right,List.mem_cons,List.mem_nil_iff,or_false]at hy;rcases hy with rfl|rfl|rfl|rfl|rfl|rfl|rfl|rfl|rfl|rfl|rfl|rfl|rfl|rfl|rfl
  all_goals cases e
  all_goals exact⟨by kernel_rfl,by kernel_rfl⟩) ady
end
section
open Go.ChangeShapes Go.WideShapes Go.ChangeAt Go.RowKit Go.Deep Go.Lib
theorem own:ownKnob prog.godebug=none:=by kernel_rfl
theorem FU:prog.cellsOf 9=1:=by kernel_rfl
def El:List (String×DataW Unit):=[("bidiguard/parts.lineComment",Rows.laid_bidiguard_parts_lineComment),("bidiguard/parts.blockBegins",Rows.laid_bidiguard_parts_blockBegins),("bidiguard/parts.blockEnds",Rows.laid_bidiguard_parts_blockEnds),("math/bits.deBruijn32tab",Rows.laid_math_bits_deBruijn32tab),("math/bits.deBruijn64tab",Rows.laid_math_bits_deBruijn64tab),("internal/strconv.uint64pow10",Rows.laid_internal_strconv_uint64pow10),("unicode/utf8.acceptRanges",Rows.laid_unicode_utf8_acceptRanges),("bidiguard/bidi.bracketPairs",Rows.laid_bidiguard_bidi_bracketPairs),("bidiguard/bidi.spans",Rows.laid_bidiguard_bidi_spans),("bidiguard/guard.ErrLong",Rows.laid_bidiguard_guard_ErrLong),("bidiguard/guard.ErrText",Rows.laid_bidiguard_guard_ErrText),("bidiguard/guard.ErrCode",Rows.laid_bidiguard_guard_ErrCode),("unicode.CaseRanges",Rows.laid_unicode_CaseRanges),("unicode/utf8.first",Rows.laid_unicode_utf8_first)]
end
section
open Go.ChangeShapes Go.WideShapes Go.ChangeAt Go.RowKit Go.Deep Go.Lib
theorem RI:prog.cellsOf 29=4:=by kernel_rfl
theorem RH:prog.cellsOf 3=1:=by kernel_rfl
theorem abM:prog.cellsOf 27=1:=by kernel_rfl
theorem abF:prog.bytesOf 29=56:=by kernel_rfl
theorem laidOut:laidOutB prog=true:=by kernel_rfl
theorem agE {H:Type}{enc:TypeId×Value->H}{w:World}{base:Nat}{sp:Nat->Bool}{held:Bool}{fuel:Nat}{cs:List Value}{x:DataW H×List MemPlace}
  (h:DataW.trod enc prog w base sp held fuel 29 cs=some x):∃k a s ao n c,cs=[.int .i64 k,.int .i64 a,.string s,.slice ao n c]/\s.size<=maxLen:=by
 obtain⟨y0,y1,y2,y3,n,hx,hl,h0,h1,h2,h3⟩:=Joins.trod_struct4 underlying29 h;rw [RI]at hl
 match cs,hl with
 |[c0,c1,c2,c3],_=>
  obtain⟨a,e0,_,_⟩:=DataW.trod_int underlying3 (by simpa [RH]using h0);obtain⟨b,e1,_,_⟩:=DataW.trod_int underlying3 (by simpa [RH]using h1);obtain⟨s,e2,_,hs⟩:=DataW.trod_string underlying9 (by simpa [FU]using h2);obtain⟨ao,l,c,e3⟩:=Joins.slice_form underlying27 (by simpa [abM]using h3);simp at e0 e1 e2 e3;subst e0 e1 e2 e3;exact⟨a,b,s,ao,l,c,rfl,hs⟩
theorem agH {H:Type}{enc:TypeId×Value->H}{W:World}{fuel:Nat}{cs:List Value}{x:DataW H×List MemPlace}
  (h:DataW.trod enc prog W 0 (fun _=>true) true fuel 22 cs=some x):
  (∃ao cap,cs=[.slice ao 0 cap])∨∃b off len cap,∃ops:List zA,cs=[.slice (some ⟨b,off,none⟩) len cap]/\ops.length=len/\Bc W b off ops/\(∀o∈ops,o.s.size<=9223372036854775807)/\
   ∃elems spare ps,x=(.slice elems spare,ps)/\elems.length=len:=by
 rcases open_slice underlying22 h with⟨rfl,_⟩|⟨a,len,cap,m,n,D,Pl,rfl,_,hlc,_,hm,rfl,hel⟩
 .exact .inl ⟨_,_,rfl⟩
 .by_cases h0:len=0
  .subst h0;exact .inl ⟨_,_,rfl⟩
  right;have hm':m=cap:=by simpa using hm
  subst hm';rw [RI]at hel;obtain⟨b,off,spot⟩:=a;have hone:∀i,i<len->∃o:zA,W.cell? ((⟨b,off,spot⟩:Addr).add (i*4))=some (.int .i64 o.k)/\W.cell? ((⟨b,off,spot⟩:Addr).add (i*4+1))=some (.int .i64 o.a)/\W.cell? ((⟨b,off,spot⟩:Addr).add (i*4+2))=some (.string o.s)/\W.cell? ((⟨b,off,spot⟩:Addr).add (i*4+3))=some o.e/\(∃ao n c,o.e= .slice ao n c)/\o.s.size<=9223372036854775807:=by
   intro i hi;obtain⟨cs',hcs,ht⟩:=hel i (by omega);obtain⟨k,a,s,ao,n',c,rfl,hs⟩:=agE ht;obtain⟨_,_,hc⟩:=World.cells?_some hcs;refine⟨⟨k,a,s,.slice ao n' c⟩,?_,?_,?_,?_,⟨_,_,_,rfl⟩,by unfold maxLen at hs;omega⟩
   .have:=hc 0 (by omega);rw [add_add]at this;simpa using this
   .have:=hc 1 (by omega);rw [add_add]at this;simpa using this
   .have:=hc 2 (by omega);rw [add_add]at this;simpa using this
   .have:=hc 3 (by omega);rw [add_add]at this;simpa using this
  have hspot:spot=none:=by
   obtain⟨o,h1,_⟩:=hone 0 (by omega);simpa [Addr.add]using World.cell?_spot h1
  subst hspot;obtain⟨ops,hlen,hops⟩:∃ops:List zA,ops.length=len/\∀i (hi:i<ops.length),W.cell? ⟨b,off+i*4,none⟩=some (.int .i64 ops[i].k)/\W.cell? ⟨b,off+i*4+1,none⟩=some (.int .i64 ops[i].a)/\W.cell? ⟨b,off+i*4+2,none⟩=some (.string ops[i].s)/\W.cell? ⟨b,off+i*4+3,none⟩=some ops[i].e/\(∃ao n c,ops[i].e= .slice ao n c)/\ops[i].s.size<=9223372036854775807:=by
   have hall:∀k,k<=len->∃ops:List zA,ops.length=k/\∀i (hi:i<ops.length),W.cell? ⟨b,off+i*4,none⟩=some (.int .i64 ops[i].k)/\W.cell? ⟨b,off+i*4+1,none⟩=some (.int .i64 ops[i].a)/\W.cell? ⟨b,off+i*4+2,none⟩=some (.string ops[i].s)/\W.cell? ⟨b,off+i*4+3,none⟩=some ops[i].e/\(∃ao n c,ops[i].e= .slice ao n c)/\ops[i].s.size<=9223372036854775807:=by
    intro k
    induction k with
    |zero=>intro _;exact⟨[],rfl,fun i hi=>absurd hi (by simp)⟩
    |succ k ih=>
     intro hk;obtain⟨ops,hl,ho⟩:=ih (by omega);obtain⟨o,h1,h2,h3,h4,h5,h6⟩:=hone k (by omega);refine⟨ops++[o],by simp [hl],fun i hi=> ?_⟩;by_cases hik:i<ops.length
     .rw [List.getElem_append_left hik];exact ho i hik
     .have hik':i=k:=by simp at hi;omega
      subst hik';have e:(ops++[o])[i]'hi=o:=by
       rw [List.getElem_append_right (by omega)];simp [hl]
      rw [e];rw [add_plain]at h1 h2 h3 h4;exact⟨h1,by rw [Nat.add_assoc];exact h2,by rw [Nat.add_assoc];exact h3,by rw [Nat.add_assoc];exact h4,h5,h6⟩
   exact hall len (Nat.le_refl _)
  refine⟨b,off,len,m,ops,rfl,hlen,fun i hi=> ?_,fun o ho=> ?_,_,_,_,rfl,by simp⟩
  .obtain⟨h1,h2,h3,h4,h5,_⟩:=hops i hi;exact⟨h1,h2,h3,h4,h5⟩
  .obtain⟨i,hi,rfl⟩:=List.mem_iff_getElem.1 ho;exact(hops i hi).2.2.2.2.2
end
