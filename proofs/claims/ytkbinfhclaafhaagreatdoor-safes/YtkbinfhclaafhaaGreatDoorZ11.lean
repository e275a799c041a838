import Derived.Test.YtkbinfhclaafhaaGreatDoorZ10
import Derived.Test.YtkbinfhclaafhaaGreatDoorZ08
import Derived.Deep.RegionLaw
import Derived.Laws.CopyOwn
import Derived.Lib.SmallJoins
import Derived.Test.YtkbinfhclaafhaaGreatDoorZ05
import Derived.Test.YtkbinfhclaafhaaGreatDoorZ06
import Derived.Test.YtkbinfhclaafhaaGreatDoorZ02
namespace Go.Proofs.YtkbinfhclaafhaaGreatDoor
open Go.RowKit
open Go.Proofs.Tryz
set_option maxRecDepth 100000
set_option maxHeartbeats 32000000
set_option linter.all false
theorem aj2(w:World)(B sb gc n cc:Nat)(pv rv bv:Value)(au aq ax:Int)(t:List Int)(h:aW w B sb gc n cc pv rv bv au aq ax t)(hn:n<=1000)(kU:0<=au)(a b:Nat)(hab:a<b)(hb:b<n):
  Calls prog 212 #[.pointer (some ⟨sb,0,none⟩),.agg #[.int .i64 a,.int .i64 b]] w fun e w'=>e= .returned (.int .i64 (sK t (a,b) (au%2) aq))/\Below w.heap.size w w':=by
 have hb1:Below w.heap.size w (w.alloc (.cells #[.int .i64 a,.int .i64 b] 268)):=(aA _ _).alloc (ay _) _;have hS1:=h.below hb1;have c2:=hS1.f2;have c4:=hS1.f4;have hcc:n<=cc:=by
  obtain⟨g',c',hv,hc,_⟩:=fS h.row (show 0<n by omega);have:cc=c':=by have:=hv;simp at this;exact this.2
  omega
 have HA:Hid (∀W,Below w.heap.size w W->Calls prog 250 #[.pointer (some ⟨sb,0,none⟩),.int .i64 a] W fun e w'=>e= .returned (.int .i64 (jL aq t a))/\w'=W):=fun W hW=>amf W B sb gc n cc pv rv bv au aq ax t (h.below hW) hn a (by omega)
 have HT:Hid (∀W,Below w.heap.size w W->∀k,k<n->W.cell? ⟨gc,k,none⟩=some (.int .i64 (t.getD k 0))):=fun W hW k hk=>(h.below hW).at k hk
 have CO:Hid (∀W,Calls prog 96 #[.int .i64 au] W fun e w'=>e= .returned (.int .i64 (au%2))/\w'=W):=fun W=>AW au W kU
 have aG:=ah hb1;obtain⟨own,hown⟩:∃own,own=au%2:=⟨_,rfl⟩
 rw [<-hown]at CO ⊢;obtain⟨P,hP⟩:∃P,P=sK t (a,b) own aq:=⟨_,rfl⟩
 rw [<-hP];unfold sK at hP;have HP:=ah hP;have g0:(w.alloc (.cells #[.int .i64 a,.int .i64 b] 268)).cell? ⟨w.heap.size,0,none⟩=some (.int .i64 a):=by go_simp
 have g1:(w.alloc (.cells #[.int .i64 a,.int .i64 b] 268)).cell? ⟨w.heap.size,1,none⟩=some (.int .i64 b):=by go_simp
 have hi1:(a:Int)+1<=(b:Int):=by omega
 have hi2:(b:Int)<=(cc:Int):=by omega
 have Zg:((a:Int)+1).toNat=a+1:=by omega
 have hi4:(cc:Int)≠(a:Int)+1:=by omega
 clear h hb1 hS1 hown hP;generalize hW1:w.alloc (.cells #[.int .i64 a,.int .i64 b] 268)=W1 at*;go_enter func212,ntmps212;go_wp2_with fail;refine(CO.out _).mono ?_;rintro ev wx ⟨rfl,hx⟩;have hx':=hx.symm;subst hx';clear hW1;generalize w.heap.size=bx at g0 g1 ⊢;go_wp2_with fail;go_quiet(fail);have aJ:Hid (Below w.heap.size w (W1.drewN nq)):=fZ aG.out _;have g0':(W1.drewN nq).cell? ⟨bx,0,none⟩=some (.int .i64 a):=g0;generalize W1.drewN nq=W2 at*;clear g0 g1 c2 c4 hi1 hi2 Zg hi4 aG;obtain⟨m,hm⟩:∃m,m=b - (a+1):=⟨_,rfl⟩
 rw [<-hm]at HP ⊢;have HM:Hid (a+1+m=b):=by show _=_;omega
 have qz:m<=1000:=by omega
 clear hm;go_wp2;go_loopg [6,25] m (fun gk wv iv W=>∃(j:Nat)(q:Int),j<=m/\gk=m - j/\wv= .int .i64 q/\iv= .int .i64 j/\W=W2/\qm own t (a+1) m=qm own t (a+1+j) (m - j)/\qF t (a+1) m (-1)=qF t (a+1+j) (m - j) q);case atStart=>exact⟨0, -1,by omega,rfl,rfl,rfl,rfl,rfl,rfl⟩
 case round=>
  obtain⟨j,q,hj,rfl,rfl,rfl,hW,h1,h2⟩:=hrel;have hW':=hW.symm;subst hW';by_cases hlt:j<m
  .have hjm:(j:Int)<(m:Int):=by omega
   have ck:=HT.out W2 aJ.out (a+1+j) (by have:=HM.out;omega);obtain⟨r,hr⟩:∃r,m - j=r+1:=⟨m - j - 1,by omega⟩
   rw [hr,qm]at h1;rw [hr,qF]at h2;have er:m - (j+1)=r:=by omega
   generalize t.getD (a+1+j) 0=c at*;have HS:Hid (∀W,Calls prog 217 #[.int .i64 c] W fun e w'=>e= .returned (.int .i64 (bC c))/\w'=W):=fun W=>KX c W
   generalize bC c=sc at*;by_cases ho:sc=own
   .have HH:Hid (P=own):=by
     show _=_;rw [HP.out,h1,ho,aj (by simp)]
    subst ho;clear h1 h2;go_wp2_with fail;refine(HS.out _).mono ?_;rintro ev wx ⟨rfl,hx⟩;have hx':=hx.symm;subst hx';go_wp2;go_ret;exact⟨bI HH.out.symm,aJ.out⟩
   .have qo:(sc==own)=false:=by simpa using ho
    rw [qo,FR]at h1;by_cases hs:sc= -1
    .rw [aj hs]at h2;have H1:Hid (qm own t (a+1) m=qm own t (a+1+(j+1)) (m - (j+1))/\qF t (a+1) m (-1)=qF t (a+1+(j+1)) (m - (j+1)) q):=⟨by rw [er];exact h1,by rw [er];exact h2⟩
     subst hs;clear h1 h2 ho;go_wp2_with fail;refine(HS.out _).mono ?_;rintro ev wx ⟨rfl,hx⟩;have hx':=hx.symm;subst hx';go_wp2_with fail;refine(HS.out _).mono ?_;rintro ev wx ⟨rfl,hx⟩;have hx':=hx.symm;subst hx';go_wp2;go_roundg (m - (j+1));case measure=>omega
     case rel=>exact⟨j+1,q,by omega,rfl,rfl,by go_num,rfl,H1.out.1,H1.out.2⟩
    .rw [ai hs]at h2;have H1:Hid (qm own t (a+1) m=qm own t (a+1+(j+1)) (m - (j+1))/\qF t (a+1) m (-1)=qF t (a+1+(j+1)) (m - (j+1)) sc):=⟨by rw [er];exact h1,by rw [er];exact h2⟩
     have qs:(sc != -1)=true:=by simpa using hs
     clear h1 h2 ho hs;go_wp2_with fail;refine(HS.out _).mono ?_;rintro ev wx ⟨rfl,hx⟩;have hx':=hx.symm;subst hx';go_wp2_with fail;refine(HS.out _).mono ?_;rintro ev wx ⟨rfl,hx⟩;have hx':=hx.symm;subst hx';go_wp2_with fail;refine(HS.out _).mono ?_;rintro ev wx ⟨rfl,hx⟩;have hx':=hx.symm;subst hx';go_wp2;go_roundg (m - (j+1));case measure=>omega
     case rel=>exact⟨j+1,sc,by omega,rfl,rfl,by go_num,rfl,H1.out.1,H1.out.2⟩
  .have hjm:¬(j:Int)<(m:Int):=by omega
   have hz:m - j=0:=by omega
   rw [hz]at h1 h2;have h1':qm own t (a+1) m=false:=h1;have h2':qF t (a+1) m (-1)=q:=h2;have HH:Hid (P=if q≠ -1/\jL aq t a≠q then own else q):=by
    show _=_;rw [HP.out,h1',h2',ai (by decide)]
   have D2:=ah (HA.out W2 aJ.out);clear h1 h2 h1' h2' hz;generalize jL aq t a=la at*;by_cases hq:q= -1
   .have e:P= -1:=by rw [HH.out,ai (fun h=>h.1 hq),hq]
    subst hq;subst e;go_wp2;go_ret;exact⟨rfl,aJ.out⟩
   .have qq:(q != -1)=true:=by simpa using hq
    by_cases hl:la=q
    .have e:P=q:=by rw [HH.out,ai (fun h=>h.2 hl)]
     have ql:(la !=q)=false:=by simp [hl]
     have HE:=ah e;clear hl e hq;go_wp2_with fail;refine D2.out.mono ?_;rintro ev wx ⟨rfl,hx⟩;have hx':=hx.symm;subst hx';go_wp2;go_ret;exact⟨bI HE.out.symm,aJ.out⟩
    .have e:P=own:=by rw [HH.out,aj ⟨hq,hl⟩]
     have ql:(la !=q)=true:=by simpa using hl
     have HE:=ah e;clear hl e hq;go_wp2_with fail;refine D2.out.mono ?_;rintro ev wx ⟨rfl,hx⟩;have hx':=hx.symm;subst hx';go_wp2;go_ret;exact⟨bI HE.out.symm,aJ.out⟩
theorem ko.few {t rs:List Int}{ps:List (Nat×Nat)}(h:ko t rs ps):ps.length<=t.length:=by
 unfold ko at h;cases hp:dF t rs t.length 0 ([],[])with
 |none=>rw [hp]at h;simp only at h;rw [h];simp
 |some out=>
  rw [hp]at h;have:=abj _ _ _ _ jP.start hp;rw [h.1.length_eq];omega
def zg(t orig:List Int)(ps:List (Nat×Nat))(own aq:Int):List Int:=ps.foldl (fun t p=>AK t orig p own aq) t
theorem Ez {w w':World}{r:Option Nat}(h:Below w.heap.size w w'):w.grownBy w' r:=⟨h.os,h.tape,h.output,h.size,fun k hk _=>h.block k hk⟩
theorem cell_grown {w w':World}{r:Option Nat}(hg:w.grownBy w' r){a:Addr}{v:Value}(h:w.cell? a=some v)(hne:some a.block≠r):w'.cell? a=some v:=by
 have hlt:=aes w _ h;simp only [World.cell?]at h ⊢;rw [hg.block a.block hlt hne];exact h
theorem bG.grown {w w':World}{b off gc:Nat}{l:List Int}(h:bG w b off l)(hg:w.grownBy w' (some gc))(hne:b≠gc):bG w' b off l:=fun i hi=>cell_grown hg (h i hi) (fun e=>hne (aK e))
theorem rZ.grown {w w':World}{g gc:Nat}{ps:List (Nat×Nat)}(h:rZ w g ps)(hg:w.grownBy w' (some gc))(hne:g≠gc):rZ w' g ps:=fun j hj=>
 ⟨cell_grown hg (h j hj).1 (fun e=>hne (aK e)),cell_grown hg (h j hj).2 (fun e=>hne (aK e))⟩
theorem rZ.below {w w':World}{g:Nat}{ps:List (Nat×Nat)}(h:rZ w g ps)(hb:Below w.heap.size w w'):rZ w' g ps:=fun j hj=>
 ⟨cell_grown (r:=none) (Ez hb) (h j hj).1 (by simp),cell_grown (r:=none) (Ez hb) (h j hj).2 (by simp)⟩
theorem agV {α β:Type}(f:β->α->β)(b:β)(l:List α)(d:α)(j:Nat)(hj:j<l.length):(l.take (j+1)).foldl f b=f ((l.take j).foldl f b) (l.getD j d):=by
 rw [zX,aQ hj,CT,aO,aQ hj];rfl
theorem ak7(w:World)(B sb gc n cc gr cr gb cb:Nat)(pv:Value)(au aq ax:Int)(t rs orig:List Int)(h:aW w B sb gc n cc pv (.slice (some ⟨gr,0,none⟩) n cr) (.slice (some ⟨gb,0,none⟩) n cb) au aq ax t)(hr:Bp w gr n rs)(ho:bG w gb 0 orig)(hol:orig.length=n)(hgb:gb≠gc)(hbr:Br w)(hn:n<=1000)(kU:0<=au):
  Calls prog 151 #[.pointer (some ⟨sb,0,none⟩)] w fun e w'=>e= .returned (.tuple #[])/\aW w' B sb gc n cc pv (.slice (some ⟨gr,0,none⟩) n cr) (.slice (some ⟨gb,0,none⟩) n cb) au aq ax (zg t orig (zi t rs) (au%2) aq)/\w.grownBy w' (some gc):=by
 have U9:Hid (Calls prog 211 #[.pointer (some ⟨sb,0,none⟩)] w fun e w'=>∃v ps,e= .returned v/\ko t rs ps/\VO w' w.heap.size v ps/\Below w.heap.size w w'):=afc w B sb gc n cc gr cr pv (.slice (some ⟨gb,0,none⟩) n cb) au aq ax t rs h hr hbr hn;have cE:Hid (∀W,Below w.heap.size w W->aW W B sb gc n cc pv (.slice (some ⟨gr,0,none⟩) n cr) (.slice (some ⟨gb,0,none⟩) n cb) au aq ax t):=fun W hb=>h.below hb
 have HO:Hid (∀W,w.grownBy W (some gc)->bG W gb 0 orig):=fun W hg=>ho.grown hg hgb
 have HL:Hid (orig.length=n/\t.length=n):=⟨hol,h.len⟩
 have jV:gc<w.heap.size:=(h.row.lt gc rfl).2;clear h hr ho hol hbr;go_enter func151,ntmps151;go_wp2_with fail;refine U9.out.mono ?_;rintro ev w1 ⟨v,ps,rfl,hI,hV,hb1⟩;clear U9;have dN:Hid (∀p∈ps,p.1<p.2/\p.2<n):=fun p hp=>by have:=hI.ok p hp;rw [HL.out.2]at this;exact this
 have U':=ah hI.is;have qA:ps.length<=1000:=by have:=hI.few;rw [HL.out.2]at this;omega
 have LK:w.grownBy w1 (some gc):=(Ez hb1)
 have hS1:=cE.out w1 hb1;clear cE hI hb1;rcases hV with⟨rfl,a,cp,rfl⟩|⟨g,cp,rfl,hBg,sw,hA⟩
 .have bD:=ah hS1;have kI:=ah LK;clear hS1 LK dN qA;go_wp2;go_loopg [8] 0 (fun gk iv W=>gk=0/\iv= .int .i64 0/\W=w1);case atStart=>exact⟨rfl,rfl,rfl⟩
  case round=>
   obtain⟨rfl,rfl,rfl⟩:=hrel;go_wp2;go_end0;exact⟨rfl,by rw [<-U'.out];exact bD.out,kI.out⟩
 .have Y9:g≠gc:=by omega
  have bD:=ah hS1;have kI:=ah LK;have Um:=ah hA;clear hS1 LK hA hBg sw jV;obtain⟨N,hN⟩:∃N,N=ps.length:=⟨_,rfl⟩
  have pO:=ah hN.symm;rw [<-hN]at qA ⊢;clear hN;go_wp2;go_loopg [8] N (fun gk iv W=>∃(j:Nat),j<=N/\gk=N - j/\iv= .int .i64 j/\aW W B sb gc n cc pv (.slice (some ⟨gr,0,none⟩) n cr) (.slice (some ⟨gb,0,none⟩) n cb) au aq ax (zg t orig (ps.take j) (au%2) aq)/\w.grownBy W (some gc)/\rZ W g ps);case atStart=>exact⟨0,by omega,rfl,rfl,bD.out,kI.out,Um.out⟩
  case round=>
   clear bD kI Um;obtain⟨j,hj,rfl,rfl,hS,hG,hA⟩:=hrel;have HS:=ah hS;have HG:=ah hG;have HA:=ah hA;by_cases hlt:j<N
   .have hjl:j<ps.length:=by rw [pO.out];exact hlt
    obtain⟨p1,p2⟩:=hA j hjl;obtain⟨hab,nS⟩:=dN.out _ (dm (d:=(0,0)) hjl);have hst:=agV (fun t p=>AK t orig p (au%2) aq) t ps (0,0) j hjl;have Bg:Hid (zg t orig (ps.take (j+1)) (au%2) aq=AK (zg t orig (ps.take j) (au%2) aq) orig (ps.getD j (0,0)) (au%2) aq):=hst;have Ap:(j:Int)<(N:Int):=by omega
    clear hS hG hA hst;generalize ps.getD j (0,0)=p at*;obtain⟨a,b⟩:=p;simp only at p1 p2 hab nS;generalize zg t orig (ps.take j) (au%2) aq=t' at*;have hb2:Below wr.heap.size wr (wr.alloc (.cells #[.int .i64 a,.int .i64 b] 268)):=(aA _ _).alloc (ay _) _;have o5:Hid (Calls prog 212 #[.pointer (some ⟨sb,0,none⟩),.agg #[.int .i64 a,.int .i64 b]] (wr.alloc (.cells #[.int .i64 a,.int .i64 b] 268)) fun e w'=>e= .returned (.int .i64 (sK t' (a,b) (au%2) aq))/\Below (wr.alloc (.cells #[.int .i64 a,.int .i64 b] 268)).heap.size (wr.alloc (.cells #[.int .i64 a,.int .i64 b] 268)) w'):=aj2 (wr.alloc (.cells #[.int .i64 a,.int .i64 b] 268)) B sb gc n cc pv (.slice (some ⟨gr,0,none⟩) n cr) (.slice (some ⟨gb,0,none⟩) n cb) au aq ax t' (HS.out.below hb2) hn kU a b hab nS;have cW:Hid (∀W,Below (wr.alloc (.cells #[.int .i64 a,.int .i64 b] 268)).heap.size (wr.alloc (.cells #[.int .i64 a,.int .i64 b] 268)) W->aW W B sb gc n cc pv (.slice (some ⟨gr,0,none⟩) n cr) (.slice (some ⟨gb,0,none⟩) n cb) au aq ax t'/\w.grownBy W (some gc)/\rZ W g ps/\W.cell? ⟨wr.heap.size,0,none⟩=some (.int .i64 a)/\W.cell? ⟨wr.heap.size,1,none⟩=some (.int .i64 b)):=fun W hb=>by
     have hb3:Below wr.heap.size wr W:=hb2.trans (hb.mono hb2.size);have hc:(wr.alloc (.cells #[.int .i64 a,.int .i64 b] 268)).heap[wr.heap.size]? =some (.cells #[.int .i64 a,.int .i64 b] 268 (0,0)):=mP;have hc':=cB hb hc;exact⟨HS.out.below hb3,HG.out.trans (Ez hb3),HA.out.below hb3,az hc' 0,az hc' 1⟩
    have Iw:gc≠wr.heap.size:=by have:=(HS.out.row.lt gc rfl).2;omega
    clear hb2;obtain⟨z,hz⟩:∃z,z=wr.heap.size:=⟨_,rfl⟩
    go_wp2_with fail;refine o5.out.mono ?_;rintro ev w3 ⟨rfl,hb3⟩;obtain⟨lI,Hx,X8,z0,z1⟩:=cW.out w3 hb3;have jB:=ah lI;have F7:=ah Hx;have Un:=ah X8;clear hb3 o5 cW lI Hx X8 p1 p2;rw [<-hz]at z0 z1 Iw ⊢;have HZ:=ah Iw;clear hz Iw;by_cases hd:sK t' (a,b) (au%2) aq= -1
    .have HQ:Hid (AK t' orig (a,b) (au%2) aq=t'):=by show _=_;rw [AK,aj hd]
     rw [hd];clear hd;go_wp2;go_roundg (N - (j+1));case measure=>omega
     case rel=>exact⟨j+1,by omega,rfl,by go_num,by rw [Bg.out,HQ.out];exact jB.out,F7.out,Un.out⟩
    .have hd':(sK t' (a,b) (au%2) aq== -1)=false:=by simpa using hd
     have HQ:Hid (AK t' orig (a,b) (au%2) aq=nH orig (sK t' (a,b) (au%2) aq) b (nH orig (sK t' (a,b) (au%2) aq) a t')):=by show _=_;rw [AK,ai hd]
     clear hd;generalize sK t' (a,b) (au%2) aq=d at*;have aG:Hid (Calls prog 213 #[.pointer (some ⟨sb,0,none⟩),.int .i64 a,.int .i64 d] w3 fun e w'=>e= .returned (.tuple #[])/\aW w' B sb gc n cc pv (.slice (some ⟨gr,0,none⟩) n cr) (.slice (some ⟨gb,0,none⟩) n cb) au aq ax (nH orig d a t')/\w3.grownBy w' (some gc)):=acu w3 B sb gc n cc gb cb pv (.slice (some ⟨gr,0,none⟩) n cr) au aq ax t' orig jB.out (HO.out w3 F7.out) HL.out.1 hgb hn a (by omega) d;have aJ:Hid (∀W,w.grownBy W (some gc)->aW W B sb gc n cc pv (.slice (some ⟨gr,0,none⟩) n cr) (.slice (some ⟨gb,0,none⟩) n cb) au aq ax (nH orig d a t')->Calls prog 213 #[.pointer (some ⟨sb,0,none⟩),.int .i64 b,.int .i64 d] W fun e w'=>e= .returned (.tuple #[])/\aW w' B sb gc n cc pv (.slice (some ⟨gr,0,none⟩) n cr) (.slice (some ⟨gb,0,none⟩) n cb) au aq ax (nH orig d b (nH orig d a t'))/\W.grownBy w' (some gc)):=fun W hg hS=>acu W B sb gc n cc gb cb pv (.slice (some ⟨gr,0,none⟩) n cr) au aq ax _ orig hS (HO.out W hg) HL.out.1 hgb hn b nS d
     go_wp2_with fail;refine aG.out.mono ?_;rintro ev w4 ⟨rfl,jk,hg4⟩;have uP:=ah jk;have A7:=ah (F7.out.trans hg4);have HA4:=ah (Un.out.grown hg4 Y9);have y1:w4.cell? ⟨z,1,none⟩=some (.int .i64 b):=cell_grown hg4 z1 (fun e=>HZ.out (aK e).symm);clear jk hg4 aG z0 z1;go_wp2_with fail;refine(aJ.out w4 A7.out uP.out).mono ?_;rintro ev w5 ⟨rfl,qj,cA⟩;have fC:=ah qj;have D5:=ah (A7.out.trans cA);have Nl:=ah (HA4.out.grown cA Y9);clear qj cA aJ y1;go_wp2;go_roundg (N - (j+1));case measure=>omega
     case rel=>exact⟨j+1,by omega,rfl,by go_num,by rw [Bg.out,HQ.out];exact fC.out,D5.out,Nl.out⟩
   .obtain rfl:j=N:=by omega
    have Ap:¬(j:Int)<(j:Int):=by omega
    have HX:Hid (aW wr B sb gc n cc pv (.slice (some ⟨gr,0,none⟩) n cr) (.slice (some ⟨gb,0,none⟩) n cb) au aq ax (zg t orig ps (au%2) aq)):=by
     have:=HS.out;rw [lB (by rw [pO.out];exact ay _)]at this;exact this
    clear hS hG hA;go_wp2;go_end0;exact⟨rfl,by rw [<-U'.out];exact HX.out,HG.out⟩
structure NS(W:World)(B sb:Nat)(pv vr vc:Value)(au:Int)(qr qc:List Int):Prop where
 cell:W.heap[sb]? =some (.cells #[pv,vr,vc,.slice none 0 0,.int .i64 au,.int .i64 0,.int .i64 0] 220 (0,0))
 rr:W.ownsRow B 21 1 vr qr.length (nW qr)
 rc:W.ownsRow B 108 1 vc qc.length (iv qc)
 low:B<=sb
section
variable{W W':World}{B sb:Nat}{pv vr vc v':Value}{au:Int}{qr qc:List Int}
theorem NS.below(h:NS W B sb pv vr vc au qr qc)(hb:Below W.heap.size W W'):NS W' B sb pv vr vc au qr qc:=⟨cB hb h.cell,eH h.rr hb,eH h.rc hb,h.low⟩
theorem NS.JG {y:Int}(h:NS W B sb pv vr vc au qr qc)(hown:W'.ownsRow B 21 1 v' (qr.length+1) (nW qr++[.int .i32 y]))(hg:W.grownBy W' vr.ownBlock):
  NS (W'.setCell ⟨sb,1,none⟩ v') B sb pv v' vc au (qr++[y]) qc/\W'.cell? ⟨sb,1,none⟩=some vr/\W'.frozen? ⟨sb,1,none⟩=false:=by
 have n1:=jY h.rr h.cell (by decide);have hc:W'.heap[sb]? =_:=(hg.block sb (bZ h.cell) (fun e=>n1 e.symm)).trans h.cell;have ht:W'.ownsRow B 108 1 vc qc.length (iv qc):=dO h.rc hg (kD h.rc h.rr (by decide));have n2:v'.ownBlock≠some sb:=jY hown hc (by decide);have n3:vc.ownBlock≠some sb:=jY ht hc (by decide);refine⟨⟨by rw [fK hc];rfl,?_,jm ht n3 1 v',h.low⟩,az hc 1,cH hc 1⟩;rw [bP,nW,fO];exact jm hown n2 1 v'
theorem NS.akM {y:Int}(h:NS W B sb pv vr vc au qr qc)(hown:W'.ownsRow B 108 1 v' (qc.length+1) (iv qc++[.int .i64 y]))(hg:W.grownBy W' vc.ownBlock):
  NS (W'.setCell ⟨sb,2,none⟩ v') B sb pv vr v' au qr (qc++[y])/\W'.cell? ⟨sb,2,none⟩=some vc/\W'.frozen? ⟨sb,2,none⟩=false:=by
 have n1:=jY h.rc h.cell (by decide);have hc:W'.heap[sb]? =_:=(hg.block sb (bZ h.cell) (fun e=>n1 e.symm)).trans h.cell;have hr:W'.ownsRow B 21 1 vr qr.length (nW qr):=dO h.rr hg (kD h.rr h.rc (by decide));have n2:v'.ownBlock≠some sb:=jY hown hc (by decide);have n3:vr.ownBlock≠some sb:=jY hr hc (by decide);refine⟨⟨by rw [fK hc];rfl,jm hr n3 2 v',?_,h.low⟩,az hc 2,cH hc 2⟩;rw [bP,iv,fO];exact jm hown n2 2 v'
end
theorem akd(w:World)(lb gt gm n ct cm:Nat)(r c l:Value)(p:Int)(cs:List Int)(h:yz w lb gt gm n ct cm r c l p cs)(hn:n<=1000)(d:Int):
  Calls prog 141 #[.pointer (some ⟨lb,0,none⟩),.int .i64 d] w fun e w'=>e= .returned (.int .i64 (gz cs d))/\w'=w:=by
 have c1:w.cell? ⟨lb,1,none⟩=some (.slice (some ⟨gt,0,none⟩) n ct):=az h.cell 1;have HF:Hid (Calls prog 199 #[.pointer (some ⟨lb,0,none⟩),.int .i64 0,.int .i64 n] w fun e w'=>e= .returned (.int .i64 (found cs))/\w'=w):=by
  have:=XN w lb gt gm n ct cm r c l p cs h hn 0 n (n+1) (ay _) (by omega) (by omega);rw [<-h.len,SL,<-LD cs cs.length 0 (by omega)]at this;rw [<-h.len];exact this
 unfold gz;generalize found cs=fd at*;clear h;by_cases h0:d=0
 .subst h0;rw [aj (.inl rfl)];go_enter func141,ntmps141;go_wp2;go_ret;exact⟨rfl,rfl⟩
 .have q0:(d==0)=false:=by simpa using h0
  by_cases h1:d=1
  .subst h1;rw [aj (.inr rfl)];go_enter func141,ntmps141;go_wp2;go_ret;exact⟨rfl,rfl⟩
  .rw [ai (by omega)];have q1:(d==1)=false:=by simpa using h1
   go_enter func141,ntmps141;go_wp2_with fail;refine HF.out.mono ?_;rintro ev wx ⟨rfl,hx⟩;have hx':=hx.symm;subst hx';go_wp2;go_ret;exact⟨rfl,rfl⟩
theorem DU(W:World)(b i:Nat)(v:Value):W.grownBy (W.setCell ⟨b,i,none⟩ v) (some b):=⟨rfl,rfl,rfl,by simp,fun k _ hne=>gK _ _ _ _ (fun e=>hne (by rw [e]))⟩
theorem Bv(w:World)(a:Obj)(r:Option Nat):w.grownBy (w.alloc a) r:=⟨rfl,rfl,rfl,by simp,fun k hk _=>dM w a k hk⟩
theorem Pp {P:Program}{w:World}{sT e ty:TypeId}{B g gs n cs:Nat}{xs:List Value}{cur:Array Value}(hu:P.underlying sT=some (.slice e))(hs:(P.info? e).map (·.size)=some 1)(hg:w.heap[g]? =some (.cells cur e (0,0)))(hc:cur.size=n)(hr:w.ownsRow B e 1 (.slice (some ⟨gs,0,none⟩) n cs) n xs)(h1:∀v∈xs,v.oneCell'=true):
  ∃w',(Builtin.copy_ #[sT,sT] ty #[.slice (some ⟨g,0,none⟩) n n,.slice (some ⟨gs,0,none⟩) n cs]).run P w= .ok (.int .i64 n) w'/\w'.heap[g]? =some (.cells xs.toArray e (0,0))/\w.grownBy w' (some g):=by
 have hxl:xs.length=n:=by have:=hr.1;simpa using this
 have jy:=run_copy_row (P:=P) w sT sT ty e g 0 n n ⟨gs,0,none⟩ n cs cur e xs hu hs hg (by rw [hxl];exact(Nat.min_self n).symm) (fun j v hj=>World.ownsRow.cells hr rfl j v hj) (by rw [hxl,hc];omega) h1;have e1:cur.toList.take 0++xs++cur.toList.drop (0+xs.length)=xs:=by
  rw [VK,yx,jD (by rw [hxl];simp;omega),lu]
 rw [e1,hxl]at jy;refine⟨_,jy,setRow_heap _ _ _ _ _ _ hg,⟨rfl,rfl,rfl,by simp [World.setRow],fun k _ hne=>setRow_other w g k _ (fun e=>hne (by rw [e]))⟩⟩
def LB(W:World)(lb:Nat)(a0 a1 a2 a3 a4 a5:Value):Prop:=W.heap[lb]? =some (.cells #[a0,a1,a2,a3,a4,a5] 141 (0,0))
section
variable{W W':World}{lb:Nat}{a0 a1 a2 a3 a4 a5:Value}
theorem LB.c1(h:LB W lb a0 a1 a2 a3 a4 a5):W.cell? ⟨lb,1,none⟩=some a1:=az h 1
theorem LB.c2(h:LB W lb a0 a1 a2 a3 a4 a5):W.cell? ⟨lb,2,none⟩=some a2/\W.frozen? ⟨lb,2,none⟩=false:=⟨az h 2,cH h 2⟩
theorem LB.c3(h:LB W lb a0 a1 a2 a3 a4 a5):W.cell? ⟨lb,3,none⟩=some a3/\W.frozen? ⟨lb,3,none⟩=false:=⟨az h 3,cH h 3⟩
theorem LB.c4(h:LB W lb a0 a1 a2 a3 a4 a5):W.cell? ⟨lb,4,none⟩=some a4/\W.frozen? ⟨lb,4,none⟩=false:=⟨az h 4,cH h 4⟩
theorem LB.c5(h:LB W lb a0 a1 a2 a3 a4 a5):W.cell? ⟨lb,5,none⟩=some a5/\W.frozen? ⟨lb,5,none⟩=false:=⟨az h 5,cH h 5⟩
theorem LB.grown {r:Option Nat}(h:LB W lb a0 a1 a2 a3 a4 a5)(hg:W.grownBy W' r)(hne:some lb≠r):LB W' lb a0 a1 a2 a3 a4 a5:=(hg.block lb (bZ h) hne).trans h
theorem LB.below(h:LB W lb a0 a1 a2 a3 a4 a5)(hb:Below W.heap.size W W'):LB W' lb a0 a1 a2 a3 a4 a5:=cB hb h
theorem LB.s2(h:LB W lb a0 a1 a2 a3 a4 a5)(v:Value):LB (W.setCell ⟨lb,2,none⟩ v) lb a0 a1 v a3 a4 a5:=by unfold LB;rw [fK h];rfl
theorem LB.s3(h:LB W lb a0 a1 a2 a3 a4 a5)(v:Value):LB (W.setCell ⟨lb,3,none⟩ v) lb a0 a1 a2 v a4 a5:=by unfold LB;rw [fK h];rfl
theorem LB.s4(h:LB W lb a0 a1 a2 a3 a4 a5)(v:Value):LB (W.setCell ⟨lb,4,none⟩ v) lb a0 a1 a2 a3 v a5:=by unfold LB;rw [fK h];rfl
theorem LB.s5(h:LB W lb a0 a1 a2 a3 a4 a5)(v:Value):LB (W.setCell ⟨lb,5,none⟩ v) lb a0 a1 a2 a3 a4 v:=by unfold LB;rw [fK h];rfl
end
theorem iu {w w':World}{B g n c:Nat}{e:TypeId}{xs:List Value}{r:Nat}(h:w.ownsRow B e 1 (.slice (some ⟨g,0,none⟩) n c) n xs)(hg:w.grownBy w' (some r))(hne:g≠r):w'.ownsRow B e 1 (.slice (some ⟨g,0,none⟩) n c) n xs:=
 dO h hg (.inr (by simp [Value.ownBlock];exact hne))
theorem Tryz.Tv:(prog.info? 108).map (·.size)=some 1:=by kernel_rfl
theorem Xn(cs lv:List Int)(lf:List Bool)(para:Int)(at':List Nat)(n m gc oc cc gl ol cl gf of' cf ga oa ca:Nat)(w:World)(hc:cs.length=n)(hl:lv.length=n)(hf:lf.length=n)(hn:n<=100000)(hm:at'.length=m)(hm0:0<m)(qz:m<=100000)(hat:∀p∈at',p<n)
  (hlv:∀l∈lv,0<=l/\l<=1000) (hp:0<=para/\para<=1000) (hci:bG w gc oc cs) (yX:bG w gl ol lv) (hfi:xW w gf of' lf) (hai:bG w ga oa (nl at')) (jV:gc<w.heap.size) (hgl:gl<w.heap.size) (su:gf<w.heap.size) (Dg:ga<w.heap.size):
  Calls prog 123 #[.slice (some ⟨gc,oc,none⟩) n cc,.slice (some ⟨gl,ol,none⟩) n cl,.slice (some ⟨gf,of',none⟩) n cf,.int .i64 para,.slice (some ⟨ga,oa,none⟩) m ca] w fun ev w'=>ev= .returned (.agg #[.slice (some ⟨ga,oa,none⟩) m ca,.int .i64 (qf cs lv lf para at').level,.int .i64 (qf cs lv lf para at').aq,.int .i64 (qf cs lv lf para at').ax])/\Below w.heap.size w w':=by
 have hne:at'≠[]:=by intro e;rw [e]at hm;simp at hm;omega
 obtain⟨a0,ha0⟩:∃a0,a0=at'.headD 0:=⟨_,rfl⟩
 obtain⟨la,hla⟩:∃la,la=at'.getLastD 0:=⟨_,rfl⟩
 have YM:a0<n:=by rw [ha0];exact hat _ (head_mem hne)
 have Ma:la<n:=by rw [hla];exact hat _ (xD hne)
 obtain⟨au,kU⟩:∃au,au=lv.getD a0 0:=⟨_,rfl⟩
 have vB:0<=au/\au<=1000:=by rw [kU];exact hlv _ (dm (by rw [hl];exact YM))
 have HQ:Hid (qf cs lv lf para at'=⟨at',au,iy au (jG lv lf para a0),iy au (oz cs lv lf para la)⟩):=by
  show _=_;rw [kU,ha0,hla];rfl
 rw [HQ.out];simp only;have hget:∀k,k<n->0<=lv.getD k 0/\lv.getD k 0<=1000:=fun k hk=>hlv _ (dm (by rw [hl];exact hk))
 have adF:Hid (∀k,k<=n->0<=jG lv lf para k/\jG lv lf para k<=1000):=by
  intro k
  induction k with
  |zero=>intro _;exact hp
  |succ k ih=>intro hk;rw [jG];split;exact hget k (by omega);exact ih (by omega)
 have adG:Hid (∀k,k<=n->0<=kO lv lf para n k/\kO lv lf para n k<=1000):=by
  intro k
  induction k with
  |zero=>intro _;exact hp
  |succ k ih=>intro hk;rw [kO];split;exact hget _ (by omega);exact ih (by omega)
 have HP:=ah hp;have eP:Hid (cs.length=n/\lv.length=n/\lf.length=n):=⟨hc,hl,hf⟩
 have G6:w.cell? ⟨ga,oa,none⟩=some (.int .i64 (a0:Nat)):=by
  have:=hai 0 (by rw [gw];omega);rw [mJ _ _ (by omega),qY]at this;rw [this,ha0];cases at' with
  |nil=>exact absurd rfl hne
  |cons a l=>rfl
 have Wl:w.cell? ⟨ga,oa+(m - 1),none⟩=some (.int .i64 (la:Nat)):=by
  have:=hai (m - 1) (by rw [gw];omega);rw [mJ _ _ (by omega)]at this;rw [this,hla]
  congr 3
  rw [pW,Ek,hm,aO]
 have Pg:=yX a0 (by rw [hl];exact YM);rw [<-kU]at Pg;have Pf:=hci la (by rw [hc];exact Ma);obtain⟨EE,Qv⟩:∃EE,EE=cs.getD la 0:=⟨_,rfl⟩
 rw [<-Qv]at Pf;obtain⟨W1,hW1⟩:∃W1,W1=(w.alloc (.cells #[.slice none 0 0,.int .i64 0,.int .i64 0,.int .i64 0] 120)).alloc (.cells #[.slice (some ⟨ga,oa,none⟩) m ca,.int .i64 au,.int .i64 0,.int .i64 0] 120):=⟨_,rfl⟩
 have hb1:Below w.heap.size w W1:=by rw [hW1];exact((aA _ _).alloc (ay _) _).alloc (by simp) _
 have aG:=ah hb1;have x8:=ah (hci.stay hb1 jV);have Ba:=ah (yX.stay hb1 hgl);have zC:=ah (hfi.stay hb1 su);have HA0:Hid (W1.cell? ⟨ga,oa,none⟩=some (.int .i64 (a0:Nat))/\W1.cell? ⟨ga,oa+(m - 1),none⟩=some (.int .i64 (la:Nat))/\W1.cell? ⟨gc,oc+la,none⟩=some (.int .i64 EE)):=⟨by rw [hb1.cell (p:=⟨ga,oa,none⟩) Dg];exact G6,by rw [hb1.cell (p:=⟨ga,oa+(m - 1),none⟩) Dg];exact Wl,by rw [hb1.cell (p:=⟨gc,oc+la,none⟩) jV];exact Pf⟩
 have adJ:=ah Qv;have vw:Below w.heap.size w (w.alloc (.cells #[.slice none 0 0,.int .i64 0,.int .i64 0,.int .i64 0] 120)):=(aA _ _).alloc (ay _) _;have eA0:(w.alloc (.cells #[.slice none 0 0,.int .i64 0,.int .i64 0,.int .i64 0] 120)).cell? ⟨ga,oa,none⟩=some (.int .i64 (a0:Nat)):=by rw [vw.cell (p:=⟨ga,oa,none⟩) Dg];exact G6
 have eL0:(w.alloc (.cells #[.slice none 0 0,.int .i64 0,.int .i64 0,.int .i64 0] 120)).cell? ⟨gl,ol+a0,none⟩=some (.int .i64 au):=by rw [vw.cell (p:=⟨gl,ol+a0,none⟩) hgl];exact Pg
 have HGC:Hid (gc<W1.heap.size):=by have:=hb1.size;show gc<W1.heap.size;omega
 have wM:=ah hW1;clear vw G6 Pg;clear hci yX hfi hai jV hgl su hc hl hf hat hlv hp hget hne ha0 hla kU Qv hb1 Pf Wl Dg;go_enter func123,ntmps123;go_wp2;rw [<-hW1];clear hW1 eA0 eL0;obtain⟨q0,q1,q2⟩:=HA0.out;go_loopg [12,13] a0 (fun gh bv kv W=>∃k:Nat,k<=a0/\gh=a0 - k/\bv= .int .i64 (jG lv lf para k)/\kv= .int .i64 k/\W=W1);case atStart=>exact⟨0,by omega,rfl,rfl,rfl,rfl⟩
 case round=>
  obtain⟨k,hk,rfl,rfl,rfl,hW⟩:=hrel;have hW':=hW.symm;subst hW';by_cases hlt:k<a0
  .have G7:=zC.out k (by rw [eP.out.2.2];omega);have cl':=Ba.out k (by rw [eP.out.2.1];omega);have hs:=show jG lv lf para (k+1)=if lf.getD k false=true then lv.getD k 0 else jG lv lf para k from rfl
   have hkn:k<n:=by omega
   generalize lv.getD k 0=l at*;cases hb:lf.getD k false
   .rw [hb]at G7 hs;have HS:Hid (jG lv lf para (k+1)=jG lv lf para k):=by show _=_;rw [hs];rfl
    clear hs hb;go_wp2;go_roundg (a0 - (k+1));case measure=>omega
    case rel=>exact⟨k+1,by omega,rfl,by rw [HS.out],by simp,rfl⟩
   .rw [hb]at G7 hs;have HS:Hid (jG lv lf para (k+1)=l):=by show _=_;rw [hs];rfl
    clear hs hb;go_wp2;go_roundg (a0 - (k+1));case measure=>omega
    case rel=>exact⟨k+1,by omega,rfl,by rw [HS.out],by simp,rfl⟩
  .obtain rfl:a0=k:=by omega
   clear hlt;obtain⟨m',rfl⟩:∃m',m=m'+1:=⟨m - 1,by omega⟩
   rw [kr]at q1;have qJ:=adF.out a0 (by omega);generalize ES:jG lv lf para a0=EB at*;have FV:=ah ES;clear ES;go_wp2_with fail;refine(Ay EE _).mono ?_;rintro ev wx ⟨rfl,hx⟩;have hx':=hx.symm;subst hx';go_wp2;go_loopg [15,17] (n - (la+1)) (fun gh bv kv W=>∃j:Nat,j<=n - (la+1)/\gh=n - (la+1) - j/\bv= .int .i64 (kO lv lf para n j)/\kv= .int .i64 ((n:Int) - 1 - j)/\W=W1);case atStart=>exact⟨0,by omega,rfl,rfl,by simp,rfl⟩
   case round=>
    obtain⟨j,hj,rfl,rfl,rfl,hW⟩:=hrel;have hW':=hW.symm;subst hW';by_cases hlt:j<n - (la+1)
    .obtain⟨p,hp⟩:∃p,p=n - (j+1):=⟨_,rfl⟩
     have hpi:(n:Int) - 1 - (j:Int)=(p:Int):=by omega
     rw [hpi];have qA:p<n:=by omega
     have hpl:la<p:=by omega
     have G7:=zC.out p (by rw [eP.out.2.2];exact qA);have cl':=Ba.out p (by rw [eP.out.2.1];exact qA);have hs:=show kO lv lf para n (j+1)=if lf.getD (n - (j+1)) false=true then lv.getD (n - (j+1)) 0 else kO lv lf para n j from rfl
     rw [<-hp]at hs;have U3:Hid ((p:Int) - 1=(n:Int) - 1 - ((j+1:Nat):Int)):=by show _=_;omega
     generalize lv.getD p 0=l at*;clear hp hpi;cases hb:lf.getD p false
     .rw [hb]at G7 hs;have HS:Hid (kO lv lf para n (j+1)=kO lv lf para n j):=by show _=_;rw [hs];rfl
      clear hs hb;go_wp2;go_roundg (n - (la+1) - (j+1));case measure=>omega
      case rel=>exact⟨j+1,by omega,rfl,by rw [HS.out],by rw [U3.out],rfl⟩
     .rw [hb]at G7 hs;have HS:Hid (kO lv lf para n (j+1)=l):=by show _=_;rw [hs];rfl
      clear hs hb;go_wp2;go_roundg (n - (la+1) - (j+1));case measure=>omega
      case rel=>exact⟨j+1,by omega,rfl,by rw [HS.out],by rw [U3.out],rfl⟩
    .obtain rfl:j=n - (la+1):=by omega
     rw [show(n:Int) - 1 - ((n - (la+1):Nat):Int)=(la:Int)by omega];clear hlt;have Ke:=adG.out (n - (la+1)) (by omega);have hbs:oz cs lv lf para la=if aS EE=true/\mt cs la=n then para else kO lv lf para n (n - (la+1)):=by unfold oz;rw [<-adJ.out,eP.out.1]
     generalize kO lv lf para n (n - (la+1))=EC at*;cases bH:aS EE
     .have FW:Hid (oz cs lv lf para la=EC):=by show _=_;rw [hbs,bH,ai (by simp)]
      clear hbs bH;rw [wM.out];go_wp2_with fail;refine(FE au EB _ vB.1 vB.2 qJ.1 qJ.2).mono ?_;rintro ev wx ⟨rfl,rfl⟩;generalize hs1:iy au EB=s1 at*;have bD:=ah hs1;clear hs1;go_wp2_with fail;refine(FE au EC _ vB.1 vB.2 Ke.1 Ke.2).mono ?_;rintro ev wx ⟨rfl,rfl⟩;generalize hs2:iy au EC=s2 at*;have cW:=ah hs2;clear hs2;go_wp2;refine cG (v:= .agg #[.slice (some ⟨ga,oa,none⟩) (m'+1) ca,.int .i64 au,.int .i64 s1,.int .i64 s2]) (by simp [results,results123,Tryz.isAgg120,Tryz.sizeOf120,go_sem]) rfl ⟨?_,?_⟩
      .rw [FV.out,bD.out,FW.out,cW.out]
      .exact((aA _ _).alloc (ay _) _).alloc (by simp) _
     .have QU:=rG cs la (by rw [eP.out.1];omega);rw [bH]at hbs;have UQ:Hid (Calls prog 115 #[.slice (some ⟨gc,oc,none⟩) n cc,.int .i64 la] W1 fun e w2=>e= .returned (.int .i64 (mt cs la))/\w2=W1):=Js cs la gc oc cc n W1 eP.out.1 (by omega) (by omega) x8.out;generalize mt cs la=z at*;clear bH;by_cases hz:z=n
      .have FW:Hid (oz cs lv lf para la=para):=by show _=_;rw [hbs,aj ⟨rfl,hz⟩]
       have U4:=HP.out;have hz':((z:Int)==(n:Int))=true:=by simp [hz]
       clear hbs hz QU;go_wp2_with fail;refine UQ.out.mono ?_;rintro ev wx ⟨rfl,hx⟩;have hx':=hx.symm;subst hx';rw [wM.out];go_wp2_with fail;refine(FE au EB _ vB.1 vB.2 qJ.1 qJ.2).mono ?_;rintro ev wx ⟨rfl,rfl⟩;generalize hs1:iy au EB=s1 at*;have bD:=ah hs1;clear hs1;go_wp2_with fail;refine(FE au para _ vB.1 vB.2 U4.1 U4.2).mono ?_;rintro ev wx ⟨rfl,rfl⟩;generalize hs2:iy au para=s2 at*;have cW:=ah hs2;clear hs2;go_wp2;refine cG (v:= .agg #[.slice (some ⟨ga,oa,none⟩) (m'+1) ca,.int .i64 au,.int .i64 s1,.int .i64 s2]) (by simp [results,results123,Tryz.isAgg120,Tryz.sizeOf120,go_sem]) rfl ⟨?_,?_⟩
       .rw [FV.out,bD.out,FW.out,cW.out]
       .exact((aA _ _).alloc (ay _) _).alloc (by simp) _
      .have FW:Hid (oz cs lv lf para la=EC):=by show _=_;rw [hbs,ai (fun h=>hz h.2)]
       have hz':((z:Int)==(n:Int))=false:=by simp;omega
       clear hbs hz QU;go_wp2_with fail;refine UQ.out.mono ?_;rintro ev wx ⟨rfl,hx⟩;have hx':=hx.symm;subst hx';rw [wM.out];go_wp2_with fail;refine(FE au EB _ vB.1 vB.2 qJ.1 qJ.2).mono ?_;rintro ev wx ⟨rfl,rfl⟩;generalize hs1:iy au EB=s1 at*;have bD:=ah hs1;clear hs1;go_wp2_with fail;refine(FE au EC _ vB.1 vB.2 Ke.1 Ke.2).mono ?_;rintro ev wx ⟨rfl,rfl⟩;generalize hs2:iy au EC=s2 at*;have cW:=ah hs2;clear hs2;go_wp2;refine cG (v:= .agg #[.slice (some ⟨ga,oa,none⟩) (m'+1) ca,.int .i64 au,.int .i64 s1,.int .i64 s2]) (by simp [results,results123,Tryz.isAgg120,Tryz.sizeOf120,go_sem]) rfl ⟨?_,?_⟩
       .rw [FV.out,bD.out,FW.out,cW.out]
       .exact((aA _ _).alloc (ay _) _).alloc (by simp) _
theorem ac9 {P:Program}(w:World){ops:Array Oper}{rest:List Oper}{o:Oper}{a:Act}{Q:Exit->Act->World->Prop}(hgd:o.guard=none)(s x:Operand)(t:TypeId)
  (ho:o.op= .call {callee:= .builtin .append,args:=#[s,x],argTypes:=#[t,t]})
  (base:Nat) (e:TypeId) (i:TypeInfo) (z:Value) (bytes:Nat) (ht:P.underlying t=some (.slice e)) (hi:P.info? e=some i) (hz:i.zero=some z)
  (hsize:i.size=1) (hby:i.bytes=bytes) (hzs:z.cells.size=1) (oJ:bytes<=64)
  (v:Value) (n:Nat) (xs:List Value) (hs:a.eval s=v) (hown:w.ownsRow base e 1 v n xs)
  (g m c:Nat) (news:List Value) (hx:a.eval x= .slice (some ⟨g,0,none⟩) m c) (hl:news.length=m) (hnews:∀j u,news[j]? =some u->w.cell? ⟨g,j,none⟩=some u) (h1:∀u∈news,u.oneCell'=true) (hn:n<=1000000) (hm:m<=1000000) (hbase:base<=w.heap.size)
  (h:∀v' w',w'.ownsRow base e 1 v' (n+m) (xs++news)->w.grownBy w' v.ownBlock->(v'.ownBlock=v.ownBlock∨v'.ownBlock=some w.heap.size)->wpList P ops Q rest (a.put o.dst v') w'):wpList P ops Q (o::rest) a w:=by
 refine an2 _ hgd s x t ho base e i z 1 bytes ht hi hz hsize hby hzs (by decide) v n xs hs hown ⟨g,0,none⟩ m c news hx (by omega) ?_ h1 ?_ ?_ hbase ?_
 .intro j u hj;have:=hnews j u hj;simp only [Addr.add];split
  .rename_i h0;subst h0;exact this
  .simpa using this
 .unfold maxLen;omega
 .have:(n+m)*bytes<=2000000*64:=zZ (by omega) oJ;omega
 .intro v' w' h2 h3 _ h5;exact h v' w' h2 h3 h5
theorem ade {P:Program}(w:World){ops:Array Oper}{rest:List Oper}{o:Oper}{a:Act}{Q:Exit->Act->World->Prop}(hgd:o.guard=none)(s x:Operand)(t:TypeId)
  (ho:o.op= .call {callee:= .builtin .append,args:=#[s,x],argTypes:=#[t,t]})
  (base:Nat) (e:TypeId) (i:TypeInfo) (z:Value) (bytes:Nat) (ht:P.underlying t=some (.slice e)) (hi:P.info? e=some i) (hz:i.zero=some z)
  (hsize:i.size=4) (hby:i.bytes=bytes) (hzs:z.cells.size=4) (oJ:bytes<=64)
  (v:Value) (n:Nat) (xs:List Value) (hs:a.eval s=v) (hown:w.ownsRow base e 4 v n xs)
  (y0 y1 y2 y3:Value) (e':TypeId) (k:Nat) (hx:a.eval x= .slice (some ⟨k,0,none⟩) 1 1) (hk:k=w.heap.size) (h0:y0.oneCell'=true) (h1:y1.oneCell'=true) (h2:y2.oneCell'=true) (h3:y3.oneCell'=true) (hn:n<=1000000) (hbase:base<=w.heap.size)
  (h:∀v' w',w'.ownsRow base e 4 v' (n+1) (xs++[y0,y1,y2,y3])->w.grownBy w' v.ownBlock->wpList P ops Q rest (a.put o.dst v') w'):wpList P ops Q (o::rest) a (w.alloc (.cells #[y0,y1,y2,y3] e')):=by
 subst hk;refine FO _ hgd s x t ho base e i z 4 bytes ht hi hz hsize hby hzs (by decide) v n xs hs (hown.alloc _) ⟨w.heap.size,0,none⟩ 1 1 [y0,y1,y2,y3] hx rfl ?_ ?_ ?_ ?_ ?_ ?_
 .intro j u hj
  match j,hj with
  |0,hj=>simp at hj;subst hj;simp [Addr.add]
  |1,hj=>simp at hj;subst hj;simp [Addr.add]
  |2,hj=>simp at hj;subst hj;simp [Addr.add]
  |3,hj=>simp at hj;subst hj;simp [Addr.add]
 .intro u hu;simp at hu;rcases hu with rfl|rfl|rfl|rfl
  .exact h0
  .exact h1
  .exact h2
  .exact h3
 .unfold maxLen;omega
 .have:(n+1)*bytes<=1000001*64:=zZ (by omega) oJ;omega
 .simp;omega
 .intro v' w' h2 h3 _;refine h v' w' h2 ⟨h3.os,h3.tape,h3.output,?_,fun k hk hne=> ?_⟩
  .have:=h3.size;simp at this;omega
  .rw [h3.block k (by simp;omega) hne];exact dM w _ k hk
def sO:List Value->List Sq->List Value
 |a::dh,s::ss=>a:: .int .i64 s.level:: .int .i64 s.aq:: .int .i64 s.ax::sO dh ss
 |_,_=>[]
theorem acG:∀(dh:List Value)(ss:List Sq)(a:Value)(s:Sq),dh.length=ss.length->sO (dh++[a]) (ss++[s])=sO dh ss++[a,.int .i64 s.level,.int .i64 s.aq,.int .i64 s.ax]
 |[],[],a,s,_=>rfl
 |b::dh,t::ss,a,s,h=>by simp [sO,acG dh ss a s (by simpa using h)]
structure mg(w0 w:World)(B:Nat)(lU ov cv:Value)(vs dh:List Value)(rs:List (List Nat))(ss:List Sq)(cur:List Nat):Prop where
 below:Below B w0 w
 base:B<=w.heap.size
 AR:w.ownsRow B 31 1 lU rs.length vs
 old:∀i,i<rs.length->w.ownsRow B 3 1 (vs.getD i .nilFunc) (rs.getD i []).length (iv (nl (rs.getD i [])))
 out:w.ownsRow B 120 4 ov ss.length (sO dh ss)
 CX:dh.length=ss.length
 done:∀i,i<ss.length->w.ownsRow B 3 1 (dh.getD i .nilFunc) (ss.getD i ⟨[],0,0,0⟩).at'.length (iv (nl (ss.getD i ⟨[],0,0,0⟩).at'))
 cur':w.ownsRow B 3 1 cv cur.length (iv (nl cur))
 O0:∀i,i<rs.length->nY (vs.getD i .nilFunc).ownBlock cv.ownBlock
 OZ:∀i,i<ss.length->nY (dh.getD i .nilFunc).ownBlock cv.ownBlock
section
variable{w0 w w':World}{B:Nat}{lU ov cv:Value}{vs dh:List Value}{rs:List (List Nat)}{ss:List Sq}{cur:List Nat}
theorem mg.call(h:mg w0 w B lU ov cv vs dh rs ss cur)(hb:Below w.heap.size w w'):mg w0 w' B lU ov cv vs dh rs ss cur:=
 ⟨h.below.trans (hb.mono h.base),bU h.base hb.size,eH h.AR hb,fun i hi=>eH (h.old i hi) hb,eH h.out hb,h.CX,fun i hi=>eH (h.done i hi) hb,eH h.cur' hb,h.O0,h.OZ⟩
theorem mg.drop(h:mg w0 w B lU ov cv vs dh rs ss cur):mg w0 w B lU ov (.slice none 0 0) vs dh rs ss []:=
 ⟨h.below,h.base,h.AR,h.old,h.out,h.CX,h.done,⟨rfl,.inl ⟨rfl,rfl⟩⟩,fun _ _ k _ hk=>(by cases hk),fun _ _ k _ hk=>(by cases hk)⟩
theorem nY.fresh {w:World}{a a' b:Option Nat}(h:nY b a)(h1:a'=a∨a'=some w.heap.size)(hb:∀k,b=some k->k<w.heap.size):nY b a':=by
 intro k h2 h3;rcases h1 with rfl|h1
 .exact h k h2 h3
 .rw [h1]at h3;have:=aK h3;have:=hb k h2;omega
theorem mg.app {Lg:Value}{r:List Nat}(h:mg w0 w B lU ov cv vs dh rs ss cur)(h1:w'.ownsRow B 3 1 Lg (cur.length+r.length) (iv (nl cur)++iv (nl r)))(hg:w.grownBy w' cv.ownBlock)(hv:Lg.ownBlock=cv.ownBlock∨Lg.ownBlock=some w.heap.size):mg w0 w' B lU ov Lg vs dh rs ss (cur++r):=
 ⟨h.below.grown hg h.base (sJ h.cur'),bU h.base hg.size,dO h.AR hg (kD h.AR h.cur' (by decide)),fun i hi=>dO (h.old i hi) hg (h.O0 i hi).ne,dO h.out hg (kD h.out h.cur' (by decide)),h.CX,
  fun i hi=>dO (h.done i hi) hg (h.OZ i hi).ne,by simpa [iv,nl]using h1,fun i hi=>(h.O0 i hi).fresh hv (rJ (h.old i hi)),fun i hi=>(h.OZ i hi).fresh hv (rJ (h.done i hi))⟩
theorem mg.push {Cg:Value}{s:Sq}(h:mg w0 w B lU ov cv vs dh rs ss cur)(hs:s.at'=cur)(h1:w'.ownsRow B 120 4 Cg (ss.length+1) (sO dh ss++[cv,.int .i64 s.level,.int .i64 s.aq,.int .i64 s.ax]))(hg:w.grownBy w' ov.ownBlock):mg w0 w' B lU Cg (.slice none 0 0) vs (dh++[cv]) rs (ss++[s]) []:=by
 refine⟨h.below.grown hg h.base (sJ h.out),bU h.base hg.size,dO h.AR hg (kD h.AR h.out (by decide)),fun i hi=>dO (h.old i hi) hg (kD (h.old i hi) h.out (by decide)),?_,by simp [h.CX],?_,⟨rfl,.inl ⟨rfl,rfl⟩⟩,fun _ _ k _ hk=>(by cases hk),fun _ _ k _ hk=>(by cases hk)⟩
 .rw [acG _ _ _ _ h.CX];simpa using h1
 .intro i hi;simp only [bP,eW,kq]at hi;have ha:=h.CX;rcases cK i ss.length with h'|h'
  .simp only [aO];rw [qV (by omega),qV h'];have:=dO (h.done i h') hg (kD (h.done i h') h.out (by decide));simpa [aO]using this
  .have hie:i=ss.length:=by omega
   subst hie;simp only [aO];rw [pT (by omega),pT (by omega),ha,nK];have:=dO h.cur' hg (kD h.cur' h.out (by decide));simpa [hs]using this
end
structure XR(w0 w:World)(B s g2 g3 g4 len:Nat)(x:XS)(ls ks:List Int)(fs:List Bool):Prop where
 st:∃v,cU w B s v x.st x.aH x.aM x.valid
 lv:bh w B 3 g2 len (iv ls)
 kd:bh w B 3 g3 len (iv ks)
 lf:bh w B 4 g4 len (bv fs)
 be:Below B w0 w
theorem XR.call {w0 w w':World}{B s g2 g3 g4 len:Nat}{x y:XS}{ls ks:List Int}{fs:List Bool}(h:XR w0 w B s g2 g3 g4 len x ls ks fs)(hs2:g2≠s)(hs3:g3≠s)(hs4:g4≠s)(hf:Fr B s w w')(hst:∃v,cU w' B s v y.st y.aH y.aM y.valid):XR w0 w' B s g2 g3 g4 len y ls ks fs:=
 ⟨hst,S4 h.lv hf.xJ (by decide) (by simp [Value.ownBlock,hs2]),S4 h.kd hf.xJ (by decide) (by simp [Value.ownBlock,hs3]),S4 h.lf hf.xJ (by decide) (by simp [Value.ownBlock,hs4]),h.be.trans hf.below⟩
theorem cU.alloc {w:World}{B s:Nat}{v:Value}{st:List aU}{a b c:Int}(h:cU w B s v st a b c)(o:Obj):cU (w.alloc o) B s v st a b c:=h.below ((aA _ _).alloc (ay _) o)
theorem cU.setOther {w:World}{B s:Nat}{v:Value}{st:List aU}{a b c:Int}(h:cU w B s v st a b c){g:Nat}(k:Nat)(u:Value)(hg:g≠s)(ht:∀cu,w.heap[g]? ≠some (.cells cu 181 (0,0))):cU (w.setCell ⟨g,k,none⟩ u) B s v st a b c:=by
 refine⟨?_,jm h.row ?_ k u,h.low⟩
 .rw [gK];exact h.cell;exact fun e=>hg e.symm
 .rcases h.row.2 with⟨rfl,_⟩|⟨g',cp,cur,rfl,_,hh,_⟩
  .simp [Value.ownBlock]
  .simp only [Value.ownBlock];intro e;obtain rfl:=aK e;exact ht _ hh
theorem bh.kind {w:World}{B g n:Nat}{e:TypeId}{xs:List Value}(h:bh w B e g n xs)(he:e≠181):∀cu,w.heap[g]? ≠some (.cells cu 181 (0,0)):=by
 intro cu hh;rcases h.2 with⟨h',_⟩|⟨g',cp,cur,h',_,hh',_⟩
 .cases h'
 .simp only [uY,Bo,Addr.mk.injEq,and_true,vN]at h';obtain⟨rfl,rfl⟩:=h';rw [hh]at hh';simp at hh';exact he hh'.2.symm
theorem XR.alloc {w0 w:World}{B s g2 g3 g4 len:Nat}{x:XS}{ls ks:List Int}{fs:List Bool}(h:XR w0 w B s g2 g3 g4 len x ls ks fs)(o:Obj):XR w0 (w.alloc o) B s g2 g3 g4 len x ls ks fs:=by
 obtain⟨v,hst⟩:=h.st;exact⟨⟨v,hst.alloc o⟩,h.lv.alloc o,h.kd.alloc o,h.lf.alloc o,h.be.alloc (bU hst.low (fW hst.lt)) o⟩
theorem XR.DT {w0 w:World}{B s g2 g3 g4 len:Nat}{x:XS}{ls ks:List Int}{fs:List Bool}(h:XR w0 w B s g2 g3 g4 len x ls ks fs)(h2:g2≠s)(h3:g3≠g2)(h4:g4≠g2)(k:Nat)(a:Int):XR w0 (w.setCell ⟨g2,k,none⟩ (.int .i64 a)) B s g2 g3 g4 len x (ls.set k a) ks fs:=by
 obtain⟨v,hst⟩:=h.st;exact⟨⟨v,hst.setOther k _ h2 (h.lv.kind (by decide))⟩,Fg ls k a▸h.lv.set k _,h.kd.setOther g2 k _ h3,h.lf.setOther g2 k _ h4,h.be.setCell h.lv.ge.1 _⟩
theorem XR.Tj {w0 w:World}{B s g2 g3 g4 len:Nat}{x:XS}{ls ks:List Int}{fs:List Bool}(h:XR w0 w B s g2 g3 g4 len x ls ks fs)(h2:g3≠s)(h3:g2≠g3)(h4:g4≠g3)(k:Nat)(a:Int):XR w0 (w.setCell ⟨g3,k,none⟩ (.int .i64 a)) B s g2 g3 g4 len x ls (ks.set k a) fs:=by
 obtain⟨v,hst⟩:=h.st;exact⟨⟨v,hst.setOther k _ h2 (h.kd.kind (by decide))⟩,h.lv.setOther g3 k _ h3,Fg ks k a▸h.kd.set k _,h.lf.setOther g3 k _ h4,h.be.setCell h.kd.ge.1 _⟩
theorem XR.jZ {w0 w:World}{B s g2 g3 g4 len:Nat}{x:XS}{ls ks:List Int}{fs:List Bool}(h:XR w0 w B s g2 g3 g4 len x ls ks fs)(h2:g4≠s)(h3:g2≠g4)(h4:g3≠g4)(k:Nat)(a:Bool):XR w0 (w.setCell ⟨g4,k,none⟩ (.bool a)) B s g2 g3 g4 len x ls ks (fs.set k a):=by
 obtain⟨v,hst⟩:=h.st;exact⟨⟨v,hst.setOther k _ h2 (h.lf.kind (by decide))⟩,h.lv.setOther g4 k _ h3,h.kd.setOther g4 k _ h4,Pb fs k a▸h.lf.set k _,h.be.setCell h.lf.ge.1 _⟩
structure Gs(B s g2 g3 g4:Nat):Prop where
 s:s=B+1
 g2:g2=B+2
 g3:g3=B+3
 g4:g4=B+4
def iA(cs:List Int)(para:Int)(w0 w:World)(B len:Nat)(x:XS)(k:Nat):Prop:=
 XR w0 w B (B+1) (B+2) (B+3) (B+4) len x (upto (aZ cs para) 0 k) (upto (gZ cs para) 0 k) (upto (aN cs) false k)
theorem adm {cs:List Int}{para:Int}{k:Nat}(hk:k<cs.length):(aZ cs para)[k]? =some (gG cs para k).l:=by simp [aZ,hk]
theorem adi {cs:List Int}{para:Int}{k:Nat}(hk:k<cs.length):(gZ cs para)[k]? =some (kindOf (cs.getD k 0) (gG cs para k)):=by simp [gZ,hk]
theorem adj {cs:List Int}{k:Nat}(hk:k<cs.length):(aN cs)[k]? =some (bN (cs.getD k 0)):=by simp [aN,hk]
theorem iA.stored {cs:List Int}{para:Int}{w0 w:World}{B s g2 g3 g4 len:Nat}{x:XS}{k:Nat}(h:iA cs para w0 w B len x k)(gV:Gs B s g2 g3 g4)(hk:k<cs.length)(e:aU)(he:e=gG cs para k)(o:Obj)(l c:Int)(f:Bool)(hl:l=e.l)(hc:c=kindOf (cs.getD k 0) e)(hf:f=bN (cs.getD k 0)):
  iA cs para w0 ((((w.alloc o).setCell ⟨g2,k,none⟩ (.int .i64 l)).setCell ⟨g3,k,none⟩ (.int .i64 c)).setCell ⟨g4,k,none⟩ (.bool f)) B len x (k+1):=by
 obtain⟨rfl,rfl,rfl,rfl⟩:=gV;subst hl hc hf he;unfold iA;rw [<-FN _ _ _ _ (adm hk),<-FN _ _ _ _ (adi hk),<-FN _ _ _ _ (adj hk)];exact(((XR.alloc h o).DT (by omega) (by omega) (by omega) k _).Tj (by omega) (by omega) (by omega) k _).jZ (by omega) (by omega) (by omega) k _
theorem iA.FJ {cs:List Int}{para:Int}{w0 w:World}{B s g2 g3 g4 len:Nat}{x:XS}{k:Nat}(h:iA cs para w0 w B len x k)(gV:Gs B s g2 g3 g4)(hk:k<cs.length)(e:aU)(he:e=gG cs para k)(o:Obj)(l c c':Int)(f:Bool)(hl:l=e.l)(hc:c=kindOf (cs.getD k 0) e)(hf:f=bN (cs.getD k 0)):
  iA cs para w0 (((((w.alloc o).setCell ⟨g2,k,none⟩ (.int .i64 l)).setCell ⟨g3,k,none⟩ (.int .i64 c')).setCell ⟨g4,k,none⟩ (.bool f)).setCell ⟨g3,k,none⟩ (.int .i64 c)) B len x (k+1):=by
 obtain⟨rfl,rfl,rfl,rfl⟩:=gV;subst hl hc hf he;unfold iA;rw [<-FN _ _ _ _ (adm hk),<-FN _ _ _ _ (adi hk),<-FN _ _ _ _ (adj hk)];have:=((((XR.alloc h o).DT (by omega) (by omega) (by omega) k (gG cs para k).l).Tj (by omega) (by omega) (by omega) k c').jZ (by omega) (by omega) (by omega) k (bN (cs.getD k 0))).Tj (by omega) (by omega) (by omega) k (kindOf (cs.getD k 0) (gG cs para k));rw [OQ]at this;exact this
theorem iA.start(cs:List Int)(para:Int)(w:World)(len:Nat)(hl:cs.length=len)(hn:len<=100000):
  iA cs para w (((((w.alloc (.cells #[.int .i64 para,.int .i64 (-1),.bool false] 181)).alloc (.cells #[.slice (some ⟨w.heap.size,0,none⟩) 1 1,.int .i64 0,.int .i64 0,.int .i64 0] 184)).alloc
   (.cells (madeCells #[.int .i64 0] len) 3)).alloc (.cells (madeCells #[.int .i64 0] len) 3)).alloc (.cells (madeCells #[.bool false] len) 4)) w.heap.size len (dW cs para 0) 0:=by
 have e1:iv (upto (aZ cs para) 0 0)=List.replicate len (.int .i64 0):=by rw [TV];simp [iv,aZ,hl]
 have e2:iv (upto (gZ cs para) 0 0)=List.replicate len (.int .i64 0):=by rw [TV];simp [iv,gZ,hl]
 have e3:bv (upto (aN cs) false 0)=List.replicate len (.bool false):=by rw [TV];simp [bv,aN,hl]
 generalize hw1:w.alloc (.cells #[.int .i64 para,.int .i64 (-1),.bool false] 181)=w1;have z1:w1.heap.size=w.heap.size+1:=by rw [<-hw1];simp
 have b1:w1.heap[w.heap.size]? =some (.cells #[.int .i64 para,.int .i64 (-1),.bool false] 181):=by rw [<-hw1];exact Qz w _
 generalize hw2:w1.alloc (.cells #[.slice (some ⟨w.heap.size,0,none⟩) 1 1,.int .i64 0,.int .i64 0,.int .i64 0] 184)=w2;have z2:w2.heap.size=w.heap.size+2:=by rw [<-hw2];simp [z1]
 have hst:cU w2 w.heap.size (w.heap.size+1) (.slice (some ⟨w.heap.size,0,none⟩) 1 1) [⟨para, -1,false⟩] 0 0 0:=by
  refine⟨by rw [<-hw2,<-z1];exact Qz w1 _,⟨rfl,.inr ⟨w.heap.size,1,#[.int .i64 para,.int .i64 (-1),.bool false],rfl,ay _,?_,ay _,by unfold maxLen;omega,rfl,rfl⟩⟩,by omega⟩;rw [<-hw2,heap_alloc_old w1 _ (by omega)];exact b1
 have be2:Below w.heap.size w w2:=by rw [<-hw2,<-hw1];exact((aA _ _).alloc (ay _) _).alloc (by simp) _
 have m3:=bh.made (w:=w2) (B:=w.heap.size) (n:=len) (e:=3) (z:= .int .i64 0) (by omega) (by omega);generalize hw3:w2.alloc (.cells (madeCells #[.int .i64 0] len) 3)=w3 at m3 ⊢;have z3:w3.heap.size=w.heap.size+3:=by rw [<-hw3];simp [z2]
 have m4:=bh.made (w:=w3) (B:=w.heap.size) (n:=len) (e:=3) (z:= .int .i64 0) (by omega) (by omega);generalize hw4:w3.alloc (.cells (madeCells #[.int .i64 0] len) 3)=w4 at m4 ⊢;have z4:w4.heap.size=w.heap.size+4:=by rw [<-hw4];simp [z3]
 have m5:=bh.made (w:=w4) (B:=w.heap.size) (n:=len) (e:=4) (z:= .bool false) (by omega) (by omega);rw [z2]at m3;rw [z3]at m4;rw [z4]at m5;refine⟨⟨.slice (some ⟨w.heap.size,0,none⟩) 1 1,?_⟩,?_,?_,?_,?_⟩
 .rw [<-hw4,<-hw3];exact((hst.alloc _).alloc _).alloc _
 .rw [e1,<-hw4];exact(m3.alloc _).alloc _
 .rw [e2];exact m4.alloc _
 .rw [e3];exact m5
 .rw [<-hw4,<-hw3];exact((be2.alloc (by omega) _).alloc (by rw [hw3];omega) _).alloc (by rw [hw3,hw4];omega) _
theorem iA.below {cs:List Int}{para:Int}{w0 w w':World}{B len:Nat}{x:XS}{k:Nat}(h:iA cs para w0 w B len x k)(hb:Below w.heap.size w w'):iA cs para w0 w' B len x k:=by
 obtain⟨v,hst⟩:=h.st;exact XR.call h (by omega) (by omega) (by omega) (Fr.of_below (bU hst.low (fW hst.lt)) hb) ⟨v,hst.below hb⟩
theorem A0 {cs:List Int}{para:Int}{w0 w:World}{B s len:Nat}{x:XS}{k:Nat}(hs:s=B+1)(h:iA cs para w0 w B len x k)(ho:dJ k x):
  Calls prog 117 #[.pointer (some ⟨s,0,none⟩)] w fun ev w'=>ev= .returned (.agg #[.int .i64 (aR x.st).l,.int .i64 (aR x.st).o,.bool (aR x.st).i])/\iA cs para w0 w' B len x k:=by
 subst hs;obtain⟨v,hst⟩:=h.st;have hlen:=ho.len;obtain⟨st0,e,he⟩:∃st0 e,x.st=st0++[e]:=⟨x.st.dropLast,x.st.getLast ho.ne,(CS ho.ne).symm⟩
 rw [he]at hst hlen;rw [he,DV];simp only [bP,eW,kq]at hlen;refine(M7 w B (B+1) v st0 e _ _ _ hst (by omega)).mono ?_;rintro ev w' ⟨rfl,hb⟩;exact⟨rfl,h.below hb⟩
theorem agv {cs:List Int}{para:Int}{w0 w:World}{B s len:Nat}{x:XS}{k:Nat}(hs:s=B+1)(h:iA cs para w0 w B len x k)(ho:dJ k x)(hk:k<=100000):
  Calls prog 116 #[.pointer (some ⟨s,0,none⟩)] w fun ev w'=>ev= .returned (.tuple #[])/\iA cs para w0 w' B len (iD x) k:=by
 subst hs;obtain⟨v,hst⟩:=h.st;refine(agt w B (B+1) v x hst (by have:=ho.len;omega) (ho.big (by omega)) ho.Pz).mono ?_;rintro ev w' ⟨rfl,hf,hv⟩;exact⟨rfl,XR.call h (by omega) (by omega) (by omega) hf hv⟩
theorem agp {cs:List Int}{para:Int}{w0 w:World}{B s len:Nat}{x:XS}{k j:Nat}(c:Int)(hs:s=B+1)(h:iA cs para w0 w B len x j)(ho:dJ k x)(hk:k<=100000)(hcc:c=13∨c=14∨c=15∨c=16):
  Calls prog 118 #[.pointer (some ⟨s,0,none⟩),.int .i64 c] w fun ev w'=>ev= .returned (.tuple #[])/\iA cs para w0 w' B len (iZ x c) j:=by
 subst hs;obtain⟨v,hst⟩:=h.st;have ht:=ho.top;have hb:=ho.big (by omega);refine(ago w B (B+1) v x c hst ho.ne (by have:=ho.len;omega) ht.2.1 (by omega) ⟨hb.2.2.1,hb.2.2.2.1⟩ hcc).mono ?_;rintro ev w' ⟨rfl,hf,hv⟩;exact⟨rfl,XR.call h (by omega) (by omega) (by omega) hf hv⟩
theorem Bw {cs:List Int}{para:Int}{w0 w:World}{B s len:Nat}{x:XS}{k j:Nat}(bJ:Int)(hs:s=B+1)(h:iA cs para w0 w B len x j)(ho:dJ k x)(hk:k<=100000):
  Calls prog 119 #[.pointer (some ⟨s,0,none⟩),.int .i64 bJ] w fun ev w'=>ev= .returned (.tuple #[])/\iA cs para w0 w' B len (iO x bJ) j:=by
 subst hs;obtain⟨v,hst⟩:=h.st;have ht:=ho.top;have hb:=ho.big (by omega);refine(aeY w B (B+1) v x bJ hst ho.ne (by have:=ho.len;omega) ht.2.1 (by omega) ⟨hb.1,hb.2.1⟩ ⟨hb.2.2.2.2.1,hb.2.2.2.2.2⟩).mono ?_;rintro ev w' ⟨rfl,hf,hv⟩;exact⟨rfl,XR.call h (by omega) (by omega) (by omega) hf hv⟩
theorem akF {cs:List Int}{para:Int}{w0 w:World}{B s len:Nat}{x:XS}{k j:Nat}(hs:s=B+1)(h:iA cs para w0 w B len x j)(ho:dJ k x)(hk:k<=100000):
  Calls prog 120 #[.pointer (some ⟨s,0,none⟩)] w fun ev w'=>ev= .returned (.tuple #[])/\iA cs para w0 w' B len (jA x) j:=by
 subst hs;obtain⟨v,hst⟩:=h.st;refine(akE w B (B+1) v x hst ho.ne (by have:=ho.len;omega) (ho.big (by omega))).mono ?_;rintro ev w' ⟨rfl,hf,hv⟩;exact⟨rfl,XR.call h (by omega) (by omega) (by omega) hf hv⟩
theorem iA.ready {cs:List Int}{para:Int}{w0 w:World}{B s g2 g3 g4 len:Nat}{x:XS}{k j:Nat}(h:iA cs para w0 w B len x j)(gV:Gs B s g2 g3 g4)(hl:cs.length=len)(hj:j<=len)(hk:k<len)(a0 a1 a2:Value):
  ((∃u,(w.alloc (.cells #[a0,a1,a2] 181)).cell? ⟨g2,k,none⟩=some (.int .i64 u))/\(∃u,(w.alloc (.cells #[a0,a1,a2] 181)).cell? ⟨g3,k,none⟩=some (.int .i64 u))/\(∃u,(w.alloc (.cells #[a0,a1,a2] 181)).cell? ⟨g4,k,none⟩=some (.bool u))/\
   (w.alloc (.cells #[a0,a1,a2] 181)).frozen? ⟨g2,k,none⟩=false/\(w.alloc (.cells #[a0,a1,a2] 181)).frozen? ⟨g3,k,none⟩=false/\(w.alloc (.cells #[a0,a1,a2] 181)).frozen? ⟨g4,k,none⟩=false)/\
  (w.alloc (.cells #[a0,a1,a2] 181)).cell? ⟨w.heap.size,0,none⟩=some a0/\(w.alloc (.cells #[a0,a1,a2] 181)).cell? ⟨w.heap.size,1,none⟩=some a1/\
  (w.heap.size≠g2/\w.heap.size≠g3/\w.heap.size≠g4/\g2≠w.heap.size/\g3≠w.heap.size/\g4≠w.heap.size)/\(g2≠g3/\g2≠g4/\g3≠g2/\g3≠g4/\g4≠g2/\g4≠g3):=by
 obtain⟨rfl,rfl,rfl,rfl⟩:=gV;have hz:=h.lf.ge.2;have hnew:=Qz w (.cells #[a0,a1,a2] 181);have h':iA cs para w0 (w.alloc (.cells #[a0,a1,a2] 181)) B len x j:=XR.alloc h _;refine⟨⟨?_,?_,?_,h'.lv.frozen k,h'.kd.frozen k,h'.lf.frozen k⟩,az hnew 0,az hnew 1,by omega,by omega⟩
 .rw [h'.lv.cell k hk];refine⟨(upto (aZ cs para) 0 j)[k]'(by rw [TU _ _ _ (by simp [aZ];omega)];simp [aZ];omega),by simp [iv]⟩
 .rw [h'.kd.cell k hk];refine⟨(upto (gZ cs para) 0 j)[k]'(by rw [TU _ _ _ (by simp [gZ];omega)];simp [gZ];omega),by simp [iv]⟩
 .rw [h'.lf.cell k hk];refine⟨(upto (aN cs) false j)[k]'(by rw [TU _ _ _ (by simp [aN];omega)];simp [aN];omega),by simp [bv]⟩
