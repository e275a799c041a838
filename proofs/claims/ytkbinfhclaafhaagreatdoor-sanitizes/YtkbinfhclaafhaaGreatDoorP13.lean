import Derived.Test.YtkbinfhclaafhaaGreatDoorP12
namespace Go.Proofs.YtkbinfhclaafhaaGreatDoor
open Go.RowKit
open Go.Proofs.Tryz
set_option maxRecDepth 100000
set_option maxHeartbeats 32000000
set_option linter.all false
def nS.call {f w e:World}{B:Nat}{d b c:Value}{t o r:List Int}(h:nS f w B d b c t o r)(a:Below w.heap.size w e):nS f e B d b c t o r:=
 ⟨h.below.trans<|a.mono h.base,bP h.base a.size,fu h.ht a,fu h.ho a,fu h.hr a,h.to',h.tr,h.or'⟩
def nS.write {j w b:World}{B g n c:Nat}{e f:Value}{t i o r:List Int}(h:nS j w B (.slice (some ⟨g,0,none⟩) n c) e f t o r)(d:bu b B g n c i)(a:w.grownBy b<|some g):nS j b B (.slice (some ⟨g,0,none⟩) n c) e f i o r:=by
 have m:=d.len;refine⟨h.below.grown a h.base λk l=>by have:=vC h.ht k;exact this l,bP h.base a.size,?_,eI h.ho a h.to'.symm.ne,eI h.hr a h.tr.symm.ne,h.to',h.tr,h.or'⟩;rw[m];exact d
def Cw(l:List Int)(a:List Nat)(k:Nat)(b:k<a.length):bB l (a.take<|k+1)=bB l (a.take k)++[l.getD (a.getD k 0) 0]:=by
 unfold bB;rw[pG b,fB];simp[aO,aM b]
def OL(l:List Int)(a:List Nat):(bB l a).length=a.length:=by simp[bB]
def IL {w:World}{B g n c:Nat}{l:List Int}(h:w.ownsRow B 3 1 (.slice (some ⟨g,0,none⟩) n c) n<|iv l):bI w g 0 l:=λk a=>by
 rw[fZ];exact jk h k a
def arV(a:List Nat)(b:Int)(t:List Int)(j:Nat)(c:j<a.length)(d:j<t.length):(jm a b t).take (j+1)=(jm a b t).take j++[(a.getD j 0,b,t.getD j 0)]:=by
 have e:j<(jm a b t).length:=by rw[jm,ja,Ss];omega
 rw[pG e];congr 1;simp[jm,aO,aM c,aM d]
def aq1(D b T:List Int)(s:Sq)(n m O oa ca gr X cr gk ok ck H cl B:Nat)(w:World)(hm:s.at'.length=m)(aT:0<m)(nj:m<=100000)(ad:∀p∈s.at',p<n)
  (ae:0<=s.level/\s.level<=1000) (ab:bI w O oa<|nl s.at') (FB:O<w.heap.size) (CG:bI w gr X D) (ar:gr<w.heap.size) (aw:bI w gk ok b) (FC:gk<w.heap.size) (az:D.length=n) (i:b.length=n)
  (ag:bu w B H n cl T) (ak:O≠H):
  Calls prog 73 #[.agg #[.slice (some ⟨O,oa,none⟩) m ca,.int .i64 s.level,.int .i64 s.aq,.int .i64 s.ay],.slice (some ⟨gr,X,none⟩) n cr,.slice (some ⟨gk,ok,none⟩) n ck,.slice (some ⟨H,0,none⟩) n cl] w λev w'=>ev= .returned (.tuple #[])/\bu w' B H n cl ((qH D b s).foldl lB T)/\w.grownBy w' (some H):=by
 obtain⟨iI,fP,fQ,fR,fS⟩:=gu Tryz.rL;obtain⟨a,v,E,Z⟩:=s;simp only at hm ad ae ab ⊢;obtain⟨q,hq⟩:=ac<|(qH D b ⟨a,v,E,Z⟩).foldl lB T;rw[<-hq];have HQ:=ah hq;clear hq;have aP:H<w.heap.size:=(AJ ag H rfl).2;have HM:Hid (a.length=m/\(∀p∈a,p<n)):=⟨hm,ad⟩
 have HL:Hid (D.length=n/\b.length=n):=⟨az,i⟩
 obtain⟨h,hh⟩:=ac w.heap.size;have aI:∃c,c=w.alloc (.cells #[.slice (some ⟨O,oa,none⟩) m ca,.int .i64 v,.int .i64 E,.int .i64 Z] 120):=⟨_,rfl⟩
 obtain⟨c,Q⟩:=aI;have M:Below w.heap.size w c:=by rw[Q];exact(aA _ _).alloc (au _) _
 have aE:h<c.heap.size:=by rw[Q,hh];simp
 have cO:Hid (w.grownBy c (some H)/\h<c.heap.size/\h≠H/\O<c.heap.size/\O≠H/\gr<c.heap.size/\gk<c.heap.size/\H<c.heap.size):=⟨TU M,aE,by omega,by omega,ak,by omega,by omega,by omega⟩
 have Df:Hid (bI c O oa (nl a)/\bI c gr X D/\bI c gk ok b/\bu c B H n cl T):=⟨ab.stay M FB,CG.stay M ar,aw.stay M FC,fu ag M⟩
 have Jj:Hid (c.cell? ⟨h,0,none⟩=some (.slice (some ⟨O,oa,none⟩) m ca)/\c.cell? ⟨h,1,none⟩=some (.int .i64 v)/\c.cell? ⟨h,2,none⟩=some (.int .i64 E)/\c.cell? ⟨h,3,none⟩=some (.int .i64 Z)):=by
  rw[Q,hh];refine⟨?_,?_,?_,?_⟩<;>simp
 clear ab CG aw az i ag FB ar FC aP M aE hm ad ak;have HC:Hid (∀W,Below c.heap.size c W->W.cell? ⟨h,0,none⟩=some (.slice (some ⟨O,oa,none⟩) m ca)/\W.cell? ⟨h,1,none⟩=some (.int .i64 v)/\W.cell? ⟨h,2,none⟩=some (.int .i64 E)/\W.cell? ⟨h,3,none⟩=some (.int .i64 Z)):=by
  intro W V;have hz:=cO.out.2.1;rw[V.cell (p:=⟨h,0,none⟩) hz,V.cell (p:=⟨h,1,none⟩) hz,V.cell (p:=⟨h,2,none⟩) hz,V.cell (p:=⟨h,3,none⟩) hz];exact Jj.out
 go_enter func73,ntmps73;go_wp2;rw[<-Q,<-hh];clear Q hh Jj;go_loopg [8,9,10,11] m (λgh tv ov rv iv W=>∃k:Nat,k<=m/\gh=m - k/\iv= .int .i64 k/\nS c W c.heap.size tv ov rv (bB b<|a.take k) (bB b<|a.take k) (bB D<|a.take k));exact⟨0,by omega,rfl,rfl,nS.start _ _ _ (aA _ _) (au _)⟩;obtain⟨k,hk,rfl,rfl,r⟩:=hrel;by_cases o:k<m
 .have N:=ah r;have i:k<a.length:=by rw[HM.out.1];exact o
  have hp:a.getD k 0<n:=HM.out.2 _ (TQ i);have HG:Hid (bB b (a.take<|k+1)=bB b (a.take k)++[b.getD (a.getD k 0) 0]/\bB D (a.take<|k+1)=bB D (a.take k)++[D.getD (a.getD k 0) 0]):=⟨Cw _ _ _ i,Cw _ _ _ i⟩
  have QO:Hid (∀W,Below c.heap.size c W->W.cell? ⟨h,0,none⟩=some (.slice (some ⟨O,oa,none⟩) m ca)/\W.cell? ⟨O,oa+k,none⟩=some (.int .i64 (a.getD k 0:Nat))/\W.cell? ⟨gk,ok+a.getD k 0,none⟩=some (.int .i64<|b.getD (a.getD k 0) 0)/\W.cell? ⟨gr,X+a.getD k 0,none⟩=some (.int .i64<|D.getD (a.getD k 0) 0)):=by
   intro W V;refine⟨(HC.out W V).1,?_,?_,?_⟩
   .have:=(Df.out.1.stay V cO.out.2.2.2.1) k (by rw[gW];exact i);rw[oh _ _ i]at this;exact this
   .exact(Df.out.2.2.1.stay V cO.out.2.2.2.2.2.2.1) _ (by rw[HL.out.2];exact hp)
   .exact(Df.out.2.1.stay V cO.out.2.2.2.2.2.1) _ (by rw[HL.out.1];exact hp)
  have af:(bB b<|a.take k).length<=1000000/\(bB D<|a.take k).length<=1000000:=by rw[OL,OL,r9];omega
  generalize a.getD k 0=p at*;generalize b.getD p 0=kp at*;generalize D.getD p 0=rp at*;generalize bB b (a.take k)=tk at*;generalize bB D (a.take k)=rk at*;obtain⟨K,L,I,J⟩:=QO.out wr r.below;have l:=r.ht;have A:=r.base;clear r;go_wp2_with(at_builtin;refine Ag _ rfl _ _ 31 rfl c.heap.size 3 iI (.int .i64 0) 8 underlying31 fP fQ fR fS rfl (by decide) _ _ _ rfl l _ _ _ rfl rfl rfl af.1 A ?_);intro v1 w1 d C u;have Hx:=N.out.WK d C u;have Zy:=ah Hx;clear d C u l A K L I J N;obtain⟨K,L,I,J⟩:=QO.out w1 Hx.below;have l:=Hx.ho;have A:=Hx.base;clear Hx;go_wp2_with(at_builtin;refine Ag _ rfl _ _ 31 rfl c.heap.size 3 iI (.int .i64 0) 8 underlying31 fP fQ fR fS rfl (by decide) _ _ _ rfl l _ _ _ rfl rfl rfl af.1 A ?_);intro v2 w2 d C u;have Y:=Zy.out.apm d C u;have U:=ah Y;clear d C u l A K L I J Zy;obtain⟨K,L,I,J⟩:=QO.out w2 Y.below;have l:=Y.hr;have A:=Y.base;clear Y;go_wp2_with(at_builtin;refine Ag _ rfl _ _ 31 rfl c.heap.size 3 iI (.int .i64 0) 8 underlying31 fP fQ fR fS rfl (by decide) _ _ _ rfl l _ _ _ rfl rfl rfl af.2 A ?_);intro v3 w3 d C u;have KY:=U.out.MG d C u;have EZ:=ah KY;clear d C u l A K L I J U KY;go_wp2;go_roundg (m - (k+1));exact⟨k+1,by omega,rfl,by simp,by rw[HG.out.1,HG.out.2];exact EZ.out⟩;omega
 .obtain rfl:k=m:=by omega
  have aB:a.take k=a:=ku (by rw[HM.out.1];exact au _);rw[aB]at r;clear aB;have Bb:(bB b a).length=k/\(bB D a).length=k:=by rw[OL,OL,HM.out.1];exact⟨rfl,rfl⟩
  have Aw:Hid (q=(jm a v<|Eb E Z (v%2)<|Bk (uD E<|bB b a) (bB b a) (Bq (uD E<|bB b a)<|bB D a) (v%2) E).foldl lB T):=HQ.out;clear HQ;generalize bB b a=T0 at*;generalize bB D a=R0 at*;obtain⟨x,ct,e1,aV,aS,ao⟩:=gI r.ht (by omega);obtain⟨go,co,e2,Ib,aQ,am⟩:=gI r.ho (by omega);obtain⟨gq,cq,e3,dK,aR,an⟩:=gI r.hr (by omega);subst e1 e2 e3;rw[Bb.1,Bb.2]at r;rw[Bb.1,Bb.2];have aC:x≠go:=λe=>r.to' x rfl (by rw[e];rfl)
  have aD:x≠gq:=λe=>r.tr x rfl (by rw[e];rfl)
  have N:=ah r;have y:Hid (bu wr c.heap.size x k ct T0):=by have:=r.ht;rw[Bb.1]at this;exact this
  have HK:=ah Bb;have Jz:Hid (x≠go/\x≠gq/\c.heap.size<=x/\c.heap.size<=go/\c.heap.size<=gq):=⟨aC,aD,ao,am,an⟩
  obtain⟨K,L,I,J⟩:=HC.out wr r.below;clear r Bb aC aD aS aQ aR ao am an o;go_wp2_with fail;refine(asj T0 E _ c.heap.size x k ct wr y.out nj aT).mono ?_;rintro ev w2 ⟨rfl,A5,nW⟩;have Y:=N.out.write A5 nW;have U:=ah Y;have Nh:=ah A5.len;clear N y K L I J A5 nW;obtain⟨K,L,I,J⟩:=HC.out w2 Y.below;clear Y;generalize uD E T0=T1 at*;obtain⟨e,he⟩:=ac<|v%2;obtain⟨F,hF⟩:∃F:List (Nat×Nat)->List Int,F=λg=>Bk T1 T0 g e E:=⟨_,rfl⟩
  have HF:Hid (∀(g:List<|Nat×Nat)(j:Nat),j<g.length->F (g.take<|j+1)=s9 (F<|g.take j) T0 (g.getD j (0,0)) e E):=by
   intro g j hj;rw[hF];simp only;unfold Bk;rw[pG hj,Ci];simp[aO,aM hj]
  have YF:Hid (F []=T1/\∀g,(F g).length=k):=by
   rw[hF];exact⟨rfl,λg=>by rw[VZ];exact Nh.out⟩
  obtain⟨G,hG⟩:∃G:List Int->List Int,G=λt=>Eb E Z e t:=⟨_,rfl⟩
  have HG:Hid (∀t,Eb E Z e t=G t):=by intro t;rw[hG]
  have Gy:Hid (q=(jm a v<|G<|F<|Bq T1 R0).foldl lB T):=by
   have:=Aw.out;rw[hG,hF,he];exact this
  have al:e=0∨e=1:=by omega
  have R:(v%2==1)=(e==1):=by rw[he]
  clear hF hG he Aw
  go_upto_if 64 with fail
  go_cut [12] (λev wc=>ev= .int .i64 e/\wc=w2)
  case first=>
   rcases al with rfl|rfl
   .have aH:(v%2==1)=false:=R;go_wp2_with fail;go_meet;case rel=>exact⟨rfl,rfl⟩
   .have aH:(v%2==1)=true:=R;go_wp2_with fail;go_meet;case rel=>exact⟨rfl,rfl⟩
  case rest=>
   obtain⟨aK,aL⟩:=hcut;subst aK;have aJ:=aL.symm;subst aJ;clear R al;go_wp2_with fail;refine(aoJ T1 R0 k x 0 ct gq 0 cq w2 Nh.out HK.out.2 nj (IL<|by have:=U.out.ht;rw[Nh.out]at this;exact this) (IL<|by have:=U.out.hr;rw[HK.out.2]at this;exact this) (uu U.out.ht x rfl)<|uu U.out.hr gq rfl).mono ?_;rintro ev w3 ⟨pv,g,rfl,aj,aY,ap,U5⟩;have KY:=U.out.call ap;obtain⟨pa,pc,rfl⟩:=eH U5;have EZ:=ah KY;have BU:=ah U5;have rS:Hid (Bq T1 R0=g/\∀p∈g,p.1<p.2/\p.2<k):=⟨aj.is.symm,λp hp=>by have:=aj.ok p hp;rw[Nh.out]at this;exact this⟩
   clear KY ap U5 aj K L I J U;go_wp2;go_loopg [14] g.length (λgh iv W=>∃(j:Nat)(S:List Int),j<=g.length/\gh=g.length - j/\iv= .int .i64 j/\nS c W c.heap.size (.slice (some ⟨x,0,none⟩) k ct) (.slice (some ⟨go,0,none⟩) k co) (.slice (some ⟨gq,0,none⟩) k cq) S T0 R0/\W.ownsRow w2.heap.size 194 2 (.slice pa g.length pc) g.length (fU g)/\S=F (g.take j));exact⟨0,T1,by omega,rfl,rfl,EZ.out,BU.out,YF.out.1.symm⟩;clear EZ BU;obtain⟨j,S,hj,rfl,rfl,r,Hw,P⟩:=hrel;have N:=ah r;have BU:=ah Hw;have HE:=ah P;have aG:Hid (S.length=k):=(by rw[P];exact YF.out.2 _);have y:Hid (bu wr c.heap.size x k ct S):=(by have:=r.ht;rw[aG.out]at this;exact this);obtain⟨K,L,I,J⟩:=HC.out wr r.below;by_cases o:j<g.length
   .obtain⟨gp,cp,hv,kj,aX,_⟩:=gI Hw (by omega);obtain⟨u,aU⟩:pa=some ⟨gp,0,none⟩/\pc=cp:=(by simpa using hv);clear hv;subst u;subst aU;have d0:=Wq Hw j o;have d1:=Ws Hw j o;have aa:g.getD j (0,0)∈g:=dG o;have ai:=rS.out.2 _ aa;have T7:=HF.out g j o;rw[<-P]at T7;have HN:=ah T7;clear T7;generalize g.getD j (0,0)=pr at*;obtain⟨f,z⟩:=pr;simp only at d0 d1 ai;clear r Hw P aa;go_wp2
    go_region_with (go_at_call 126;refine(aoG S T0 f z _ E c.heap.size x k ct go 0 co _ ?_ nj HK.out.1 ?_ ?_ (λe=>Jz.out.1 e.symm) ai.1 ai.2).mono ?_;exact y.out;exact(IL<|by have:=N.out.ho;rw[HK.out.1]at this;exact this);exact(uu N.out.ho go rfl);rintro ev w4 ⟨rfl,ue,zE⟩)
    all_goals
     have zE:=Cn.trans zE;have JQ:=ah<|N.out.write ue zE;have Rj:Hid (w4.ownsRow w2.heap.size 194 2 (.slice (some ⟨gp,0,none⟩) g.length pc) g.length<|fU g):=eI BU.out zE (lQ BU.out y.out<|by decide);clear ue zE BU N y;go_wp2;go_roundg (g.length - (j+1));exact⟨j+1,_,by omega,rfl,by simp,JQ.out,Rj.out,HN.out.symm⟩;omega
   .have O7:j=g.length:=(by omega);have fe:Hid (S=F g):=(by show _=_;rw[P,O7,NQ]);clear r Hw P o;go_wp2_with fail;refine(anX S E Z _ c.heap.size x k ct wr y.out nj).mono ?_;rintro ev w4 ⟨rfl,ue,zE⟩;rw[HG.out S]at ue;have x9:=N.out.write ue zE;have BW:Hid (q=(jm a v<|G S).foldl lB T):=by
     show _=_;rw[Gy.out,rS.out.1,<-fe.out]
    have pM:=ue.len;have OZ:=x9.ht;rw[pM]at OZ;have bO:=x9.below;clear K L I J BU N y HE fe zE ue O7 hj x9;generalize G S=T3 at*;have bG:=ah bO;have E0:=ah OZ;have JS:Hid (T3.length=k/\x<w4.heap.size/\x≠H):=⟨pM,uu OZ x rfl,by have:=Jz.out.2.2.1;have:=cO.out.2.2.2.2.2.2.2;omega⟩
    have EN:=ah<|fu Df.out.2.2.2 bO;clear bO OZ pM;go_wp2;go_loopg [15] k (λgh iv W=>∃(j:Nat)(l':List Int),j<=k/\gh=k - j/\iv= .int .i64 j/\bu W B H n cl l'/\w4.grownBy W (some H)/\l'=((jm a v T3).take j).foldl lB T);exact⟨0,T,by omega,rfl,rfl,EN.out,jO _ _,rfl⟩;clear EN;obtain⟨j,l',hj,rfl,rfl,hI,fO,P⟩:=hrel;have HI:=ah hI;have rP:=ah fO;have HE:=ah P;obtain⟨K,L,I,J⟩:=HC.out w4 bG.out;have uj:c.heap.size<=w4.heap.size:=bG.out.size;have mF:=cO.out;rw[<-rD fO (by omega) mF.2.2.1]at K L;by_cases o:j<k
    .have i:j<a.length:=(by rw[HM.out.1];exact o);have hp:a.getD j 0<n:=HM.out.2 _ (TQ i);have d0:=(Df.out.1.stay bG.out mF.2.2.2.1) j (by rw[gW];exact i);rw[oh _ _ i,<-rD fO (by omega) mF.2.2.2.2.1]at d0;have d1:=jk E0.out j (by rw[JS.out.1];exact o);rw[<-rD fO JS.out.2.1 JS.out.2.2]at d1;have HN:Hid (((jm a v T3).take (j+1)).foldl lB T=l'.set (a.getD j 0) (nX (T3.getD j 0) v)):=by
      show _=_;rw[arV a v T3 j i<|by rw[JS.out.1];exact o,Ci,<-P];rfl
     generalize a.getD j 0=p at*;generalize T3.getD j 0=tc at*;have aN:=hI.cell p hp;have aW:=hI.frozen p;generalize l'.getD p 0=lp at aN;clear hI fO P I J mF uj i;generalize av:nX tc v=im at*;have aF:=ah av;clear av;go_wp2
     go_region_with (go_at_call 128;refine(amy tc v _ ae.1 ae.2).mono ?_;rintro ev _ ⟨rfl,rfl⟩;rw[aF.out])
     all_goals
      go_wp2;go_roundg (k - (j+1));exact⟨j+1,_,by omega,rfl,by simp,HI.out.set p im,(rP.out.trans<|HI.out.grown p im).trans Cn,HN.out.symm⟩;omega
    .have O7:j=k:=(by omega);have HV:Hid (q=l'):=by
      show _=_;rw[BW.out,HE.out,O7,ku];rw[jm,ja,Ss,HM.out.1,JS.out.1];omega
     clear hI fO P I J mF uj;go_wp2;go_end0;exact⟨rfl,HV.out▸HI.out,(cO.out.1.trans<|TU bG.out).trans rP.out⟩
def Er:List Int->List Bool
 |[]=>[]
 |c::r=>pS c r::Er r
def lS(a:List Int)(m:Nat):List Bool:=List.replicate m false++Er (a.drop m)
def apS(a:List Int):lS a a.length=List.replicate a.length false:=by rw[lS,ahW,Er,l5]
def apR(a:List Int)(q:Nat)(d:q<a.length)(b:Bool)(c:b=pS (a.getD q 0) (a.drop<|q+1)):(lS a<|q+1).set q b=lS a q:=by
 unfold lS;rw[drop_at d,Er,<-c,NN,dO,xR _ _ (by simp)];simp
def apQ(a:List Int)(q:Nat)(c:q<a.length)(b:pS (a.getD q 0) (a.drop<|q+1)=false):lS a (q+1)=lS a q:=by
 unfold lS;rw[drop_at c,Er,b,NN,dO];rfl
def arP(a:List Int)(q:Nat)(b:q<a.length):jY (a.drop q)=if a.getD q 0=10 then true else if lA (a.getD q 0)=true then jY (a.drop<|q+1)else false:=by rw[drop_at b,jY]
def nL(a:Int)(d o:List Int)(k:Nat)(b:Int)(e:List Int):Prop:=(∃c,c.length=k/\e=c++o.drop k/\mV a a d o=c++mV a b (d.drop k) (o.drop k))/\((k=0/\b=a)∨(0<k/\b=e.getD (k - 1) 0))
def nL.start(a:Int)(b o:List Int):nL a b o 0 a o:=⟨⟨[],rfl,rfl,rfl⟩,.inl ⟨rfl,rfl⟩⟩
def nL.at {a b:Int}{d o c:List Int}{k:Nat}(h:nL a d o k b c)(j:Nat)(i:k<=j):c.getD j 0=o.getD j 0:=by
 obtain⟨⟨g,e,f,_⟩,_⟩:=h;rw[f,aO,rY<|by omega,e,zj,show k+(j - k)=j by omega,aO]
def nL.len {a b:Int}{d o c:List Int}{k:Nat}(h:nL a d o k b c)(i:k<=o.length):c.length=o.length:=by
 obtain⟨⟨g,e,f,_⟩,_⟩:=h;rw[f];simp[e];omega
def nL.step {a b v:Int}{c o g:List Int}{k:Nat}(h:nL a c o k b g)(l:k<c.length)(n:c.length=o.length)(m:v=if pS (c.getD k 0) (c.drop<|k+1)=true then a else if bV (c.getD k 0)=false then b else o.getD k 0):nL a c o (k+1) v (g.set k v):=by
 have f:=h.len (by omega);obtain⟨⟨d,e,i,j⟩,_⟩:=h;refine⟨⟨d++[v],by simp[e],?_,?_⟩,.inr ⟨by omega,?_⟩⟩
 .rw[i,drop_at (show k<o.length by omega),xR _ _ (by omega),e,oK];simp
 .rw[j,drop_at l,drop_at (show k<o.length by omega),mV,<-m];simp
 .rw[lJ,zC<|by omega]
def nL.same {a b:Int}{d o c:List Int}{k:Nat}(h:nL a d o k b c)(g:k<o.length):c.set k (o.getD k 0)=c:=by
 obtain⟨⟨i,e,f,_⟩,_⟩:=h;rw[f,drop_at g,xR _ _ (by omega),e,oK];rfl
def nL.stop {a b:Int}{c o f:List Int}{k:Nat}(h:nL a c o k b f)(j:c.length<=k)(l:c.length=o.length):f=mV a a c o:=by
 obtain⟨⟨g,i,d,e⟩,_⟩:=h;rw[kr<|by omega]at d e;rw[d,e,kr<|by omega];rfl
def apP(a:List Int)(k:Nat)(b:k<a.length):(bv<|lS a 0)[k]? =some (.bool<|pS (a.getD k 0)<|a.drop<|k+1):=by
 have key:∀(a:List Int)(k:Nat),k<a.length->(Er a)[k]? =some (pS (a.getD k 0)<|a.drop<|k+1):=by
  intro a
  induction a with
  |nil=>intro k h;simp at h
  |cons c r ih=>
   intro k h;cases k with
   |zero=>simp[Er]
   |succ k=>simpa [Er]using ih k<|by simpa using h
 simp[bv,lS,key a k b]
def ag5(a:List Int)(k:Nat)(b:k<a.length):(aQ a).getD k false=bV (a.getD k 0):=by
 simp[aQ,aO,aM b]
def arT(b o:List Int)(a:Int)(n V oc cc X am cf B l N:Nat)(w:World)(hc:b.length=n)(hn:n<=100000)(aa:bI w V oc b)(ad:Aj w X am<|aQ b)(kY:V<w.heap.size)(uX:X<w.heap.size)(ho:bu w B l n N o)(ag:V≠l)(ak:X≠l)(h0:0<n->bV (b.getD 0 0)=false->o.getD 0 0=a):
  Calls prog 74 #[.slice (some ⟨V,oc,none⟩) n cc,.slice (some ⟨l,0,none⟩) n N,.slice (some ⟨X,am,none⟩) n cf,.int .i64 a] w λY w'=>Y= .returned (.slice (some ⟨l,0,none⟩) n N)/\bu w' B l n N (mV a a b o)/\w.grownBy w' (some l):=by
 obtain⟨iB,UJ,Vh,Vi,Vj⟩:=gu Tryz.Md;have Aq:=ah aa;have BM:=ah ad;have HO:=ah ho;have af:B<=l/\l<w.heap.size:=AJ ho l rfl;have t:Hid (b.length=n/\V<w.heap.size/\X<w.heap.size/\V≠l/\X≠l/\l<w.heap.size/\(0<n->bV (b.getD 0 0)=false->o.getD 0 0=a)):=⟨hc,kY,uX,ag,ak,af.2,h0⟩
 clear aa ad ho af kY uX ag ak h0;have ao:=run_make_row' (P:=prog) 36 4 (.bool false) 1 underlying36 Tryz.Md rfl .i64 .i64 n (by omega) (by omega);have tN:Hid (Below w.heap.size w (w.alloc (.cells (madeCells #[.bool false] n) 4))/\aY (w.alloc (.cells (madeCells #[.bool false] n) 4)) w.heap.size 4 w.heap.size n (bv<|lS b n)):=by
  refine⟨(aA _ _).alloc (au _) _,?_⟩;have e:bv (lS b n)=List.replicate n (.bool false):=by rw[<-t.out.1,apS];simp[bv]
  rw[e];exact aY.made (au _)<|by omega
 clear Vh Vi Vj UJ hc;go_enter func74,ntmps74;go_wp2;generalize w.alloc (.cells (madeCells #[.bool false] n) 4)=W1 at*;obtain⟨g,hg⟩:=ac w.heap.size;have HG:=ah hg;rw[<-hg];clear hg ao;go_loopg [10,11] n (λgh ap iv W=>∃m:Nat,m<=n/\m=gh/\ap= .bool (jY<|b.drop m)/\iv= .int .i64 ((m:Int) - 1)/\Below w.heap.size w W/\aY W w.heap.size 4 g n (bv<|lS b m));exact⟨n,au _,rfl,by rw[kr<|by rw[t.out.1];exact au _];rfl,by simp,tN.out.1,by rw[HG.out];exact tN.out.2⟩;clear tN;obtain⟨m,hm,rfl,rfl,rfl,Z,hR⟩:=hrel;have H:=ah Z;have M:=ah hR;cases m with
 |succ q=>
  have hq:q<b.length:=by rw[t.out.1];omega
  have aq:=Aq.out.stay Z t.out.2.1 q hq;have z:=arP b q hq;have A:=apR b q hq true;have C:=apQ b q hq;have al:pS (b.getD q 0) (b.drop<|q+1)=(b.getD q 0==10||(lA (b.getD q 0)&&jY (b.drop<|q+1))):=rfl;have an:=hR.frozen q;have S:wr.cell? ⟨g,q,none⟩=some (.bool false):=by
   rw[hR.cell q<|by omega];unfold lS bv;rw[fB,tP<|by simp];simp
  rw[al]at A C;generalize b.getD q 0=c at*;generalize jY (b.drop<|q+1)=on at*;rw[show((q+1:Nat):Int) - 1=(q:Int)by omega];have Po:q<n:=by omega
  clear al Z hR hq;by_cases D:c=10
  .subst D;have J:Hid (jY (b.drop q)=true):=(by show _=_;rw[z,aj rfl]);have T:Hid ((lS b<|q+1).set q true=lS b q):=A rfl;clear z A C;go_wp2_with fail;refine(PJ 10 _).mono ?_;rintro Y _ ⟨rfl,rfl⟩;go_wp2;go_roundg q;exact⟨q,by omega,rfl,by rw[J.out],by simp,H.out.setCell (p:=⟨g,q,none⟩) (by rw[HG.out];exact au _) _,by rw[<-T.out,<-S5];exact M.out.set q _⟩;omega
  .have ow:=ae D;rw[ow,C7]at A C;rw[ai D]at z;obtain⟨lo,Q⟩:=ac<|lA c;rw[<-Q]at z A C;have Q6:=ah Q.symm;clear Q D;cases on
   .have J:Hid (jY (b.drop q)=false):=(by show _=_;rw[z];split<;>rfl);have T:Hid (lS b (q+1)=lS b q):=C (by simp);clear z A C;go_wp2_with fail;refine(PJ c _).mono ?_;rintro Y _ ⟨rfl,rfl⟩;rw[Q6.out];go_wp2;go_roundg q;exact⟨q,by omega,rfl,by rw[J.out],by simp,H.out,by rw[<-T.out];exact M.out⟩;omega
   .cases lo
    .have J:Hid (jY (b.drop q)=false):=(by show _=_;rw[z];rfl);have T:Hid (lS b (q+1)=lS b q):=C (by simp);clear z A C;go_wp2_with fail;refine(PJ c _).mono ?_;rintro Y _ ⟨rfl,rfl⟩;rw[Q6.out];go_wp2;go_roundg q;exact⟨q,by omega,rfl,by rw[J.out],by simp,H.out,by rw[<-T.out];exact M.out⟩;omega
    .have J:Hid (jY (b.drop q)=true):=(by show _=_;rw[z];rfl);have T:Hid ((lS b<|q+1).set q true=lS b q):=A rfl;clear z A C;go_wp2_with fail;refine(PJ c _).mono ?_;rintro Y _ ⟨rfl,rfl⟩;rw[Q6.out];go_wp2;go_roundg q;exact⟨q,by omega,rfl,by rw[J.out],by simp,H.out.setCell (p:=⟨g,q,none⟩) (by rw[HG.out];exact au _) _,by rw[<-T.out,<-S5];exact M.out.set q _⟩;omega
 |zero=>
  have bL:Hid (bu wr B l n N o):=fu HO.out Z;clear Z hR;go_wp2;obtain⟨W2,O⟩:=ac wr;rw[<-O]at H M bL;have JU:=ah O;clear O;go_loopg [13] n (λgh iv W=>∃(k:Nat)(f:Int)(s:List Int),k<=n/\gh=n - k/\iv= .int .i64 k/\bu W B l n N s/\W2.grownBy W (some l)/\nL a b o k f s);exact⟨0,a,o,by omega,rfl,rfl,JU.out▸bL.out,by rw[JU.out];exact jO _ _,nL.start _ _ _⟩;obtain⟨k,f,s,hk,rfl,rfl,E,I,hF⟩:=hrel;have K:=ah E;have rP:=ah I;by_cases F:k<n
  .have r:k<b.length:=(by rw[t.out.1];exact F);have u:o.length=n:=bL.out.len;have d:=λv=>nL.step (v:=v) hF r<|by rw[t.out.1,u]
   have i:=hF.same (by rw[u];exact F);have G:w.heap.size<=W2.heap.size:=H.out.size;have S:=M.out.cell k F;rw[show(bv<|lS b 0)[k]? =some (.bool<|pS (b.getD k 0)<|b.drop<|k+1)from apP b k r]at S;rw[<-rD I (M.out.ge).2 (by have:=HG.out;have:=t.out.2.2.2.2.2.1;omega)]at S;have ab:=BM.out.stay H.out t.out.2.2.1 k (by rw[aQ,ja];exact r);rw[ag5 b k r,<-rD I (by have:=t.out.2.2.1;omega) t.out.2.2.2.2.1]at ab;have x:=E.cell k F;have an:=E.frozen k;have yo:s.getD k 0=o.getD k 0:=hF.at k<|au _;have U:=hF.2;generalize pS (b.getD k 0) (b.drop<|k+1)=rb at*;generalize y:bV (b.getD k 0)=lb at*;cases rb
   .cases lb
    .cases k with
     |zero=>
      have hp:f=a:=(by rcases U with⟨_,h⟩|⟨h,_⟩;exact h;omega);have R:o.getD 0 0=a:=t.out.2.2.2.2.2.2 (by omega) y;have L:Hid (nL a b o 1 a s):=by
       have:=d a (by simp[hp]);rw[<-R]at this;rw[i]at this;rw[R]at this;exact this
      rw[p9]at ab;clear d i U hF E I yo y R hp r u G;go_wp2;go_roundg (n - 1);exact⟨1,_,s,by omega,rfl,rfl,K.out,rP.out,L.out⟩;omega
     |succ j=>
      have hp:f=s.getD j 0:=(by rcases U with⟨h,_⟩|⟨_,h⟩;omega;rw[h,lJ]);have Cy:=E.cell j (by omega);rw[<-hp]at Cy;have L:Hid (nL a b o (j+1+1) f<|s.set (j+1) f):=d f (by simp);generalize s.getD (j+1) 0=Bn at x;clear d i U hF E I yo y hp r u G;go_wp2;go_roundg (n - (j+1+1));exact⟨j+1+1,_,_,by omega,rfl,by simp,K.out.set (j+1) f,rP.out.trans<|K.out.grown (j+1) f,L.out⟩;omega
    .have L:Hid (nL a b o (k+1) (o.getD k 0) s):=by
      have:=d (o.getD k 0) (by simp);rw[i]at this;exact this
     clear d i U hF E I yo y r u G;go_wp2;go_roundg (n - (k+1));exact⟨k+1,_,s,by omega,rfl,by simp,K.out,rP.out,L.out⟩;omega
   .have L:Hid (nL a b o (k+1) a<|s.set k a):=d a (by simp);generalize s.getD k 0=Bn at x;clear d i U hF E I yo y r u G;go_wp2;go_roundg (n - (k+1));exact⟨k+1,_,_,by omega,rfl,by simp,K.out.set k a,rP.out.trans<|K.out.grown k a,L.out⟩;omega
  .have HV:Hid (s=mV a a b o):=hF.stop (by rw[t.out.1];omega) (by rw[t.out.1];have:=bL.out.len;omega);clear E I hF;go_wp2;refine cI (v:= .slice (some ⟨l,0,none⟩) n N) (by simp[results,results74,go_sem]) rfl ⟨rfl,HV.out▸K.out,(TU H.out).trans rP.out⟩
def TM(a:List Int):∀f i,kC a f i=0∨kC a f i=1
 |0,_=> .inl rfl
 |f+1,i=>by
  rw[kC];split
  .split
   .exact .inl rfl
   .split
    .exact .inr rfl
    .split
     .exact TM a f _
     .exact TM a f _
  .exact .inl rfl
def aeY(a:List Int)(d:Int):gX a d=0∨gX a d=1:=by
 unfold gX;split
 .assumption
 .exact TM a _ _
def ag8(b:List Int)(a:Int):(bh b a).length=b.length:=by simp[bh]
def asy(b:List Int)(a:Int):(iN b a).length=b.length:=by simp[iN]
def ag6(a:List Int):(aQ a).length=a.length:=by simp[aQ]
def asz(b:List Int)(a:Int)(h:0<=a/\a<=125):∀l∈bh b a,0<=l/\l<=125:=by
 intro l c;unfold bh at c;obtain⟨i,_,rfl⟩:=jM.1 c;exact((yT b a h i).pre (b.getD i 0)).top.2
def aY.heap {w:World}{B g n:Nat}{e:TypeId}{b:List Value}(h:aY w B e g n b):w.heap[g]? =some (.cells b.toArray e (0,0)):=by
 obtain⟨l,f⟩:=h;rcases f with⟨h,_⟩|⟨k,c,a,d,_,i,_,_,m,j⟩
 .cases h
 .cases d;rw[i];have:a=b.toArray:=by
   rw[<-j,ku<|by rw[Ye];omega]
  rw[this]
def aY.PT {w:World}{B g n:Nat}{e:TypeId}{a:List Value}(h:w.heap[g]? =some (.cells a.toArray e (0,0)))(c:B<=g)(b:a.length=n)(d:n<=1000000):aY w B e g n a:=
 ⟨by omega,.inr ⟨g,n,a.toArray,rfl,c,h,au _,by unfold maxLen;omega,by simp[b],by simp[<-b]⟩⟩
def aY.ints {w:World}{B g n:Nat}{l:List Int}(h:aY w B 3 g n<|iv l):bI w g 0 l:=λk a=>by
 rw[fZ];exact jk h k a
def aY.bools {w:World}{B g n:Nat}{l:List Bool}(h:aY w B 4 g n<|bv l):Aj w g 0 l:=λk a=>by
 have b:l.length=n:=by have:=h.1;simp[bv]at this;omega
 rw[fZ,h.cell k<|by omega];simp[bv,aO,aM a]
def aY.keep {w b:World}{B a g n:Nat}{e:TypeId}{c:List Value}(h:aY w B e g n c)(d:Below a w b)(f:g<a):aY b B e g n c:=
 nB h λk o i j=>by
  have:g=k:=by simpa [Value.ownBlock]using i
  subst this;rw[d.block g f];exact j
def qw {b:List Int}{d:List (List Nat)}(h:l9 b.length d)(g:∀r∈d,r.length+r.headD 0<=r.getLastD 0+1):∀f a,a≠[]->(∀p∈a,p<b.length)->a.length<=a.getLastD 0+1->(cE b d f a)≠[]/\(cE b d f a).length<=b.length
 |0,a,h1,h2,h3=>by
  rw[cE];have:=h2 _ (zQ h1);exact⟨h1,by omega⟩
 |f+1,a,h1,h2,h3=>by
  rw[cE];have j:=h2 _ (zQ h1);cases hn:ig b d (a.getLastD 0)with
  |none=>exact⟨h1,by simp only;omega⟩
  |some k=>
   simp only;unfold ig at hn;split at hn
   .rename_i m;obtain⟨o,q⟩:=FX _ _ hn;have l:d.getD k []∈d:=dG o;have c:=h.ne _ l;have n:=VX b _ j m;have s:=g _ l;have t:=jK.2 c;refine qw h g f _ (λe=>c (List.append_eq_nil_iff.1 e).2) ?_ ?_
    .intro p i;rcases jL.1 i with i|i
     .exact h2 p i
     .exact h.lt _ l p i
    .rw[VI c,bH];omega
   .cases hn
def aqF {c e:List Int}{f:List Bool}{k:Int}(u:e.length=c.length)(q:∀l∈e,0<=l/\l<=125):∀s∈ij c e f k,0<s.at'.length/\s.at'.length<=c.length/\(∀p∈s.at',p<c.length)/\0<=s.level/\s.level<=125:=by
 intro s w;unfold ij at w;obtain⟨r,d,rfl⟩:=jM.1 w;have d:=(tQ.1 d).1;have b:l9 c.length (cZ e f):=by have:=WY e f;rw[u]at this;exact this
 have t:=b.ne _ d;have z:=WW d;have a:=qw b (λr d=>WW d) c.length r t (b.lt _ d) (by omega);have h:∀p∈cE c (cZ e f) c.length r,p<c.length:=by
  obtain⟨i,g,x⟩:=ZM d;have y:(cZ e f).getD i []=r:=by rw[aO,aM g,<-x];rfl
  have n:=N9 b c.length [] i g;simp only[si]at n;rw[y]at n;intro p v;rw[n]at v;obtain⟨j,_,o⟩:=GQ.1 v;rcases cP j (cZ e f).length with m|m
  .exact b.lt _ (dG m) p o
  .rw[aO,rZ m]at o;cases o
 refine⟨jK.2 a.1,a.2,h,?_⟩;exact q _ (dG<|by rw[u];exact h _ (head_mem a.1))
def Em {f:Int}:∀(g o i:List Int)(d:Int),o.length=g.length->i.length=g.length->(∀k,k<g.length->bV (g.getD k 0)=true->i.getD k 0=o.getD k 0)->mV f d g i=mV f d g o
 |[],o,i,_,h1,h2,_=>by
  rw[JZ h1,JZ h2]
 |c::g,[],_,_,h1,_,_=>by simp at h1
 |c::g,_::_,[],_,_,h2,_=>by simp at h2
 |c::g,a::o,b::i,d,h1,h2,h=>by
  have e:(if pS c g=true then f else if bV c=false then d else b)=(if pS c g=true then f else if bV c=false then d else a):=by
   by_cases j:bV c=false
   .rw[aj j,aj j]
   .have:=h 0 (by simp) (by simpa using j);simp at this;rw[this]
  rw[mV,mV,e,Em g o i _ (by simpa using h1) (by simpa using h2) (λk l m=>by
   have:=h (k+1) (by simpa using l) (by simpa using m);simpa using this)]
