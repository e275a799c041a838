import Derived.Test.YtkbinfhclaafhaaGreatDoorP32
import Derived.SevenTiedAt
import Derived.LaidOnce
import Derived.Test.YtkbinfhclaafhaaGreatDoorCards
import Derived.LaidMore
import Derived.LaidSub
import Derived.Test.YtkbinfhclaafhaaGreatDoorShelfC
import Derived.Lib.LaidCaseMet
import Derived.PinnedBridge
import Derived.Lib.LaidU8T
import Derived.HandedShaped
namespace Go.Proofs.YtkbinfhclaafhaaGreatDoor
open Go.RowKit
open Go.Proofs.Tryz
set_option maxRecDepth 100000
set_option maxHeartbeats 32000000
set_option linter.all false
def Da(c:Array Value)(i:Nat)(L:List Ed):Prop:=∀k (h:k<L.length),i<=k->c[k*3]? =some (.int .i64 L[k].a)/\c[k*3+1]? =some (.int .i64 L[k].c)/\c[k*3+2]? =some (.string L[k].n)
def Tn {w:World}{B n:Nat}{e:TypeId}{g f:Nat}{L:List Ed}(h:w.ownsRow B e 3 (.slice (some ⟨g,0,none⟩) n f) n<|bY L):∃c,w.heap[g]? =some (.cells c e (0,0))/\Da c 0 L:=by
 obtain⟨_,c,i⟩:=pQ h rfl;refine⟨c,i,λk j _=> ?_⟩;obtain⟨a,b,d⟩:=KE h k j;simp only[fZ]at a b d;rw[az i]at a b d;exact⟨a,b,d⟩
def Da.set {c:Array Value}{i:Nat}{L:List Ed}(h:Da c i L)(x y z:Value):Da (((c.setIfInBounds (i*3) x).setIfInBounds (i*3+1) y).setIfInBounds (i*3+2) z) (i+1) L:=λk e f=>by
 obtain⟨a,b,d⟩:=h k e (by omega);refine⟨?_,?_,?_⟩<;>rw[BG<|by omega,BG<|by omega,BG<|by omega]<;>assumption
def aqJ {W:World}{b i:Nat}{T:TypeId}{c:Array Value}(h:W.heap[b]? =some (.cells c T (0,0)))(x y z:Value):(((W.setCell ⟨b,i,none⟩ x).setCell ⟨b,i+1,none⟩ y).setCell ⟨b,i+2,none⟩ z).heap[b]? =some (.cells (((c.setIfInBounds i x).setIfInBounds (i+1) y).setIfInBounds (i+2) z) T (0,0)):=
 Lf _ b (i+2) _ T z (Lf _ b (i+1) _ T y (Lf W b i _ T x h))
def aqI(W:World)(b i:Nat)(x y z:Value):W.grownBy (((W.setCell ⟨b,i,none⟩ x).setCell ⟨b,i+1,none⟩ y).setCell ⟨b,i+2,none⟩ z) (some b):=
 ((vI W b i x).trans (vI _ b (i+1) y)).trans (vI _ b (i+2) z)
def Im(s t:ByteArray)(w:World)(i I J:Int)(L:List Ed)(hL:L.length<=1000000)(h1:i≠0->L=[])
  (hP:∀W,Below w.heap.size w W->Calls prog 21 #[.string s] W λe C=>∃v,e= .returned (.tuple #[.string t,v,.agg #[.int .i64 i,.int .i64 I,.int .i64 J]])/\(i≠0->v= .slice none 0 0)/\C.ownsRow W.heap.size 66 3 v L.length (bY L)/\Below W.heap.size W C)
  (hR:∀W,Calls prog 52 #[.string s] W λe C=>∃v,e= .returned (.tuple #[.string t,v,.agg #[.int .i64 i,.int .i64 I,.int .i64 J]])/\(i≠0->v= .slice none 0 0)/\C.ownsRow W.heap.size 88 3 v L.length (bY L)/\Below W.heap.size W C):
  Calls prog 33 #[.string s] w λe C=>e= .returned (.bool true)/\Below w.heap.size w C:=by
 have HP:=ah hP;have HR:=ah hR;have H1:=ah h1;clear hP hR h1;go_enter func33,ntmps33;go_wp2_with fail;refine mM (HP.out w<|aA _ _) ?_;rintro e q ⟨v1,rfl,U,Z,R⟩;have oH:=ah U;have bF:=ah Z;have aD:=ah R;clear U Z R;go_wp2_with fail;refine mM (HR.out _) ?_;clear HR;rintro e o ⟨v2,rfl,V,aa,f⟩;have am:q.heap.size<o.heap.size:=by have:=f.size;simp at this;omega
 have a0:o.cell? ⟨q.heap.size,0,none⟩=some (.int .i64 i):=by rw[f.cell (p:=⟨q.heap.size,0,none⟩)<|by simp];go_simp
 have a1:o.cell? ⟨q.heap.size,1,none⟩=some (.int .i64 I):=by rw[f.cell (p:=⟨q.heap.size,1,none⟩)<|by simp];go_simp
 have a2:o.cell? ⟨q.heap.size,2,none⟩=some (.int .i64 J):=by rw[f.cell (p:=⟨q.heap.size,2,none⟩)<|by simp];go_simp
 have bw:Below q.heap.size q o:=((aA _ _).alloc (au _) _).trans (f.mono<|by simp);have kq:=ah<|iZ bF.out bw;have xL:Hid (o.ownsRow w.heap.size 88 3 v2 L.length<|bY L):=Ej aa (by have:=aD.out.size;simp;omega);have aI:=ah<|aD.out.trans<|bw.mono aD.out.size;have oI:=ah V;clear f aa V bw;go_wp2_with fail;refine(arN i I J _).mono ?_;rintro e w3 ⟨rfl,u⟩;have dm:Below o.heap.size o w3:=((aA _ _).alloc (au _) _).trans (u.mono<|by simp);have c0:w3.cell? ⟨o.heap.size,0,none⟩=some (.int .i64 i):=by rw[u.cell (p:=⟨o.heap.size,0,none⟩)<|by simp];go_simp
 have D:=ah<|iZ kq.out dm;have H:=ah<|iZ xL.out dm;have r:=ah<|aI.out.trans<|dm.mono aI.out.size;clear dm u bF kq xL a0 a1 a2;obtain⟨n,hn⟩:=ac L.length;rw[<-hn]at D H hL;have M:=ah hn;clear hn;by_cases hF:i=0
 .subst hF;clear oH oI H1;obtain⟨x,cx,rfl⟩:=iA D.out;obtain⟨y,cy,rfl⟩:=iA H.out;by_cases h0:n=0
  .subst h0;go_wp2;refine fV 1 ?_;rw[bN];go_wp2_with fail;refine mM (HP.out _ r.out) ?_;rintro e w4 ⟨v4,rfl,_,d,b⟩;rw[<-M.out]at d;obtain⟨z,cz,rfl⟩:=iA d;have O:=ah<|r.out.trans<|b.mono r.out.size;clear d b;go_wp2;refine fV 1 ?_;rw[bN];go_wp2;go_ret;exact⟨rfl,O.out.alloc O.out.size _⟩
  .obtain⟨lg,c',g,ag,A,aj⟩:=nC D.out (by omega);simp only[pJ,oC]at g;obtain⟨rfl,rfl⟩:=g;obtain⟨F,c',g,ai,ak,al⟩:=nC H.out (by omega);simp only[pJ,oC]at g;obtain⟨rfl,rfl⟩:=g;obtain⟨c1,E,k2⟩:=Tn D.out;obtain⟨c2,k3,k4⟩:=Tn H.out;have Y:F≠lg:=by
    rintro rfl;rw[E]at k3;cases k3
   have rQ:=ah Y;have Jr:=ah k4;have HK:Hid (w3.heap[lg]? =some (.cells c1 66 (0,0))/\Da c1 0 L/\w3.heap[F]? =some (.cells c2 88 (0,0))):=⟨E,k2,k3⟩
   clear E k2 k3 k4 Y D H;go_wp2;go_loopg [10] n (λgk iv W=>∃(k:Nat)(c:Array Value),k<=n/\gk=n - k/\iv= .int .i64 k/\(W.heap[lg]? =some (.cells c 66 (0,0))/\Da c k L/\W.heap[F]? =some (.cells c2 88 (0,0)))/\Below w.heap.size w W);exact⟨0,c1,mQ _,rfl,rfl,HK.out,r.out⟩
   rename World=>wa
   obtain⟨k,c,hk,rfl,rfl,⟨h,G,l⟩,hb⟩:=hrel;have K:=ah hb;have HQ:Hid (wa.heap[lg]? =some (.cells c 66 (0,0))/\Da c k L/\wa.heap[F]? =some (.cells c2 88 (0,0))):=⟨h,G,l⟩
   by_cases B:k<n
   .have Bb:k<L.length:=(by rw[<-M.out];exact B);have T:(k:Int)<(n:Int):=(by omega);obtain⟨x0,x1,x2⟩:=G k Bb<|au _;obtain⟨y0,y1,y2⟩:=Jr.out k Bb<|mQ _;have x0:=(az h<|k*3).trans x0;have x1:=(az h<|k*3+1).trans x1;have x2:=(az h<|k*3+2).trans x2;have y0:=(az l<|k*3).trans y0;have y1:=(az l<|k*3+1).trans y1;have y2:=(az l<|k*3+2).trans y2;have f0:=cB h<|k*3;have f1:=cB h<|k*3+1;have f2:=cB h<|k*3+2;generalize L[k].a=P at*;generalize L[k].c=ec at*;generalize L[k].n=en at*;have g:(P !=P)=false:=(by simp);have e2:(ec !=ec)=false:=(by simp);clear hb h G l;go_wp2_with fail;go_quiet(fail);go_wp2;go_roundg (n - (k+1));case measure=>omega
    case rel=>
     obtain⟨h,G,l⟩:=HQ.out;refine⟨k+1,_,by omega,rfl,by simp,⟨aqJ (W:=wa.drewN _) h _ _ _,G.set _ _ _,((aqI (wa.drewN _) lg (k*3) _ _ _).block F (bS l) (λe=>rQ.out<|aJ e)).trans l⟩,?_⟩;exact(((DA K.out _).setCell A _).setCell A _).setCell A _
   .obtain rfl:k=n:=(by omega);have T:¬(k:Int)<(k:Int):=(by omega);have Gy:=ah l;clear hb h G l HQ HK;go_wp2_with fail;refine mM (HP.out _ K.out) ?_;rintro e w4 ⟨v4,rfl,_,d,b⟩;rw[<-M.out]at d;obtain⟨kg,c',g,af,_,_⟩:=nC d (by omega);subst g;obtain⟨c3,E,k2⟩:=Tn d;obtain⟨N,Ue⟩:=ac<|w4.alloc (.cells #[.int .i64 0,.int .i64 I,.int .i64 J] 33);have b5:Below w4.heap.size w4 N:=(by rw[Ue];exact(aA _ _).alloc (au _) _);have EG:Hid (N.heap[kg]? =some (.cells c3 66 (0,0))/\Da c3 0 L/\N.heap[F]? =some (.cells c2 88 (0,0))):=⟨bq b5 E,k2,bq b5<|bq b Gy.out⟩
    have bG:Hid (Below w.heap.size w N):=(K.out.trans<|b.mono K.out.size).trans (b5.mono<|by have:=K.out.size;have:=b.size;omega);have ab:=ah Ue;clear d b E k2 b5 Ue;go_wp2;rw[<-ab.out];go_loopg [14] k (λgk iv W=>∃j m:Nat,j<=k/\gk=k - j/\iv= .int .i64 j/\W=N.drewN m);exact⟨0,0,mQ _,rfl,rfl,rfl⟩;obtain⟨j,m,hj,rfl,rfl,rfl⟩:=hrel;by_cases B:j<k
    .have S:j<L.length:=(by rw[<-M.out];exact B);have ad:(j:Int)<(k:Int):=(by omega);obtain⟨g1,g2,g3⟩:=EG.out;obtain⟨x0,_,_⟩:=g2 j S<|mQ _;obtain⟨y0,_,_⟩:=Jr.out j S<|mQ _;have x0:=(az g1<|j*3).trans x0;have y0:=(az g3<|j*3).trans y0;generalize L[j].a=P at*;have g:(P !=P)=false:=(by simp);have e2:((k:Int) !=(k:Int))=false:=(by simp);clear g1 g2 g3;go_wp2_with fail;go_quiet(fail);go_wp2;go_roundg (k - (j+1));exact⟨j+1,_,by omega,rfl,by simp,rfl⟩;omega
    .obtain rfl:j=k:=(by omega);go_wp2;go_ret;exact⟨rfl,DA bG.out _⟩
 .have g:=oH.out hF;have e2:=oI.out hF;subst g;subst e2;have ae:(i !=0)=true:=by simpa using hF
  have Q:=H1.out hF;have h0:n=0:=by rw[M.out,Q];rfl
  subst h0;have HF:=ah hF;clear D H oH oI H1 hF Q;go_wp2;refine fV 1 ?_;rw[bN];go_wp2_with fail;refine mM (HP.out _ r.out) ?_;rintro e w4 ⟨v4,rfl,X,d,b⟩;have e4:=X HF.out;subst e4;have O:=ah<|r.out.trans<|b.mono r.out.size;clear d b X;go_wp2;refine fV 1 ?_;rw[bN];go_wp2;go_ret;exact⟨rfl,O.out.alloc O.out.size _⟩
def anb(s:ByteArray)(w:World)(aL k j:Addr)(o:Env w aL k j)(n:Br w)(u:zk w)(f:mR w)(b:10<=w.heap.size)(A:qf w):
  Calls prog 33 #[.string s] w λe i=>e= .returned (.bool true)/\Below w.heap.size w i:=by
 have x:∀W,Below w.heap.size w W->_:=λW c=>ao4 s W aL k j (o.below c) (eV s) λy p=>
  have a:=c.trans<|p.mono c.size
  alm s y aL k j (o.below a) (n.below a) (u.below a) (f.below b a) (bP b a.size) (eV s) (Tq s) λz v l q B=>
   have g:=a.trans<|q.mono a.size
   akd s v _ z aL k j (o.below g) (u.below g) (f.below b g) (bP b g.size) (eu g A) l B
 have C:Ew s (eV s)= .agg #[.int .i64 (fE s<|eV s).1,.int .i64 (fE s<|eV s).2.1,.int .i64 (fE s<|eV s).2.2]:=rfl;by_cases hF:(fE s<|eV s).1=0
 .have l:(gy s).1=0:=by
   by_cases h:(gy s).1=0
   .exact h
   .unfold fE at hF;rw[aj h]at hF;exact hF
  refine Im s (qg s (eV s).1) w (fE s<|eV s).1 (fE s<|eV s).2.1 (fE s<|eV s).2.2 (eV s).1 (Tq s l).1 (λh=>absurd hF h) (λW c=>(x W c).mono ?_) (λW=>(afw s W).mono ?_)
  .rintro e i ⟨t,v,rfl,_,a,d⟩;obtain⟨rfl,r⟩:=a hF;exact⟨v,rfl,λh=>absurd hF h,r,d⟩
  .rintro e i ⟨d,t,v,rfl,_,a⟩;obtain⟨rfl,r⟩:=a hF;exact⟨v,rfl,λh=>absurd hF h,Ej r<|by omega,d⟩
 .refine Im s ⟨#[]⟩ w (fE s<|eV s).1 (fE s<|eV s).2.1 (fE s<|eV s).2.2 [] (by simp) (λ_=>rfl) (λW c=>(x W c).mono ?_) (λW=>(afw s W).mono ?_)
  .rintro e i ⟨t,v,rfl,m,_,d⟩;obtain⟨rfl,rfl⟩:=m hF;exact⟨_,rfl,λ_=>rfl,gQ _ _ _ _,d⟩
  .rintro e i ⟨d,t,v,rfl,m,_⟩;obtain⟨rfl,rfl⟩:=m hF;exact⟨_,rfl,λ_=>rfl,gQ _ _ _ _,d⟩
section
open Go
def asJ:prog.laidByTextLater (Rows.sanitizesRow.laid.take 13) [.data,.data,.data,.data,.data,.data,.data,.handle,.data,.data,.sentinel,.sentinel,.sentinel] true:=
 Program.laidByTextLater_by_one 163 8 109 (by kernel_rfl) (by kernel_rfl) (by kernel_rfl) (by kernel_rfl) (by kernel_rfl) (by kernel_rfl) (λ_ _=>by kernel_rfl)
def asK:Tryz.pinned.checked.prog.headLifts.contains "ownunsafe" =false:=by kernel_rfl
def asH:Tryz.pinned.checked.prog.listedFits Rows.sanitizesRow.laid=true:=by
 unfold Program.listedFits;rw[asK];kernel_rfl
def asI:Rows.sanitizesRow.laidByTextAt .later Tryz.pinned [.data,.data,.data,.data,.data,.data,.data,.handle,.data,.data,.sentinel,.sentinel,.sentinel,.pinned,.pinned] true:=
 OpenClaim.laidByTextAt_pinned rfl rfl asJ rfl rfl rfl rfl (λy a e=>by
  simp only[Rows.sanitizesRow,List.zip_cons_cons,List.zip_nil_right,fW,List.mem_nil_iff,F4]at a;rcases a with rfl|rfl|rfl|rfl|rfl|rfl|rfl|rfl|rfl|rfl|rfl|rfl|rfl|rfl|rfl
  all_goals cases e
  all_goals exact⟨by kernel_rfl,by kernel_rfl⟩) asH
end
section
open Go.ChangeShapes Go.WideShapes Go.ChangeAt Go.RowKit Go.Deep Go.Lib
def own:ownKnob prog.godebug=none:=by kernel_rfl
def N6:prog.cellsOf 9=1:=by kernel_rfl
def Mg:List (String×DataW Unit):=[("bidiguard/parts.lineComment",Rows.laid_bidiguard_parts_lineComment),("bidiguard/parts.blockBegins",Rows.laid_bidiguard_parts_blockBegins),("bidiguard/parts.blockEnds",Rows.laid_bidiguard_parts_blockEnds),("math/bits.deBruijn32tab",Rows.laid_math_bits_deBruijn32tab),("math/bits.deBruijn64tab",Rows.laid_math_bits_deBruijn64tab),("internal/strconv.uint64pow10",Rows.laid_internal_strconv_uint64pow10),("unicode/utf8.acceptRanges",Rows.laid_unicode_utf8_acceptRanges),("bidiguard/bidi.bracketPairs",Rows.laid_bidiguard_bidi_bracketPairs),("bidiguard/bidi.spans",Rows.laid_bidiguard_bidi_spans),("bidiguard/guard.ErrLong",Rows.laid_bidiguard_guard_ErrLong),("bidiguard/guard.ErrText",Rows.laid_bidiguard_guard_ErrText),("bidiguard/guard.ErrCode",Rows.laid_bidiguard_guard_ErrCode),("unicode.CaseRanges",Rows.laid_unicode_CaseRanges),("unicode/utf8.first",Rows.laid_unicode_utf8_first)]
end
section
open Go.ChangeShapes Go.WideShapes Go.ChangeAt Go.RowKit Go.Deep Go.Lib
def A9:prog.cellsOf 29=4:=by kernel_rfl
def A4:prog.cellsOf 3=1:=by kernel_rfl
def ajr:prog.cellsOf 27=1:=by kernel_rfl
def ajk:prog.bytesOf 29=56:=by kernel_rfl
def laidOut:laidOutB prog=true:=by kernel_rfl
def aoj {H:Type}{j:TypeId×Value->H}{w:World}{d:Nat}{A:Nat->Bool}{f:Bool}{e:Nat}{i:List Value}{x:DataW H×List MemPlace}
  (h:DataW.trod j prog w d A f e 29 i=some x):∃k a s g n c,i=[.int .i64 k,.int .i64 a,.string s,.slice g n c]/\s.size<=maxLen:=by
 obtain⟨B,C,D,E,n,hx,r,t,u,v,y⟩:=Joins.trod_struct4 underlying29 h;rw[A9]at r
 match i,r with
 |[c0,c1,c2,c3],_=>
  obtain⟨a,m,_,_⟩:=BI underlying3 (by simpa [A4]using t);obtain⟨b,o,_,_⟩:=BI underlying3 (by simpa [A4]using u);obtain⟨s,p,_,z⟩:=DataW.trod_string underlying9 (by simpa [N6]using v);obtain⟨g,l,c,q⟩:=Joins.slice_form underlying27 (by simpa [ajr]using y);simp at m o p q;subst m o p q;exact⟨a,b,s,g,l,c,rfl,z⟩
def aom {H:Type}{M:TypeId×Value->H}{W:World}{z:Nat}{L:List Value}{x:DataW H×List MemPlace}
  (h:DataW.trod M prog W 0 (λ_=>true) true z 22 L=some x):
  (∃r l,L=[.slice r 0 l])∨∃b f g l,∃d:List zm,L=[.slice (some ⟨b,f,none⟩) g l]/\d.length=g/\GW W b f d/\(∀o∈d,o.s.size<=9223372036854775807)/\
   ∃p v ps,x=(.slice p v,ps)/\p.length=g:=by
 rcases open_slice underlying22 h with⟨rfl,_⟩|⟨a,g,l,m,n,D,Pl,rfl,_,V,_,X,rfl,B⟩
 .exact .inl ⟨_,_,rfl⟩
 .by_cases T:g=0
  .subst T;exact .inl ⟨_,_,rfl⟩
  right;have P:m=l:=by simpa using X
  subst P;rw[A9]at B;obtain⟨b,f,j⟩:=a;have t:∀i,i<g->∃o:zm,W.cell? ((⟨b,f,j⟩:Addr).add (i*4))=some (.int .i64 o.k)/\W.cell? ((⟨b,f,j⟩:Addr).add (i*4+1))=some (.int .i64 o.a)/\W.cell? ((⟨b,f,j⟩:Addr).add (i*4+2))=some (.string o.s)/\W.cell? ((⟨b,f,j⟩:Addr).add (i*4+3))=some o.e/\(∃r n c,o.e= .slice r n c)/\o.s.size<=9223372036854775807:=by
   intro i q;obtain⟨S,O,Z⟩:=B i (by omega);obtain⟨k,a,s,r,n',c,rfl,Y⟩:=aoj Z;obtain⟨_,_,K⟩:=World.cells?_some O;refine⟨⟨k,a,s,.slice r n' c⟩,?_,?_,?_,?_,⟨_,_,_,rfl⟩,by unfold maxLen at Y;omega⟩
   .have:=K 0 (by omega);rw[add_add]at this;simpa using this
   .have:=K 1 (by omega);rw[add_add]at this;simpa using this
   .have:=K 2 (by omega);rw[add_add]at this;simpa using this
   .have:=K 3 (by omega);rw[add_add]at this;simpa using this
  have u:j=none:=by
   obtain⟨o,w,_⟩:=t 0 (by omega);simpa [Addr.add]using World.cell?_spot w
  subst u;obtain⟨d,F,y⟩:∃d:List zm,d.length=g/\∀i (q:i<d.length),W.cell? ⟨b,f+i*4,none⟩=some (.int .i64 d[i].k)/\W.cell? ⟨b,f+i*4+1,none⟩=some (.int .i64 d[i].a)/\W.cell? ⟨b,f+i*4+2,none⟩=some (.string d[i].s)/\W.cell? ⟨b,f+i*4+3,none⟩=some d[i].e/\(∃r n c,d[i].e= .slice r n c)/\d[i].s.size<=9223372036854775807:=by
   have A:∀k,k<=g->∃d:List zm,d.length=k/\∀i (q:i<d.length),W.cell? ⟨b,f+i*4,none⟩=some (.int .i64 d[i].k)/\W.cell? ⟨b,f+i*4+1,none⟩=some (.int .i64 d[i].a)/\W.cell? ⟨b,f+i*4+2,none⟩=some (.string d[i].s)/\W.cell? ⟨b,f+i*4+3,none⟩=some d[i].e/\(∃r n c,d[i].e= .slice r n c)/\d[i].s.size<=9223372036854775807:=by
    intro k
    induction k with
    |zero=>intro _;exact⟨[],rfl,λi q=>absurd q<|by simp⟩
    |succ k ih=>
     intro hk;obtain⟨d,R,Q⟩:=ih (by omega);obtain⟨o,w,G,I,J,N,U⟩:=t k (by omega);refine⟨d++[o],by simp[R],λi q=> ?_⟩;by_cases C:i<d.length
     .rw[List.getElem_append_left C];exact Q i C
     .have E:i=k:=(by simp at q;omega);subst E;have e:(d++[o])[i]'q=o:=by
       rw[List.getElem_append_right<|by omega];simp[R]
      rw[e];rw[add_plain]at w G I J;exact⟨w,by rw[pH];exact G,by rw[pH];exact I,by rw[pH];exact J,N,U⟩
   exact A g<|au _
  refine⟨b,f,g,m,d,rfl,F,λi q=> ?_,λo Q=> ?_,_,_,_,rfl,by simp⟩
  .obtain⟨w,G,I,J,N,_⟩:=y i q;exact⟨w,G,I,J,N⟩
  .obtain⟨i,q,rfl⟩:=List.mem_iff_getElem.1 Q;exact(y i q).2.2.2.2.2
end
section
open Go.ChangeShapes Go.WideShapes Go.ChangeAt Go.RowKit Go.Deep Go.Lib
def Mh(w:World):World:={w with heap:=w.heap.modify 5 fun
 | .cells _ t fr=> .cells ((Lib.firstTab.map λz=>Value.int .u8 z).toArray) t fr
 |o=>o}
def PD(w:World):World:={w with heap:=(w.heap.push (.cells Lib.caseCells5 351 (0,0))).modify 12 fun
 | .cells _ t fr=> .cells #[.slice (some ⟨w.heap.size,0,none⟩) 336 336] t fr
 |o=>o}
def Sa {P:Program}{w:World}:∀{l c:List (String×DataW Unit)}{b:List MemPlace},DataW.LaidVars P w (l++c) b->∃p q,DataW.LaidVars P w l p/\DataW.LaidVars P w c q/\b=p++q
 |[],_,b,h=>⟨[],b,rfl,h,rfl⟩
 |(n,d)::r,c,b,h=>by
  obtain⟨g,t,e,a,p,q,f,i,j,k,m,rfl⟩:=h;obtain⟨u,v,o,s,rfl⟩:=Sa m;exact⟨_,v,⟨g,t,e,a,p,u,f,i,j,k,o,rfl⟩,s,by simp[dO]⟩
def am7 {P:Program}{w:World}{a b c:List (String×DataW Unit)}(h:laidMet P (a++b++c) w):laidMet P (a++c++b) w:=by
 obtain⟨s,n,q,o⟩:=h;obtain⟨r,g,j,k,rfl⟩:=Sa n;obtain⟨d,f,l,m,rfl⟩:=Sa j;have i:(d++f++g).Perm (d++g++f):=by
  rw[dO,dO];exact List.Perm.append_left d ah8
 exact⟨d++g++f,LaidVars_append (LaidVars_append l k) m,i.nodup_iff.1 q,λb e p=>o b e<|i.mem_iff.2 p⟩
def MA:List (String×DataW Unit):=Rows.classesRow.laid.filter λx=>x.2.handleName?.isNone
def aow:MA=MA.take 12++[("unicode.CaseRanges",Lib.caseData)]++MA.drop 13:=by
 rw[<-Pinned.caseRanges_eq];rfl
def asm(a:Os)(args:Array Value):laidMet prog (MA.take 12++MA.drop 13++[("unicode.CaseRanges",Lib.caseData)]) ((PD<|Mh<|World.doorLaid prog 200 a).forCall (λ_ _=>0) ⟨#[],args,[]⟩).memory:=
 laidMet_with_case (ρ:=Tryz.lays203_ren) {Tryz.lays203 with} Tryz.lays203.t206 ⟨by kernel_rfl,by kernel_rfl,by kernel_rfl,by kernel_rfl,by kernel_rfl,by kernel_rfl⟩
  8 (by kernel_rfl) (by kernel_rfl) (by kernel_rfl) (Mh<|World.doorLaid prog 200 default).heap.size 351 (Mw<|by kernel_rfl) (by kernel_rfl) (by kernel_rfl) (by kernel_rfl)
def asn(a:Os)(args:Array Value):laidMetH prog Rows.classesRow.laid ((PD<|Mh<|World.doorLaid prog 200 a).forCall (λ_ _=>0) ⟨#[],args,[]⟩).memory:=
 laidMetH_of_parts3 (fuel:=8) (by
  have:=am7<|asm a args;rw[<-aow]at this;exact this) (by kernel_rfl) (by kernel_rfl)
end
section
open Go.ChangeShapes Go.WideShapes Go.ChangeAt Go.RowKit Go.Deep Go.Lib
def alc:prog.globalNamed "bidiguard/guard.ErrLong" =some 0:=by kernel_rfl
def ald:prog.globalNamed "bidiguard/guard.ErrText" =some 1:=by kernel_rfl
def alb:prog.globalNamed "bidiguard/guard.ErrCode" =some 2:=by kernel_rfl
def arx:(prog.globals[0]?).map (·.type)=some 53:=by kernel_rfl
def arz:(prog.globals[1]?).map (·.type)=some 53:=by kernel_rfl
def arw:(prog.globals[2]?).map (·.type)=some 53:=by kernel_rfl
def Te:prog.cellsOf 372=1:=by kernel_rfl
def star: "*" ++ "errors.errorString" = "*errors.errorString" :=by decide
def WS(u:TypeId)(h:prog.typeName? 3 u=some "*errors.errorString"):u=354:=
 typeName_ptr_named (nm:= "errors.errorString") (by rw[star];kernel_rfl) (by kernel_rfl) (by decide) u (by rw[star];exact h)
def CH:List (String×DataW Unit):=[("bidiguard/guard.ErrLong",Rows.laid_bidiguard_guard_ErrLong),("bidiguard/guard.ErrText",Rows.laid_bidiguard_guard_ErrText),("bidiguard/guard.ErrCode",Rows.laid_bidiguard_guard_ErrCode)]
def aof {W:World}(h:laidMet prog CH W):
  ∃(b c d:Addr)(o p q:Array Value)(t0 t1 t2:TypeId),
   W.cell? ⟨0,0,none⟩=some (.iface 354 (.pointer<|some b))/\W.cell? ⟨1,0,none⟩=some (.iface 354 (.pointer<|some c))/\W.cell? ⟨2,0,none⟩=some (.iface 354 (.pointer<|some d))/\
   b≠c/\c≠d/\b≠d/\
   W.heap[b.block]? =some (.cells o t0 (0,0))/\W.heap[c.block]? =some (.cells p t1 (0,0))/\W.heap[d.block]? =some (.cells q t2 (0,0)):=by
 obtain⟨ps,⟨Z,t0,r,f0,p0,q0,f,D,k,z,⟨g1,t1,s,f1,p1,q1,g,E,l,A,⟨g2,t2,t,f2,p2,Y,i,F,m,B,C,L⟩,K⟩,J⟩,j,a⟩:=h;obtain rfl:=aJ<|alc.symm.trans f;obtain rfl:=aJ<|ald.symm.trans g;obtain rfl:=aJ<|alb.symm.trans i;obtain rfl:=aJ<|arx.symm.trans D;obtain rfl:=aJ<|arz.symm.trans E;obtain rfl:=aJ<|arw.symm.trans F;have n:Y=[]:=C;subst n;subst L;subst K;subst J;obtain⟨V⟩:=r;obtain⟨l1⟩:=s;obtain⟨X⟩:=t;have G:∀u v,V=[.iface u v]->Value.okWide prog W .any 0 u v:=λu v e=>by
  subst e;exact(a 0 0<|by simp[MemPlace.row]).2 u v (by simpa using G3 f k 0)
 have H:∀u v,l1=[.iface u v]->Value.okWide prog W .any 0 u v:=λu v e=>by
  subst e;exact(a 1 0<|by simp[MemPlace.row]).2 u v (by simpa using G3 g l 0)
 have I:∀u v,X=[.iface u v]->Value.okWide prog W .any 0 u v:=λu v e=>by
  subst e;exact(a 2 0<|by simp[MemPlace.row]).2 u v (by simpa using G3 i m 0)
 obtain⟨b,s0,rfl,M,P,S,rfl⟩:=gB underlying53 WS underlying354 underlying372 rfl rfl underlying9 Te N6 z G;obtain⟨c,s1,rfl,N,Q,T,rfl⟩:=gB underlying53 WS underlying354 underlying372 rfl rfl underlying9 Te N6 A H;obtain⟨d,s2,rfl,O,R,U,rfl⟩:=gB underlying53 WS underlying354 underlying372 rfl rfl underlying9 Te N6 B I;obtain⟨o,t0,w⟩:=(a b.block b.off<|by simp[MemPlace.row]).1;obtain⟨p,t1,x⟩:=(a c.block c.off<|by simp[MemPlace.row]).1;obtain⟨q,t2,y⟩:=(a d.block d.off<|by simp[MemPlace.row]).1;refine⟨b,c,d,o,p,q,t0,t1,t2,by simpa using G3 f k 0,by simpa using G3 g l 0,by simpa using G3 i m 0,?_,?_,?_,w,x,y⟩
 .rintro rfl;simp[MemPlace.row]at j
 .rintro rfl;simp[MemPlace.row]at j
 .rintro rfl;simp[MemPlace.row]at j
def Cc:prog.globalNamed "bidiguard/bidi.spans" =some 4:=by kernel_rfl
def ary:(prog.globals[4]?).map (·.type)=some 176:=by kernel_rfl
def mU:prog.cellsOf 175=3:=by kernel_rfl
def N5:prog.cellsOf 21=1:=by kernel_rfl
def ajq:prog.cellsOf 108=1:=by kernel_rfl
def ajt:prog.cellsOf 176=108:=by kernel_rfl
def MU {H:Type}(x:Int×Int×Int):DataW H:= .agg [.lit (.int .i32 x.1),.lit (.int .i32 x.2.1),.lit (.int .i64 x.2.2)]
def aq6:Rows.laid_bidiguard_bidi_spans (H:=Unit)= .agg (i7.map MU):=by kernel_rfl
def MT(x:Int×Int×Int):List Value:=[.int .i32 x.1,.int .i32 x.2.1,.int .i64 x.2.2]
def aq5:(i7.flatMap MT).toArray=Aa:=by kernel_rfl
def aq4 {H:Type}{i:TypeId×Value->H}{w:World}{d:Nat}{v:Nat->Bool}{f:Bool}{e:Nat}{g:List Value}{x:Int×Int×Int}{p:List MemPlace}
  (h:DataW.trod i prog w d v f e 175 g=some (MU x,p)):g=MT x:=by
 obtain⟨y,z,A,n,hx,m,o,q,r⟩:=trod_struct3 underlying175 h;rw[mU]at m
 match g,m with
 |[c0,c1,c2],_=>
  obtain⟨a,j,rfl,_⟩:=BI underlying21 (by simpa [N5]using o);obtain⟨b,k,rfl,_⟩:=BI underlying21 (by simpa [N5]using q);obtain⟨c,l,rfl,_⟩:=BI underlying108 (by simpa [ajq]using r);simp[MU]at hx j k l;obtain⟨⟨s,t,u⟩,_⟩:=hx;subst j k l;simp[MT,s,t,u]
def ES(f:Int×Int×Int->List Value)(b:∀x,(f x).length=3)(L:List<|Int×Int×Int)(a:List Value)(h:∀i (c:i<L.length),(a.drop<|i*3).take 3=f L[i]):
  ∀i,i<=L.length->a.take (i*3)=(L.take i).flatMap f
 |0,_=>by simp
 |i+1,c=>by
  have ih:=ES f b L a h i (by omega);rw[show(i+1)*3=i*3+3 by omega,List.take_add,ih,h i<|by omega,pG<|by omega,Sk];simp
def aq8 {W:World}(h:VarReads prog W "bidiguard/bidi.spans" Rows.laid_bidiguard_bidi_spans):∃t k,W.heap[4]? =some (.cells Aa t k):=by
 obtain⟨g,t,j,r,p,w,q,a,s⟩:=h;obtain rfl:=aJ<|Cc.symm.trans w;obtain rfl:=aJ<|ary.symm.trans q;rw[aq6]at s;obtain⟨e,m,_,hx,d,A,b⟩:=QE underlying176 s;rw[ajt]at d;rw[mU]at b;have C:e.map (·.1)=i7.map MU:=by
  have:=congrArg Prod.fst hx;simpa using this.symm
 have z:i7.length=36:=rfl;have o:j.toList=i7.flatMap MT:=by
  have:=ES MT (λ_=>rfl) i7 j.toList (λi y=>by
   have f:i<36:=(by omega);have u:=b i f;rw[aM<|by omega]at u;have v:e[i].1=MU i7[i]:=by
    have:=congrArg (λl:List (DataW Unit)=>l[i]?) C;simp only[jq,aM (show i<e.length by omega),aM y,GX,Cj]at this;exact this
   exact aq4 (p:=e[i].2)<|by rw[u];exact congrArg some (Prod.ext v rfl)) 36 (by omega)
  rw[ku<|by omega,ku<|by omega]at this;exact this
 have n:j=Aa:=by
  rw[<-aq5,<-o]
 subst n;unfold World.var? at a;rw[Cc]at a;simp only[SA]at a;split at a
 .rename_i c B k x;cases a;exact⟨B,k,x⟩
 .cases a
def akD:(Mg.filter λx=>x.1== "bidiguard/guard.ErrLong" ||x.1== "bidiguard/guard.ErrText" ||x.1== "bidiguard/guard.ErrCode")=CH:=by kernel_rfl
def akY:Rows.laid_unicode_utf8_first=firstData:=by kernel_rfl
def aim:Rows.laid_unicode_utf8_acceptRanges (H:=Unit)=acceptData:=by kernel_rfl
def etG:prog.globalNamed "errors.errorType" =some 3:=by kernel_rfl
def rtT:(prog.cutTypes.find? (·.1== "internal/reflectlite.rtype")).map (·.2)=some 223:=by kernel_rfl
def aoi:((List.range 383).filter λt=>prog.rowNamed t [101,114,114,111,114])=[53]:=by kernel_rfl
def anQ:prog.types.size=383:=by kernel_rfl
def akz {W:World}(h:laidMetH prog Rows.classesRow.laid W):∃aL z y,Env W aL z y:=by
 have I:laidMet prog Mg W/\handlesMet prog [("errors.errorType",Rows.laid_errors_errorType)] W:=h;obtain⟨b,J⟩:=I;have p:=b.filter λx=>x.1== "bidiguard/guard.ErrLong" ||x.1== "bidiguard/guard.ErrText" ||x.1== "bidiguard/guard.ErrCode"
 rw[akD]at p;obtain⟨s,v,w,A,B,C,t0,t1,t2,i,j,k,r,d,c,e,f,g⟩:=aof p;have a:Lib.Utf8Tabs (Tryz.lays196_ren.g 3) (Tryz.lays196_ren.g 4) W:=
  utf8Tabs_of_readsT (U8Types.of196 Tryz.lays196) ⟨by kernel_rfl,by kernel_rfl,by kernel_rfl,by kernel_rfl,by kernel_rfl,by kernel_rfl,by kernel_rfl⟩
   (akY▸Lib.laidMet.reads b (.tail _ (.tail _ (.tail _ (.tail _ (.tail _ (.tail _ (.tail _ (.tail _ (.tail _ (.tail _ (.tail _ (.tail _ (.tail _ (.head _)))))))))))))))
   (aim▸Lib.laidMet.reads b (.tail _ (.tail _ (.tail _ (.tail _ (.tail _ (.tail _ (.head _))))))))
 have m:=aq8<|Lib.laidMet.reads b (.tail _ (.tail _ (.tail _ (.tail _ (.tail _ (.tail _ (.tail _ (.tail _ (.head _)))))))));have l:W.cell? ⟨3,0,none⟩=some (.iface 223 (.agg #[.pointer<|some ⟨16,53,none⟩])):=by
  obtain⟨name,u,K,D,E,F,G,o⟩:=J _ (qX.2 rfl);have H:name=[101,114,114,111,114]:=(aJ D).symm;subst H;obtain rfl:=aJ<|rtT.symm.trans E;have q:K∈(List.range 383).filter λt=>prog.rowNamed t [101,114,114,111,114]:=tQ.2 ⟨J4.2<|by rw[<-anQ];exact F,G⟩
  rw[aoi]at q;obtain rfl:=qX.1 q;have n:typeHandle prog 53= .pointer (some ⟨16,53,none⟩):=by kernel_rfl
  rw[n]at o;simpa using G3 etG o 0
 exact⟨s,v,w,i,j,k,l,a,m,r,d,c,⟨A,t0,e⟩,⟨B,t1,f⟩,⟨C,t2,g⟩⟩
end
section
open Go.ChangeShapes Go.WideShapes Go.ChangeAt Go.RowKit Go.Deep Go.Lib
def Cb:prog.globalNamed "bidiguard/bidi.bracketPairs" =some 11:=by kernel_rfl
def arv:(prog.globals[11]?).map (·.type)=some 304:=by kernel_rfl
def Ap:prog.cellsOf 303=2:=by kernel_rfl
def ajn:prog.cellsOf 304=8:=by kernel_rfl
def ajo:prog.cellsOf 21=1:=by kernel_rfl
def Fa:List (Int×Int):=[(40,41),(91,93),(123,125),(12296,12297)]
def Kn {H:Type}(x:Int×Int):DataW H:= .agg [.lit (.int .i32 x.1),.lit (.int .i32 x.2)]
def ai9:Rows.laid_bidiguard_bidi_bracketPairs (H:=Unit)= .agg (Fa.map Kn):=by kernel_rfl
def Km(x:Int×Int):List Value:=[.int .i32 x.1,.int .i32 x.2]
def ai8:(Fa.flatMap Km).toArray=tX:=by kernel_rfl
def ajb {H:Type}{k:TypeId×Value->H}{w:World}{e:Nat}{y:Nat->Bool}{g:Bool}{f:Nat}{j:List Value}{x:Int×Int}{p:List MemPlace}
  (h:DataW.trod k prog w e y g f 303 j=some (Kn x,p)):j=Km x:=by
 obtain⟨i,m,_,hx,c,t,d⟩:=QE underlying303 h;rw[Ap]at c;rw[ajo]at d;have s:i.map (·.1)=[.lit (.int .i32 x.1),.lit (.int .i32 x.2)]:=by
  have:=congrArg Prod.fst hx;simpa [Kn]using this.symm
 match j,c with
 |[c0,c1],_=>
  have n:=d 0 (by omega);have o:=d 1 (by omega);rw[aM<|by omega]at n o;have f0:i[0].1= .lit (.int .i32 x.1):=by
   have:=congrArg (λl:List (DataW H)=>l[0]?) s;simpa [jq,aM (show 0<i.length by omega)]using this
  have f1:i[1].1= .lit (.int .i32 x.2):=by
   have:=congrArg (λl:List (DataW H)=>l[1]?) s;simpa [jq,aM (show 1<i.length by omega)]using this
  obtain⟨a,q,u,_⟩:=BI underlying21 (by simpa using n);obtain⟨b,r,v,_⟩:=BI underlying21 (by simpa using o);rw[u]at f0;rw[v]at f1;simp at q r f0 f1;subst q r;simp[Km,f0,f1]
def ET(f:Int×Int->List Value)(b:∀x,(f x).length=2)(L:List<|Int×Int)(a:List Value)(h:∀i (c:i<L.length),(a.drop<|i*2).take 2=f L[i]):
  ∀i,i<=L.length->a.take (i*2)=(L.take i).flatMap f
 |0,_=>by simp
 |i+1,c=>by
  have ih:=ET f b L a h i (by omega);rw[show(i+1)*2=i*2+2 by omega,List.take_add,ih,h i<|by omega,pG<|by omega,Sk];simp
def ajd {W:World}(h:VarReads prog W "bidiguard/bidi.bracketPairs" Rows.laid_bidiguard_bidi_bracketPairs):Br W:=by
 obtain⟨g,t,f,q,p,w,o,a,r⟩:=h;obtain rfl:=aJ<|Cb.symm.trans w;obtain rfl:=aJ<|arv.symm.trans o;rw[ai9]at r;obtain⟨e,m,_,hx,d,A,b⟩:=QE underlying304 r;rw[ajn]at d;rw[Ap]at b;have C:e.map (·.1)=Fa.map Kn:=by
  have:=congrArg Prod.fst hx;simpa using this.symm
 have z:Fa.length=4:=rfl;have k:f.toList=Fa.flatMap Km:=by
  have:=ET Km (λ_=>rfl) Fa f.toList (λi y=>by
   have n:i<4:=(by omega);have s:=b i n;rw[aM<|by omega]at s;have v:e[i].1=Kn Fa[i]:=by
    have:=congrArg (λl:List (DataW Unit)=>l[i]?) C;simp only[jq,aM (show i<e.length by omega),aM y,GX,Cj]at this;exact this
   exact ajb (p:=e[i].2)<|by rw[s];exact congrArg some (Prod.ext v rfl)) 4 (by omega)
  rw[ku<|by omega,ku<|by omega]at this;exact this
 have j:f=tX:=by
  rw[<-ai8,<-k]
 subst j;unfold World.var? at a;rw[Cb]at a;simp only[SA]at a;split at a
 .rename_i c B u x;cases a;exact⟨B,u,x⟩
 .cases a
def ajc {W:World}(h:laidMetH prog Rows.classesRow.laid W):Br W:=by
 have a:laidMet prog Mg W/\handlesMet prog [("errors.errorType",Rows.laid_errors_errorType)] W:=h;exact ajd<|Lib.laidMet.reads a.1 (.tail _ (.tail _ (.tail _ (.tail _ (.tail _ (.tail _ (.tail _ (.head _))))))))
end
section
open Go.ChangeShapes Go.WideShapes Go.ChangeAt Go.RowKit Go.Deep Go.Lib
def ajs:prog.cellsOf 246=2:=by kernel_rfl
def ni:prog.cellsOf 5=1:=by kernel_rfl
def Xl {W:World}{name:String}{e:Nat}{a b:Int}(s:prog.globalNamed name=some e)(A:(prog.globals[e]?).map (·.type)=some 246)(h:VarReads prog W name (.agg [.lit (.int .u8 a),.lit (.int .u8 b)])):∃t f,W.heap[e]? =some (.cells #[.int .u8 a,.int .u8 b] t f):=by
 obtain⟨g,t,k,q,p,y,j,d,x⟩:=h;obtain rfl:=aJ<|s.symm.trans y;obtain rfl:=aJ<|A.symm.trans j;obtain⟨G,H,n,hx,r,v,w⟩:=trod_struct2 underlying246 x;rw[ajs]at r;have i:k=#[.int .u8 a,.int .u8 b]:=by
  obtain⟨l⟩:=k
  match l,r with
  |[c0,c1],_=>
   obtain⟨E,m,rfl,_⟩:=BI underlying5 (by simpa [ni]using v);obtain⟨F,o,rfl,_⟩:=BI underlying5 (by simpa [ni]using w);simp at hx m o;obtain⟨⟨B,C⟩,_⟩:=hx;subst m o;simp[B,C]
 subst i;unfold World.var? at d;rw[s]at d;simp only[SA]at d;split at d
 .rename_i c D u z;cases d;exact⟨D,u,z⟩
 .cases d
def ao1 {W:World}(h:laidMetH prog Rows.partsRow.laid W):mR W:=by
 have a:laidMet prog Mg W/\handlesMet prog [("errors.errorType",Rows.laid_errors_errorType)] W:=h;exact⟨Xl (by kernel_rfl) (by kernel_rfl)<|Lib.laidMet.reads a.1 (.head _),Xl (by kernel_rfl) (by kernel_rfl)<|Lib.laidMet.reads a.1 (.tail _ (.head _)),Xl (by kernel_rfl) (by kernel_rfl)<|Lib.laidMet.reads a.1 (.tail _ (.tail _ (.head _)))⟩
end
section
open Go.ChangeShapes Go.WideShapes Go.ChangeAt Go.RowKit Go.Deep Go.Lib
def gTz:prog.globalNamed "math/bits.deBruijn64tab" =some 15:=by kernel_rfl
def tTz:(prog.globals[15]?).map (·.type)=some 353:=by kernel_rfl
def aju:prog.cellsOf 5=1:=by kernel_rfl
def ar1:∃L:List<|DataW Unit,Rows.laid_math_bits_deBruijn64tab (H:=Unit)= .agg L/\L[15]? =some (.lit (.int .u8 4)):=⟨_,rfl,rfl⟩
def ar3 {W:World}(h:laidMetH prog Rows.classesRow.laid W):qf W:=by
 have w:laidMet prog Mg W/\handlesMet prog [("errors.errorType",Rows.laid_errors_errorType)] W:=h;obtain⟨g,t,u,j,p,y,e,b,k⟩:=Lib.laidMet.reads w.1 (.tail _ (.tail _ (.tail _ (.tail _ (.head _)))));obtain rfl:=aJ<|gTz.symm.trans y;obtain rfl:=aJ<|tTz.symm.trans e;obtain⟨L,v,i⟩:=ar1;rw[v]at k;obtain⟨s,m,_,hx,o,A,d⟩:=QE underlying353 k;rw[aju]at d;have B:L=s.map (·.1):=by
  have:=congrArg Prod.fst hx;simpa using this
 have n:=d 15 (by omega);rw[aM<|by omega]at n;have f:s[15].1= .lit (.int .u8 4):=by
  rw[B,jq,aM<|by omega]at i;simpa using i
 obtain⟨a,q,r,_⟩:=BI underlying5 n;rw[r]at f;simp only[DataW.lit.injEq,Lit.int.injEq,oC]at f;subst f;have x:u[15]? =some (.int .u8 4):=by
  have:=congrArg (λl:List Value=>l[0]?) q;simpa [NC,zj]using this
 unfold World.var? at b;rw[gTz]at b;simp only[SA]at b;split at b
 .rename_i c D C z;cases b;exact(az z 15).trans x
 .cases b
end
section
variable{H:Type}{enc:TypeId×Value->H}
def alo {a:Assume}{C:Checked}{I:Os}{f:FuncId}{l:Func}{s:ChangeSpec}{h:List PathCond}{b n g m:Bool}{X:World->Array Value->Prop}
  (M:∀(w J:World)(args:Array Value),w.heap=J.heap->X w args->X J args)
  (own:ownKnob C.prog.godebug=none) (o:I.Started) (r:C.prog.inits.idxOf? f=none) (E:C.prog.funcs[f]? =some l)
  (p:∃(w:World)(c:Tape)(i:Input),w.os=I/\(w.forCall c i).Shaped C.prog/\i.vars=[]/\Input.okWide C.prog (w.forCall c i) .any w.heap.size f i/\
   ((s.pre enc C.prog l h b (w.forCall c i).memory i.args/\X (w.forCall c i).memory i.args)/\sizedMet enc C.prog l (OpenSpec.ofChange s) b (w.forCall c i).memory i.args)/\a.holds C.prog (lone (Frame.enter C.prog f i.args .normal) []<|w.forCall c i))
  (k:∀(W:World)(u:Nat)(args:Array Value)(x y:List<|DataW H)(d:List MemPlace),
   (∀(j:Nat) t v,l.params[j]? =some t->args[j]? =some v->Value.okWide C.prog W .any u t v)->
   DataW.Whole enc C.prog l.params.toList s.vars b W args.toList x y d->
   h.all (PathCond.test C.prog ⟨l.params.toList,x,s.plain.varTypes C.prog,y⟩)=true->
   (DataW.weightsEach C.prog (l.params.toList++s.plain.varTypes C.prog)<|x++y).all (·<=reachBytes)=true->X W args->W.ShapedOpen C.prog->
   a.holds C.prog (lone (Frame.enter C.prog f args .normal) [] W)->
   Calls C.prog f args W λe K=>∃v,e= .returned v/\s.post enc C.prog l b n g m W args v K):
  ReturnsInHanded a C I f .any (λw args=>(s.pre enc C.prog l h b w args/\X w args)/\sizedMet enc C.prog l (OpenSpec.ofChange s) b w args) (s.post enc C.prog l b n g m):=by
 refine returnsInHanded_of_calls own o r p ?_;intro w c i _ G _ F A q;obtain⟨_,_,_,D,z,_,_,_,_,B⟩:=F;obtain rfl:D=l:=aJ<|z.symm.trans E;obtain⟨⟨⟨x,y,d,L,N⟩,hx⟩,P⟩:=A;refine(k (w.forCall c i) w.heap.size i.args x y d B (DataW.Whole.of_heap (w':=w.forCall c i) (by rfl) L) N (P.weights L) (M _ _ _ (by rfl) hx) G q).mono ?_;rintro e K ⟨v,rfl,O⟩;exact ChangeSpec.post_blind O
def anE {W:World}(h:W.ShapedOpen prog):zk W:=by
 exact cell_of_shapedOpen_int (P:=prog) (g:=10) (t:=3) (zero:=#[.int .i64 0]) h (Mw<|by kernel_rfl) (by kernel_rfl) rfl (by kernel_rfl) (by kernel_rfl) underlying3
end
