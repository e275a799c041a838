import Derived.Test.YtkbinfhclaafhaaGreatDoorP10
import Derived.Laws.CopyOwn
namespace Go.Proofs.YtkbinfhclaafhaaGreatDoor
open Go.RowKit
open Go.Proofs.Tryz
set_option maxRecDepth 100000
set_option maxHeartbeats 32000000
set_option linter.all false
def aoB(w:World)(B O V n C:Nat)(pv rv bv:Value)(i s ay:Int)(t:List Int)(h:bf w B O V n C pv rv bv i s ay t)(hn:n<=1000)(mG:0<=i)(a b:Nat)(ag:a<b)(hb:b<n):
  Calls prog 212 #[.pointer<|some ⟨O,0,none⟩,.agg #[.int .i64 a,.int .i64 b]] w λe y=>e= .returned (.int .i64<|vE t (a,b) (i%2) s)/\Below w.heap.size w y:=by
 have v:Below w.heap.size w (w.alloc (.cells #[.int .i64 a,.int .i64 b] 268)):=(aA _ _).alloc (au _) _;have u:=h.below v;have c2:=u.f2;have c4:=u.f4;have ak:n<=C:=by
  obtain⟨g',c',hv,hc,_⟩:=gI h.row (show 0<n by omega);have:C=c':=by have:=hv;simp at this;exact this.2
  omega
 have HA:Hid (∀W,Below w.heap.size w W->Calls prog 250 #[.pointer<|some ⟨O,0,none⟩,.int .i64 a] W λe y=>e= .returned (.int .i64<|kG s t a)/\y=W):=λW J=>aqT W B O V n C pv rv bv i s ay t (h.below J) hn a<|by omega
 have HT:Hid (∀W,Below w.heap.size w W->∀k,k<n->W.cell? ⟨V,k,none⟩=some (.int .i64<|t.getD k 0)):=λW J k hk=>(h.below J).at k hk
 have EW:Hid (∀W,Calls prog 96 #[.int .i64 i] W λe y=>e= .returned (.int .i64<|i%2)/\y=W):=λW=>C2 i W mG
 have aD:=ah v;obtain⟨own,o⟩:=ac<|i%2;rw[<-o]at EW ⊢;obtain⟨P,N⟩:=ac<|vE t (a,b) own s;rw[<-N];unfold vE at N;have R:=ah N;have U:(w.alloc (.cells #[.int .i64 a,.int .i64 b] 268)).cell? ⟨w.heap.size,0,none⟩=some (.int .i64 a):=by go_simp
 have g1:(w.alloc (.cells #[.int .i64 a,.int .i64 b] 268)).cell? ⟨w.heap.size,1,none⟩=some (.int .i64 b):=by go_simp
 have Z:(a:Int)+1<=(b:Int):=by omega
 have aa:(b:Int)<=(C:Int):=by omega
 have ab:((a:Int)+1).toNat=a+1:=by omega
 have ad:(C:Int)≠(a:Int)+1:=by omega
 clear h v u o N;generalize Y:w.alloc (.cells #[.int .i64 a,.int .i64 b] 268)=S at*;go_enter func212,ntmps212;go_wp2_with fail;refine(EW.out _).mono ?_;rintro l p ⟨rfl,hx⟩;have d:=hx.symm;subst d;clear Y;generalize w.heap.size=bx at U g1 ⊢;go_wp2_with fail;go_quiet(fail);have A:Hid (Below w.heap.size w<|S.drewN nq):=gH aD.out _;have af:(S.drewN nq).cell? ⟨bx,0,none⟩=some (.int .i64 a):=U;generalize S.drewN nq=T at*;clear U g1 c2 c4 Z aa ab ad aD;obtain⟨m,hm⟩:=ac<|b - (a+1);rw[<-hm]at R ⊢;have HM:Hid (a+1+m=b):=by show _=_;omega
 have nj:m<=1000:=by omega
 clear hm;go_wp2;go_loopg [6,25] m (λgk wv iv W=>∃(j:Nat)(q:Int),j<=m/\gk=m - j/\wv= .int .i64 q/\iv= .int .i64 j/\W=T/\sQ own t (a+1) m=sQ own t (a+1+j) (m - j)/\s8 t (a+1) m (-1)=s8 t (a+1+j) (m - j) q);exact⟨0, -1,by omega,rfl,rfl,rfl,rfl,rfl,rfl⟩;obtain⟨j,q,hj,rfl,rfl,rfl,J,f,g⟩:=hrel;have X:=J.symm;subst X;by_cases al:j<m
 .have ae:(j:Int)<(m:Int):=by omega
  have ck:=HT.out T A.out (a+1+j) (by have:=HM.out;omega);obtain⟨r,hr⟩:∃r,m - j=r+1:=⟨m - j - 1,by omega⟩
  rw[hr,sQ]at f;rw[hr,s8]at g;have M:m - (j+1)=r:=by omega
  generalize t.getD (a+1+j) 0=c at*;have z:Hid (∀W,Calls prog 217 #[.int .i64 c] W λe y=>e= .returned (.int .i64<|bD c)/\y=W):=λW=>N3 c W
  generalize bD c=E at*;by_cases K:E=own
  .have G:Hid (P=own):=by
    show _=_;rw[R.out,f,K,aj<|by simp]
   subst K;clear f g;go_wp2_with fail;refine(z.out _).mono ?_;rintro l p ⟨rfl,hx⟩;have d:=hx.symm;subst d;go_wp2;go_ret;exact⟨dM G.out.symm,A.out⟩
  .have qo:(E==own)=false:=(by simpa using K);rw[qo,C7]at f;by_cases L:E= -1
   .rw[aj L]at g;have F:Hid (sQ own t (a+1) m=sQ own t (a+1+(j+1)) (m - (j+1))/\s8 t (a+1) m (-1)=s8 t (a+1+(j+1)) (m - (j+1)) q):=⟨by rw[M];exact f,by rw[M];exact g⟩
    subst L;clear f g K;go_wp2_with fail;refine(z.out _).mono ?_;rintro l p ⟨rfl,hx⟩;have d:=hx.symm;subst d;go_wp2_with fail;refine(z.out _).mono ?_;rintro l p ⟨rfl,hx⟩;have d:=hx.symm;subst d;go_wp2;go_roundg (m - (j+1));exact⟨j+1,q,by omega,rfl,rfl,by go_num,rfl,F.out.1,F.out.2⟩;omega
   .rw[ai L]at g;have F:Hid (sQ own t (a+1) m=sQ own t (a+1+(j+1)) (m - (j+1))/\s8 t (a+1) m (-1)=s8 t (a+1+(j+1)) (m - (j+1)) E):=⟨by rw[M];exact f,by rw[M];exact g⟩
    have qs:(E != -1)=true:=(by simpa using L);clear f g K L;go_wp2_with fail;refine(z.out _).mono ?_;rintro l p ⟨rfl,hx⟩;have d:=hx.symm;subst d;go_wp2_with fail;refine(z.out _).mono ?_;rintro l p ⟨rfl,hx⟩;have d:=hx.symm;subst d;go_wp2_with fail;refine(z.out _).mono ?_;rintro l p ⟨rfl,hx⟩;have d:=hx.symm;subst d;go_wp2;go_roundg (m - (j+1));exact⟨j+1,E,by omega,rfl,rfl,by go_num,rfl,F.out.1,F.out.2⟩;omega
 .have ae:¬(j:Int)<(m:Int):=by omega
  have hz:m - j=0:=by omega
  rw[hz]at f g;have H:sQ own t (a+1) m=false:=f;have I:s8 t (a+1) m (-1)=q:=g;have G:Hid (P=if q≠ -1/\kG s t a≠q then own else q):=by
   show _=_;rw[R.out,H,I,ai<|by decide]
  have Gq:=ah<|HA.out T A.out;clear f g H I hz;generalize kG s t a=la at*;by_cases x:q= -1
  .have e:P= -1:=(by rw[G.out,ai λh=>h.1 x,x]);subst x;subst e;go_wp2;go_ret;exact⟨rfl,A.out⟩
  .have qq:(q != -1)=true:=(by simpa using x);by_cases D:la=q
   .have e:P=q:=(by rw[G.out,ai λh=>h.2 D]);have ql:(la !=q)=false:=(by simp[D]);have Q:=ah e;clear D e x;go_wp2_with fail;refine Gq.out.mono ?_;rintro l p ⟨rfl,hx⟩;have d:=hx.symm;subst d;go_wp2;go_ret;exact⟨dM Q.out.symm,A.out⟩
   .have e:P=own:=(by rw[G.out,aj ⟨x,D⟩]);have ql:(la !=q)=true:=(by simpa using D);have Q:=ah e;clear D e x;go_wp2_with fail;refine Gq.out.mono ?_;rintro l p ⟨rfl,hx⟩;have d:=hx.symm;subst d;go_wp2;go_ret;exact⟨dM Q.out.symm,A.out⟩
def lH.few {t b:List Int}{a:List (Nat×Nat)}(h:lH t b a):a.length<=t.length:=by
 unfold lH at h;cases hp:dL t b t.length 0 ([],[])with
 |none=>rw[hp]at h;simp only at h;rw[h];simp
 |some c=>
  rw[hp]at h;have:=aeV _ _ _ _ kR.start hp;rw[h.1.length_eq];omega
def Bl(t a:List Int)(c:List<|Nat×Nat)(own b:Int):List Int:=c.foldl (λt p=>CS t a p own b) t
def G7 {w a:World}{r:Option Nat}(h:Below w.heap.size w a):w.grownBy a r:=⟨h.os,h.tape,h.output,h.size,λk b _=>h.block k b⟩
def cell_grown {w d:World}{r:Option Nat}(e:w.grownBy d r){a:Addr}{v:Value}(h:w.cell? a=some v)(c:some a.block≠r):d.cell? a=some v:=by
 have b:=aik w _ h;simp only[World.cell?]at h ⊢;rw[e.block a.block b c];exact h
def bI.grown {w f:World}{b a d:Nat}{l:List Int}(h:bI w b a l)(g:w.grownBy f<|some d)(c:b≠d):bI f b a l:=λi j=>cell_grown g (h i j) λe=>c<|aJ e
def uO.grown {w i:World}{g b:Nat}{f:List (Nat×Nat)}(h:uO w g f)(c:w.grownBy i<|some b)(a:g≠b):uO i g f:=λj d=>
 ⟨cell_grown c (h j d).1 (λe=>a<|aJ e),cell_grown c (h j d).2 (λe=>a<|aJ e)⟩
def uO.below {w d:World}{g:Nat}{c:List (Nat×Nat)}(h:uO w g c)(a:Below w.heap.size w d):uO d g c:=λj b=>
 ⟨cell_grown (r:=none) (G7 a) (h j b).1 (by simp),cell_grown (r:=none) (G7 a) (h j b).2 (by simp)⟩
def ak6 {a c:Type}(f:c->a->c)(b:c)(l:List a)(d:a)(j:Nat)(e:j<l.length):(l.take<|j+1).foldl f b=f ((l.take j).foldl f b) (l.getD j d):=by
 rw[uM,aM e,Ci,aO,aM e];rfl
def apI(w:World)(B l k n x r y o u:Nat)(C:Value)(f i s:Int)(t rs c:List Int)(h:bf w B l k n x C (.slice (some ⟨r,0,none⟩) n y) (.slice (some ⟨o,0,none⟩) n u) f i s t)(hr:Du w r n rs)(ho:bI w o 0 c)(T:c.length=n)(J:o≠k)(R:Br w)(hn:n<=1000)(mG:0<=f):
  Calls prog 151 #[.pointer<|some ⟨l,0,none⟩] w λe D=>e= .returned (.tuple #[])/\bf D B l k n x C (.slice (some ⟨r,0,none⟩) n y) (.slice (some ⟨o,0,none⟩) n u) f i s (Bl t c (Bq t rs) (f%2) i)/\w.grownBy D (some k):=by
 have Zh:Hid (Calls prog 211 #[.pointer<|some ⟨l,0,none⟩] w λe D=>∃v m,e= .returned v/\lH t rs m/\ZZ D w.heap.size v m/\Below w.heap.size w D):=ai7 w B l k n x r y C (.slice (some ⟨o,0,none⟩) n u) f i s t rs h hr R hn;have cO:Hid (∀W,Below w.heap.size w W->bf W B l k n x C (.slice (some ⟨r,0,none⟩) n y) (.slice (some ⟨o,0,none⟩) n u) f i s t):=λW hb=>h.below hb
 have HO:Hid (∀W,w.grownBy W (some k)->bI W o 0 c):=λW hg=>ho.grown hg J
 have X:Hid (c.length=n/\t.length=n):=⟨T,h.len⟩
 have kY:k<w.heap.size:=(h.row.lt k rfl).2;clear h hr ho T R;go_enter func151,ntmps151;go_wp2_with fail;refine Zh.out.mono ?_;rintro ev w1 ⟨v,m,rfl,hI,hV,I⟩;clear Zh;have dS:Hid (∀p∈m,p.1<p.2/\p.2<n):=λp hp=>by have:=hI.ok p hp;rw[X.out.2]at this;exact this
 have Zi:=ah hI.is;have sV:m.length<=1000:=by have:=hI.few;rw[X.out.2]at this;omega
 have Z:w.grownBy w1 (some k):=(G7 I)
 have E:=cO.out w1 I;clear cO hI I;rcases hV with⟨rfl,a,cp,rfl⟩|⟨g,cp,rfl,ab,uY,H⟩
 .have bF:=ah E;have lX:=ah Z;clear E Z dS sV;go_wp2;go_loopg [8] 0 (λgk iv W=>gk=0/\iv= .int .i64 0/\W=w1);exact⟨rfl,rfl,rfl⟩;obtain⟨rfl,rfl,rfl⟩:=hrel;go_wp2;go_end0;exact⟨rfl,by rw[<-Zi.out];exact bF.out,lX.out⟩
 .have M:g≠k:=by omega
  have bF:=ah E;have lX:=ah Z;have Yj:=ah H;clear E Z H ab uY kY;obtain⟨N,hN⟩:=ac m.length;have rR:=ah hN.symm;rw[<-hN]at sV ⊢;clear hN;go_wp2;go_loopg [8] N (λgk iv W=>∃(j:Nat),j<=N/\gk=N - j/\iv= .int .i64 j/\bf W B l k n x C (.slice (some ⟨r,0,none⟩) n y) (.slice (some ⟨o,0,none⟩) n u) f i s (Bl t c (m.take j) (f%2) i)/\w.grownBy W (some k)/\uO W g m);exact⟨0,by omega,rfl,rfl,bF.out,lX.out,Yj.out⟩;clear bF lX Yj;obtain⟨j,hj,rfl,rfl,P,hG,H⟩:=hrel;have Y:=ah P;have HG:=ah hG;have HA:=ah H;by_cases ad:j<N
  .have K:j<m.length:=(by rw[rR.out];exact ad);obtain⟨p1,p2⟩:=H j K;obtain⟨Q,pO⟩:=dS.out _ (dG (d:=(0,0)) K);have U:=ak6 (λt p=>CS t c p (f%2) i) t m (0,0) j K;have qV:Hid (Bl t c (m.take<|j+1) (f%2) i=CS (Bl t c (m.take j) (f%2) i) c (m.getD j (0,0)) (f%2) i):=U;have CB:(j:Int)<(N:Int):=(by omega);clear P hG H U;generalize m.getD j (0,0)=p at*;obtain⟨a,b⟩:=p;simp only at p1 p2 Q pO;generalize Bl t c (m.take j) (f%2) i=q at*;have F:Below wr.heap.size wr (wr.alloc (.cells #[.int .i64 a,.int .i64 b] 268)):=(aA _ _).alloc (au _) _;have qU:Hid (Calls prog 212 #[.pointer<|some ⟨l,0,none⟩,.agg #[.int .i64 a,.int .i64 b]] (wr.alloc (.cells #[.int .i64 a,.int .i64 b] 268)) λe D=>e= .returned (.int .i64<|vE q (a,b) (f%2) i)/\Below (wr.alloc (.cells #[.int .i64 a,.int .i64 b] 268)).heap.size (wr.alloc (.cells #[.int .i64 a,.int .i64 b] 268)) D):=aoB (wr.alloc (.cells #[.int .i64 a,.int .i64 b] 268)) B l k n x C (.slice (some ⟨r,0,none⟩) n y) (.slice (some ⟨o,0,none⟩) n u) f i s q (Y.out.below F) hn mG a b Q pO;have bW:Hid (∀W,Below (wr.alloc (.cells #[.int .i64 a,.int .i64 b] 268)).heap.size (wr.alloc (.cells #[.int .i64 a,.int .i64 b] 268)) W->bf W B l k n x C (.slice (some ⟨r,0,none⟩) n y) (.slice (some ⟨o,0,none⟩) n u) f i s q/\w.grownBy W (some k)/\uO W g m/\W.cell? ⟨wr.heap.size,0,none⟩=some (.int .i64 a)/\W.cell? ⟨wr.heap.size,1,none⟩=some (.int .i64 b)):=λW hb=>by
    have A:Below wr.heap.size wr W:=F.trans<|hb.mono F.size;have hc:(wr.alloc (.cells #[.int .i64 a,.int .i64 b] 268)).heap[wr.heap.size]? =some (.cells #[.int .i64 a,.int .i64 b] 268 (0,0)):=oD;have S:=bq hb hc;exact⟨Y.out.below A,HG.out.trans<|G7 A,HA.out.below A,az S 0,az S 1⟩
   have Li:k≠wr.heap.size:=(by have:=(Y.out.row.lt k rfl).2;omega);clear F;obtain⟨z,hz⟩:=ac wr.heap.size;go_wp2_with fail;refine qU.out.mono ?_;rintro ev V ⟨rfl,A⟩;obtain⟨mY,KP,O,z0,z1⟩:=bW.out V A;have kq:=ah mY;have Jm:=ah KP;have Yk:=ah O;clear A qU bW mY KP O p1 p2;rw[<-hz]at z0 z1 Li ⊢;have HZ:=ah Li;clear hz Li;by_cases L:vE q (a,b) (f%2) i= -1
   .have HQ:Hid (CS q c (a,b) (f%2) i=q):=(by show _=_;rw[CS,aj L]);rw[L];clear L;go_wp2;go_roundg (N - (j+1));exact⟨j+1,by omega,rfl,by go_num,by rw[qV.out,HQ.out];exact kq.out,Jm.out,Yk.out⟩;omega
   .have ae:(vE q (a,b) (f%2) i== -1)=false:=(by simpa using L);have HQ:Hid (CS q c (a,b) (f%2) i=o8 c (vE q (a,b) (f%2) i) b (o8 c (vE q (a,b) (f%2) i) a q)):=(by show _=_;rw[CS,ai L]);clear L;generalize vE q (a,b) (f%2) i=d at*;have aD:Hid (Calls prog 213 #[.pointer<|some ⟨l,0,none⟩,.int .i64 a,.int .i64 d] V λe D=>e= .returned (.tuple #[])/\bf D B l k n x C (.slice (some ⟨r,0,none⟩) n y) (.slice (some ⟨o,0,none⟩) n u) f i s (o8 c d a q)/\V.grownBy D (some k)):=af4 V B l k n x o u C (.slice (some ⟨r,0,none⟩) n y) f i s q c kq.out (HO.out V Jm.out) X.out.1 J hn a (by omega) d;have aI:Hid (∀W,w.grownBy W (some k)->bf W B l k n x C (.slice (some ⟨r,0,none⟩) n y) (.slice (some ⟨o,0,none⟩) n u) f i s (o8 c d a q)->Calls prog 213 #[.pointer<|some ⟨l,0,none⟩,.int .i64 b,.int .i64 d] W λe D=>e= .returned (.tuple #[])/\bf D B l k n x C (.slice (some ⟨r,0,none⟩) n y) (.slice (some ⟨o,0,none⟩) n u) f i s (o8 c d b<|o8 c d a q)/\W.grownBy D (some k)):=λW hg P=>af4 W B l k n x o u C (.slice (some ⟨r,0,none⟩) n y) f i s _ c P (HO.out W hg) X.out.1 J hn b pO d
    go_wp2_with fail;refine aD.out.mono ?_;rintro ev w4 ⟨rfl,jU,G⟩;have xL:=ah jU;have Dd:=ah<|Jm.out.trans G;have aa:=ah<|Yk.out.grown G M;have y1:w4.cell? ⟨z,1,none⟩=some (.int .i64 b):=cell_grown G z1 (λe=>HZ.out (aJ e).symm);clear jU G aD z0 z1;go_wp2_with fail;refine(aI.out w4 Dd.out xL.out).mono ?_;rintro ev w5 ⟨rfl,sP,bU⟩;have fH:=ah sP;have Gt:=ah<|Dd.out.trans bU;have QG:=ah<|aa.out.grown bU M;clear sP bU aI y1;go_wp2;go_roundg (N - (j+1));exact⟨j+1,by omega,rfl,by go_num,by rw[qV.out,HQ.out];exact fH.out,Gt.out,QG.out⟩;omega
  .obtain rfl:j=N:=(by omega);have CB:¬(j:Int)<(j:Int):=(by omega);have HX:Hid (bf wr B l k n x C (.slice (some ⟨r,0,none⟩) n y) (.slice (some ⟨o,0,none⟩) n u) f i s<|Bl t c m (f%2) i):=by
    have:=Y.out;rw[ku<|by rw[rR.out];exact au _]at this;exact this
   clear P hG H;go_wp2;go_end0;exact⟨rfl,by rw[<-Zi.out];exact HX.out,HG.out⟩
structure NS(W:World)(B sb:Nat)(pv vr vc:Value)(ax:Int)(qr qc:List Int):Prop where
 cell:W.heap[sb]? =some (.cells #[pv,vr,vc,.slice none 0 0,.int .i64 ax,.int .i64 0,.int .i64 0] 220 (0,0))
 rr:W.ownsRow B 21 1 vr qr.length<|pT qr
 rc:W.ownsRow B 108 1 vc qc.length<|iv qc
 low:B<=sb
section
variable{W W':World}{B sb:Nat}{pv vr vc v':Value}{ax:Int}{qr qc:List Int}
def NS.below(h:NS W B sb pv vr vc ax qr qc)(a:Below W.heap.size W W'):NS W' B sb pv vr vc ax qr qc:=⟨bq a h.cell,fu h.rr a,fu h.rc a,h.low⟩
def NS.MG {y:Int}(h:NS W B sb pv vr vc ax qr qc)(a:W'.ownsRow B 21 1 v' (qr.length+1)<|pT qr++[.int .i32 y])(c:W.grownBy W' vr.ownBlock):
  NS (W'.setCell ⟨sb,1,none⟩ v') B sb pv v' vc ax (qr++[y]) qc/\W'.cell? ⟨sb,1,none⟩=some vr/\W'.frozen? ⟨sb,1,none⟩=false:=by
 have f:=jG h.rr h.cell (by decide);have b:W'.heap[sb]? =_:=(c.block sb (cJ h.cell) λe=>f e.symm).trans h.cell;have d:W'.ownsRow B 108 1 vc qc.length (iv qc):=eI h.rc c (lQ h.rc h.rr<|by decide);have g:v'.ownBlock≠some sb:=jG a b (by decide);have i:vc.ownBlock≠some sb:=jG d b (by decide);refine⟨⟨by rw[eW b];rfl,?_,jW d i 1 v',h.low⟩,az b 1,cB b 1⟩;rw[bH,pT,fB];exact jW a g 1 v'
def NS.apl {y:Int}(h:NS W B sb pv vr vc ax qr qc)(a:W'.ownsRow B 108 1 v' (qc.length+1)<|iv qc++[.int .i64 y])(c:W.grownBy W' vc.ownBlock):
  NS (W'.setCell ⟨sb,2,none⟩ v') B sb pv vr v' ax qr (qc++[y])/\W'.cell? ⟨sb,2,none⟩=some vc/\W'.frozen? ⟨sb,2,none⟩=false:=by
 have f:=jG h.rc h.cell (by decide);have b:W'.heap[sb]? =_:=(c.block sb (cJ h.cell) λe=>f e.symm).trans h.cell;have d:W'.ownsRow B 21 1 vr qr.length (pT qr):=eI h.rr c (lQ h.rr h.rc<|by decide);have g:v'.ownBlock≠some sb:=jG a b (by decide);have i:vr.ownBlock≠some sb:=jG d b (by decide);refine⟨⟨by rw[eW b];rfl,jW d i 2 v',?_,h.low⟩,az b 2,cB b 2⟩;rw[bH,iv,fB];exact jW a g 2 v'
end
def aoM(w:World)(b g m n f k:Nat)(r c l:Value)(p:Int)(a:List Int)(h:Az w b g m n f k r c l p a)(t:n<=1000)(d:Int):
  Calls prog 141 #[.pointer<|some ⟨b,0,none⟩,.int .i64 d] w λe j=>e= .returned (.int .i64<|gX a d)/\j=w:=by
 have u:w.cell? ⟨b,1,none⟩=some (.slice (some ⟨g,0,none⟩) n f):=az h.cell 1;have s:Hid (Calls prog 199 #[.pointer<|some ⟨b,0,none⟩,.int .i64 0,.int .i64 n] w λe j=>e= .returned (.int .i64<|found a)/\j=w):=by
  have:=EY w b g m n f k r c l p a h t 0 n (n+1) (au _) (by omega) (by omega);rw[<-h.len,WA,<-OJ a a.length 0 (by omega)]at this;rw[<-h.len];exact this
 unfold gX;generalize found a=x at*;clear h;by_cases o:d=0
 .subst o;rw[aj (.inl rfl)];go_enter func141,ntmps141;go_wp2;go_ret;exact⟨rfl,rfl⟩
 .have y:=ae o;by_cases q:d=1
  .subst q;rw[aj (.inr rfl)];go_enter func141,ntmps141;go_wp2;go_ret;exact⟨rfl,rfl⟩
  .rw[ai<|by omega];have z:=ae q;go_enter func141,ntmps141;go_wp2_with fail;refine s.out.mono ?_;rintro v A ⟨rfl,hx⟩;have i:=hx.symm;subst i;go_wp2;go_ret;exact⟨rfl,rfl⟩
def Gg(W:World)(b i:Nat)(v:Value):W.grownBy (W.setCell ⟨b,i,none⟩ v) (some b):=⟨rfl,rfl,rfl,by simp,λk _ a=>iF _ _ _ _ (λe=>a<|by rw[e])⟩
def Dz(w:World)(a:Obj)(r:Option Nat):w.grownBy (w.alloc a) r:=⟨rfl,rfl,rfl,by simp,λk b _=>dw w a k b⟩
def Ti {P:Program}{w:World}{sT e ty:TypeId}{B g f n d:Nat}{c:List Value}{a:Array Value}(u:P.underlying sT=some (.slice e))(t:(P.info? e).map (·.size)=some 1)(l:w.heap[g]? =some (.cells a e (0,0)))(r:a.size=n)(m:w.ownsRow B e 1 (.slice (some ⟨f,0,none⟩) n d) n c)(q:∀v∈c,v.oneCell'=true):
  ∃i,(Builtin.copy_ #[sT,sT] ty #[.slice (some ⟨g,0,none⟩) n n,.slice (some ⟨f,0,none⟩) n d]).run P w= .ok (.int .i64 n) i/\i.heap[g]? =some (.cells c.toArray e (0,0))/\w.grownBy i (some g):=by
 have b:c.length=n:=by have:=m.1;simpa using this
 have o:=run_copy_row (P:=P) w sT sT ty e g 0 n n ⟨f,0,none⟩ n d a e c u t l (by rw[b];exact(Nat.min_self n).symm) (λj v s=>World.ownsRow.cells m rfl j v s) (by rw[b,r];omega) q;have p:a.toList.take 0++c++a.toList.drop (0+c.length)=c:=by
  rw[ZU,si,kr<|by rw[b];simp;omega,l5]
 rw[p,b]at o;refine⟨_,o,setRow_heap _ _ _ _ _ _ l,⟨rfl,rfl,rfl,by simp[World.setRow],λk _ h=>setRow_other w g k _ (λe=>h<|by rw[e])⟩⟩
def LB(W:World)(g:Nat)(a b c d e f:Value):Prop:=W.heap[g]? =some (.cells #[a,b,c,d,e,f] 141 (0,0))
section
variable{W W':World}{lb:Nat}{a0 a1 a2 a3 a4 a5:Value}
def LB.c1(h:LB W lb a0 a1 a2 a3 a4 a5):W.cell? ⟨lb,1,none⟩=some a1:=az h 1
def LB.c2(h:LB W lb a0 a1 a2 a3 a4 a5):W.cell? ⟨lb,2,none⟩=some a2/\W.frozen? ⟨lb,2,none⟩=false:=⟨az h 2,cB h 2⟩
def LB.c3(h:LB W lb a0 a1 a2 a3 a4 a5):W.cell? ⟨lb,3,none⟩=some a3/\W.frozen? ⟨lb,3,none⟩=false:=⟨az h 3,cB h 3⟩
def LB.c4(h:LB W lb a0 a1 a2 a3 a4 a5):W.cell? ⟨lb,4,none⟩=some a4/\W.frozen? ⟨lb,4,none⟩=false:=⟨az h 4,cB h 4⟩
def LB.c5(h:LB W lb a0 a1 a2 a3 a4 a5):W.cell? ⟨lb,5,none⟩=some a5/\W.frozen? ⟨lb,5,none⟩=false:=⟨az h 5,cB h 5⟩
def LB.grown {r:Option Nat}(h:LB W lb a0 a1 a2 a3 a4 a5)(b:W.grownBy W' r)(a:some lb≠r):LB W' lb a0 a1 a2 a3 a4 a5:=(b.block lb (cJ h) a).trans h
def LB.below(h:LB W lb a0 a1 a2 a3 a4 a5)(a:Below W.heap.size W W'):LB W' lb a0 a1 a2 a3 a4 a5:=bq a h
def LB.s2(h:LB W lb a0 a1 a2 a3 a4 a5)(v:Value):LB (W.setCell ⟨lb,2,none⟩ v) lb a0 a1 v a3 a4 a5:=by unfold LB;rw[eW h];rfl
def LB.s3(h:LB W lb a0 a1 a2 a3 a4 a5)(v:Value):LB (W.setCell ⟨lb,3,none⟩ v) lb a0 a1 a2 v a4 a5:=by unfold LB;rw[eW h];rfl
def LB.s4(h:LB W lb a0 a1 a2 a3 a4 a5)(v:Value):LB (W.setCell ⟨lb,4,none⟩ v) lb a0 a1 a2 a3 v a5:=by unfold LB;rw[eW h];rfl
def LB.s5(h:LB W lb a0 a1 a2 a3 a4 a5)(v:Value):LB (W.setCell ⟨lb,5,none⟩ v) lb a0 a1 a2 a3 a4 v:=by unfold LB;rw[eW h];rfl
end
def iY {w b:World}{B g n c:Nat}{e:TypeId}{d:List Value}{r:Nat}(h:w.ownsRow B e 1 (.slice (some ⟨g,0,none⟩) n c) n d)(f:w.grownBy b<|some r)(a:g≠r):b.ownsRow B e 1 (.slice (some ⟨g,0,none⟩) n c) n d:=
 eI h f (.inr<|by simp[Value.ownBlock];exact a)
def Tryz.Xn:(prog.info? 108).map (·.size)=some 1:=by kernel_rfl
def Gv(r c:List Int)(d:List Bool)(b:Int)(g:List Nat)(n m G oc cc gl ol cl gf af cf u y Z:Nat)(w:World)(hc:r.length=n)(hl:c.length=n)(hf:d.length=n)(hn:n<=100000)(hm:g.length=m)(az:0<m)(nj:m<=100000)(Q:∀p∈g,p<n)
  (U:∀l∈c,0<=l/\l<=1000) (V:0<=b/\b<=1000) (R:bI w G oc r) (Bc:bI w gl ol c) (ad:Aj w gf af d) (P:bI w u y<|nl g) (kY:G<w.heap.size) (S:gl<w.heap.size) (uX:gf<w.heap.size) (FB:u<w.heap.size):
  Calls prog 123 #[.slice (some ⟨G,oc,none⟩) n cc,.slice (some ⟨gl,ol,none⟩) n cl,.slice (some ⟨gf,af,none⟩) n cf,.int .i64 b,.slice (some ⟨u,y,none⟩) m Z] w λF w'=>F= .returned (.agg #[.slice (some ⟨u,y,none⟩) m Z,.int .i64 (sK r c d b g).level,.int .i64 (sK r c d b g).aq,.int .i64 (sK r c d b g).ay])/\Below w.heap.size w w':=by
 have K:g≠[]:=by intro e;rw[e]at hm;simp at hm;omega
 obtain⟨q,I⟩:=ac<|g.headD 0;obtain⟨f,J⟩:=ac<|g.getLastD 0;have aa:q<n:=by rw[I];exact Q _ (head_mem K)
 have Pc:f<n:=by rw[J];exact Q _ (zQ K)
 obtain⟨i,mG⟩:=ac<|c.getD q 0;have B:0<=i/\i<=1000:=by rw[mG];exact U _ (dG<|by rw[hl];exact aa)
 have HQ:Hid (sK r c d b g=⟨g,i,i6 i<|kz c d b q,i6 i<|qh r c d b f⟩):=by
  show _=_;rw[mG,I,J];rfl
 rw[HQ.out];simp only;have D:∀k,k<n->0<=c.getD k 0/\c.getD k 0<=1000:=λk hk=>U _ (dG<|by rw[hl];exact hk)
 have ak:Hid (∀k,k<=n->0<=kz c d b k/\kz c d b k<=1000):=by
  intro k
  induction k with
  |zero=>intro _;exact V
  |succ k ih=>intro hk;rw[kz];split;exact D k (by omega);exact ih<|by omega
 have al:Hid (∀k,k<=n->0<=mj c d b n k/\mj c d b n k<=1000):=by
  intro k
  induction k with
  |zero=>intro _;exact V
  |succ k ih=>intro hk;rw[mj];split;exact D _ (by omega);exact ih<|by omega
 have HP:=ah V;have N:Hid (r.length=n/\c.length=n/\d.length=n):=⟨hc,hl,hf⟩
 have Kq:w.cell? ⟨u,y,none⟩=some (.int .i64 (q:Nat)):=by
  have:=P 0 (by rw[gW];omega);rw[oh _ _ (by omega),p9]at this;rw[this,I];cases g with
  |nil=>exact absurd rfl K
  |cons a l=>rfl
 have ab:w.cell? ⟨u,y+(m - 1),none⟩=some (.int .i64 (f:Nat)):=by
  have:=P (m - 1) (by rw[gW];omega);rw[oh _ _ (by omega)]at this;rw[this,J];congr 3;rw[r8,GN,hm,aO]
 have Ta:=Bc q (by rw[hl];exact aa);rw[<-mG]at Ta;have S9:=R f (by rw[hc];exact Pc);obtain⟨Hg,Uv⟩:=ac<|r.getD f 0;rw[<-Uv]at S9;obtain⟨C,H⟩:=ac<|(w.alloc (.cells #[.slice none 0 0,.int .i64 0,.int .i64 0,.int .i64 0] 120)).alloc (.cells #[.slice (some ⟨u,y,none⟩) m Z,.int .i64 i,.int .i64 0,.int .i64 0] 120);have o:Below w.heap.size w C:=by rw[H];exact((aA _ _).alloc (au _) _).alloc (by simp) _
 have aD:=ah o;have Aq:=ah<|R.stay o kY;have Dh:=ah<|Bc.stay o S;have BM:=ah<|ad.stay o uX;have ag:Hid (C.cell? ⟨u,y,none⟩=some (.int .i64 (q:Nat))/\C.cell? ⟨u,y+(m - 1),none⟩=some (.int .i64 (f:Nat))/\C.cell? ⟨G,oc+f,none⟩=some (.int .i64 Hg)):=⟨by rw[o.cell (p:=⟨u,y,none⟩) FB];exact Kq,by rw[o.cell (p:=⟨u,y+(m - 1),none⟩) FB];exact ab,by rw[o.cell (p:=⟨G,oc+f,none⟩) kY];exact S9⟩
 have am:=ah Uv;have ya:Below w.heap.size w (w.alloc (.cells #[.slice none 0 0,.int .i64 0,.int .i64 0,.int .i64 0] 120)):=(aA _ _).alloc (au _) _;have ao:(w.alloc (.cells #[.slice none 0 0,.int .i64 0,.int .i64 0,.int .i64 0] 120)).cell? ⟨u,y,none⟩=some (.int .i64 (q:Nat)):=by rw[ya.cell (p:=⟨u,y,none⟩) FB];exact Kq
 have ap:(w.alloc (.cells #[.slice none 0 0,.int .i64 0,.int .i64 0,.int .i64 0] 120)).cell? ⟨gl,ol+q,none⟩=some (.int .i64 i):=by rw[ya.cell (p:=⟨gl,ol+q,none⟩) S];exact Ta
 have av:Hid (G<C.heap.size):=by have:=o.size;show G<C.heap.size;omega
 have tN:=ah H;clear ya Kq Ta;clear R Bc ad P kY S uX hc hl hf Q U V D K I J mG Uv o S9 ab FB;go_enter func123,ntmps123;go_wp2;rw[<-H];clear H ao ap;obtain⟨q0,q1,q2⟩:=ag.out;go_loopg [12,13] q (λgh bv kv W=>∃k:Nat,k<=q/\gh=q - k/\bv= .int .i64 (kz c d b k)/\kv= .int .i64 k/\W=C);exact⟨0,by omega,rfl,rfl,rfl,rfl⟩;obtain⟨k,hk,rfl,rfl,rfl,hW⟩:=hrel;have O:=hW.symm;subst O;by_cases T:k<q
 .have Ks:=BM.out k (by rw[N.out.2.2];omega);have an:=Dh.out k (by rw[N.out.2.1];omega);have A:=show kz c d b (k+1)=if d.getD k false=true then c.getD k 0 else kz c d b k from rfl
  have aw:k<n:=by omega
  generalize c.getD k 0=l at*;cases hb:d.getD k false
  .rw[hb]at Ks A;have M:Hid (kz c d b (k+1)=kz c d b k):=(by show _=_;rw[A];rfl);clear A hb;go_wp2;go_roundg (q - (k+1));exact⟨k+1,by omega,rfl,by rw[M.out],by simp,rfl⟩;omega
  .rw[hb]at Ks A;have M:Hid (kz c d b (k+1)=l):=(by show _=_;rw[A];rfl);clear A hb;go_wp2;go_roundg (q - (k+1));exact⟨k+1,by omega,rfl,by rw[M.out],by simp,rfl⟩;omega
 .obtain rfl:q=k:=by omega
  clear T;obtain⟨m',rfl⟩:∃m',m=m'+1:=⟨m - 1,by omega⟩
  rw[lJ]at q1;have oF:=ak.out q (by omega);generalize Hz:kz c d b q=X at*;have Jg:=ah Hz;clear Hz;go_wp2_with fail;refine(CK Hg _).mono ?_;rintro F L ⟨rfl,hx⟩;have E:=hx.symm;subst E;go_wp2;go_loopg [15,17] (n - (f+1)) (λgh bv kv W=>∃j:Nat,j<=n - (f+1)/\gh=n - (f+1) - j/\bv= .int .i64 (mj c d b n j)/\kv= .int .i64 ((n:Int) - 1 - j)/\W=C);exact⟨0,by omega,rfl,rfl,by simp,rfl⟩;obtain⟨j,hj,rfl,rfl,rfl,hW⟩:=hrel;have O:=hW.symm;subst O;by_cases T:j<n - (f+1)
  .obtain⟨p,V⟩:=ac<|n - (j+1);have ae:(n:Int) - 1 - (j:Int)=(p:Int):=(by omega);rw[ae];have sV:p<n:=(by omega);have aB:f<p:=(by omega);have Ks:=BM.out p (by rw[N.out.2.2];exact sV);have an:=Dh.out p (by rw[N.out.2.1];exact sV);have A:=show mj c d b n (j+1)=if d.getD (n - (j+1)) false=true then c.getD (n - (j+1)) 0 else mj c d b n j from rfl
   rw[<-V]at A;have Zb:Hid ((p:Int) - 1=(n:Int) - 1 - ((j+1:Nat):Int)):=(by show _=_;omega);generalize c.getD p 0=l at*;clear V ae;cases hb:d.getD p false
   .rw[hb]at Ks A;have M:Hid (mj c d b n (j+1)=mj c d b n j):=(by show _=_;rw[A];rfl);clear A hb;go_wp2;go_roundg (n - (f+1) - (j+1));exact⟨j+1,by omega,rfl,by rw[M.out],by rw[Zb.out],rfl⟩;omega
   .rw[hb]at Ks A;have M:Hid (mj c d b n (j+1)=l):=(by show _=_;rw[A];rfl);clear A hb;go_wp2;go_roundg (n - (f+1) - (j+1));exact⟨j+1,by omega,rfl,by rw[M.out],by rw[Zb.out],rfl⟩;omega
  .obtain rfl:j=n - (f+1):=(by omega);rw[show(n:Int) - 1 - ((n - (f+1):Nat):Int)=(f:Int)by omega];clear T;have tG:=al.out (n - (f+1)) (by omega);have x:qh r c d b f=if aU Hg=true/\mt r f=n then b else mj c d b n (n - (f+1)):=by unfold qh;rw[<-am.out,N.out.1]
   generalize mj c d b n (n - (f+1))=Y at*;cases bJ:aU Hg
   .have Jh:Hid (qh r c d b f=Y):=(by show _=_;rw[x,bJ,ai<|by simp]);clear x bJ;rw[tN.out];go_wp2_with fail;refine(I0 i X _ B.1 B.2 oF.1 oF.2).mono ?_;rintro F L ⟨rfl,rfl⟩;generalize s:i6 i X=s1 at*;have bF:=ah s;clear s;go_wp2_with fail;refine(I0 i Y _ B.1 B.2 tG.1 tG.2).mono ?_;rintro F L ⟨rfl,rfl⟩;generalize t:i6 i Y=s2 at*;have bW:=ah t;clear t;go_wp2;refine cI (v:= .agg #[.slice (some ⟨u,y,none⟩) (m'+1) Z,.int .i64 i,.int .i64 s1,.int .i64 s2]) (by simp[results,results123,Tryz.isAgg120,Tryz.sizeOf120,go_sem]) rfl ⟨?_,?_⟩
    .rw[Jg.out,bF.out,Jh.out,bW.out]
    .exact((aA _ _).alloc (au _) _).alloc (by simp) _
   .have UX:=um r f (by rw[N.out.1];omega);rw[bJ]at x;have YX:Hid (Calls prog 115 #[.slice (some ⟨G,oc,none⟩) n cc,.int .i64 f] C λe w2=>e= .returned (.int .i64<|mt r f)/\w2=C):=Mp r f G oc cc n C N.out.1 (by omega) (by omega) Aq.out;generalize mt r f=z at*;clear bJ;by_cases hz:z=n
    .have Jh:Hid (qh r c d b f=b):=(by show _=_;rw[x,aj ⟨rfl,hz⟩]);have Zc:=HP.out;have ar:((z:Int)==(n:Int))=true:=(by simp[hz]);clear x hz UX;go_wp2_with fail;refine YX.out.mono ?_;rintro F L ⟨rfl,hx⟩;have E:=hx.symm;subst E;rw[tN.out];go_wp2_with fail;refine(I0 i X _ B.1 B.2 oF.1 oF.2).mono ?_;rintro F L ⟨rfl,rfl⟩;generalize s:i6 i X=s1 at*;have bF:=ah s;clear s;go_wp2_with fail;refine(I0 i b _ B.1 B.2 Zc.1 Zc.2).mono ?_;rintro F L ⟨rfl,rfl⟩;generalize t:i6 i b=s2 at*;have bW:=ah t;clear t;go_wp2;refine cI (v:= .agg #[.slice (some ⟨u,y,none⟩) (m'+1) Z,.int .i64 i,.int .i64 s1,.int .i64 s2]) (by simp[results,results123,Tryz.isAgg120,Tryz.sizeOf120,go_sem]) rfl ⟨?_,?_⟩
     .rw[Jg.out,bF.out,Jh.out,bW.out]
     .exact((aA _ _).alloc (au _) _).alloc (by simp) _
    .have Jh:Hid (qh r c d b f=Y):=(by show _=_;rw[x,ai λh=>hz h.2]);have ar:((z:Int)==(n:Int))=false:=(by simp;omega);clear x hz UX;go_wp2_with fail;refine YX.out.mono ?_;rintro F L ⟨rfl,hx⟩;have E:=hx.symm;subst E;rw[tN.out];go_wp2_with fail;refine(I0 i X _ B.1 B.2 oF.1 oF.2).mono ?_;rintro F L ⟨rfl,rfl⟩;generalize s:i6 i X=s1 at*;have bF:=ah s;clear s;go_wp2_with fail;refine(I0 i Y _ B.1 B.2 tG.1 tG.2).mono ?_;rintro F L ⟨rfl,rfl⟩;generalize t:i6 i Y=s2 at*;have bW:=ah t;clear t;go_wp2;refine cI (v:= .agg #[.slice (some ⟨u,y,none⟩) (m'+1) Z,.int .i64 i,.int .i64 s1,.int .i64 s2]) (by simp[results,results123,Tryz.isAgg120,Tryz.sizeOf120,go_sem]) rfl ⟨?_,?_⟩
     .rw[Jg.out,bF.out,Jh.out,bW.out]
     .exact((aA _ _).alloc (au _) _).alloc (by simp) _
def agV {P:Program}(w:World){r:Array Oper}{rest:List Oper}{o:Oper}{a:Act}{Q:Exit->Act->World->Prop}(B:o.guard=none)(s x:Operand)(t:TypeId)
  (L:o.op= .call {callee:= .builtin .append,args:=#[s,x],argTypes:=#[t,t]})
  (d:Nat) (e:TypeId) (i:TypeInfo) (z:Value) (bytes:Nat) (N:P.underlying t=some (.slice e)) (J:P.info? e=some i) (O:i.zero=some z)
  (l:i.size=1) (A:i.bytes=bytes) (C:z.cells.size=1) (R:bytes<=64)
  (v:Value) (n:Nat) (D:List Value) (M:a.eval s=v) (q:w.ownsRow d e 1 v n D)
  (g m c:Nat) (b:List Value) (hx:a.eval x= .slice (some ⟨g,0,none⟩) m c) (S:b.length=m) (k:∀j u,b[j]? =some u->w.cell? ⟨g,j,none⟩=some u) (F:∀u∈b,u.oneCell'=true) (U:n<=1000000) (T:m<=1000000) (f:d<=w.heap.size)
  (h:∀p y,y.ownsRow d e 1 p (n+m) (D++b)->w.grownBy y v.ownBlock->(p.ownBlock=v.ownBlock∨p.ownBlock=some w.heap.size)->wpList P r Q rest (a.put o.dst p) y):wpList P r Q (o::rest) a w:=by
 refine iM _ B s x t L d e i z 1 bytes N J O l A C (by decide) v n D M q ⟨g,0,none⟩ m c b hx (by omega) ?_ F ?_ ?_ f ?_
 .intro j u K;have:=k j u K;simp only[Addr.add];split
  .rename_i E;subst E;exact this
  .simpa using this
 .unfold maxLen;omega
 .have:(n+m)*bytes<=2000000*64:=zl (by omega) R;omega
 .intro p y G H _ I;exact h p y G H I
def agZ {P:Program}(w:World){l:Array Oper}{rest:List Oper}{o:Oper}{a:Act}{Q:Exit->Act->World->Prop}(E:o.guard=none)(s x:Operand)(t:TypeId)
  (O:o.op= .call {callee:= .builtin .append,args:=#[s,x],argTypes:=#[t,t]})
  (b:Nat) (e:TypeId) (i:TypeInfo) (z:Value) (bytes:Nat) (S:P.underlying t=some (.slice e)) (N:P.info? e=some i) (T:i.zero=some z)
  (f:i.size=4) (D:i.bytes=bytes) (H:z.cells.size=4) (U:bytes<=64)
  (v:Value) (n:Nat) (I:List Value) (R:a.eval s=v) (g:w.ownsRow b e 4 v n I)
  (q r y A:Value) (K:TypeId) (k:Nat) (hx:a.eval x= .slice (some ⟨k,0,none⟩) 1 1) (F:k=w.heap.size) (L:q.oneCell'=true) (M:r.oneCell'=true) (B:y.oneCell'=true) (d:A.oneCell'=true) (V:n<=1000000) (C:b<=w.heap.size)
  (h:∀p m,m.ownsRow b e 4 p (n+1) (I++[q,r,y,A])->w.grownBy m v.ownBlock->wpList P l Q rest (a.put o.dst p) m):wpList P l Q (o::rest) a (w.alloc (.cells #[q,r,y,A] K)):=by
 subst F;refine Jb _ E s x t O b e i z 4 bytes S N T f D H (by decide) v n I R (g.alloc _) ⟨w.heap.size,0,none⟩ 1 1 [q,r,y,A] hx rfl ?_ ?_ ?_ ?_ ?_ ?_
 .intro j u c
  match j,c with
  |0,c=>simp at c;subst c;simp[Addr.add]
  |1,c=>simp at c;subst c;simp[Addr.add]
  |2,c=>simp at c;subst c;simp[Addr.add]
  |3,c=>simp at c;subst c;simp[Addr.add]
 .intro u J;simp at J;rcases J with rfl|rfl|rfl|rfl
  .exact L
  .exact M
  .exact B
  .exact d
 .unfold maxLen;omega
 .have:(n+1)*bytes<=1000001*64:=zl (by omega) U;omega
 .simp;omega
 .intro p m B d _;refine h p m B ⟨d.os,d.tape,d.output,?_,λk F G=> ?_⟩
  .have:=d.size;simp at this;omega
  .rw[d.block k (by simp;omega) G];exact dw w _ k F
def vJ:List Value->List Sq->List Value
 |a::dB,s::ss=>a:: .int .i64 s.level:: .int .i64 s.aq:: .int .i64 s.ay::vJ dB ss
 |_,_=>[]
def agf:∀(c:List Value)(d:List Sq)(a:Value)(s:Sq),c.length=d.length->vJ (c++[a]) (d++[s])=vJ c d++[a,.int .i64 s.level,.int .i64 s.aq,.int .i64 s.ay]
 |[],[],a,s,_=>rfl
 |b::c,t::d,a,s,h=>by simp[vJ,agf c d a s<|by simpa using h]
structure nR(w0 w:World)(B:Nat)(nD ov cv:Value)(vs dB:List Value)(rs:List<|List Nat)(ss:List Sq)(cur:List Nat):Prop where
 below:Below B w0 w
 base:B<=w.heap.size
 CW:w.ownsRow B 31 1 nD rs.length vs
 old:∀i,i<rs.length->w.ownsRow B 3 1 (vs.getD i .nilFunc) (rs.getD i []).length (iv<|nl<|rs.getD i [])
 out:w.ownsRow B 120 4 ov ss.length<|vJ dB ss
 E9:dB.length=ss.length
 done:∀i,i<ss.length->w.ownsRow B 3 1 (dB.getD i .nilFunc) (ss.getD i ⟨[],0,0,0⟩).at'.length (iv<|nl (ss.getD i ⟨[],0,0,0⟩).at')
 cur':w.ownsRow B 3 1 cv cur.length<|iv<|nl cur
 SQ:∀i,i<rs.length->pV (vs.getD i .nilFunc).ownBlock cv.ownBlock
 SP:∀i,i<ss.length->pV (dB.getD i .nilFunc).ownBlock cv.ownBlock
section
variable{w0 w w':World}{B:Nat}{nD ov cv:Value}{vs dB:List Value}{rs:List (List Nat)}{ss:List Sq}{cur:List Nat}
def nR.call(h:nR w0 w B nD ov cv vs dB rs ss cur)(a:Below w.heap.size w w'):nR w0 w' B nD ov cv vs dB rs ss cur:=
 ⟨h.below.trans<|a.mono h.base,bP h.base a.size,fu h.CW a,λi b=>fu (h.old i b) a,fu h.out a,h.E9,λi b=>fu (h.done i b) a,fu h.cur' a,h.SQ,h.SP⟩
def nR.drop(h:nR w0 w B nD ov cv vs dB rs ss cur):nR w0 w B nD ov (.slice none 0 0) vs dB rs ss []:=
 ⟨h.below,h.base,h.CW,h.old,h.out,h.E9,h.done,⟨rfl,.inl ⟨rfl,rfl⟩⟩,λ_ _ k _ a=>(by cases a),λ_ _ k _ a=>(by cases a)⟩
def pV.fresh {w:World}{a c b:Option Nat}(h:pV b a)(d:c=a∨c=some w.heap.size)(g:∀k,b=some k->k<w.heap.size):pV b c:=by
 intro k f e;rcases d with rfl|d
 .exact h k f e
 .rw[d]at e;have:=aJ e;have:=g k f;omega
def nR.app {c:Value}{r:List Nat}(h:nR w0 w B nD ov cv vs dB rs ss cur)(e:w'.ownsRow B 3 1 c (cur.length+r.length)<|iv (nl cur)++iv (nl r))(b:w.grownBy w' cv.ownBlock)(d:c.ownBlock=cv.ownBlock∨c.ownBlock=some w.heap.size):nR w0 w' B nD ov c vs dB rs ss (cur++r):=
 ⟨h.below.grown b h.base<|vC h.cur',bP h.base b.size,eI h.CW b<|lQ h.CW h.cur'<|by decide,λi a=>eI (h.old i a) b (h.SQ i a).ne,eI h.out b<|lQ h.out h.cur'<|by decide,h.E9,
  λi a=>eI (h.done i a) b (h.SP i a).ne,by simpa [iv,nl]using e,λi a=>(h.SQ i a).fresh d (uu<|h.old i a),λi a=>(h.SP i a).fresh d (uu<|h.done i a)⟩
def nR.push {f:Value}{s:Sq}(h:nR w0 w B nD ov cv vs dB rs ss cur)(l:s.at'=cur)(g:w'.ownsRow B 120 4 f (ss.length+1)<|vJ dB ss++[cv,.int .i64 s.level,.int .i64 s.aq,.int .i64 s.ay])(a:w.grownBy w' ov.ownBlock):nR w0 w' B nD f (.slice none 0 0) vs (dB++[cv]) rs (ss++[s]) []:=by
 refine⟨h.below.grown a h.base<|vC h.out,bP h.base a.size,eI h.CW a<|lQ h.CW h.out<|by decide,λi c=>eI (h.old i c) a<|lQ (h.old i c) h.out<|by decide,?_,by simp[h.E9],?_,⟨rfl,.inl ⟨rfl,rfl⟩⟩,λ_ _ k _ e=>(by cases e),λ_ _ k _ e=>(by cases e)⟩
 .rw[agf _ _ _ _ h.E9];simpa using g
 .intro i c;simp only[bH,eJ,jZ]at c;have j:=h.E9;rcases cP i ss.length with b|b
  .simp only[aO];rw[tP<|by omega,tP b];have:=eI (h.done i b) a (lQ (h.done i b) h.out<|by decide);simpa [aO]using this
  .have d:i=ss.length:=(by omega);subst d;simp only[aO];rw[rY<|by omega,rY<|by omega,j,oK];have:=eI h.cur' a (lQ h.cur' h.out<|by decide);simpa [l]using this
end
structure XR(w0 w:World)(B s g2 g3 g4 len:Nat)(x:XS)(ls ks:List Int)(fs:List Bool):Prop where
 st:∃v,dh w B s v x.st x.aK x.aN x.valid
 lv:aY w B 3 g2 len<|iv ls
 kd:aY w B 3 g3 len<|iv ks
 lf:aY w B 4 g4 len<|bv fs
 be:Below B w0 w
def XR.call {l w g:World}{B s g2 g3 g4 a:Nat}{x y:XS}{k j:List Int}{i:List Bool}(h:XR l w B s g2 g3 g4 a x k j i)(c:g2≠s)(d:g3≠s)(e:g4≠s)(b:Fr B s w g)(f:∃v,dh g B s v y.st y.aK y.aN y.valid):XR l g B s g2 g3 g4 a y k j i:=
 ⟨f,WT h.lv b.zV (by decide)<|by simp[Value.ownBlock,c],WT h.kd b.zV (by decide)<|by simp[Value.ownBlock,d],WT h.lf b.zV (by decide)<|by simp[Value.ownBlock,e],h.be.trans b.below⟩
def dh.alloc {w:World}{B s:Nat}{v:Value}{d:List aV}{a b c:Int}(h:dh w B s v d a b c)(o:Obj):dh (w.alloc o) B s v d a b c:=h.below<|(aA _ _).alloc (au _) o
def dh.setOther {w:World}{B s:Nat}{v:Value}{d:List aV}{a b c:Int}(h:dh w B s v d a b c){g:Nat}(k:Nat)(u:Value)(j:g≠s)(m:∀f,w.heap[g]? ≠some (.cells f 181 (0,0))):dh (w.setCell ⟨g,k,none⟩ u) B s v d a b c:=by
 refine⟨?_,jW h.row ?_ k u,h.low⟩
 .rw[iF];exact h.cell;exact λe=>j e.symm
 .rcases h.row.2 with⟨rfl,_⟩|⟨o,n,i,rfl,_,l,_⟩
  .simp[Value.ownBlock]
  .simp only[Value.ownBlock];intro e;obtain rfl:=aJ e;exact m _ l
def aY.kind {w:World}{B g n:Nat}{e:TypeId}{j:List Value}(h:aY w B e g n j)(f:e≠181):∀c,w.heap[g]? ≠some (.cells c 181 (0,0)):=by
 intro c i;rcases h.2 with⟨b,_⟩|⟨l,k,d,b,_,a,_⟩
 .cases b
 .simp only[pJ,Cj,Addr.mk.injEq,and_true,oC]at b;obtain⟨rfl,rfl⟩:=b;rw[i]at a;simp at a;exact f a.2.symm
def XR.alloc {f w:World}{B s g2 g3 g4 b:Nat}{x:XS}{e d:List Int}{c:List Bool}(h:XR f w B s g2 g3 g4 b x e d c)(o:Obj):XR f (w.alloc o) B s g2 g3 g4 b x e d c:=by
 obtain⟨v,a⟩:=h.st;exact⟨⟨v,a.alloc o⟩,h.lv.alloc o,h.kd.alloc o,h.lf.alloc o,h.be.alloc (bP a.low<|gF a.lt) o⟩
def XR.Gf {g w:World}{B s g2 g3 g4 b:Nat}{x:XS}{d f:List Int}{e:List Bool}(h:XR g w B s g2 g3 g4 b x d f e)(i:g2≠s)(j:g3≠g2)(l:g4≠g2)(k:Nat)(a:Int):XR g (w.setCell ⟨g2,k,none⟩ (.int .i64 a)) B s g2 g3 g4 b x (d.set k a) f e:=by
 obtain⟨v,c⟩:=h.st;exact⟨⟨v,c.setOther k _ i (h.lv.kind<|by decide)⟩,Iz d k a▸h.lv.set k _,h.kd.setOther g2 k _ j,h.lf.setOther g2 k _ l,h.be.setCell h.lv.ge.1 _⟩
def XR.Xi {g w:World}{B s g2 g3 g4 b:Nat}{x:XS}{f d:List Int}{e:List Bool}(h:XR g w B s g2 g3 g4 b x f d e)(i:g3≠s)(j:g2≠g3)(l:g4≠g3)(k:Nat)(a:Int):XR g (w.setCell ⟨g3,k,none⟩ (.int .i64 a)) B s g2 g3 g4 b x f (d.set k a) e:=by
 obtain⟨v,c⟩:=h.st;exact⟨⟨v,c.setOther k _ i (h.kd.kind<|by decide)⟩,h.lv.setOther g3 k _ j,Iz d k a▸h.kd.set k _,h.lf.setOther g3 k _ l,h.be.setCell h.kd.ge.1 _⟩
def XR.lB {g w:World}{B s g2 g3 g4 b:Nat}{x:XS}{f e:List Int}{c:List Bool}(h:XR g w B s g2 g3 g4 b x f e c)(i:g4≠s)(j:g2≠g4)(l:g3≠g4)(k:Nat)(a:Bool):XR g (w.setCell ⟨g4,k,none⟩ (.bool a)) B s g2 g3 g4 b x f e (c.set k a):=by
 obtain⟨v,d⟩:=h.st;exact⟨⟨v,d.setOther k _ i (h.lf.kind<|by decide)⟩,h.lv.setOther g4 k _ j,h.kd.setOther g4 k _ l,S5 c k a▸h.lf.set k _,h.be.setCell h.lf.ge.1 _⟩
structure Gs(B s g2 g3 g4:Nat):Prop where
 s:s=B+1
 g2:g2=B+2
 g3:g3=B+3
 g4:g4=B+4
def jc(b:List Int)(a:Int)(d w:World)(B c:Nat)(x:XS)(k:Nat):Prop:=
 XR d w B (B+1) (B+2) (B+3) (B+4) c x (upto (bh b a) 0 k) (upto (iN b a) 0 k) (upto (aQ b) false k)
def ag7 {b:List Int}{a:Int}{k:Nat}(c:k<b.length):(bh b a)[k]? =some (iq b a k).l:=by simp[bh,c]
def ag3 {b:List Int}{a:Int}{k:Nat}(c:k<b.length):(iN b a)[k]? =some (kindOf (b.getD k 0)<|iq b a k):=by simp[iN,c]
def ag4 {a:List Int}{k:Nat}(b:k<a.length):(aQ a)[k]? =some (bV<|a.getD k 0):=by simp[aQ,b]
def jc.stored {b:List Int}{a:Int}{i w:World}{B s g2 g3 g4 d:Nat}{x:XS}{k:Nat}(h:jc b a i w B d x k)(q:Gs B s g2 g3 g4)(g:k<b.length)(e:aV)(m:e=iq b a k)(o:Obj)(l c:Int)(f:Bool)(p:l=e.l)(j:c=kindOf (b.getD k 0) e)(n:f=bV (b.getD k 0)):
  jc b a i ((((w.alloc o).setCell ⟨g2,k,none⟩ (.int .i64 l)).setCell ⟨g3,k,none⟩ (.int .i64 c)).setCell ⟨g4,k,none⟩ (.bool f)) B d x (k+1):=by
 obtain⟨rfl,rfl,rfl,rfl⟩:=q;subst p j n m;unfold jc;rw[<-Ja _ _ _ _ (ag7 g),<-Ja _ _ _ _ (ag3 g),<-Ja _ _ _ _ (ag4 g)];exact(((XR.alloc h o).Gf (by omega) (by omega) (by omega) k _).Xi (by omega) (by omega) (by omega) k _).lB (by omega) (by omega) (by omega) k _
def jc.I4 {b:List Int}{a:Int}{j w:World}{B s g2 g3 g4 d:Nat}{x:XS}{k:Nat}(h:jc b a j w B d x k)(r:Gs B s g2 g3 g4)(g:k<b.length)(e:aV)(n:e=iq b a k)(o:Obj)(l c i:Int)(f:Bool)(q:l=e.l)(m:c=kindOf (b.getD k 0) e)(p:f=bV (b.getD k 0)):
  jc b a j (((((w.alloc o).setCell ⟨g2,k,none⟩ (.int .i64 l)).setCell ⟨g3,k,none⟩ (.int .i64 i)).setCell ⟨g4,k,none⟩ (.bool f)).setCell ⟨g3,k,none⟩ (.int .i64 c)) B d x (k+1):=by
 obtain⟨rfl,rfl,rfl,rfl⟩:=r;subst q m p n;unfold jc;rw[<-Ja _ _ _ _ (ag7 g),<-Ja _ _ _ _ (ag3 g),<-Ja _ _ _ _ (ag4 g)];have:=((((XR.alloc h o).Gf (by omega) (by omega) (by omega) k (iq b a k).l).Xi (by omega) (by omega) (by omega) k i).lB (by omega) (by omega) (by omega) k (bV<|b.getD k 0)).Xi (by omega) (by omega) (by omega) k (kindOf (b.getD k 0)<|iq b a k);rw[Sw]at this;exact this
def jc.start(h:List Int)(b:Int)(w:World)(a:Nat)(l:h.length=a)(E:a<=100000):
  jc h b w (((((w.alloc (.cells #[.int .i64 b,.int .i64 (-1),.bool false] 181)).alloc (.cells #[.slice (some ⟨w.heap.size,0,none⟩) 1 1,.int .i64 0,.int .i64 0,.int .i64 0] 184)).alloc
   (.cells (madeCells #[.int .i64 0] a) 3)).alloc (.cells (madeCells #[.int .i64 0] a) 3)).alloc (.cells (madeCells #[.bool false] a) 4)) w.heap.size a (eP h b 0) 0:=by
 have y:iv (upto (bh h b) 0 0)=List.replicate a (.int .i64 0):=by rw[XV];simp[iv,bh,l]
 have A:iv (upto (iN h b) 0 0)=List.replicate a (.int .i64 0):=by rw[XV];simp[iv,iN,l]
 have C:bv (upto (aQ h) false 0)=List.replicate a (.bool false):=by rw[XV];simp[bv,aQ,l]
 generalize g:w.alloc (.cells #[.int .i64 b,.int .i64 (-1),.bool false] 181)=i;have t:i.heap.size=w.heap.size+1:=by rw[<-g];simp
 have x:i.heap[w.heap.size]? =some (.cells #[.int .i64 b,.int .i64 (-1),.bool false] 181):=by rw[<-g];exact UA w _
 generalize f:i.alloc (.cells #[.slice (some ⟨w.heap.size,0,none⟩) 1 1,.int .i64 0,.int .i64 0,.int .i64 0] 184)=j;have u:j.heap.size=w.heap.size+2:=by rw[<-f];simp[t]
 have m:dh j w.heap.size (w.heap.size+1) (.slice (some ⟨w.heap.size,0,none⟩) 1 1) [⟨b, -1,false⟩] 0 0 0:=by
  refine⟨by rw[<-f,<-t];exact UA i _,⟨rfl,.inr ⟨w.heap.size,1,#[.int .i64 b,.int .i64 (-1),.bool false],rfl,au _,?_,au _,by unfold maxLen;omega,rfl,rfl⟩⟩,by omega⟩;rw[<-f,heap_alloc_old i _ (by omega)];exact x
 have k:Below w.heap.size w j:=by rw[<-f,<-g];exact((aA _ _).alloc (au _) _).alloc (by simp) _
 have o:=aY.made (w:=j) (B:=w.heap.size) (n:=a) (e:=3) (z:= .int .i64 0) (by omega) (by omega);generalize c:j.alloc (.cells (madeCells #[.int .i64 0] a) 3)=q at o ⊢;have v:q.heap.size=w.heap.size+3:=by rw[<-c];simp[u]
 have p:=aY.made (w:=q) (B:=w.heap.size) (n:=a) (e:=3) (z:= .int .i64 0) (by omega) (by omega);generalize d:q.alloc (.cells (madeCells #[.int .i64 0] a) 3)=s at p ⊢;have D:s.heap.size=w.heap.size+4:=by rw[<-d];simp[v]
 have r:=aY.made (w:=s) (B:=w.heap.size) (n:=a) (e:=4) (z:= .bool false) (by omega) (by omega);rw[u]at o;rw[v]at p;rw[D]at r;refine⟨⟨.slice (some ⟨w.heap.size,0,none⟩) 1 1,?_⟩,?_,?_,?_,?_⟩
 .rw[<-d,<-c];exact((m.alloc _).alloc _).alloc _
 .rw[y,<-d];exact(o.alloc _).alloc _
 .rw[A];exact p.alloc _
 .rw[C];exact r
 .rw[<-d,<-c];exact((k.alloc (by omega) _).alloc (by rw[c];omega) _).alloc (by rw[c,d];omega) _
def jc.below {d:List Int}{a:Int}{g w f:World}{B c:Nat}{x:XS}{k:Nat}(h:jc d a g w B c x k)(e:Below w.heap.size w f):jc d a g f B c x k:=by
 obtain⟨v,b⟩:=h.st;exact XR.call h (by omega) (by omega) (by omega) (Fr.of_below (bP b.low<|gF b.lt) e) ⟨v,b.below e⟩
def C5 {j:List Int}{b:Int}{q w:World}{B s f:Nat}{x:XS}{k:Nat}(t:s=B+1)(h:jc j b q w B f x k)(g:dU k x):
  Calls prog 117 #[.pointer<|some ⟨s,0,none⟩] w λm p=>m= .returned (.agg #[.int .i64 (aS x.st).l,.int .i64 (aS x.st).o,.bool (aS x.st).i])/\jc j b q p B f x k:=by
 subst t;obtain⟨v,d⟩:=h.st;have a:=g.len;obtain⟨c,e,n⟩:∃c e,x.st=c++[e]:=⟨x.st.dropLast,x.st.getLast g.ne,(E6 g.ne).symm⟩
 rw[n]at d a;rw[n,Gi];simp only[bH,eJ,jZ]at a;refine(Qs w B (B+1) v c e _ _ _ d (by omega)).mono ?_;rintro m p ⟨rfl,r⟩;exact⟨rfl,h.below r⟩
def akw {e:List Int}{a:Int}{i w:World}{B s b:Nat}{x:XS}{k:Nat}(l:s=B+1)(h:jc e a i w B b x k)(c:dU k x)(n:k<=100000):
  Calls prog 116 #[.pointer<|some ⟨s,0,none⟩] w λf g=>f= .returned (.tuple #[])/\jc e a i g B b (jd x) k:=by
 subst l;obtain⟨v,d⟩:=h.st;refine(aku w B (B+1) v x d (by have:=c.len;omega) (c.big<|by omega) c.Ty).mono ?_;rintro f g ⟨rfl,j,m⟩;exact⟨rfl,XR.call h (by omega) (by omega) (by omega) j m⟩
def akq {g:List Int}{a:Int}{n w:World}{B s b:Nat}{x:XS}{k j:Nat}(c:Int)(p:s=B+1)(h:jc g a n w B b x j)(d:dU k x)(t:k<=100000)(e:c=13∨c=14∨c=15∨c=16):
  Calls prog 118 #[.pointer<|some ⟨s,0,none⟩,.int .i64 c] w λi m=>i= .returned (.tuple #[])/\jc g a n m B b (jF x c) j:=by
 subst p;obtain⟨v,f⟩:=h.st;have q:=d.top;have l:=d.big (by omega);refine(akp w B (B+1) v x c f d.ne (by have:=d.len;omega) q.2.1 (by omega) ⟨l.2.2.1,l.2.2.2.1⟩ e).mono ?_;rintro i m ⟨rfl,o,r⟩;exact⟨rfl,XR.call h (by omega) (by omega) (by omega) o r⟩
def DB {g:List Int}{a:Int}{m w:World}{B s b:Nat}{x:XS}{k j:Nat}(e:Int)(o:s=B+1)(h:jc g a m w B b x j)(d:dU k x)(r:k<=100000):
  Calls prog 119 #[.pointer<|some ⟨s,0,none⟩,.int .i64 e] w λi l=>i= .returned (.tuple #[])/\jc g a m l B b (jr x e) j:=by
 subst o;obtain⟨v,f⟩:=h.st;have p:=d.top;have c:=d.big (by omega);refine(aiQ w B (B+1) v x e f d.ne (by have:=d.len;omega) p.2.1 (by omega) ⟨c.1,c.2.1⟩ ⟨c.2.2.2.2.1,c.2.2.2.2.2⟩).mono ?_;rintro i l ⟨rfl,n,q⟩;exact⟨rfl,XR.call h (by omega) (by omega) (by omega) n q⟩
def ape {e:List Int}{a:Int}{i w:World}{B s b:Nat}{x:XS}{k j:Nat}(m:s=B+1)(h:jc e a i w B b x j)(c:dU k x)(o:k<=100000):
  Calls prog 120 #[.pointer<|some ⟨s,0,none⟩] w λf g=>f= .returned (.tuple #[])/\jc e a i g B b (ko x) j:=by
 subst m;obtain⟨v,d⟩:=h.st;refine(apd w B (B+1) v x d c.ne (by have:=c.len;omega)<|c.big<|by omega).mono ?_;rintro f g ⟨rfl,l,n⟩;exact⟨rfl,XR.call h (by omega) (by omega) (by omega) l n⟩
def jc.ready {g:List Int}{a:Int}{m w:World}{B s g2 g3 g4 d:Nat}{x:XS}{k j:Nat}(h:jc g a m w B d x j)(n:Gs B s g2 g3 g4)(p:g.length=d)(o:j<=d)(l:k<d)(b c e:Value):
  ((∃u,(w.alloc (.cells #[b,c,e] 181)).cell? ⟨g2,k,none⟩=some (.int .i64 u))/\(∃u,(w.alloc (.cells #[b,c,e] 181)).cell? ⟨g3,k,none⟩=some (.int .i64 u))/\(∃u,(w.alloc (.cells #[b,c,e] 181)).cell? ⟨g4,k,none⟩=some (.bool u))/\
   (w.alloc (.cells #[b,c,e] 181)).frozen? ⟨g2,k,none⟩=false/\(w.alloc (.cells #[b,c,e] 181)).frozen? ⟨g3,k,none⟩=false/\(w.alloc (.cells #[b,c,e] 181)).frozen? ⟨g4,k,none⟩=false)/\
  (w.alloc (.cells #[b,c,e] 181)).cell? ⟨w.heap.size,0,none⟩=some b/\(w.alloc (.cells #[b,c,e] 181)).cell? ⟨w.heap.size,1,none⟩=some c/\
  (w.heap.size≠g2/\w.heap.size≠g3/\w.heap.size≠g4/\g2≠w.heap.size/\g3≠w.heap.size/\g4≠w.heap.size)/\(g2≠g3/\g2≠g4/\g3≠g2/\g3≠g4/\g4≠g2/\g4≠g3):=by
 obtain⟨rfl,rfl,rfl,rfl⟩:=n;have q:=h.lf.ge.2;have f:=UA w (.cells #[b,c,e] 181);have i:jc g a m (w.alloc (.cells #[b,c,e] 181)) B d x j:=XR.alloc h _;refine⟨⟨?_,?_,?_,i.lv.frozen k,i.kd.frozen k,i.lf.frozen k⟩,az f 0,az f 1,by omega,by omega⟩
 .rw[i.lv.cell k l];refine⟨(upto (bh g a) 0 j)[k]'(by rw[XU _ _ _ (by simp[bh];omega)];simp[bh];omega),by simp[iv]⟩
 .rw[i.kd.cell k l];refine⟨(upto (iN g a) 0 j)[k]'(by rw[XU _ _ _ (by simp[iN];omega)];simp[iN];omega),by simp[iv]⟩
 .rw[i.lf.cell k l];refine⟨(upto (aQ g) false j)[k]'(by rw[XU _ _ _ (by simp[aQ];omega)];simp[aQ];omega),by simp[bv]⟩
