import Derived.Test.YtkbinfhclaafhaaGreatDoorP05
import Derived.Deep.RegionLaw
namespace Go.Proofs.YtkbinfhclaafhaaGreatDoor
open Go.RowKit
open Go.Proofs.Tryz
set_option maxRecDepth 100000
set_option maxHeartbeats 32000000
set_option linter.all false
def o5(c:Int):Bool:=c==11||(c==10||(c==12||(aU c||c==21)))
def Cl(c:Int):Prop:=c=0∨c=1∨c=3∨c=6∨c=10∨c=11∨c=12∨c=18∨c=19∨c=20∨c=21
def K0(c:Int):Prop:=(0<=c/\c<=8)∨(10<=c/\c<=12)∨(18<=c/\c<=21)
def K1(c:Int):Prop:=(0<=c/\c<=7)∨(10<=c/\c<=12)∨(18<=c/\c<=21)
def K3(c:Int):Prop:=c≠2/\K1 c
def F6 {d:Type}{f:d->Int->List Int->Int}{g:d->Int->List Int->d}{I:d->Prop}{P Q:Int->Prop}(h:∀s c r,I s->P c->Q (f s c r)/\I (g s c r)):∀(t:List Int)(s:d),I s->(∀c∈t,P c)->∀c∈pass f g s t,Q c
 |[],_,_,_,c,b=>by cases b
 |a::r,s,hs,hp,c,b=>by
  rw[pass]at b;have:=h s a r hs (hp a<|by simp);rcases fW.1 b with rfl|b
  .exact this.1
  .exact F6 h r _ this.2 (λx hx=>hp x<|by simp[hx]) c b
def Wd {g f:Int}{P:Int->Prop}(e:P f):∀(t:List Int)(b:Int),(∀c∈t,P c)->∀c∈lO g f b t,P c
 |[],_,_,c,d=>by cases d
 |a::r,b,hp,c,d=>by
  rw[lO]at d;rcases fW.1 d with d|d
  .rw[d];generalize(if a=0∨a=1∨a=2 then a else b)=q;split
   .exact e
   .exact hp a (by simp)
  .exact Wd e r _ (λx hx=>hp x<|by simp[hx]) c d
def agS {a:Int}(l:a=0∨a=1){t:List Int}(m:∀c∈t,K0 c):(∀c∈pass f6 g3 () (pass f5 g5 none (pass f4 g4 none (pass f3 g3 ()<|lO 2 6 a<|pass (f1 a) (g1 a) none t))),Cl c)/\∀c∈uD a t,Cl c:=by
 have g:∀c∈pass (f1 a) (g1 a) none t,K1 c:=by
  refine F6 (I:=λs=>∀p,s=some p->K1 p) (P:=K0) (Q:=K1) ?_ t none (by simp) m;intro s c r e b;have:K1 (f1 a s c r):=by
   unfold f1;split
   .cases s with
    |none=>rcases l with rfl|rfl<;>simp[K1]
    |some p=>
     simp only;split
     .simp[K1]
     .exact e p rfl
   .unfold K0 at b;unfold K1;omega
  exact⟨this,by intro p d;rw[g1]at d;obtain rfl:=aJ d;exact this⟩
 have h:∀c∈lO 2 6 a (pass (f1 a) (g1 a) none t),K1 c:=Wd (by simp[K1]) _ _ g;have i:∀c∈pass f3 g3 () (lO 2 6 a<|pass (f1 a) (g1 a) none t),K3 c:=by
  refine F6 (I:=λ_=>True) (P:=K1) (Q:=K3) ?_ _ () trivial h;intro s c r _ b;refine⟨?_,trivial⟩;unfold f3;split
  .simp[K3,K1]
  .exact⟨‹_›,b⟩
 unfold uD;generalize pass f3 g3 () (lO 2 6 a<|pass (f1 a) (g1 a) none t)=t3 at*;have j:∀c∈pass f4 g4 none t3,K3 c:=by
  refine F6 (I:=λs=>∀p,s=some p->K3 p) (P:=K3) (Q:=K3) ?_ t3 none (by simp) i;intro s c r e b;have:K3 (f4 s c r):=by
   unfold f4;split
   .split
    .exact e _ rfl
    .exact b
   .exact b
  exact⟨this,by intro p d;rw[g4]at d;obtain rfl:=aJ d;exact this⟩
 have k:∀c∈pass f5 g5 none (pass f4 g4 none t3),K3 c:=by
  refine F6 (I:=λ_=>True) (P:=K3) (Q:=K3) ?_ _ none trivial j;intro s c r _ b;refine⟨?_,trivial⟩;unfold f5;split
  .simp[K3,K1]
  .exact b
 have f:∀c∈pass f6 g3 () (pass f5 g5 none (pass f4 g4 none t3)),Cl c:=by
  refine F6 (I:=λ_=>True) (P:=K3) (Q:=Cl) ?_ _ () trivial k;intro s c r _ b;refine⟨?_,trivial⟩;unfold f6;split
  .simp[Cl]
  .unfold K3 K1 at b;unfold Cl;omega
 exact⟨f,Wd (by simp[Cl]) _ _ f⟩
def Mt:Int->List Int->List Int
 |_,[]=>[]
 |last,c::r=>(if c=0∨c=1 then c else if c=3/\last=0 then 0 else c)::Mt (if c=0∨c=1 then c else last) r
def Wb:∀(t:List Int)(a:Int),(∀c∈t,c≠2)->Mt a t=lO 0 0 a t
 |[],_,_=>rfl
 |c::r,a,h=>by
  have e:=h c (by simp);have d:=λx hx=>h x<|xQ _ hx
  rw[Mt,lO];by_cases b:c=0∨c=1
  .rw[aj b,aj b,aj (by omega:c=0∨c=1∨c=2),ai (by omega:¬(c=3/\c=0)),Wb r c d]
  .rw[ai b,ai b,ai (by omega:¬(c=0∨c=1∨c=2)),Wb r a d]
def vB(a:Int):List Int->Int
 |[]=>bD a
 |c::r=>if o5 c=true then vB a r else bD c
def fM(a:Int)(s c:Int)(r:List Int):Int:=if o5 c=true then(if s=vB a r then s else c)else c
def gM(s c:Int)(_:List Int):Int:=if o5 c=true then s else bD c
def Ea(e c:Int):Int:=if o5 c=true then e else c
def Cl.aet {c:Int}(h:Cl c):(o5 c=true↔bD c<0):=by
 unfold Cl at h;rcases h with rfl|rfl|rfl|rfl|rfl|rfl|rfl|rfl|rfl|rfl|rfl<;>decide
def Wc {a:Int}(e:a=0∨a=1):∀t:List Int,(∀c∈t,Cl c)->vB a t=sZ a t
 |[],_=>by rw[vB,sZ];rcases e with rfl|rfl<;>decide
 |c::r,h=>by
  have d:=(h c<|by simp).aet;rw[vB,sZ,Wc e r λx hx=>h x<|by simp[hx]];by_cases b:o5 c=true
  .rw[aj b,aj<|d.1 b]
  .rw[ai b,ai λf=>b<|d.2 f]
def Qm {c:Int}(h:¬bD c<0):bD c=0∨bD c=1:=by
 unfold bD at*;split
 .exact .inl rfl
 .split
  .exact .inr rfl
  .rename_i a b;rw[ai a,ai b]at h;exact absurd (by decide) h
def V3 {f e:Int}(i:f=0∨f=1):∀(t:List Int)(s:Int),(s=0∨s=1)->(∀c∈t,Cl c)->(pass (fM f) gM s t).map (Ea e)=pass (fN f e) gN s t
 |[],_,_,_=>rfl
 |c::r,s,hs,h=>by
  have l:=(h c<|by simp).aet;have k:=λx hx=>h x<|xQ _ hx
  rw[pass,pass,mP];by_cases a:o5 c=true
  .have g:=l.1 a;have j:gM s c r=s:=(by rw[gM,aj a]);have b:gN s c r=s:=(by rw[gN,aj g]);rw[j,b,V3 i r s hs k,fM,aj a,Wc i r k,fN,aj g];congr 1;by_cases hx:s=sZ f r
   .rw[aj hx,aj hx,Ea,ai<|by rcases hs with rfl|rfl<;>decide]
   .rw[ai hx,ai hx,Ea,aj a]
  .have d:¬bD c<0:=λm=>a<|l.2 m
   have j:gM s c r=bD c:=(by rw[gM,ai a]);have b:gN s c r=bD c:=(by rw[gN,ai d]);rw[j,b,V3 i r _ (Qm d) k,fM,ai a,fN,ai d,Ea,ai a]
def anW {b f e:Int}(i:b=0∨b=1)(j:e=0∨e=1){t:List Int}:∀c∈Eb b f e t,c=0∨c=1∨c=3∨c=6:=by
 refine F6 (I:=λs=>s=0∨s=1) (P:=λ_=>True) (Q:=λc=>c=0∨c=1∨c=3∨c=6) ?_ t b i (λ_ _=>trivial);intro s c r h _;by_cases a:bD c<0
 .rw[fN,aj a,gN,aj a];refine⟨?_,h⟩;split<;>omega
 .rw[fN,ai a,gN,ai a];refine⟨?_,Qm a⟩;unfold bD at a;by_cases d:c=0
  .exact .inl d
  .rw[ai d]at a;by_cases g:c=1∨c=3∨c=6
   .omega
   .rw[ai g]at a;exact absurd (by decide) a
def sQ(own:Int)(t:List Int)(a:Nat):Nat->Bool
 |0=>false
 |m+1=>bD (t.getD a 0)==own||sQ own t (a+1) m
def SL(p:Int->Bool)(t:List Int):∀m a,lK p t a (m+1)=(p (t.getD a 0)||lK p t (a+1) m)
 |0,a=>by simp[lK]
 |m+1,a=>by
  rw[lK,SL p t m a,lK,Bool.or_assoc,show a+(m+1)=a+1+m by omega]
def wA(own:Int)(t:List Int):∀m a,lK (Ev own) t a m=sQ own t a m
 |0,a=>rfl
 |m+1,a=>by rw[SL,sQ,wA own t m<|a+1];rfl
def s8(t:List Int)(a:Nat):Nat->Int->Int
 |0,w=>w
 |m+1,w=>s8 t (a+1) m (if bD (t.getD a 0)= -1 then w else bD (t.getD a 0))
def Wo {own:Int}(e:own=0∨own=1)(t:List Int):∀m a w,(w= -1∨w=1 - own)->sQ own t a m=false->(s8 t a m w=if w= -1/\lK (yC own) t a m=false then -1 else 1 - own)
 |0,a,w,hw,_=>by
  rw[s8,lK];rcases hw with rfl|rfl
  .simp
  .rw[ai<|by omega]
 |m+1,a,w,hw,hh=>by
  rw[sQ,Gm]at hh;have d:bD (t.getD a 0)≠own:=by simpa using hh.1
  rw[s8,SL];by_cases c:bD (t.getD a 0)= -1
  .rw[aj c,Wo e t m (a+1) w hw hh.2];have:yC own (t.getD a 0)=false:=(by unfold yC;rw[c];rfl);rw[this,C7]
  .have f:bD (t.getD a 0)=0∨bD (t.getD a 0)=1:=Qm (by
    intro b;unfold bD at c b;split at b
    .omega
    .split at b
     .omega
     .rename_i x y;rw[ai x,ai y]at c;exact c rfl)
   have:yC own (t.getD a 0)=true:=(by unfold yC;rw[ED,DD,bne_iff_ne];exact⟨by omega,d⟩);rw[ai c,this,Wo e t m (a+1) _ (.inr<|by omega) hh.2,ai<|by omega,ai<|by simp]
def VH {a:Int}(b:a=0∨a=1)(t:List Int):∀m,kG a t m=0∨kG a t m=1
 |0=>b
 |m+1=>by
  rw[kG];split
  .exact VH b t m
  .exact Qm ‹_›
def vE(t:List Int)(p:Nat×Nat)(own a:Int):Int:=
 if sQ own t (p.1+1) (p.2 - (p.1+1))=true then own
 else if s8 t (p.1+1) (p.2 - (p.1+1)) (-1)≠ -1/\kG a t p.1≠s8 t (p.1+1) (p.2 - (p.1+1)) (-1)then own else s8 t (p.1+1) (p.2 - (p.1+1)) (-1)
def CS(t a:List Int)(p:Nat×Nat)(own b:Int):List Int:=
 if vE t p own b= -1 then t else o8 a (vE t p own b) p.2 (o8 a (vE t p own b) p.1 t)
def aoF {own b:Int}(d:own=0∨own=1)(f:b=0∨b=1)(t a:List Int)(p:Nat×Nat):CS t a p own b=s9 t a p own b:=by
 unfold CS s9 vE zX;rw[wA];have g:=VH f t p.1;cases hh:sQ own t (p.1+1) (p.2 - (p.1+1))with
 |true=>
  simp only[zP];rw[ai<|by omega,ai<|by simp]
 |false=>
  have c:=Wo d t (p.2 - (p.1+1)) (p.1+1) (-1) (.inl rfl) hh;cases ho':lK (yC own) t (p.1+1) (p.2 - (p.1+1))with
  |false=>
   rw[ho',aj ⟨rfl,rfl⟩]at c;rw[c];simp
  |true=>
   rw[ho',ai<|by simp]at c;rw[c];have e:(if(1 - own≠ -1/\kG b t p.1≠1 - own)then own else 1 - own)=kG b t p.1:=by
    by_cases hx:kG b t p.1=1 - own
    .rw[ai λh=>h.2 hx,hx]
    .rw[aj ⟨by omega,hx⟩];omega
   simp only[if_false,M5];rw[e,ai<|by omega,ai<|by simp]
def jl(l c:Int):Int:=if(c=3∨c=6)/\l%2=0 then 2 else if(c=3∨c=6)∨c≠(if l%2=0 then 0 else 1)then 1 else 0
def apN {l c:Int}(b:c=0∨c=1∨c=3∨c=6):l+jl l c=nX c l:=by
 unfold jl nX;by_cases a:l%2=0
 .rw[aj a,aj a];rcases b with rfl|rfl|rfl|rfl<;>simp[a]
 .rw[ai a,ai a];rcases b with rfl|rfl|rfl|rfl<;>simp[a]
def lB(l:List Int)(x:Nat×Int×Int):List Int:=l.set x.1<|nX x.2.2 x.2.1
def iU(l:List Int)(x:Nat×Int×Int):List Int:=l.set x.1<|l.getD x.1 0+jl x.2.1 x.2.2
def Z9:∀(a:List<|Nat×Int×Int)(l:List Int),(a.map Prod.fst).Nodup->(∀x∈a,l.getD x.1 0=x.2.1/\(x.2.2=0∨x.2.2=1∨x.2.2=3∨x.2.2=6))->a.foldl iU l=a.foldl lB l
 |[],_,_,_=>rfl
 |x::a,l,hn,h=>by
  rw[mP,Dr]at hn;have hx:=h x (by simp);have e:iU l x=lB l x:=by
   unfold iU lB;rw[hx.1,apN hx.2]
  rw[qW,qW,e];refine Z9 a _ hn.2 λy c=> ?_
  have b:=h y (by simp[c]);refine⟨?_,b.2⟩;unfold lB;rw[getD_set_ne]
  .exact b.1
  .intro d;exact hn.1<|by rw[d];exact jM.2 ⟨y,c,rfl⟩
def jm(a:List Nat)(b:Int)(t:List Int):List (Nat×Int×Int):=(a.zip t).map λx=>(x.1,b,x.2)
def agC(a:List Nat)(b:Int)(t:List Int)(h:a.length<=t.length):(jm a b t).map Prod.fst=a:=by
 unfold jm;rw[NI];show(a.zip t).map Prod.fst=a;exact List.map_fst_zip h
def jY:List Int->Bool
 |[]=>true
 |c::r=>if c=10 then true else if lA c=true then jY r else false
def pS(c:Int)(r:List Int):Bool:=c==10||(lA c&&jY r)
def mV(a:Int):Int->List Int->List Int->List Int
 |_,[],_=>[]
 |_,_::_,[]=>[]
 |prev,c::cs,o::os=>
  (if pS c cs=true then a else if bV c=false then prev else o)::mV a (if pS c cs=true then a else if bV c=false then prev else o) cs os
def CM(a c o:Int):Int:=if c=10 then a else if bV c=false then -1 else o
def Bj(a c:Int)(r:List Int)(v:Int):Int:=if lA c=true/\jY r=true then a else v
def l1(a:Int):List Int->List Int->List Int
 |[],_=>[]
 |_::_,[]=>[]
 |c::cs,o::os=>Bj a c cs (CM a c o)::l1 a cs os
def zB:Int->List Int->List Int
 |_,[]=>[]
 |a,v::r=>(if v= -1 then a else v)::zB (if v= -1 then a else v) r
def D7 {a:Int}(k:a≠ -1):∀(d f:List Int)(b:Int),(∀o∈f,o≠ -1)->zB b (l1 a d f)=mV a b d f
 |[],_,_,_=>rfl
 |_::_,[],_,_=>rfl
 |c::d,o::f,b,h=>by
  have m:=h o (by simp);have key:(if Bj a c d (CM a c o)= -1 then b else Bj a c d (CM a c o))=(if pS c d=true then a else if bV c=false then b else o):=by
   unfold Bj CM;by_cases e:c=10
   .subst e;have l:¬(lA 10=true/\jY d=true):=λh=>absurd h.1<|by decide
    have j:pS 10 d=true:=rfl;rw[ai l,aj rfl,ai k,aj j]
   .have j:pS c d=(lA c&&jY d):=by
     unfold pS;rw[show(c==10)=false by simpa using e,C7]
    rw[j];by_cases i:lA c=true/\jY d=true
    .rw[aj i,ai k,aj<|by rw[ED];exact i]
    .rw[ai i,ai e,ai (show¬(lA c&&jY d)=true by rw[ED];exact i)];by_cases g:bV c=false
     .rw[aj g,aj g,aj rfl]
     .rw[ai g,ai g,ai m]
  rw[l1,zB,mV,key,D7 k d f _ (λx hx=>h x<|by simp[hx])]
def Bq(t d:List Int):List (Nat×Nat):=match dL t d t.length 0 ([],[])with
 |none=>[]
 |some c=>c.mergeSort λa b=>decide (a.1<=b.1)
def aoH(t e:List Int):lH t e (Bq t e):=by
 unfold lH Bq;cases hp:dL t e t.length 0 ([],[])with
 |none=>rfl
 |some d=>
  simp only;refine⟨List.mergeSort_perm _ _,?_⟩;have:=List.pairwise_mergeSort (le:=λ(a b:Nat×Nat)=>decide (a.1<=b.1)) (by intro a b c;simp;omega) (by intro a b;simp;omega) d;exact this.imp<|by intro a b h;simpa using h
def lH.is {t a:List Int}{b:List (Nat×Nat)}(h:lH t a b):b=Bq t a:=h.one<|aoH t a
def Bk(t a:List Int)(c:List<|Nat×Nat)(e b:Int):List Int:=c.foldl (λt p=>s9 t a p e b) t
def VZ(a:List Int)(e c:Int):∀(b:List<|Nat×Nat)(t:List Int),(Bk t a b e c).length=t.length
 |[],t=>rfl
 |p::b,t=>by rw[Bk,qW];exact(VZ a e c b _).trans (aoE _ _ _ _ _)
def MS(b a:List Int)(s:Sq):List Int:=
 Eb s.aq s.ay (s.level%2) (Bk (uD s.aq<|bB a s.at') (bB a s.at') (Bq (uD s.aq<|bB a s.at')<|bB b s.at') (s.level%2) s.aq)
def qH(b a:List Int)(s:Sq):List (Nat×Int×Int):=jm s.at' s.level<|MS b a s
def gX(a:List Int)(d:Int):Int:=if d=0∨d=1 then d else found a
def gV(b a:List Int)(d:Int):List Int:=
 mV (gX a d) (gX a d) a (((ij a (bh a<|gX a d) (aQ a)<|gX a d).flatMap (qH b<|iN a<|gX a d)).foldl lB (bh a<|gX a d))
structure gi(w:World)(B s:Nat)(v:Value)(l:List Nat):Prop where
 cell:w.heap[s]? =some (.cells #[v] 257 (0,0))
 row:w.ownsRow B 3 1 v l.length<|iv<|nl l
 low:B<=s
structure bz(w w':World)(s:Nat)(v v':Value):Prop where
 os:w'.os=w.os
 tape:w'.tape=w.tape
 output:w'.output=w.output
 size:w.heap.size<=w'.heap.size
 block:∀k,k<w.heap.size->k≠s->v.ownBlock≠some k->w'.heap[k]? =w.heap[k]?
 own:v'.ownBlock=v.ownBlock∨∀k,v'.ownBlock=some k->w.heap.size<=k
def bz.below {w c d:World}{B s:Nat}{v j:Value}{l:List Nat}(h:bz w c s v j)(b:gi w B s v l)(g:Below B d w):Below B d c:=
 g.trans ⟨h.os,h.tape,h.output,h.size,λk i=>by
  have f:=b.low;have a:k<w.heap.size:=kQ (kQ i f)<|gF<|cJ b.cell;refine h.block k a (by omega) ?_;intro e;have:=vC b.row k e;omega⟩
def gi.ne {w:World}{B s:Nat}{v:Value}{l:List Nat}(h:gi w B s v l):v.ownBlock≠some s:=by
 rcases h.row.2 with⟨rfl,_⟩|⟨g,c,b,rfl,_,a,_⟩
 .simp[Value.ownBlock]
 .simp only[Value.ownBlock];intro e;obtain rfl:=aJ e;rw[h.cell]at a;simp at a
def gi.grow {w d:World}{B s:Nat}{v b:Value}{l q:List Nat}{m:Nat}(h:gi w B s v l)(c:d.ownsRow B 3 1 b m<|iv<|nl q)(f:w.grownBy d v.ownBlock)(a:b.ownBlock=v.ownBlock∨b.ownBlock=some (w.heap.size+1)):
  gi (d.setCell ⟨s,0,none⟩ b) B s b q/\bz w (d.setCell ⟨s,0,none⟩ b) s v b/\d.cell? ⟨s,0,none⟩=some v/\d.frozen? ⟨s,0,none⟩=false:=by
 have n:=cJ h.cell;have p:d.heap[s]? =some (.cells #[v] 257 (0,0)):=by rw[f.block s n h.ne.symm];exact h.cell
 have o:b.ownBlock≠some s:=by
  rcases a with a|a
  .rw[a];exact h.ne
  .rw[a];intro e;have:=aJ e;omega
 have r:m=q.length:=by have:=c.1;rw[nZ,gW]at this;omega
 subst r;refine⟨⟨by rw[eW p];rfl,jW c o 0 b,h.low⟩,⟨f.os,f.tape,f.output,?_,?_,?_⟩,az p 0,cB p 0⟩
 .have:=f.size;simpa using this
 .intro k g i j;rw[iF]
  .exact f.block k g (λe=>j e.symm)
  .exact i
 .rcases a with a|a
  .exact .inl a
  .exact .inr λk g=>by rw[a]at g;have:=aJ g;omega
def VL(w:World)(B s:Nat)(v:Value)(l:List Nat)(h:gi w B s v l):Calls prog 244 #[.pointer<|some ⟨s,0,none⟩] w λe b=>e= .returned (.int .i64 l.length)/\b=w:=by
 obtain⟨a,c,rfl⟩:=eH h.row;have d:w.cell? ⟨s,0,none⟩=some (.slice a l.length c):=az h.cell 0;clear h;go_enter func244,ntmps244;go_wp2;go_ret;exact⟨rfl,rfl⟩
def wD(w:World)(B s:Nat)(v:Value)(l:List Nat)(i:Nat)(h:gi w B s v l)(a:i<l.length):Calls prog 234 #[.pointer<|some ⟨s,0,none⟩,.int .i64 i] w λe f=>e= .returned (.tuple #[.int .i64 (l.getD i 0:Nat),.bool true])/\f=w:=by
 obtain⟨g,c,rfl,_,_,_⟩:=gI h.row (by omega);have j:w.cell? ⟨s,0,none⟩=some (.slice (some ⟨g,0,none⟩) l.length c):=az h.cell 0;have b:=jk h.row i (by rw[gW];exact a);rw[oh _ _ a]at b;generalize l.getD i 0=x at*;generalize l.length=n at*;have d:((i:Int)<(n:Int)):=by omega
 have k:decide ((i:Int)<0)=false:=by simp
 clear h;go_enter func234,ntmps234;go_wp2;go_ret2;exact⟨rfl,rfl⟩
def aiF(w:World)(s:Nat)(i:Int)(b:i<0):Calls prog 234 #[.pointer<|some ⟨s,0,none⟩,.int .i64 i] w λe a=>e= .returned (.tuple #[.int .i64 0,.bool false])/\a=w:=by
 go_enter func234,ntmps234;go_wp2;go_ret2;exact⟨rfl,rfl⟩
def afo(w:World)(B s:Nat)(v:Value)(l:List Nat)(i:Nat)(h:gi w B s v l)(A:l.length<=1000000):Calls prog 197 #[.pointer<|some ⟨s,0,none⟩,.int .i64 i] w λe n=>e= .returned (.tuple #[])/\∃m,gi n B s m (l++[i])/\bz w n s v m:=by
 obtain⟨C,u,x,y,z⟩:=gu Tryz.rL;have r:w.cell? ⟨s,0,none⟩=some v:=az h.cell 0;have f0:w.frozen? ⟨s,0,none⟩=false:=cB h.cell 0;have b:=h.row;have f:B<=w.heap.size:=bP h.low<|gF<|cJ h.cell;have q:=ah h;obtain⟨a,c,rfl⟩:=eH b;clear h;go_enter func197,ntmps197;go_wp2_with(at_builtin;refine Ag _ rfl _ _ 31 rfl B 3 C (.int .i64 0) 8 underlying31 u x y z rfl (by decide) _ _ _ rfl b _ _ _ rfl rfl rfl A f ?_);intro G H d g j;obtain⟨E,D,rfl⟩:=eH d;obtain⟨k,o,F,f5⟩:=q.out.grow (by rw[FT,PO]at d;exact d) g j;have t:=ah k;have p:=ah o;clear k o d g j b r f0;go_wp2;go_end0;exact⟨rfl,_,t.out,p.out⟩
def P6 {B g n c z:Nat}{e:TypeId}:∀(d:List Value)(o:Nat)(w:World)(b:List Value),w.ownsRow B e z (.slice (some ⟨g,0,none⟩) n c) n b->∃a,(w.setCells g o d).ownsRow B e z (.slice (some ⟨g,0,none⟩) n c) n a/\w.grownBy (w.setCells g o d) (some g)/\∀j,j<o->a[j]? =b[j]?
 |[],_,w,b,h=>⟨b,h,jO _ _,λ_ _=>rfl⟩
 |v::d,o,w,b,h=>by
  obtain⟨f,i⟩:=Ck h o v;obtain⟨a,k,l,m⟩:=P6 d (o+1) _ _ f;refine⟨a,k,i.trans l,λj p=> ?_⟩;rw[m j<|by omega,ahY<|by omega]
def Xy {c:Type}(a b:List c)(k:Nat)(h:∀j,j<k->b[j]? =a[j]?):b.take k=a.take k:=by
 apply J0;intro j;rw[NC,NC];split
 .exact h j (by assumption)
 .rfl
def gi.cut {w:World}{B s g c n:Nat}{l:List Nat}{vs:List Value}(h:gi w B s (.slice (some ⟨g,0,none⟩) l.length c) l)(t:n<l.length):
  gi ((w.setCells g n vs).setCell ⟨s,0,none⟩ (.slice (some ⟨g,0,none⟩) n c)) B s (.slice (some ⟨g,0,none⟩) n c) (l.take n)/\bz w ((w.setCells g n vs).setCell ⟨s,0,none⟩ (.slice (some ⟨g,0,none⟩) n c)) s (.slice (some ⟨g,0,none⟩) l.length c) (.slice (some ⟨g,0,none⟩) n c)/\(w.setCells g n vs).cell? ⟨s,0,none⟩=some (.slice (some ⟨g,0,none⟩) l.length c)/\(w.setCells g n vs).frozen? ⟨s,0,none⟩=false:=by
 have f:=cJ h.cell;have i:=h.ne;have o:g≠s:=by simpa [Value.ownBlock]using i
 obtain⟨u,p,a,q⟩:=P6 vs n w _ h.row;have j:(w.setCells g n vs).heap[s]? =some (.cells #[.slice (some ⟨g,0,none⟩) l.length c] 257 (0,0)):=by rw[a.block s f<|by simpa using o.symm];exact h.cell
 have m:=P7 p n (by omega);rw[Ka,Xy _ _ n q,<-Ka n,Vz,Ka]at m;refine⟨⟨by rw[eW j];rfl,?_,h.low⟩,⟨a.os,a.tape,a.output,by have:=a.size;simpa using this,?_,.inl rfl⟩,az j 0,cB j 0⟩
 .have:=jW m (s:=s) (by simpa [Value.ownBlock]using o) 0 (.slice (some ⟨g,0,none⟩) n c);simpa [jN<|gF t]using this
 .intro k r b d;rw[iF]
  .exact a.block k r (λe=>d<|by rw[e];rfl)
  .exact b
def mB(w:World)(B s:Nat)(v:Value)(l:List Nat)(n:Nat)(h:gi w B s v l)(q:n<l.length)(z:l.length<=1000000):Calls prog 235 #[.pointer<|some ⟨s,0,none⟩,.int .i64 n] w λe f=>e= .returned (.tuple #[])/\∃d,gi f B s d (l.take n)/\bz w f s v d:=by
 obtain⟨g,c,rfl,b,A,p⟩:=gI h.row (by omega);have u:w.cell? ⟨s,0,none⟩=some (.slice (some ⟨g,0,none⟩) l.length c):=az h.cell 0;have f0:w.frozen? ⟨s,0,none⟩=false:=cB h.cell 0;have m:=ahP (P:=prog) w 31 3 0 (.int .i64 0) underlying31 Tryz.zeroValue3 rfl rfl g n (l.length - n) (c - n) (by omega) (λj y=>by
   rw[jk h.row (n+j)<|by rw[gW];omega];rfl) (λj _=>Dx h.row<|n+j)
 have o:n<=c:=by omega
 have r:((n:Int)<(l.length:Int)):=by omega
 obtain⟨a,hF,x,f5⟩:=h.cut (vs:=List.replicate (l.length - n) (.int .i64 0)) q;have k:=ah a;have i:=ah hF;clear h a hF;generalize w.setCells g n (List.replicate (l.length - n) (.int .i64 0))=t at*;generalize l.length=L at*;go_enter func235,ntmps235;go_wp2;go_end0;exact⟨rfl,_,k.out,i.out⟩
def ao8(w:World)(B s:Nat)(v:Value)(l:List Nat)(x:Nat)(h:gi w B s v<|l++[x])(q:l.length<=100000):Calls prog 198 #[.pointer<|some ⟨s,0,none⟩] w λe d=>e= .returned (.tuple #[.int .i64 x,.bool true])/\∃f,gi d B s f l/\bz w d s v f:=by
 have b:(l++[x]).length=l.length+1:=by simp
 obtain⟨a,c,rfl⟩:=eH h.row;have p:w.cell? ⟨s,0,none⟩=some (.slice a (l.length+1) c):=by have:=az h.cell 0;rw[b]at this;exact this
 have o:Hid (Calls prog 234 #[.pointer<|some ⟨s,0,none⟩,.int .i64 l.length] w λe d=>e= .returned (.tuple #[.int .i64 x,.bool true])/\d=w):=by
  have:=wD w B s _ (l++[x]) l.length h (by omega);have hx:(l++[x]).getD l.length 0=x:=by simp
  rw[hx]at this;exact this
 have j:Hid (Calls prog 235 #[.pointer<|some ⟨s,0,none⟩,.int .i64 l.length] w λe d=>e= .returned (.tuple #[])/\∃f,gi d B s f l/\bz w d s (.slice a (l++[x]).length c) f):=by
  have:=mB w B s _ (l++[x]) l.length h (by omega) (by omega);have hx:(l++[x]).take l.length=l:=by simp
  rw[hx]at this;exact this
 clear h b;generalize l.length=L at*;go_enter func198,ntmps198;go_wp2_with fail;refine o.out.mono ?_;rintro n t ⟨rfl,hx⟩;have g:=hx.symm;subst g;go_wp2_with fail;refine j.out.mono ?_;rintro n r ⟨rfl,f,i,hF⟩;have m:=ah i;have k:=ah hF;clear i hF;go_wp2;go_ret2;exact⟨rfl,_,m.out,k.out⟩
def ao7(w:World)(B s:Nat)(v:Value)(h:gi w B s v []):Calls prog 198 #[.pointer<|some ⟨s,0,none⟩] w λe d=>e= .returned (.tuple #[.int .i64 0,.bool false])/\d=w:=by
 obtain⟨a,c,rfl⟩:=eH h.row;have f:w.cell? ⟨s,0,none⟩=some (.slice a 0 c):=az h.cell 0;clear h;go_enter func198,ntmps198;go_wp2_with fail;refine(aiF w s (-1)<|by omega).mono ?_;rintro g i ⟨rfl,hx⟩;have b:=hx.symm;subst b;go_wp2;go_ret2;exact⟨rfl,rfl⟩
def mD(c:Int):Bool:=c==13||(c==14||(c==15||c==16))
def nY(c:Int)(w:World):Calls prog 196 #[.int .i64 c] w λe d=>e= .returned (.bool<|aU c)/\d=w:=by
 obtain⟨q,b⟩:=ac<|aU c;rw[<-b];have a:=ah b;clear b;cases h1:(c==18)
 .cases h2:(c==19)
  .go_enter func196,ntmps196;go_wp2;go_ret;exact⟨gY<|by rw[a.out,aU,h1,h2];rfl,rfl⟩
  .go_enter func196,ntmps196;go_wp2;go_ret;exact⟨gY<|by rw[a.out,aU,h1,h2];rfl,rfl⟩
 .go_enter func196,ntmps196;go_wp2;go_ret;exact⟨gY<|by rw[a.out,aU,h1];rfl,rfl⟩
def Ff(c:Int)(w:World):Calls prog 202 #[.int .i64 c] w λe d=>e= .returned (.bool<|mD c)/\d=w:=by
 obtain⟨q,a⟩:=ac<|mD c;rw[<-a];have b:=ah a;clear a;cases h1:(c==13)<;>cases h2:(c==14)<;>cases h3:(c==15)
 all_goals
  go_enter func202,ntmps202;go_wp2;go_ret;exact⟨gY<|by rw[b.out,mD,h1,h2,h3];rfl,rfl⟩
def yF(c:Int)(w:World):Calls prog 160 #[.int .i64 c] w λe g=>e= .returned (.bool (!bV c))/\g=w:=by
 have b:(!bV c)=(mD c||(c==17||c==9)):=by
  rw[C6];simp only[bV,mD,ahk,ahj,ai2,Gm,Cm,Gn,zx];omega
 rw[b];clear b;have d:=ah<|Ff c w;generalize mD c=f at*;cases f<;>cases h2:(c==17)
 all_goals
  go_enter func160,ntmps160;go_wp2_with fail;refine d.out.mono ?_;rintro h i ⟨rfl,hx⟩;have a:=hx.symm;subst a;go_wp2;go_ret;exact⟨gY<|by simp,rfl⟩
def N3(c:Int)(w:World):Calls prog 217 #[.int .i64 c] w λe f=>e= .returned (.int .i64<|bD c)/\f=w:=by
 obtain⟨q,a⟩:=ac<|bD c;rw[<-a];have b:=ah a;clear a;cases h0:(c==0)<;>cases h1:(c==1)<;>cases h3:(c==3)<;>cases h6:(c==6)
 all_goals
  have d:Hid (q=if(c==0)=true then 0 else if(c==1||(c==3||c==6))=true then 1 else -1):=by
   show _=_;rw[b.out,bD];simp
  go_enter func217,ntmps217;go_wp2;go_ret;exact⟨dM<|by rw[d.out,h0,h1,h3,h6];rfl,rfl⟩
def C2(l:Int)(w:World)(f:0<=l):Calls prog 96 #[.int .i64 l] w λe d=>e= .returned (.int .i64<|l%2)/\d=w:=by
 obtain⟨q,a⟩:=ac<|l%2;have b:q=0∨q=1:=by omega
 rw[<-a];rcases b with rfl|rfl
 .have c:(l%2==0)=true:=by simpa using a.symm
  clear a;go_enter func96,ntmps96;go_wp2;go_ret;exact⟨rfl,rfl⟩
 .have c:(l%2==0)=false:=by rw[<-a];rfl
  clear a;go_enter func96,ntmps96;go_wp2;go_ret;exact⟨rfl,rfl⟩
def S0(c:Int)(w:World):Calls prog 215 #[.int .i64 c] w λe f=>e= .returned (.bool<|o5 c)/\f=w:=by
 have b:=ah<|nY c w;unfold o5;generalize aU c=d at*;cases h1:(c==11)<;>cases h2:(c==10)<;>cases h3:(c==12)
 case false.false.false=>
  cases d;all_goals
   go_enter func215,ntmps215;go_wp2_with fail;refine b.out.mono ?_;rintro g h ⟨rfl,hx⟩;have a:=hx.symm;subst a;go_wp2;go_ret;exact⟨gY<|by simp,rfl⟩
 all_goals
  go_enter func215,ntmps215;go_wp2;go_ret;exact⟨gY<|by simp,rfl⟩
def Gj(c:Int):Bool:=c==11||(aU c||(c==21|| !bV c))
def aji(c:Int)(w:World):Calls prog 162 #[.int .i64 c] w λe i=>e= .returned (.bool<|Gj c)/\i=w:=by
 have b:=ah<|nY c w;have g:=ah<|yF c w;unfold Gj;generalize aU c=h at*;generalize(!bV c)=j at*;cases h1:(c==11)
 .cases h
  .cases h3:(c==21)
   .go_enter func162,ntmps162;go_wp2_with fail;refine b.out.mono ?_;rintro d f ⟨rfl,hx⟩;have a:=hx.symm;subst a;go_wp2_with fail;refine g.out.mono ?_;rintro d f ⟨rfl,hx⟩;have a:=hx.symm;subst a;go_wp2;go_ret;exact⟨gY<|by simp,rfl⟩
   .go_enter func162,ntmps162;go_wp2_with fail;refine b.out.mono ?_;rintro d f ⟨rfl,hx⟩;have a:=hx.symm;subst a;go_wp2;go_ret;exact⟨gY<|by simp,rfl⟩
  .go_enter func162,ntmps162;go_wp2_with fail;refine b.out.mono ?_;rintro d f ⟨rfl,hx⟩;have a:=hx.symm;subst a;go_wp2;go_ret;exact⟨gY<|by simp,rfl⟩
 .go_enter func162,ntmps162;go_wp2;go_ret;exact⟨gY<|by simp,rfl⟩
def gi.setOther {w:World}{B s g:Nat}{v:Value}{l:List Nat}(h:gi w B s v l)(b:g≠s)(a:v.ownBlock≠some g)(k:Nat)(u:Value):gi (w.setCell ⟨g,k,none⟩ u) B s v l:=
 ⟨by
  rw[iF]
  .exact h.cell
  .exact b.symm,jW h.row a k u,h.low⟩
def bu.DK {w b:World}{B g n c s:Nat}{v j:Value}{t:List Int}(h:bu w B g n c t)(e:bz w b s v j)(i:g≠s)(d:v.ownBlock≠some g):bu b B g n c t:=
 nB h λk o f a=>by
  have:g=k:=by simpa [Value.ownBlock]using f
  subst this;rw[e.block g (cJ a) i d];exact a
def bz.G6 {w d:World}{s g:Nat}{v a:Value}(c:bz w d s v a)(f:g<w.heap.size)(b:v.ownBlock≠some g):a.ownBlock≠some g:=by
 rcases c.own with h|h
 .rw[h];exact b
 .intro e;have:=h g e;omega
def Vg:∀(l:List Nat)(n:Nat),l.Nodup->(∀a∈l,a<n)->l.length<=n
 |[],n,_,_=>by simp
 |a::l,0,_,h=>by have:=h a (by simp);omega
 |a::l,n+1,hn,h=>by
  have ih:=Vg ((a::l).erase n) n (hn.erase n) (λb c=>by
   have f:=h b<|ah3 c;have g:b≠n:=λe=>by subst e;exact(ahQ hn) c
   omega)
  by_cases d:n∈a::l
  .rw[ah1 d]at ih;omega
  .rw[ahX d]at ih;omega
def anD(i:List Int)(n b F aa:Nat)(w:World)(hl:i.length=n)(hn:n<=1000)(hc:bI w b F i)(hb:b<w.heap.size):
  Calls prog 140 #[.slice (some ⟨b,F,none⟩) n aa] w λe t=>∃g,e= .returned (.slice (some ⟨g,0,none⟩) n n)/\aY t w.heap.size 3 g n (iv<|ny i)/\Below w.heap.size w t:=by
 have ab:=run_make_row' (P:=prog) 31 3 (.int .i64 0) 8 underlying31 Tryz.rL rfl .i64 .i64 n (by omega) (by omega);have L:Hid (bI w b F i/\b<w.heap.size/\i.length=n):=⟨hc,hb,hl⟩
 obtain⟨W1,q⟩:=ac<|(w.alloc (.cells (madeCells #[.int .i64 0] n) 3)).alloc (.cells #[.slice none 0 0] 257);have A:Hid (Below w.heap.size w W1):=by rw[q];exact((aA _ _).alloc (au _) _).alloc (by simp) _
 have y:Hid (bu W1 w.heap.size w.heap.size n n (sX i 0).1):=by
  rw[q];have h1:aY (w.alloc (.cells (madeCells #[.int .i64 0] n) 3)) w.heap.size 3 w.heap.size n (List.replicate n (.int .i64 0)):=aY.made (au _) (by omega);have h2:=h1.alloc (.cells #[.slice none 0 0] 257);have e:iv (sX i 0).1=List.replicate n (.int .i64 0):=by rw[sX,hl];simp[iv]
  show World.ownsRow _ _ _ _ _ _ _;rw[e];exact h2
 have m:Hid (gi W1 w.heap.size (w.heap.size+1) (.slice none 0 0) (sX i 0).2):=by
  rw[q];refine⟨?_,⟨rfl,.inl ⟨rfl,rfl⟩⟩,by omega⟩;have ae:(w.alloc (.cells (madeCells #[.int .i64 0] n) 3)).heap.size=w.heap.size+1:=by simp
  rw[<-ae];exact oD
 clear hc hb hl;go_enter func140,ntmps140;go_wp2;rw[<-q];obtain⟨s,hs⟩:=ac<|w.heap.size+1;obtain⟨g,hg⟩:=ac w.heap.size;rw[<-hs];rw[<-hs]at m;have HG:Hid (g=w.heap.size/\s=w.heap.size+1):=⟨hg,hs⟩
 rw[<-hg]at y ⊢;have Y:=ah hg.symm;clear q ab hs hg;go_loopg [14] n (λgh kv W=>∃(k:Nat)(v:Value)(x:List Int×List Nat),k<=n/\gh=n - k/\kv= .int .i64 k/\Below w.heap.size w W/\bu W w.heap.size g n n x.1/\gi W w.heap.size s v x.2/\v.ownBlock≠some g/\sX i k=x);exact⟨0,.slice none 0 0,sX i 0,by omega,rfl,rfl,A.out,by rw[Y.out];exact y.out,m.out,by simp[Value.ownBlock],rfl⟩;clear A y m;obtain⟨k,v,x,hk,rfl,rfl,O,B,hS,hV,J⟩:=hrel;have HB:=ah O;have HR:=ah B;have HS:=ah hS;have H:=ah hV;have HX:=ah J;have l:=Mo i k (by rw[L.out.2.2];exact hk);rw[J]at l;have dS:=ah l;have R:g≠s:=by have:=HG.out;omega
 have uY:g<wr.heap.size:=(AJ B g rfl).2;have E:x.2.length<=k:=by
  have h1:=l.ur;have h2:∀a∈x.2,a<k:=λa ha=>by
   obtain⟨d,hd⟩:=ZK ha;exact(l.opn d a hd).2.2.1
  exact Vg x.2 k h1 h2
 by_cases D:k<n
 .have r:k<i.length:=by rw[L.out.2.2];exact D
  have cc:=L.out.1.stay O L.out.2.1 k r;have C:=B.cell k D;have af:=B.frozen k;generalize x.1.getD k 0=oc at C;have f:sX i (k+1)=PL i k x:=by rw[sX,J]
  have dW:=B.set k (-1);have Q:=hS.setOther R hV k (.int .i64 (-1));have rE:Below w.heap.size w (wr.setCell ⟨g,k,none⟩ (.int .i64 (-1))):=O.setCell (p:=⟨g,k,none⟩) (by rw[Y.out];exact au _) _;have y:=ah dW;have m:=ah Q;have A:=ah rE;have N:g<(wr.setCell ⟨g,k,none⟩ (.int .i64 (-1))).heap.size:=by simpa using uY
  unfold PL at f;generalize i.getD k 0=c at*;clear O B hS hV J l dW Q rE HB HR HS;cases bJ:aU c
  .rw[bJ,ai<|by decide]at f;by_cases j:c=21
   .subst j;rw[aj rfl]at f;rcases zi x.2 with h|⟨G,o,h⟩
    .rw[h]at f;have z:Hid (sX i (k+1)=(x.1.set k (-1),x.2)):=(by show _=_;rw[f,h];rfl);have V:Hid (Calls prog 198 #[.pointer<|some ⟨s,0,none⟩] (wr.setCell ⟨g,k,none⟩ (.int .i64 (-1))) λe t=>e= .returned (.tuple #[.int .i64 0,.bool false])/\t=wr.setCell ⟨g,k,none⟩ (.int .i64 (-1))):=ao7 _ w.heap.size s v (by have:=m.out;rw[h]at this;exact this);clear f bJ r h;go_wp2_with fail;refine(nY 21 _).mono ?_;rintro I wx ⟨rfl,hx⟩;subst hx;rw[Me];go_wp2_with fail;refine V.out.mono ?_;rintro I wx ⟨rfl,hx⟩;subst hx;go_wp2;go_roundg (n - (k+1));exact⟨k+1,v,(x.1.set k (-1),x.2),by omega,rfl,by simp,A.out,y.out,m.out,H.out,z.out⟩;omega
    .rw[Ch]at h;rw[h]at f;have z:Hid (sX i (k+1)=(((x.1.set k (-1)).set o (k:Int)).set k (o:Int),G)):=(by show _=_;rw[f];simp);have M:=dS.out.opn G.length o (by rw[h];simp);have ag:o<k:=M.2.2.1;have ad:G.length<=100000:=(by rw[h]at E;simp at E;omega);have V:Hid (Calls prog 198 #[.pointer<|some ⟨s,0,none⟩] (wr.setCell ⟨g,k,none⟩ (.int .i64 (-1))) λe t=>e= .returned (.tuple #[.int .i64 o,.bool true])/\∃T,gi t w.heap.size s T G/\bz (wr.setCell ⟨g,k,none⟩ (.int .i64 (-1))) t s v T):=ao8 _ w.heap.size s v G o (by have:=m.out;rw[h]at this;exact this) ad;clear f bJ r h M E;go_wp2_with fail;refine(nY 21 _).mono ?_;rintro I wx ⟨rfl,hx⟩;subst hx;rw[Me];go_wp2_with fail;refine V.out.mono ?_;rintro I K ⟨rfl,U,S,u⟩;have oQ:bu K w.heap.size g n n (x.1.set k (-1)):=y.out.DK u R H.out;have X:U.ownBlock≠some g:=u.G6 N H.out;have dm:Below w.heap.size w K:=u.below m.out A.out;have Ph:o<n:=(by omega);have co:=oQ.cell o Ph;have fo:=oQ.frozen o;have Z:=oQ.set o (k:Int);have ck:=Z.cell k D;have fk:=Z.frozen k;have qP:Hid (bu ((K.setCell ⟨g,o,none⟩ (.int .i64 k)).setCell ⟨g,k,none⟩ (.int .i64 o)) w.heap.size g n n<|((x.1.set k (-1)).set o (k:Int)).set k (o:Int)):=Z.set k (o:Int);have fH:Hid (gi ((K.setCell ⟨g,o,none⟩ (.int .i64 k)).setCell ⟨g,k,none⟩ (.int .i64 o)) w.heap.size s U G):=(S.setOther R X o _).setOther R X k _;have bG:Hid (Below w.heap.size w<|(K.setCell ⟨g,o,none⟩ (.int .i64 k)).setCell ⟨g,k,none⟩ (.int .i64 o)):=(dm.setCell (p:=⟨g,o,none⟩) (by rw[Y.out];exact au _) _).setCell (p:=⟨g,k,none⟩) (by rw[Y.out];exact au _) _;have RS:=ah X;generalize(x.1.set k (-1)).getD o 0=oo at co;generalize((x.1.set k (-1)).set o (k:Int)).getD k 0=kk at ck;clear S u oQ X dm Z V;go_wp2;go_roundg (n - (k+1));exact⟨k+1,U,(((x.1.set k (-1)).set o (k:Int)).set k (o:Int),G),by omega,rfl,by simp,bG.out,qP.out,fH.out,RS.out,z.out⟩;omega
   .rw[ai j]at f;have CT:(c !=21)=true:=(by simpa using j);have z:=ah f;have yY:=ah bJ;clear f j bJ r;go_wp2_with fail;refine(nY c _).mono ?_;rintro I wx ⟨rfl,hx⟩;subst hx;rw[yY.out];go_wp2;go_roundg (n - (k+1));exact⟨k+1,v,(x.1.set k (-1),x.2),by omega,rfl,by simp,A.out,y.out,m.out,H.out,z.out⟩;omega
  .rw[bJ,aj rfl]at f;have j:c≠21:=(by rintro rfl;cases bJ);have CT:(c !=21)=true:=(by simpa using j);have z:=ah f;have yY:=ah bJ;have JH:Hid (Calls prog 197 #[.pointer<|some ⟨s,0,none⟩,.int .i64 k] (wr.setCell ⟨g,k,none⟩ (.int .i64 (-1))) λe t=>e= .returned (.tuple #[])/\∃T,gi t w.heap.size s T (x.2++[k])/\bz (wr.setCell ⟨g,k,none⟩ (.int .i64 (-1))) t s v T):=afo _ _ _ _ _ _ m.out (by omega);clear f j bJ r;go_wp2_with fail;refine(nY c _).mono ?_;rintro I wx ⟨rfl,hx⟩;subst hx;rw[yY.out];go_wp2_with fail;refine JH.out.mono ?_;rintro I K ⟨rfl,U,S,u⟩;have kq:=ah S;have aG:=ah<|u.below m.out A.out;have nO:=ah<|y.out.DK u R H.out;have RS:=ah<|u.G6 N H.out;clear S u JH;go_wp2;go_roundg (n - (k+1));exact⟨k+1,U,(x.1.set k (-1),x.2++[k]),by omega,rfl,by simp,aG.out,nO.out,kq.out,RS.out,z.out⟩;omega
 .obtain rfl:k=n:=by omega
  have HL:Hid (x.1=ny i):=by show _=_;rw[ny,L.out.2.2,J]
  clear O B hS hV J l;go_wp2;refine cI (v:= .slice (some ⟨g,0,none⟩) k k) (by simp[results,results140,go_sem]) rfl ⟨g,rfl,?_,HB.out⟩;have:=HR.out;rw[HL.out]at this;exact this
structure bQ(w:World)(B s:Nat)(v lp:Value)(x:XS):Prop where
 cell:w.heap[s]? =some (.cells #[lp,v,.int .i64 x.aK,.int .i64 x.aN,.int .i64 x.valid] 212 (0,0))
 row:w.ownsRow B 215 3 v x.st.length<|jS x.st
 low:B<=s
def bQ.ne {w:World}{B s:Nat}{v c:Value}{x:XS}(h:bQ w B s v c x):v.ownBlock≠some s:=by
 rcases h.row.2 with⟨rfl,_⟩|⟨g,d,b,rfl,_,a,_⟩
 .simp[Value.ownBlock]
 .simp only[Value.ownBlock];intro e;obtain rfl:=aJ e;rw[h.cell]at a;simp at a
def bz.Hf {w c d:World}{B s:Nat}{v l j:Value}{x:XS}(h:bz w c s v l)(b:bQ w B s v j x)(g:Below B d w):Below B d c:=
 g.trans ⟨h.os,h.tape,h.output,h.size,λk i=>by
  have f:=b.low;have a:k<w.heap.size:=kQ (kQ i f)<|gF<|cJ b.cell;refine h.block k a (by omega) ?_;intro e;have:=vC b.row k e;omega⟩
def bz.refl(w:World)(s:Nat)(v:Value):bz w w s v v:=⟨rfl,rfl,rfl,au _,λ_ _ _ _=>rfl,.inl rfl⟩
def bQ.ent {w:World}{B s:Nat}{v n:Value}{x:XS}(h:bQ w B s v n x)(i:Nat)(b:i<x.st.length):∃g c,v= .slice (some ⟨g,0,none⟩) x.st.length c/\x.st.length<=c/\g<w.heap.size/\∃e,x.st[i]? =some e/\w.cell? ⟨g,i*3,none⟩=some (.int .i64 e.l)/\w.cell? ⟨g,i*3+1,none⟩=some (.int .i64 e.o)/\w.cell? ⟨g,i*3+2,none⟩=some (.bool e.i):=by
 obtain⟨g,c,rfl,d,f,_⟩:=gI h.row (by omega);refine⟨g,c,rfl,d,f,x.st[i],aM b,?_⟩;have key:∀(l:List aV)(i:Nat)(b:i<l.length),(jS l)[i*3]? =some (.int .i64 l[i].l)/\(jS l)[i*3+1]? =some (.int .i64 l[i].o)/\(jS l)[i*3+2]? =some (.bool l[i].i):=by
  intro l
  induction l with
  |nil=>intro i b;simp at b
  |cons a l ih=>
   intro i b;have e:jS (a::l)=[.int .i64 a.l,.int .i64 a.o,.bool a.i]++jS l:=(by simp[jS,aV.cells]);cases i with
   |zero=>rw[e];simp
   |succ i=>
    have:=ih i (by simpa using b);rw[e,show(i+1)*3=i*3+3 by omega];simpa using this
 obtain⟨j,k,m⟩:=key x.st i b;exact⟨by rw[di h.row (i*3)<|by omega];exact j,by rw[di h.row (i*3+1)<|by omega];exact k,by rw[di h.row (i*3+2)<|by omega];exact m⟩
def anj(w:World)(B s:Nat)(v b:Value)(x:XS)(h:bQ w B s v b x):Calls prog 241 #[.pointer<|some ⟨s,1,none⟩] w λe d=>e= .returned (.int .i64 x.st.length)/\d=w:=by
 obtain⟨a,c,rfl⟩:=eH h.row;have f:w.cell? ⟨s,1,none⟩=some (.slice a x.st.length c):=az h.cell 1;clear h;go_enter func241,ntmps241;go_wp2;go_ret;exact⟨rfl,rfl⟩
def wC(w:World)(B s:Nat)(v z:Value)(x:XS)(i:Nat)(e:aV)(h:bQ w B s v z x)(b:x.st[i]? =some e):Calls prog 263 #[.pointer<|some ⟨s,1,none⟩,.int .i64 i] w λr A=>r= .returned (.tuple #[.agg #[.int .i64 e.l,.int .i64 e.o,.bool e.i],.bool true])/\Below w.heap.size w A:=by
 have u:i<x.st.length:=(r7.1 b).1;obtain⟨g,c,rfl,_,d,m,a,j,k,l⟩:=h.ent i u;obtain rfl:e=m:=aJ<|b.symm.trans a;have f:=cJ h.cell;have C:(w.alloc (.cells #[.int .i64 0,.int .i64 0,.bool false] 215)).cell? ⟨s,1,none⟩=some (.slice (some ⟨g,0,none⟩) x.st.length c):=(kS _ _ ⟨s,1,none⟩ f).trans (az h.cell 1);have j:=(kS w (.cells #[.int .i64 0,.int .i64 0,.bool false] 215) ⟨g,i*3,none⟩ d).trans j;have k:=(kS w (.cells #[.int .i64 0,.int .i64 0,.bool false] 215) ⟨g,i*3+1,none⟩ d).trans k;have l:=(kS w (.cells #[.int .i64 0,.int .i64 0,.bool false] 215) ⟨g,i*3+2,none⟩ d).trans l;have y:((i:Int)<(x.st.length:Int)):=by omega
 have t:decide ((i:Int)<0)=false:=by simp
 clear h b a;generalize x.st.length=n at*;obtain⟨p,q,o⟩:=e;simp only at j k l ⊢;go_enter func263,ntmps263;go_wp2;exact cI (v:= .tuple #[.agg #[.int .i64 p,.int .i64 q,.bool o],.bool true]) (by simp[results,results263,Tryz.isAgg215,Tryz.sizeOf215,go_sem]) rfl ⟨rfl,(aA _ _).alloc (au _) _⟩
def Tryz.amD:(prog.info? 215).map (λi=>(i.zero,i.size,i.bytes))=some (some (.agg #[.int .i64 0,.int .i64 0,.bool false]),3,24):=by kernel_rfl
def bQ.grow {w c:World}{B s:Nat}{v a o:Value}{x:XS}{st':List aV}{m:Nat}(h:bQ w B s v o x)(b:c.ownsRow B 215 3 a m<|jS st')(d:w.grownBy c v.ownBlock)(f:a.ownBlock=v.ownBlock∨∀k,a.ownBlock=some k->w.heap.size<=k):
  bQ (c.setCell ⟨s,1,none⟩ a) B s a o {x with st:=st'}/\bz w (c.setCell ⟨s,1,none⟩ a) s v a/\c.cell? ⟨s,1,none⟩=some v/\c.frozen? ⟨s,1,none⟩=false:=by
 have j:=cJ h.cell;have n:c.heap[s]? =some (.cells #[o,v,.int .i64 x.aK,.int .i64 x.aN,.int .i64 x.valid] 212 (0,0)):=by rw[d.block s j h.ne.symm];exact h.cell
 have l:a.ownBlock≠some s:=by
  rcases f with f|f
  .rw[f];exact h.ne
  .intro e;have:=f s e;omega
 have q:m=st'.length:=by have:=b.1;rw[KF]at this;omega
 subst q;refine⟨⟨by rw[eW n];rfl,jW b l 1 a,h.low⟩,⟨d.os,d.tape,d.output,?_,?_,f⟩,az n 1,cB n 1⟩
 .have:=d.size;simpa using this
 .intro k p g i;rw[iF]
  .exact d.block k p (λe=>i e.symm)
  .exact g
def aio(w:World)(a b:Obj)(r:Option Nat):w.grownBy ((w.alloc a).alloc b).drew r:=⟨rfl,rfl,rfl,by simp;omega,λk c _=>by
 show((w.alloc a).alloc b).heap[k]? =_;rw[dw (w.alloc a) b k<|by simp;omega];exact dw w a k c⟩
def an0(w:World)(a:Obj)(d f g:Value)(e:TypeId):∀j u,[d,f,g][j]? =some u->((w.alloc a).alloc (.cells #[d,f,g] e)).drew.cell? ((⟨w.heap.size+1,0,none⟩:Addr).add j)=some u:=by
 intro j u b;have c:(w.alloc a).heap.size=w.heap.size+1:=by simp
 rw[<-c]
 match j,b with
 |0,b=>simp at b;subst b;simp[Addr.add]
 |1,b=>simp at b;subst b;simp[Addr.add]
 |2,b=>simp at b;subst b;simp[Addr.add]
def Gh {P:Program}{q:Array Oper}{o:Oper}{a:Act}{w:World}{K:Act->World->Prop}{Q:Exit->Act->World->Prop}{E:Prop}(A:o.guard=none)(s x:Operand)(t:TypeId)
  (L:o.op= .call {callee:= .builtin .append,args:=#[s,x],argTypes:=#[t,t]})
  (c:Nat) (e:TypeId) (i:TypeInfo) (z:Value) (size bytes:Nat) (O:P.underlying t=some (.slice e)) (J:P.info? e=some i) (S:i.zero=some z)
  (l:i.size=size) (y:i.bytes=bytes) (C:z.cells.size=size) (B:0<size) (T:bytes<=64)
  (v:Value) (n:Nat) (D:List Value) (N:a.eval s=v) (p:w.ownsRow c e size v n D)
  (g:Nat) (b:List Value) (hx:a.eval x= .slice (some ⟨g,0,none⟩) 1 1) (U:b.length=size) (k:∀j u,b[j]? =some u->w.cell? ((⟨g,0,none⟩:Addr).add j)=some u) (F:∀u∈b,u.oneCell'=true) (V:n<=1000000) (f:c<=w.heap.size)
  (h:∀m r,r.ownsRow c e size m (n+1) (D++b)->w.grownBy r v.ownBlock->(m.ownBlock=v.ownBlock∨m.ownBlock=some w.heap.size)->K (a.put o.dst m) r):if Region.wanted o (yielded q a.tmps)=true then Oper.wp P o a w K Q else E:=by
 have R:Region.wanted o (yielded q a.tmps)=true:=by simp[Region.wanted,A]
 rw[aj R];have d:(n+1)*bytes<=140737488355328:=by
  have:(n+1)*bytes<=1000001*64:=zl (by omega) T;omega
 obtain⟨m,r,M,G,H,_,I⟩:=gT (P:=P) w c t o.type e i z size bytes O J S l y C B v n D p ⟨g,0,none⟩ 1 1 b (by omega) k F (by unfold maxLen;omega) d f;unfold Oper.wp execOp;simp only[L,resolve,invoke,builtin,GY,Z0,SD,ZQ,mP,Dq,N,hx,M];exact h m r G H I
def F7(w:World)(B s:Nat)(v y:Value)(x:XS)(f g:Int)(d:Bool)(h:bQ w B s v y x)(E:x.st.length<=1000000):Calls prog 142 #[.pointer<|some ⟨s,1,none⟩,.agg #[.int .i64 f,.int .i64 g,.bool d]] w λe C=>e= .returned (.tuple #[])/\∃A,bQ C B s A y {x with st:=x.st++[⟨f,g,d⟩]}/\bz w C s v A:=by
 obtain⟨F,H,i,j,l⟩:=gu Tryz.amD;have q:w.cell? ⟨s,1,none⟩=some v:=az h.cell 1;have f0:w.frozen? ⟨s,1,none⟩=false:=cB h.cell 1;have b:=h.row;have D:B<=w.heap.size:=bP h.low<|gF<|cJ h.cell;obtain⟨a,c,rfl⟩:=eH b;have o:=ah h;clear h;go_enter func142,ntmps142;have n:=cJ o.out.cell;have L:(w.alloc (.cells #[.int .i64 f,.int .i64 g,.bool d] 215)).cell? ⟨s,1,none⟩=some (.slice a x.st.length c):=(kS _ _ ⟨s,1,none⟩ n).trans q;clear q f0;go_wp2
 go_region_law (refine Gh rfl _ _ 208 rfl B 215 F (.agg #[.int .i64 0,.int .i64 0,.bool false]) 3 24 underlying208 H i j l rfl (by decide) (by decide) _ x.st.length (jS x.st) rfl (kT (kT b (.cells #[.int .i64 f,.int .i64 g,.bool d] 215)) (.cells #[.int .i64 f,.int .i64 g,.bool d] 215)) _ [.int .i64 f,.int .i64 g,.bool d] rfl rfl (an0 w _ _ _ _ _) (by intro u t;simp at t;rcases t with rfl|rfl|rfl<;>rfl) E (by simp;omega) ?_;intro N O m p z;obtain⟨K,J,rfl⟩:=eH m;obtain⟨G,I,M,f5⟩:=o.out.grow (st':=x.st++[⟨f,g,d⟩]) (by rw[Oz];exact m) ((aio w _ _ _).trans p) (by rcases z with h|h;exact .inl h;exact .inr λk r=>by rw[h]at r;have:=aJ r;simp at this;omega);clear m p z)
 all_goals
  go_end0;exact⟨rfl,_,G,I⟩
def XC(w:World)(B s:Nat)(v z:Value)(x:XS)(e:aV)(h:bQ w B s v z x)(q:x.st[x.st.length - 1]? =some e)(K:x.st.length<=100000):Calls prog 238 #[.pointer<|some ⟨s,1,none⟩] w λo u=>o= .returned (.agg #[.int .i64 e.l,.int .i64 e.o,.bool e.i])/\Below w.heap.size w u:=by
 have l:0<x.st.length:=by have:=(r7.1 q).1;omega
 obtain⟨n,r⟩:∃n,x.st.length=n+1:=⟨x.st.length - 1,by omega⟩
 obtain⟨a,c,rfl⟩:=eH h.row;have m:=cJ h.cell;have t:Hid (∀W,Below w.heap.size w W->Calls prog 263 #[.pointer<|some ⟨s,1,none⟩,.int .i64 n] W λo u=>o= .returned (.tuple #[.agg #[.int .i64 e.l,.int .i64 e.o,.bool e.i],.bool true])/\Below W.heap.size W u):=λW y=>
  wC W B s _ z x n e ⟨by rw[y.block s m];exact h.cell,fu h.row y,h.low⟩ (by rw[r,lJ]at q;exact q)
 have C:(w.alloc (.cells #[.int .i64 0,.int .i64 0,.bool false] 215)).cell? ⟨s,1,none⟩=some (.slice a (n+1) c):=by
  rw[<-r];exact(kS _ _ ⟨s,1,none⟩ m).trans (az h.cell 1)
 have G:n<=100000:=by omega
 clear h q l r;obtain⟨d,f,b⟩:=e;simp only at t ⊢;go_enter func238,ntmps238;go_wp2_with fail;refine(t.out _ ((aA _ _).alloc (au _) _)).mono ?_;rintro o k ⟨rfl,g⟩;obtain⟨i,j⟩:=yf g;have H:=(i w.heap.size 0<|by simp).trans (show _=some (.int .i64 0)by simp);have I:=(i w.heap.size 1<|by simp).trans (show _=some (.int .i64 0)by simp);have J:=(i w.heap.size 2<|by simp).trans (show _=some (.bool false)by simp);have f0:=(j w.heap.size 0<|by simp).trans (show _=false by simp);have f1:=(j w.heap.size 1<|by simp).trans (show _=false by simp);have f2:=(j w.heap.size 2<|by simp).trans (show _=false by simp);have L:w.heap.size<k.heap.size:=by have:=g.size;simp at this;omega
 have A:Hid (Below w.heap.size w k):=((aA _ _).alloc (au _) _).trans (g.mono<|by simp);clear i j g C t;go_wp2;have D:((((k.setCell ⟨w.heap.size,0,none⟩ (.int .i64 d)).setCell ⟨w.heap.size,1,none⟩ (.int .i64 f)).setCell ⟨w.heap.size,2,none⟩ (.bool b)).alloc (.cells #[.int .i64 d,.int .i64 f,.bool b] 215)).cell? ⟨w.heap.size,0,none⟩=(((k.setCell ⟨w.heap.size,0,none⟩ (.int .i64 d)).setCell ⟨w.heap.size,1,none⟩ (.int .i64 f)).setCell ⟨w.heap.size,2,none⟩ (.bool b)).cell? ⟨w.heap.size,0,none⟩:=kS _ _ ⟨w.heap.size,0,none⟩ (by simp;omega);have E:((((k.setCell ⟨w.heap.size,0,none⟩ (.int .i64 d)).setCell ⟨w.heap.size,1,none⟩ (.int .i64 f)).setCell ⟨w.heap.size,2,none⟩ (.bool b)).alloc (.cells #[.int .i64 d,.int .i64 f,.bool b] 215)).cell? ⟨w.heap.size,1,none⟩=(((k.setCell ⟨w.heap.size,0,none⟩ (.int .i64 d)).setCell ⟨w.heap.size,1,none⟩ (.int .i64 f)).setCell ⟨w.heap.size,2,none⟩ (.bool b)).cell? ⟨w.heap.size,1,none⟩:=kS _ _ ⟨w.heap.size,1,none⟩ (by simp;omega);have F:((((k.setCell ⟨w.heap.size,0,none⟩ (.int .i64 d)).setCell ⟨w.heap.size,1,none⟩ (.int .i64 f)).setCell ⟨w.heap.size,2,none⟩ (.bool b)).alloc (.cells #[.int .i64 d,.int .i64 f,.bool b] 215)).cell? ⟨w.heap.size,2,none⟩=(((k.setCell ⟨w.heap.size,0,none⟩ (.int .i64 d)).setCell ⟨w.heap.size,1,none⟩ (.int .i64 f)).setCell ⟨w.heap.size,2,none⟩ (.bool b)).cell? ⟨w.heap.size,2,none⟩:=kS _ _ ⟨w.heap.size,2,none⟩ (by simp;omega);refine cI (v:= .agg #[.int .i64 d,.int .i64 f,.bool b]) (by simp[results,results238,Tryz.isAgg215,Tryz.sizeOf215,go_sem,D,E,F,H,I,J]) rfl ⟨rfl,?_⟩;exact(((A.out.setCell (p:=⟨w.heap.size,0,none⟩) (au _) _).setCell (p:=⟨w.heap.size,1,none⟩) (au _) _).setCell (p:=⟨w.heap.size,2,none⟩) (au _) _).alloc (by simp;omega) _
