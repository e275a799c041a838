import Derived.Test.YtkbinfhclaafhaaGreatDoorZ05
import Derived.Lib.SliceRun
import Derived.Deep.RegionLaw
namespace Go.Proofs.YtkbinfhclaafhaaGreatDoor
open Go.RowKit
open Go.Proofs.Tryz
set_option maxRecDepth 100000
set_option maxHeartbeats 32000000
set_option linter.all false
def nB(c:Int):Bool:=c==11||(c==10||(c==12||(aS c||c==21)))
def Cl(c:Int):Prop:=c=0∨c=1∨c=3∨c=6∨c=10∨c=11∨c=12∨c=18∨c=19∨c=20∨c=21
def K0(c:Int):Prop:=(0<=c/\c<=8)∨(10<=c/\c<=12)∨(18<=c/\c<=21)
def K1(c:Int):Prop:=(0<=c/\c<=7)∨(10<=c/\c<=12)∨(18<=c/\c<=21)
def K3(c:Int):Prop:=c≠2/\K1 c
theorem DF {σ:Type}{f:σ->Int->List Int->Int}{g:σ->Int->List Int->σ}{I:σ->Prop}{P Q:Int->Prop}(h:∀s c r,I s->P c->Q (f s c r)/\I (g s c r)):∀(t:List Int)(s:σ),I s->(∀c∈t,P c)->∀c∈pass f g s t,Q c
 |[],_,_,_,c,hc=>by cases hc
 |a::r,s,hs,hp,c,hc=>by
  rw [pass]at hc;have:=h s a r hs (hp a (by simp));rcases jF.1 hc with rfl|hc
  .exact this.1
  .exact DF h r _ this.2 (fun x hx=>hp x (by simp [hx])) c hc
theorem Sh {gY tt:Int}{P:Int->Prop}(ht:P tt):∀(t:List Int)(last:Int),(∀c∈t,P c)->∀c∈kC gY tt last t,P c
 |[],_,_,c,hc=>by cases hc
 |a::r,last,hp,c,hc=>by
  rw [kC]at hc;rcases jF.1 hc with hc|hc
  .rw [hc];generalize(if a=0∨a=1∨a=2 then a else last)=q;split
   .exact ht
   .exact hp a (by simp)
  .exact Sh ht r _ (fun x hx=>hp x (by simp [hx])) c hc
theorem ac7 {aq:Int}(hs:aq=0∨aq=1){t:List Int}(ht:∀c∈t,K0 c):(∀c∈pass f6 g3 () (pass f5 g5 none (pass f4 g4 none (pass f3 g3 () (kC 2 6 aq (pass (f1 aq) (g1 aq) none t))))),Cl c)/\∀c∈rO aq t,Cl c:=by
 have a1:∀c∈pass (f1 aq) (g1 aq) none t,K1 c:=by
  refine DF (I:=fun s=>∀p,s=some p->K1 p) (P:=K0) (Q:=K1) ?_ t none (by simp) ht;intro s c r hI hc;have:K1 (f1 aq s c r):=by
   unfold f1;split
   .cases s with
    |none=>rcases hs with rfl|rfl<;>simp [K1]
    |some p=>
     simp only;split
     .simp [K1]
     .exact hI p rfl
   .unfold K0 at hc;unfold K1;omega
  exact⟨this,by intro p hp;rw [g1]at hp;obtain rfl:=aK hp;exact this⟩
 have a2:∀c∈kC 2 6 aq (pass (f1 aq) (g1 aq) none t),K1 c:=Sh (by simp [K1]) _ _ a1;have a3:∀c∈pass f3 g3 () (kC 2 6 aq (pass (f1 aq) (g1 aq) none t)),K3 c:=by
  refine DF (I:=fun _=>True) (P:=K1) (Q:=K3) ?_ _ () trivial a2;intro s c r _ hc;refine⟨?_,trivial⟩;unfold f3;split
  .simp [K3,K1]
  .exact⟨‹_›,hc⟩
 unfold rO;generalize pass f3 g3 () (kC 2 6 aq (pass (f1 aq) (g1 aq) none t))=t3 at*;have a4:∀c∈pass f4 g4 none t3,K3 c:=by
  refine DF (I:=fun s=>∀p,s=some p->K3 p) (P:=K3) (Q:=K3) ?_ t3 none (by simp) a3;intro s c r hI hc;have:K3 (f4 s c r):=by
   unfold f4;split
   .split
    .exact hI _ rfl
    .exact hc
   .exact hc
  exact⟨this,by intro p hp;rw [g4]at hp;obtain rfl:=aK hp;exact this⟩
 have a5:∀c∈pass f5 g5 none (pass f4 g4 none t3),K3 c:=by
  refine DF (I:=fun _=>True) (P:=K3) (Q:=K3) ?_ _ none trivial a4;intro s c r _ hc;refine⟨?_,trivial⟩;unfold f5;split
  .simp [K3,K1]
  .exact hc
 have a6:∀c∈pass f6 g3 () (pass f5 g5 none (pass f4 g4 none t3)),Cl c:=by
  refine DF (I:=fun _=>True) (P:=K3) (Q:=Cl) ?_ _ () trivial a5;intro s c r _ hc;refine⟨?_,trivial⟩;unfold f6;split
  .simp [Cl]
  .unfold K3 K1 at hc;unfold Cl;omega
 exact⟨a6,Sh (by simp [Cl]) _ _ a6⟩
def Jv:Int->List Int->List Int
 |_,[]=>[]
 |last,c::r=>(if c=0∨c=1 then c else if c=3/\last=0 then 0 else c)::Jv (if c=0∨c=1 then c else last) r
theorem Sg:∀(t:List Int)(last:Int),(∀c∈t,c≠2)->Jv last t=kC 0 0 last t
 |[],_,_=>rfl
 |c::r,last,h=>by
  have hc:=h c (by simp);have hr:=fun x hx=>h x (En _ hx)
  rw [Jv,kC];by_cases h0:c=0∨c=1
  .rw [aj h0,aj h0,aj (by omega:c=0∨c=1∨c=2),ai (by omega:¬(c=3/\c=0)),Sg r c hr]
  .rw [ai h0,ai h0,ai (by omega:¬(c=0∨c=1∨c=2)),Sg r last hr]
def sI(ax:Int):List Int->Int
 |[]=>bC ax
 |c::r=>if nB c=true then sI ax r else bC c
def fM(ax:Int)(s c:Int)(r:List Int):Int:=if nB c=true then(if s=sI ax r then s else c)else c
def gM(s c:Int)(_:List Int):Int:=if nB c=true then s else bC c
def Ca(e c:Int):Int:=if nB c=true then e else c
theorem Cl.aaS {c:Int}(h:Cl c):(nB c=true↔bC c<0):=by
 unfold Cl at h;rcases h with rfl|rfl|rfl|rfl|rfl|rfl|rfl|rfl|rfl|rfl|rfl<;>decide
theorem aa3 {ax:Int}(he:ax=0∨ax=1):∀t:List Int,(∀c∈t,Cl c)->sI ax t=qE ax t
 |[],_=>by rw [sI,qE];rcases he with rfl|rfl<;>decide
 |c::r,h=>by
  have hc:=(h c (by simp)).aaS;rw [sI,qE,aa3 he r (fun x hx=>h x (by simp [hx]))];by_cases hn:nB c=true
  .rw [aj hn,aj (hc.1 hn)]
  .rw [ai hn,ai (fun h'=>hn (hc.2 h'))]
theorem M0 {c:Int}(h:¬bC c<0):bC c=0∨bC c=1:=by
 unfold bC at*;split
 .exact .inl rfl
 .split
  .exact .inr rfl
  .rename_i h0 h1;rw [ai h0,ai h1]at h;exact absurd (by decide) h
theorem R7 {ax e:Int}(he:ax=0∨ax=1):∀(t:List Int)(s:Int),(s=0∨s=1)->(∀c∈t,Cl c)->(pass (fM ax) gM s t).map (Ca e)=pass (fN ax e) gN s t
 |[],_,_,_=>rfl
 |c::r,s,hs,h=>by
  have hc:=(h c (by simp)).aaS;have hr:=fun x hx=>h x (En _ hx)
  rw [pass,pass,pX];by_cases hn:nB c=true
  .have hlt:=hc.1 hn;have hg:gM s c r=s:=by rw [gM,aj hn]
   have hg':gN s c r=s:=by rw [gN,aj hlt]
   rw [hg,hg',R7 he r s hs hr,fM,aj hn,aa3 he r hr,fN,aj hlt]
   congr 1
   by_cases hx:s=qE ax r
   .rw [aj hx,aj hx,Ca,ai (by rcases hs with rfl|rfl<;>decide)]
   .rw [ai hx,ai hx,Ca,aj hn]
  .have hge:¬bC c<0:=fun h'=>hn (hc.2 h')
   have hg:gM s c r=bC c:=by rw [gM,ai hn]
   have hg':gN s c r=bC c:=by rw [gN,ai hge]
   rw [hg,hg',R7 he r _ (M0 hge) hr,fM,ai hn,fN,ai hge,Ca,ai hn]
theorem ajp {aq ax e:Int}(hs:aq=0∨aq=1)(he:e=0∨e=1){t:List Int}:∀c∈Cb aq ax e t,c=0∨c=1∨c=3∨c=6:=by
 refine DF (I:=fun s=>s=0∨s=1) (P:=fun _=>True) (Q:=fun c=>c=0∨c=1∨c=3∨c=6) ?_ t aq hs (fun _ _=>trivial);intro s c r hI _;by_cases hn:bC c<0
 .rw [fN,aj hn,gN,aj hn];refine⟨?_,hI⟩;split<;>omega
 .rw [fN,ai hn,gN,ai hn];refine⟨?_,M0 hn⟩;unfold bC at hn;by_cases h0:c=0
  .exact .inl h0
  .rw [ai h0]at hn;by_cases h1:c=1∨c=3∨c=6
   .omega
   .rw [ai h1]at hn;exact absurd (by decide) hn
def qm(own:Int)(t:List Int)(a:Nat):Nat->Bool
 |0=>false
 |m+1=>bC (t.getD a 0)==own||qm own t (a+1) m
theorem OX(p:Int->Bool)(t:List Int):∀m a,kz p t a (m+1)=(p (t.getD a 0)||kz p t (a+1) m)
 |0,a=>by simp [kz]
 |m+1,a=>by
  rw [kz,OX p t m a,kz,Bool.or_assoc,show a+(m+1)=a+1+m by omega]
theorem VW(own:Int)(t:List Int):∀m a,kz (Ct own) t a m=qm own t a m
 |0,a=>rfl
 |m+1,a=>by rw [OX,qm,VW own t m (a+1)];rfl
def qF(t:List Int)(a:Nat):Nat->Int->Int
 |0,w=>w
 |m+1,w=>qF t (a+1) m (if bC (t.getD a 0)= -1 then w else bC (t.getD a 0))
theorem Su {own:Int}(ho:own=0∨own=1)(t:List Int):∀m a w,(w= -1∨w=1 - own)->qm own t a m=false->(qF t a m w=if w= -1/\kz (vH own) t a m=false then -1 else 1 - own)
 |0,a,w,hw,_=>by
  rw [qF,kz];rcases hw with rfl|rfl
  .simp
  .rw [ai (by omega)]
 |m+1,a,w,hw,hh=>by
  rw [qm,FT]at hh;have hne:bC (t.getD a 0)≠own:=by simpa using hh.1
  rw [qF,OX];by_cases hn:bC (t.getD a 0)= -1
  .rw [aj hn,Su ho t m (a+1) w hw hh.2];have:vH own (t.getD a 0)=false:=by unfold vH;rw [hn];rfl
   rw [this,FR]
  .have EM:bC (t.getD a 0)=0∨bC (t.getD a 0)=1:=M0 (by
    intro hlt;unfold bC at hn hlt;split at hlt
    .omega
    .split at hlt
     .omega
     .rename_i x y;rw [ai x,ai y]at hn;exact hn rfl)
   have:vH own (t.getD a 0)=true:=by unfold vH;rw [J8,Lj,bne_iff_ne];exact⟨by omega,hne⟩
   rw [ai hn,this,Su ho t m (a+1) _ (.inr (by omega)) hh.2,ai (by omega),ai (by simp)]
theorem RG {aq:Int}(hs:aq=0∨aq=1)(t:List Int):∀m,jL aq t m=0∨jL aq t m=1
 |0=>hs
 |m+1=>by
  rw [jL];split
  .exact RG hs t m
  .exact M0 ‹_›
def sK(t:List Int)(p:Nat×Nat)(own aq:Int):Int:=
 if qm own t (p.1+1) (p.2 - (p.1+1))=true then own
 else if qF t (p.1+1) (p.2 - (p.1+1)) (-1)≠ -1/\jL aq t p.1≠qF t (p.1+1) (p.2 - (p.1+1)) (-1)then own else qF t (p.1+1) (p.2 - (p.1+1)) (-1)
def AK(t orig:List Int)(p:Nat×Nat)(own aq:Int):List Int:=
 if sK t p own aq= -1 then t else nH orig (sK t p own aq) p.2 (nH orig (sK t p own aq) p.1 t)
theorem aj6 {own aq:Int}(ho:own=0∨own=1)(hs:aq=0∨aq=1)(t orig:List Int)(p:Nat×Nat):AK t orig p own aq=qG t orig p own aq:=by
 unfold AK qG sK xM;rw [VW];have hl:=RG hs t p.1;cases hh:qm own t (p.1+1) (p.2 - (p.1+1))with
 |true=>
  simp only [y8];rw [ai (by omega),ai (by simp)]
 |false=>
  have hf:=Su ho t (p.2 - (p.1+1)) (p.1+1) (-1) (.inl rfl) hh;cases ho':kz (vH own) t (p.1+1) (p.2 - (p.1+1))with
  |false=>
   rw [ho',aj ⟨rfl,rfl⟩]at hf;rw [hf];simp
  |true=>
   rw [ho',ai (by simp)]at hf;rw [hf];have e:(if(1 - own≠ -1/\jL aq t p.1≠1 - own)then own else 1 - own)=jL aq t p.1:=by
    by_cases hx:jL aq t p.1=1 - own
    .rw [ai (fun h=>h.2 hx),hx]
    .rw [aj ⟨by omega,hx⟩];omega
   simp only [if_false,Bool.false_eq_true];rw [e,ai (by omega),ai (by simp)]
def iK(l c:Int):Int:=if(c=3∨c=6)/\l%2=0 then 2 else if(c=3∨c=6)∨c≠(if l%2=0 then 0 else 1)then 1 else 0
theorem alc {l c:Int}(hc:c=0∨c=1∨c=3∨c=6):l+iK l c=mF c l:=by
 unfold iK mF;by_cases hl:l%2=0
 .rw [aj hl,aj hl];rcases hc with rfl|rfl|rfl|rfl<;>simp [hl]
 .rw [ai hl,ai hl];rcases hc with rfl|rfl|rfl|rfl<;>simp [hl]
def jZ(l:List Int)(x:Nat×Int×Int):List Int:=l.set x.1 (mF x.2.2 x.2.1)
def ig(l:List Int)(x:Nat×Int×Int):List Int:=l.set x.1 (l.getD x.1 0+iK x.2.1 x.2.2)
theorem VU:∀(xs:List (Nat×Int×Int))(l:List Int),(xs.map Prod.fst).Nodup->(∀x∈xs,l.getD x.1 0=x.2.1/\(x.2.2=0∨x.2.2=1∨x.2.2=3∨x.2.2=6))->xs.foldl ig l=xs.foldl jZ l
 |[],_,_,_=>rfl
 |x::xs,l,hn,h=>by
  rw [pX,Bn]at hn;have hx:=h x (by simp);have e:ig l x=jZ l x:=by
   unfold ig jZ;rw [hx.1,alc hx.2]
  rw [o6,o6,e];refine VU xs _ hn.2 fun y hy=> ?_
  have hy':=h y (by simp [hy]);refine⟨?_,hy'.2⟩;unfold jZ;rw [getD_set_ne]
  .exact hy'.1
  .intro he;exact hn.1 (by rw [he];exact jr.2 ⟨y,hy,rfl⟩)
def iM(at':List Nat)(au:Int)(t:List Int):List (Nat×Int×Int):=(at'.zip t).map fun x=>(x.1,au,x.2)
theorem acT(at':List Nat)(au:Int)(t:List Int)(h:at'.length<=t.length):(iM at' au t).map Prod.fst=at':=by
 unfold iM;rw [KM];show(at'.zip t).map Prod.fst=at';exact List.map_fst_zip h
def jo:List Int->Bool
 |[]=>true
 |c::r=>if c=10 then true else if jX c=true then jo r else false
def nV(c:Int)(r:List Int):Bool:=c==10||(jX c&&jo r)
def lG(para:Int):Int->List Int->List Int->List Int
 |_,[],_=>[]
 |_,_::_,[]=>[]
 |prev,c::cs,o::os=>
  (if nV c cs=true then para else if bN c=false then prev else o)::lG para (if nV c cs=true then para else if bN c=false then prev else o) cs os
def AA(para c o:Int):Int:=if c=10 then para else if bN c=false then -1 else o
def ze(para c:Int)(r:List Int)(v:Int):Int:=if jX c=true/\jo r=true then para else v
def l1(para:Int):List Int->List Int->List Int
 |[],_=>[]
 |_::_,[]=>[]
 |c::cs,o::os=>ze para c cs (AA para c o)::l1 para cs os
def wZ:Int->List Int->List Int
 |_,[]=>[]
 |a,v::r=>(if v= -1 then a else v)::wZ (if v= -1 then a else v) r
theorem XD {para:Int}(hp:para≠ -1):∀(cs os:List Int)(prev:Int),(∀o∈os,o≠ -1)->wZ prev (l1 para cs os)=lG para prev cs os
 |[],_,_,_=>rfl
 |_::_,[],_,_=>rfl
 |c::cs,o::os,prev,h=>by
  have ho:=h o (by simp);have key:(if ze para c cs (AA para c o)= -1 then prev else ze para c cs (AA para c o))=(if nV c cs=true then para else if bN c=false then prev else o):=by
   unfold ze AA;by_cases h10:c=10
   .subst h10;have e1:¬(jX 10=true/\jo cs=true):=fun h=>absurd h.1 (by decide)
    have e2:nV 10 cs=true:=rfl;rw [ai e1,aj rfl,ai hp,aj e2]
   .have e2:nV c cs=(jX c&&jo cs):=by
     unfold nV;rw [show(c==10)=false by simpa using h10,FR]
    rw [e2];by_cases hl:jX c=true/\jo cs=true
    .rw [aj hl,ai hp,aj (by rw [J8];exact hl)]
    .rw [ai hl,ai h10,ai (show¬(jX c&&jo cs)=true by rw [J8];exact hl)];by_cases hf:bN c=false
     .rw [aj hf,aj hf,aj rfl]
     .rw [ai hf,ai hf,ai ho]
  rw [l1,wZ,lG,key,XD hp cs os _ (fun x hx=>h x (by simp [hx]))]
def zi(t rs:List Int):List (Nat×Nat):=match dF t rs t.length 0 ([],[])with
 |none=>[]
 |some out=>out.mergeSort fun a b=>decide (a.1<=b.1)
theorem aj8(t rs:List Int):ko t rs (zi t rs):=by
 unfold ko zi;cases hp:dF t rs t.length 0 ([],[])with
 |none=>rfl
 |some out=>
  simp only;refine⟨List.mergeSort_perm _ _,?_⟩;have:=List.pairwise_mergeSort (le:=fun(a b:Nat×Nat)=>decide (a.1<=b.1)) (by intro a b c;simp;omega) (by intro a b;simp;omega) out;exact this.imp (by intro a b h;simpa using h)
theorem ko.is {t rs:List Int}{ps:List (Nat×Nat)}(h:ko t rs ps):ps=zi t rs:=h.one (aj8 t rs)
def zf(t orig:List Int)(ps:List (Nat×Nat))(e aq:Int):List Int:=ps.foldl (fun t p=>qG t orig p e aq) t
theorem R5(orig:List Int)(e aq:Int):∀(ps:List (Nat×Nat))(t:List Int),(zf t orig ps e aq).length=t.length
 |[],t=>rfl
 |p::ps,t=>by rw [zf,o6];exact(R5 orig e aq ps _).trans (aj5 _ _ _ _ _)
def JX(rs kinds:List Int)(s:Sq):List Int:=
 Cb s.aq s.ax (s.level%2) (zf (rO s.aq (bz kinds s.at')) (bz kinds s.at') (zi (rO s.aq (bz kinds s.at')) (bz rs s.at')) (s.level%2) s.aq)
def oP(rs kinds:List Int)(s:Sq):List (Nat×Int×Int):=iM s.at' s.level (JX rs kinds s)
def gz(cs:List Int)(d:Int):Int:=if d=0∨d=1 then d else found cs
def gu(rs cs:List Int)(d:Int):List Int:=
 lG (gz cs d) (gz cs d) cs (((gF cs (aZ cs (gz cs d)) (aN cs) (gz cs d)).flatMap (oP rs (gZ cs (gz cs d)))).foldl jZ (aZ cs (gz cs d)))
structure fD(w:World)(B s:Nat)(v:Value)(l:List Nat):Prop where
 cell:w.heap[s]? =some (.cells #[v] 257 (0,0))
 row:w.ownsRow B 3 1 v l.length (iv (nl l))
 low:B<=s
structure bw(w w':World)(s:Nat)(v v':Value):Prop where
 os:w'.os=w.os
 tape:w'.tape=w.tape
 output:w'.output=w.output
 size:w.heap.size<=w'.heap.size
 block:∀k,k<w.heap.size->k≠s->v.ownBlock≠some k->w'.heap[k]? =w.heap[k]?
 own:v'.ownBlock=v.ownBlock∨∀k,v'.ownBlock=some k->w.heap.size<=k
theorem bw.below {w w' w0:World}{B s:Nat}{v v':Value}{l:List Nat}(h:bw w w' s v v')(hs:fD w B s v l)(hb:Below B w0 w):Below B w0 w':=
 hb.trans ⟨h.os,h.tape,h.output,h.size,fun k hk=>by
  have IA:=hs.low;have hlt:k<w.heap.size:=ku (ku hk IA) (fW (bZ hs.cell));refine h.block k hlt (by omega) ?_;intro e;have:=sJ hs.row k e;omega⟩
theorem fD.ne {w:World}{B s:Nat}{v:Value}{l:List Nat}(h:fD w B s v l):v.ownBlock≠some s:=by
 rcases h.row.2 with⟨rfl,_⟩|⟨g,cp,cur,rfl,_,hh,_⟩
 .simp [Value.ownBlock]
 .simp only [Value.ownBlock];intro e;obtain rfl:=aK e;rw [h.cell]at hh;simp at hh
theorem fD.grow {w w5:World}{B s:Nat}{v v5:Value}{l l':List Nat}{m:Nat}(h:fD w B s v l)(hown:w5.ownsRow B 3 1 v5 m (iv (nl l')))(hg:w.grownBy w5 v.ownBlock)(hv:v5.ownBlock=v.ownBlock∨v5.ownBlock=some (w.heap.size+1)):
  fD (w5.setCell ⟨s,0,none⟩ v5) B s v5 l'/\bw w (w5.setCell ⟨s,0,none⟩ v5) s v v5/\w5.cell? ⟨s,0,none⟩=some v/\w5.frozen? ⟨s,0,none⟩=false:=by
 have hlt:=bZ h.cell;have iF:w5.heap[s]? =some (.cells #[v] 257 (0,0)):=by rw [hg.block s hlt h.ne.symm];exact h.cell
 have hne:v5.ownBlock≠some s:=by
  rcases hv with hv|hv
  .rw [hv];exact h.ne
  .rw [hv];intro e;have:=aK e;omega
 have hm:m=l'.length:=by have:=hown.1;rw [mH,gw]at this;omega
 subst hm;refine⟨⟨by rw [fK iF];rfl,jm hown hne 0 v5,h.low⟩,⟨hg.os,hg.tape,hg.output,?_,?_,?_⟩,az iF 0,cH iF 0⟩
 .have:=hg.size;simpa using this
 .intro k hk hks hkv;rw [gK]
  .exact hg.block k hk (fun e=>hkv e.symm)
  .exact hks
 .rcases hv with hv|hv
  .exact .inl hv
  .exact .inr fun k hk=>by rw [hv]at hk;have:=aK hk;omega
theorem RJ(w:World)(B s:Nat)(v:Value)(l:List Nat)(h:fD w B s v l):Calls prog 244 #[.pointer (some ⟨s,0,none⟩)] w fun e w'=>e= .returned (.int .i64 l.length)/\w'=w:=by
 obtain⟨a,c,rfl⟩:=ey h.row;have c0:w.cell? ⟨s,0,none⟩=some (.slice a l.length c):=az h.cell 0;clear h;go_enter func244,ntmps244;go_wp2;go_ret;exact⟨rfl,rfl⟩
theorem VZ(w:World)(B s:Nat)(v:Value)(l:List Nat)(i:Nat)(h:fD w B s v l)(hi:i<l.length):Calls prog 234 #[.pointer (some ⟨s,0,none⟩),.int .i64 i] w fun e w'=>e= .returned (.tuple #[.int .i64 (l.getD i 0:Nat),.bool true])/\w'=w:=by
 obtain⟨g,c,rfl,_,_,_⟩:=fS h.row (by omega);have c0:w.cell? ⟨s,0,none⟩=some (.slice (some ⟨g,0,none⟩) l.length c):=az h.cell 0;have c1:=iJ h.row i (by rw [gw];exact hi);rw [mJ _ _ hi]at c1;generalize l.getD i 0=x at*;generalize l.length=n at*;have hi':((i:Int)<(n:Int)):=by omega
 have hg:decide ((i:Int)<0)=false:=by simp
 clear h;go_enter func234,ntmps234;go_wp2;go_ret2;exact⟨rfl,rfl⟩
theorem aeN(w:World)(s:Nat)(i:Int)(hi:i<0):Calls prog 234 #[.pointer (some ⟨s,0,none⟩),.int .i64 i] w fun e w'=>e= .returned (.tuple #[.int .i64 0,.bool false])/\w'=w:=by
 go_enter func234,ntmps234;go_wp2;go_ret2;exact⟨rfl,rfl⟩
theorem abQ(w:World)(B s:Nat)(v:Value)(l:List Nat)(i:Nat)(h:fD w B s v l)(hl:l.length<=1000000):Calls prog 197 #[.pointer (some ⟨s,0,none⟩),.int .i64 i] w fun e w'=>e= .returned (.tuple #[])/\∃v',fD w' B s v' (l++[i])/\bw w w' s v v':=by
 obtain⟨iI,eY,eZ,fe,fh⟩:=gW Tryz.qB;have c0:w.cell? ⟨s,0,none⟩=some v:=az h.cell 0;have f0:w.frozen? ⟨s,0,none⟩=false:=cH h.cell 0;have hrow:=h.row;have hbz:B<=w.heap.size:=bU h.low (fW (bZ h.cell));have HS:=ah h;obtain⟨a,c,rfl⟩:=ey hrow;clear h;go_enter func197,ntmps197;go_wp2_with(at_builtin;refine xU _ rfl _ _ 31 rfl B 3 iI (.int .i64 0) 8 underlying31 eY eZ fe fh rfl (by decide) _ _ _ rfl hrow _ _ _ rfl rfl rfl hl hbz ?_);intro v5 w5 b9 cA lM;obtain⟨a5,yM,rfl⟩:=ey b9;obtain⟨qj,xg,c5,f5⟩:=HS.out.grow (by rw [Dx,MA]at b9;exact b9) cA lM;have fC:=ah qj;have F5:=ah xg;clear qj xg b9 cA lM hrow c0 f0;go_wp2;go_end0;exact⟨rfl,_,fC.out,F5.out⟩
theorem MI {B g n c z:Nat}{e:TypeId}:∀(vs:List Value)(o:Nat)(w:World)(xs:List Value),w.ownsRow B e z (.slice (some ⟨g,0,none⟩) n c) n xs->∃xs',(w.setCells g o vs).ownsRow B e z (.slice (some ⟨g,0,none⟩) n c) n xs'/\w.grownBy (w.setCells g o vs) (some g)/\∀j,j<o->xs'[j]? =xs[j]?
 |[],_,w,xs,h=>⟨xs,h,jt _ _,fun _ _=>rfl⟩
 |v::vs,o,w,xs,h=>by
  obtain⟨h1,h2⟩:=z7 h o v;obtain⟨xs',h3,h4,h5⟩:=MI vs (o+1) _ _ h1;refine⟨xs',h3,h2.trans h4,fun j hj=> ?_⟩;rw [h5 j (by omega),ad8 (by omega)]
theorem TA {α:Type}(xs ys:List α)(k:Nat)(h:∀j,j<k->ys[j]? =xs[j]?):ys.take k=xs.take k:=by
 apply Gz;intro j;rw [OI,OI];split
 .exact h j (by assumption)
 .rfl
theorem fD.cut {w:World}{B s g c n:Nat}{l:List Nat}{vs:List Value}(h:fD w B s (.slice (some ⟨g,0,none⟩) l.length c) l)(hn:n<l.length):
  fD ((w.setCells g n vs).setCell ⟨s,0,none⟩ (.slice (some ⟨g,0,none⟩) n c)) B s (.slice (some ⟨g,0,none⟩) n c) (l.take n)/\bw w ((w.setCells g n vs).setCell ⟨s,0,none⟩ (.slice (some ⟨g,0,none⟩) n c)) s (.slice (some ⟨g,0,none⟩) l.length c) (.slice (some ⟨g,0,none⟩) n c)/\(w.setCells g n vs).cell? ⟨s,0,none⟩=some (.slice (some ⟨g,0,none⟩) l.length c)/\(w.setCells g n vs).frozen? ⟨s,0,none⟩=false:=by
 have hlt:=bZ h.cell;have hne:=h.ne;have gV:g≠s:=by simpa [Value.ownBlock]using hne
 obtain⟨xs',h1,h2,h3⟩:=MI vs n w _ h.row;have iF:(w.setCells g n vs).heap[s]? =some (.cells #[.slice (some ⟨g,0,none⟩) l.length c] 257 (0,0)):=by rw [h2.block s hlt (by simpa using gV.symm)];exact h.cell
 have h4:=MJ h1 n (by omega);rw [GL,TA _ _ n h3,<-GL n,Rw,GL]at h4;refine⟨⟨by rw [fK iF];rfl,?_,h.low⟩,⟨h2.os,h2.tape,h2.output,by have:=h2.size;simpa using this,?_,.inl rfl⟩,az iF 0,cH iF 0⟩
 .have:=jm h4 (s:=s) (by simpa [Value.ownBlock]using gV) 0 (.slice (some ⟨g,0,none⟩) n c);simpa [jd (fW hn)]using this
 .intro k hk hks hkv;rw [gK]
  .exact h2.block k hk (fun e=>hkv (by rw [e];rfl))
  .exact hks
theorem WV(w:World)(B s:Nat)(v:Value)(l:List Nat)(n:Nat)(h:fD w B s v l)(hn:n<l.length)(hl:l.length<=1000000):Calls prog 235 #[.pointer (some ⟨s,0,none⟩),.int .i64 n] w fun e w'=>e= .returned (.tuple #[])/\∃v',fD w' B s v' (l.take n)/\bw w w' s v v':=by
 obtain⟨g,c,rfl,hcap,sw,hgB⟩:=fS h.row (by omega);have c0:w.cell? ⟨s,0,none⟩=some (.slice (some ⟨g,0,none⟩) l.length c):=az h.cell 0;have f0:w.frozen? ⟨s,0,none⟩=false:=cH h.cell 0;have Y0:=adY (P:=prog) w 31 3 0 (.int .i64 0) underlying31 Tryz.zeroValue3 rfl rfl g n (l.length - n) (c - n) (by omega) (fun j hj=>by
   rw [iJ h.row (n+j) (by rw [gw];omega)];rfl) (fun j _=>Bu h.row (n+j))
 have Zt:n<=c:=by omega
 have hni:((n:Int)<(l.length:Int)):=by omega
 obtain⟨hS,hF,c5,f5⟩:=h.cut (vs:=List.replicate (l.length - n) (.int .i64 0)) hn;have HS:=ah hS;have HF:=ah hF;clear h hS hF;generalize w.setCells g n (List.replicate (l.length - n) (.int .i64 0))=Wc at*;generalize l.length=L at*;go_enter func235,ntmps235;go_wp2;go_end0;exact⟨rfl,_,HS.out,HF.out⟩
theorem akz(w:World)(B s:Nat)(v:Value)(l:List Nat)(x:Nat)(h:fD w B s v (l++[x]))(hl:l.length<=100000):Calls prog 198 #[.pointer (some ⟨s,0,none⟩)] w fun e w'=>e= .returned (.tuple #[.int .i64 x,.bool true])/\∃v',fD w' B s v' l/\bw w w' s v v':=by
 have hlen:(l++[x]).length=l.length+1:=by simp
 obtain⟨a,c,rfl⟩:=ey h.row;have c0:w.cell? ⟨s,0,none⟩=some (.slice a (l.length+1) c):=by have:=az h.cell 0;rw [hlen]at this;exact this
 have kf:Hid (Calls prog 234 #[.pointer (some ⟨s,0,none⟩),.int .i64 l.length] w fun e w'=>e= .returned (.tuple #[.int .i64 x,.bool true])/\w'=w):=by
  have:=VZ w B s _ (l++[x]) l.length h (by omega);have hx:(l++[x]).getD l.length 0=x:=by simp
  rw [hx]at this;exact this
 have zB:Hid (Calls prog 235 #[.pointer (some ⟨s,0,none⟩),.int .i64 l.length] w fun e w'=>e= .returned (.tuple #[])/\∃v',fD w' B s v' l/\bw w w' s (.slice a (l++[x]).length c) v'):=by
  have:=WV w B s _ (l++[x]) l.length h (by omega) (by omega);have hx:(l++[x]).take l.length=l:=by simp
  rw [hx]at this;exact this
 clear h hlen;generalize l.length=L at*;go_enter func198,ntmps198;go_wp2_with fail;refine kf.out.mono ?_;rintro ev wx ⟨rfl,hx⟩;have hx':=hx.symm;subst hx';go_wp2_with fail;refine zB.out.mono ?_;rintro ev w2 ⟨rfl,v',hS,hF⟩;have HS:=ah hS;have HF:=ah hF;clear hS hF;go_wp2;go_ret2;exact⟨rfl,_,HS.out,HF.out⟩
theorem aky(w:World)(B s:Nat)(v:Value)(h:fD w B s v []):Calls prog 198 #[.pointer (some ⟨s,0,none⟩)] w fun e w'=>e= .returned (.tuple #[.int .i64 0,.bool false])/\w'=w:=by
 obtain⟨a,c,rfl⟩:=ey h.row;have c0:w.cell? ⟨s,0,none⟩=some (.slice a 0 c):=az h.cell 0;clear h;go_enter func198,ntmps198;go_wp2_with fail;refine(aeN w s (-1) (by omega)).mono ?_;rintro ev wx ⟨rfl,hx⟩;have hx':=hx.symm;subst hx';go_wp2;go_ret2;exact⟨rfl,rfl⟩
def kS(c:Int):Bool:=c==13||(c==14||(c==15||c==16))
theorem mG(c:Int)(w:World):Calls prog 196 #[.int .i64 c] w fun e w'=>e= .returned (.bool (aS c))/\w'=w:=by
 obtain⟨q,hq⟩:∃q,q=aS c:=⟨_,rfl⟩
 rw [<-hq];have HQ:=ah hq;clear hq;cases h1:(c==18)
 .cases h2:(c==19)
  .go_enter func196,ntmps196;go_wp2;go_ret;exact⟨iw (by rw [HQ.out,aS,h1,h2];rfl),rfl⟩
  .go_enter func196,ntmps196;go_wp2;go_ret;exact⟨iw (by rw [HQ.out,aS,h1,h2];rfl),rfl⟩
 .go_enter func196,ntmps196;go_wp2;go_ret;exact⟨iw (by rw [HQ.out,aS,h1];rfl),rfl⟩
theorem C3(c:Int)(w:World):Calls prog 202 #[.int .i64 c] w fun e w'=>e= .returned (.bool (kS c))/\w'=w:=by
 obtain⟨q,hq⟩:∃q,q=kS c:=⟨_,rfl⟩
 rw [<-hq];have HQ:=ah hq;clear hq;cases h1:(c==13)<;>cases h2:(c==14)<;>cases h3:(c==15)
 all_goals
  go_enter func202,ntmps202;go_wp2;go_ret;exact⟨iw (by rw [HQ.out,kS,h1,h2,h3];rfl),rfl⟩
theorem vM(c:Int)(w:World):Calls prog 160 #[.int .i64 c] w fun e w'=>e= .returned (.bool (!bN c))/\w'=w:=by
 have hl:(!bN c)=(kS c||(c==17||c==9)):=by
  rw [Cw];simp only [bN,kS,adx,adw,ae7,FT,BA,FU,yH];omega
 rw [hl];clear hl;have HE:=ah (C3 c w);generalize kS c=eb at*;cases eb<;>cases h2:(c==17)
 all_goals
  go_enter func160,ntmps160;go_wp2_with fail;refine HE.out.mono ?_;rintro ev wx ⟨rfl,hx⟩;have hx':=hx.symm;subst hx';go_wp2;go_ret;exact⟨iw (by simp),rfl⟩
theorem KX(c:Int)(w:World):Calls prog 217 #[.int .i64 c] w fun e w'=>e= .returned (.int .i64 (bC c))/\w'=w:=by
 obtain⟨q,hq⟩:∃q,q=bC c:=⟨_,rfl⟩
 rw [<-hq];have HQ:=ah hq;clear hq;cases h0:(c==0)<;>cases h1:(c==1)<;>cases h3:(c==3)<;>cases h6:(c==6)
 all_goals
  have HV:Hid (q=if(c==0)=true then 0 else if(c==1||(c==3||c==6))=true then 1 else -1):=by
   show _=_;rw [HQ.out,bC];simp
  go_enter func217,ntmps217;go_wp2;go_ret;exact⟨bI (by rw [HV.out,h0,h1,h3,h6];rfl),rfl⟩
theorem AW(l:Int)(w:World)(hl:0<=l):Calls prog 96 #[.int .i64 l] w fun e w'=>e= .returned (.int .i64 (l%2))/\w'=w:=by
 obtain⟨q,hq⟩:∃q,q=l%2:=⟨_,rfl⟩
 have EM:q=0∨q=1:=by omega
 rw [<-hq];rcases EM with rfl|rfl
 .have h':(l%2==0)=true:=by simpa using hq.symm
  clear hq;go_enter func96,ntmps96;go_wp2;go_ret;exact⟨rfl,rfl⟩
 .have h':(l%2==0)=false:=by rw [<-hq];rfl
  clear hq;go_enter func96,ntmps96;go_wp2;go_ret;exact⟨rfl,rfl⟩
theorem O8(c:Int)(w:World):Calls prog 215 #[.int .i64 c] w fun e w'=>e= .returned (.bool (nB c))/\w'=w:=by
 have HI:=ah (mG c w);unfold nB;generalize aS c=ib at*;cases h1:(c==11)<;>cases h2:(c==10)<;>cases h3:(c==12)
 case false.false.false=>
  cases ib;all_goals
   go_enter func215,ntmps215;go_wp2_with fail;refine HI.out.mono ?_;rintro ev wx ⟨rfl,hx⟩;have hx':=hx.symm;subst hx';go_wp2;go_ret;exact⟨iw (by simp),rfl⟩
 all_goals
  go_enter func215,ntmps215;go_wp2;go_ret;exact⟨iw (by simp),rfl⟩
def DW(c:Int):Bool:=c==11||(aS c||(c==21|| !bN c))
theorem afn(c:Int)(w:World):Calls prog 162 #[.int .i64 c] w fun e w'=>e= .returned (.bool (DW c))/\w'=w:=by
 have HI:=ah (mG c w);have HT:=ah (vM c w);unfold DW;generalize aS c=ib at*;generalize(!bN c)=tb at*;cases h1:(c==11)
 .cases ib
  .cases h3:(c==21)
   .go_enter func162,ntmps162;go_wp2_with fail;refine HI.out.mono ?_;rintro ev wx ⟨rfl,hx⟩;have hx':=hx.symm;subst hx';go_wp2_with fail;refine HT.out.mono ?_;rintro ev wx ⟨rfl,hx⟩;have hx':=hx.symm;subst hx';go_wp2;go_ret;exact⟨iw (by simp),rfl⟩
   .go_enter func162,ntmps162;go_wp2_with fail;refine HI.out.mono ?_;rintro ev wx ⟨rfl,hx⟩;have hx':=hx.symm;subst hx';go_wp2;go_ret;exact⟨iw (by simp),rfl⟩
  .go_enter func162,ntmps162;go_wp2_with fail;refine HI.out.mono ?_;rintro ev wx ⟨rfl,hx⟩;have hx':=hx.symm;subst hx';go_wp2;go_ret;exact⟨iw (by simp),rfl⟩
 .go_enter func162,ntmps162;go_wp2;go_ret;exact⟨iw (by simp),rfl⟩
theorem fD.setOther {w:World}{B s g:Nat}{v:Value}{l:List Nat}(h:fD w B s v l)(gV:g≠s)(Di:v.ownBlock≠some g)(k:Nat)(u:Value):fD (w.setCell ⟨g,k,none⟩ u) B s v l:=
 ⟨by
  rw [gK]
  .exact h.cell
  .exact gV.symm,jm h.row Di k u,h.low⟩
theorem bf.BF {w w':World}{B g n c s:Nat}{v v':Value}{t:List Int}(h:bf w B g n c t)(hf:bw w w' s v v')(gV:g≠s)(Di:v.ownBlock≠some g):bf w' B g n c t:=
 nC h fun k o hk ho=>by
  have:g=k:=by simpa [Value.ownBlock]using hk
  subst this;rw [hf.block g (bZ ho) gV Di];exact ho
theorem bw.Ey {w w':World}{s g:Nat}{v v':Value}(hf:bw w w' s v v')(hg:g<w.heap.size)(Di:v.ownBlock≠some g):v'.ownBlock≠some g:=by
 rcases hf.own with h|h
 .rw [h];exact Di
 .intro e;have:=h g e;omega
theorem aa0:∀(l:List Nat)(n:Nat),l.Nodup->(∀a∈l,a<n)->l.length<=n
 |[],n,_,_=>by simp
 |a::l,0,_,h=>by have:=h a (by simp);omega
 |a::l,n+1,hn,h=>by
  have ih:=aa0 ((a::l).erase n) n (hn.erase n) (fun b hb=>by
   have h1:=h b (aef hb);have h2:b≠n:=fun e=>by subst e;exact(adZ hn) hb
   omega)
  by_cases hm:n∈a::l
  .rw [aec hm]at ih;omega
  .rw [ad5 hm]at ih;omega
theorem ai9(cs:List Int)(n b off cap:Nat)(w:World)(hl:cs.length=n)(hn:n<=1000)(hc:bG w b off cs)(hb:b<w.heap.size):
  Calls prog 140 #[.slice (some ⟨b,off,none⟩) n cap] w fun e w'=>∃g,e= .returned (.slice (some ⟨g,0,none⟩) n n)/\bh w' w.heap.size 3 g n (iv (lS cs))/\Below w.heap.size w w':=by
 have hmk:=run_make_row' (P:=prog) 31 3 (.int .i64 0) 8 underlying31 Tryz.qB rfl .i64 .i64 n (by omega) (by omega);have HC:Hid (bG w b off cs/\b<w.heap.size/\cs.length=n):=⟨hc,hb,hl⟩
 obtain⟨W1,hW1⟩:∃W1,W1=(w.alloc (.cells (madeCells #[.int .i64 0] n) 3)).alloc (.cells #[.slice none 0 0] 257):=⟨_,rfl⟩
 have aG:Hid (Below w.heap.size w W1):=by rw [hW1];exact((aA _ _).alloc (ay _) _).alloc (by simp) _
 have dz:Hid (bf W1 w.heap.size w.heap.size n n (qC cs 0).1):=by
  rw [hW1];have h1:bh (w.alloc (.cells (madeCells #[.int .i64 0] n) 3)) w.heap.size 3 w.heap.size n (List.replicate n (.int .i64 0)):=bh.made (ay _) (by omega);have h2:=h1.alloc (.cells #[.slice none 0 0] 257);have e:iv (qC cs 0).1=List.replicate n (.int .i64 0):=by rw [qC,hl];simp [iv]
  show World.ownsRow _ _ _ _ _ _ _;rw [e];exact h2
 have bD:Hid (fD W1 w.heap.size (w.heap.size+1) (.slice none 0 0) (qC cs 0).2):=by
  rw [hW1];refine⟨?_,⟨rfl,.inl ⟨rfl,rfl⟩⟩,by omega⟩;have hsz:(w.alloc (.cells (madeCells #[.int .i64 0] n) 3)).heap.size=w.heap.size+1:=by simp
  rw [<-hsz];exact mP
 clear hc hb hl;go_enter func140,ntmps140;go_wp2;rw [<-hW1];obtain⟨s,hs⟩:∃s,s=w.heap.size+1:=⟨_,rfl⟩
 obtain⟨g,hg⟩:∃g,g=w.heap.size:=⟨_,rfl⟩
 rw [<-hs];rw [<-hs]at bD;have HG:Hid (g=w.heap.size/\s=w.heap.size+1):=⟨hg,hs⟩
 rw [<-hg]at dz ⊢;have Kf:=ah hg.symm;clear hW1 hmk hs hg;go_loopg [14] n (fun gh kv W=>∃(k:Nat)(v:Value)(x:List Int×List Nat),k<=n/\gh=n - k/\kv= .int .i64 k/\Below w.heap.size w W/\bf W w.heap.size g n n x.1/\fD W w.heap.size s v x.2/\v.ownBlock≠some g/\qC cs k=x);case atStart=>exact⟨0,.slice none 0 0,qC cs 0,by omega,rfl,rfl,aG.out,by rw [Kf.out];exact dz.out,bD.out,by simp [Value.ownBlock],rfl⟩
 case round=>
  clear aG dz bD;obtain⟨k,v,x,hk,rfl,rfl,hB,hR,hS,hV,hX⟩:=hrel;have HB:=ah hB;have HR:=ah hR;have HS:=ah hS;have HV:=ah hV;have HX:=ah hX;have hok:=Jr cs k (by rw [HC.out.2.2];exact hk);rw [hX]at hok;have dN:=ah hok;have gV:g≠s:=by have:=HG.out;omega
  have sw:g<wr.heap.size:=(yE hR g rfl).2;have hst:x.2.length<=k:=by
   have h1:=hok.rI;have h2:∀a∈x.2,a<k:=fun a ha=>by
    obtain⟨d,hd⟩:=VC ha;exact(hok.opn d a hd).2.2.1
   exact aa0 x.2 k h1 h2
  by_cases hlt:k<n
  .have hkc:k<cs.length:=by rw [HC.out.2.2];exact hlt
   have cc:=HC.out.1.stay hB HC.out.2.1 k hkc;have hcell:=hR.cell k hlt;have hfr:=hR.frozen k;generalize x.1.getD k 0=oc at hcell;have hstep:qC cs (k+1)=Mx cs k x:=by rw [qC,hX]
   have dQ:=hR.set k (-1);have hS1:=hS.setOther gV hV k (.int .i64 (-1));have pz:Below w.heap.size w (wr.setCell ⟨g,k,none⟩ (.int .i64 (-1))):=hB.setCell (p:=⟨g,k,none⟩) (by rw [Kf.out];exact ay _) _;have dz:=ah dQ;have bD:=ah hS1;have aG:=ah pz;have Zc:g<(wr.setCell ⟨g,k,none⟩ (.int .i64 (-1))).heap.size:=by simpa using sw
   unfold Mx at hstep;generalize cs.getD k 0=c at*;clear hB hR hS hV hX hok dQ hS1 pz HB HR HS;cases bH:aS c
   .rw [bH,ai (by decide)]at hstep;by_cases h21:c=21
    .subst h21;rw [aj rfl]at hstep;rcases wO x.2 with hx2|⟨st,o,hx2⟩
     .rw [hx2]at hstep;have HN:Hid (qC cs (k+1)=(x.1.set k (-1),x.2)):=by show _=_;rw [hstep,hx2];rfl
      have zM:Hid (Calls prog 198 #[.pointer (some ⟨s,0,none⟩)] (wr.setCell ⟨g,k,none⟩ (.int .i64 (-1))) fun e w'=>e= .returned (.tuple #[.int .i64 0,.bool false])/\w'=wr.setCell ⟨g,k,none⟩ (.int .i64 (-1))):=aky _ w.heap.size s v (by have:=bD.out;rw [hx2]at this;exact this);clear hstep bH hkc hx2;go_wp2_with fail;refine(mG 21 _).mono ?_;rintro ev wx ⟨rfl,hx⟩;subst hx;rw [Jj];go_wp2_with fail;refine zM.out.mono ?_;rintro ev wx ⟨rfl,hx⟩;subst hx;go_wp2;go_roundg (n - (k+1));case measure=>omega
      case rel=>exact⟨k+1,v,(x.1.set k (-1),x.2),by omega,rfl,by simp,aG.out,dz.out,bD.out,HV.out,HN.out⟩
     .rw [zW]at hx2;rw [hx2]at hstep;have HN:Hid (qC cs (k+1)=(((x.1.set k (-1)).set o (k:Int)).set k (o:Int),st)):=by show _=_;rw [hstep];simp
      have Zy:=dN.out.opn st.length o (by rw [hx2];simp);have hlo:o<k:=Zy.2.2.1;have hsl:st.length<=100000:=by rw [hx2]at hst;simp at hst;omega
      have zM:Hid (Calls prog 198 #[.pointer (some ⟨s,0,none⟩)] (wr.setCell ⟨g,k,none⟩ (.int .i64 (-1))) fun e w'=>e= .returned (.tuple #[.int .i64 o,.bool true])/\∃v',fD w' w.heap.size s v' st/\bw (wr.setCell ⟨g,k,none⟩ (.int .i64 (-1))) w' s v v'):=akz _ w.heap.size s v st o (by have:=bD.out;rw [hx2]at this;exact this) hsl;clear hstep bH hkc hx2 Zy hst;go_wp2_with fail;refine(mG 21 _).mono ?_;rintro ev wx ⟨rfl,hx⟩;subst hx;rw [Jj];go_wp2_with fail;refine zM.out.mono ?_;rintro ev w3 ⟨rfl,v3,lI,oG⟩;have ni:bf w3 w.heap.size g n n (x.1.set k (-1)):=dz.out.BF oG gV HV.out;have Dc:v3.ownBlock≠some g:=oG.Ey Zc HV.out;have cV:Below w.heap.size w w3:=oG.below bD.out aG.out;have Mf:o<n:=by omega
      have co:=ni.cell o Mf;have fo:=ni.frozen o;have LN:=ni.set o (k:Int);have ck:=LN.cell k hlt;have fk:=LN.frozen k;have oZ:Hid (bf ((w3.setCell ⟨g,o,none⟩ (.int .i64 k)).setCell ⟨g,k,none⟩ (.int .i64 o)) w.heap.size g n n (((x.1.set k (-1)).set o (k:Int)).set k (o:Int))):=LN.set k (o:Int);have fC:Hid (fD ((w3.setCell ⟨g,o,none⟩ (.int .i64 k)).setCell ⟨g,k,none⟩ (.int .i64 o)) w.heap.size s v3 st):=(lI.setOther gV Dc o _).setOther gV Dc k _;have dx:Hid (Below w.heap.size w ((w3.setCell ⟨g,o,none⟩ (.int .i64 k)).setCell ⟨g,k,none⟩ (.int .i64 o))):=(cV.setCell (p:=⟨g,o,none⟩) (by rw [Kf.out];exact ay _) _).setCell (p:=⟨g,k,none⟩) (by rw [Kf.out];exact ay _) _;have Og:=ah Dc;generalize(x.1.set k (-1)).getD o 0=oo at co;generalize((x.1.set k (-1)).set o (k:Int)).getD k 0=kk at ck;clear lI oG ni Dc cV LN zM;go_wp2;go_roundg (n - (k+1));case measure=>omega
      case rel=>exact⟨k+1,v3,(((x.1.set k (-1)).set o (k:Int)).set k (o:Int),st),by omega,rfl,by simp,dx.out,oZ.out,fC.out,Og.out,HN.out⟩
    .rw [ai h21]at hstep;have AO:(c !=21)=true:=by simpa using h21
     have HN:=ah hstep;have wG:=ah bH;clear hstep h21 bH hkc;go_wp2_with fail;refine(mG c _).mono ?_;rintro ev wx ⟨rfl,hx⟩;subst hx;rw [wG.out];go_wp2;go_roundg (n - (k+1));case measure=>omega
     case rel=>exact⟨k+1,v,(x.1.set k (-1),x.2),by omega,rfl,by simp,aG.out,dz.out,bD.out,HV.out,HN.out⟩
   .rw [bH,aj rfl]at hstep;have h21:c≠21:=by rintro rfl;cases bH
    have AO:(c !=21)=true:=by simpa using h21
    have HN:=ah hstep;have wG:=ah bH;have Gm:Hid (Calls prog 197 #[.pointer (some ⟨s,0,none⟩),.int .i64 k] (wr.setCell ⟨g,k,none⟩ (.int .i64 (-1))) fun e w'=>e= .returned (.tuple #[])/\∃v',fD w' w.heap.size s v' (x.2++[k])/\bw (wr.setCell ⟨g,k,none⟩ (.int .i64 (-1))) w' s v v'):=abQ _ _ _ _ _ _ bD.out (by omega);clear hstep h21 bH hkc;go_wp2_with fail;refine(mG c _).mono ?_;rintro ev wx ⟨rfl,hx⟩;subst hx;rw [wG.out];go_wp2_with fail;refine Gm.out.mono ?_;rintro ev w3 ⟨rfl,v3,lI,oG⟩;have jB:=ah lI;have aI:=ah (oG.below bD.out aG.out);have l6:=ah (dz.out.BF oG gV HV.out);have Og:=ah (oG.Ey Zc HV.out);clear lI oG Gm;go_wp2;go_roundg (n - (k+1));case measure=>omega
    case rel=>exact⟨k+1,v3,(x.1.set k (-1),x.2++[k]),by omega,rfl,by simp,aI.out,l6.out,jB.out,Og.out,HN.out⟩
  .obtain rfl:k=n:=by omega
   have HL:Hid (x.1=lS cs):=by show _=_;rw [lS,HC.out.2.2,hX]
   clear hB hR hS hV hX hok;go_wp2;refine cG (v:= .slice (some ⟨g,0,none⟩) k k) (by simp [results,results140,go_sem]) rfl ⟨g,rfl,?_,HB.out⟩;have:=HR.out;rw [HL.out]at this;exact this
structure bM(w:World)(B s:Nat)(v lp:Value)(x:XS):Prop where
 cell:w.heap[s]? =some (.cells #[lp,v,.int .i64 x.aH,.int .i64 x.aM,.int .i64 x.valid] 212 (0,0))
 row:w.ownsRow B 215 3 v x.st.length (ji x.st)
 low:B<=s
theorem bM.ne {w:World}{B s:Nat}{v lp:Value}{x:XS}(h:bM w B s v lp x):v.ownBlock≠some s:=by
 rcases h.row.2 with⟨rfl,_⟩|⟨g,cp,cur,rfl,_,hh,_⟩
 .simp [Value.ownBlock]
 .simp only [Value.ownBlock];intro e;obtain rfl:=aK e;rw [h.cell]at hh;simp at hh
theorem bw.ED {w w' w0:World}{B s:Nat}{v v' lp:Value}{x:XS}(h:bw w w' s v v')(hs:bM w B s v lp x)(hb:Below B w0 w):Below B w0 w':=
 hb.trans ⟨h.os,h.tape,h.output,h.size,fun k hk=>by
  have IA:=hs.low;have hlt:k<w.heap.size:=ku (ku hk IA) (fW (bZ hs.cell));refine h.block k hlt (by omega) ?_;intro e;have:=sJ hs.row k e;omega⟩
theorem bw.refl(w:World)(s:Nat)(v:Value):bw w w s v v:=⟨rfl,rfl,rfl,ay _,fun _ _ _ _=>rfl,.inl rfl⟩
theorem bM.ent {w:World}{B s:Nat}{v lp:Value}{x:XS}(h:bM w B s v lp x)(i:Nat)(hi:i<x.st.length):∃g c,v= .slice (some ⟨g,0,none⟩) x.st.length c/\x.st.length<=c/\g<w.heap.size/\∃e,x.st[i]? =some e/\w.cell? ⟨g,i*3,none⟩=some (.int .i64 e.l)/\w.cell? ⟨g,i*3+1,none⟩=some (.int .i64 e.o)/\w.cell? ⟨g,i*3+2,none⟩=some (.bool e.i):=by
 obtain⟨g,c,rfl,hc,hg,_⟩:=fS h.row (by omega);refine⟨g,c,rfl,hc,hg,x.st[i],aQ hi,?_⟩;have key:∀(l:List aU)(i:Nat)(hi:i<l.length),(ji l)[i*3]? =some (.int .i64 l[i].l)/\(ji l)[i*3+1]? =some (.int .i64 l[i].o)/\(ji l)[i*3+2]? =some (.bool l[i].i):=by
  intro l
  induction l with
  |nil=>intro i hi;simp at hi
  |cons a l ih=>
   intro i hi;have e:ji (a::l)=[.int .i64 a.l,.int .i64 a.o,.bool a.i]++ji l:=by simp [ji,aU.cells]
   cases i with
   |zero=>rw [e];simp
   |succ i=>
    have:=ih i (by simpa using hi);rw [e,show(i+1)*3=i*3+3 by omega];simpa using this
 obtain⟨k0,k1,k2⟩:=key x.st i hi;exact⟨by rw [dg h.row (i*3) (by omega)];exact k0,by rw [dg h.row (i*3+1) (by omega)];exact k1,by rw [dg h.row (i*3+2) (by omega)];exact k2⟩
theorem aiR(w:World)(B s:Nat)(v lp:Value)(x:XS)(h:bM w B s v lp x):Calls prog 241 #[.pointer (some ⟨s,1,none⟩)] w fun e w'=>e= .returned (.int .i64 x.st.length)/\w'=w:=by
 obtain⟨a,c,rfl⟩:=ey h.row;have c0:w.cell? ⟨s,1,none⟩=some (.slice a x.st.length c):=az h.cell 1;clear h;go_enter func241,ntmps241;go_wp2;go_ret;exact⟨rfl,rfl⟩
theorem VY(w:World)(B s:Nat)(v lp:Value)(x:XS)(i:Nat)(e:aU)(h:bM w B s v lp x)(he:x.st[i]? =some e):Calls prog 263 #[.pointer (some ⟨s,1,none⟩),.int .i64 i] w fun ev w'=>ev= .returned (.tuple #[.agg #[.int .i64 e.l,.int .i64 e.o,.bool e.i],.bool true])/\Below w.heap.size w w':=by
 have hi:i<x.st.length:=(qW.1 he).1;obtain⟨g,c,rfl,_,hg,e',he',k0,k1,k2⟩:=h.ent i hi;obtain rfl:e=e':=aK (he.symm.trans he');have hlt:=bZ h.cell;have c0:(w.alloc (.cells #[.int .i64 0,.int .i64 0,.bool false] 215)).cell? ⟨s,1,none⟩=some (.slice (some ⟨g,0,none⟩) x.st.length c):=(jQ _ _ ⟨s,1,none⟩ hlt).trans (az h.cell 1);have k0:=(jQ w (.cells #[.int .i64 0,.int .i64 0,.bool false] 215) ⟨g,i*3,none⟩ hg).trans k0;have k1:=(jQ w (.cells #[.int .i64 0,.int .i64 0,.bool false] 215) ⟨g,i*3+1,none⟩ hg).trans k1;have k2:=(jQ w (.cells #[.int .i64 0,.int .i64 0,.bool false] 215) ⟨g,i*3+2,none⟩ hg).trans k2;have hi':((i:Int)<(x.st.length:Int)):=by omega
 have hg0:decide ((i:Int)<0)=false:=by simp
 clear h he he';generalize x.st.length=n at*;obtain⟨el,eo,ei⟩:=e;simp only at k0 k1 k2 ⊢;go_enter func263,ntmps263;go_wp2;exact cG (v:= .tuple #[.agg #[.int .i64 el,.int .i64 eo,.bool ei],.bool true]) (by simp [results,results263,Tryz.isAgg215,Tryz.sizeOf215,go_sem]) rfl ⟨rfl,(aA _ _).alloc (ay _) _⟩
theorem Tryz.ah9:(prog.info? 215).map (fun i=>(i.zero,i.size,i.bytes))=some (some (.agg #[.int .i64 0,.int .i64 0,.bool false]),3,24):=by kernel_rfl
theorem bM.grow {w w5:World}{B s:Nat}{v v5 lp:Value}{x:XS}{st':List aU}{m:Nat}(h:bM w B s v lp x)(hown:w5.ownsRow B 215 3 v5 m (ji st'))(hg:w.grownBy w5 v.ownBlock)(hv:v5.ownBlock=v.ownBlock∨∀k,v5.ownBlock=some k->w.heap.size<=k):
  bM (w5.setCell ⟨s,1,none⟩ v5) B s v5 lp {x with st:=st'}/\bw w (w5.setCell ⟨s,1,none⟩ v5) s v v5/\w5.cell? ⟨s,1,none⟩=some v/\w5.frozen? ⟨s,1,none⟩=false:=by
 have hlt:=bZ h.cell;have iF:w5.heap[s]? =some (.cells #[lp,v,.int .i64 x.aH,.int .i64 x.aM,.int .i64 x.valid] 212 (0,0)):=by rw [hg.block s hlt h.ne.symm];exact h.cell
 have hne:v5.ownBlock≠some s:=by
  rcases hv with hv|hv
  .rw [hv];exact h.ne
  .intro e;have:=hv s e;omega
 have hm:m=st'.length:=by have:=hown.1;rw [Hp]at this;omega
 subst hm;refine⟨⟨by rw [fK iF];rfl,jm hown hne 1 v5,h.low⟩,⟨hg.os,hg.tape,hg.output,?_,?_,hv⟩,az iF 1,cH iF 1⟩
 .have:=hg.size;simpa using this
 .intro k hk hks hkv;rw [gK]
  .exact hg.block k hk (fun e=>hkv e.symm)
  .exact hks
theorem aew(w:World)(a b:Obj)(r:Option Nat):w.grownBy ((w.alloc a).alloc b).drew r:=⟨rfl,rfl,rfl,by simp;omega,fun k hk _=>by
 show((w.alloc a).alloc b).heap[k]? =_;rw [dM (w.alloc a) b k (by simp;omega)];exact dM w a k hk⟩
theorem ajt(w:World)(a:Obj)(y0 y1 y2:Value)(e:TypeId):∀j u,[y0,y1,y2][j]? =some u->((w.alloc a).alloc (.cells #[y0,y1,y2] e)).drew.cell? ((⟨w.heap.size+1,0,none⟩:Addr).add j)=some u:=by
 intro j u hj;have hsz:(w.alloc a).heap.size=w.heap.size+1:=by simp
 rw [<-hsz]
 match j,hj with
 |0,hj=>simp at hj;subst hj;simp [Addr.add]
 |1,hj=>simp at hj;subst hj;simp [Addr.add]
 |2,hj=>simp at hj;subst hj;simp [Addr.add]
theorem MZ {P:Program}{ops:Array Oper}{o:Oper}{a:Act}{w:World}{K:Act->World->Prop}{Q:Exit->Act->World->Prop}{E:Prop}(hgd:o.guard=none)(s x:Operand)(t:TypeId)
  (ho:o.op= .call {callee:= .builtin .append,args:=#[s,x],argTypes:=#[t,t]})
  (base:Nat) (e:TypeId) (i:TypeInfo) (z:Value) (size bytes:Nat) (ht:P.underlying t=some (.slice e)) (hi:P.info? e=some i) (hz:i.zero=some z)
  (hsize:i.size=size) (hby:i.bytes=bytes) (hzs:z.cells.size=size) (hsz:0<size) (oJ:bytes<=64)
  (v:Value) (n:Nat) (xs:List Value) (hs:a.eval s=v) (hown:w.ownsRow base e size v n xs)
  (g:Nat) (news:List Value) (hx:a.eval x= .slice (some ⟨g,0,none⟩) 1 1) (hl:news.length=size) (hnews:∀j u,news[j]? =some u->w.cell? ((⟨g,0,none⟩:Addr).add j)=some u) (h1:∀u∈news,u.oneCell'=true) (hn:n<=1000000) (hbase:base<=w.heap.size)
  (h:∀v' w',w'.ownsRow base e size v' (n+1) (xs++news)->w.grownBy w' v.ownBlock->(v'.ownBlock=v.ownBlock∨v'.ownBlock=some w.heap.size)->K (a.put o.dst v') w'):if Region.wanted o (yielded ops a.tmps)=true then Oper.wp P o a w K Q else E:=by
 have hw:Region.wanted o (yielded ops a.tmps)=true:=by simp [Region.wanted,hgd]
 rw [aj hw];have hbytes:(n+1)*bytes<=140737488355328:=by
  have:(n+1)*bytes<=1000001*64:=zZ (by omega) oJ;omega
 obtain⟨v',w',hr,h2,h3,_,h5⟩:=alo (P:=P) w base t o.type e i z size bytes ht hi hz hsize hby hzs hsz v n xs hown ⟨g,0,none⟩ 1 1 news (by omega) hnews h1 (by unfold maxLen;omega) hbytes hbase;unfold Oper.wp execOp;simp only [ho,resolve,invoke,builtin,GU,Sem.run_pure,VP,aee,pX,Em,hs,hx,hr];exact h v' w' h2 h3 h5
theorem DG(w:World)(B s:Nat)(v lp:Value)(x:XS)(el eo:Int)(ei:Bool)(h:bM w B s v lp x)(hl:x.st.length<=1000000):Calls prog 142 #[.pointer (some ⟨s,1,none⟩),.agg #[.int .i64 el,.int .i64 eo,.bool ei]] w fun e w'=>e= .returned (.tuple #[])/\∃v',bM w' B s v' lp {x with st:=x.st++[⟨el,eo,ei⟩]}/\bw w w' s v v':=by
 obtain⟨iE,hiE,ahX,ahY,ahZ⟩:=gW Tryz.ah9;have c0:w.cell? ⟨s,1,none⟩=some v:=az h.cell 1;have f0:w.frozen? ⟨s,1,none⟩=false:=cH h.cell 1;have hrow:=h.row;have hbz:B<=w.heap.size:=bU h.low (fW (bZ h.cell));obtain⟨a,c,rfl⟩:=ey hrow;have HS:=ah h;clear h;go_enter func142,ntmps142;have hsl:=bZ HS.out.cell;have c1:(w.alloc (.cells #[.int .i64 el,.int .i64 eo,.bool ei] 215)).cell? ⟨s,1,none⟩=some (.slice a x.st.length c):=(jQ _ _ ⟨s,1,none⟩ hsl).trans c0;clear c0 f0;go_wp2
 go_region_law (refine MZ rfl _ _ 208 rfl B 215 iE (.agg #[.int .i64 0,.int .i64 0,.bool false]) 3 24 underlying208 hiE ahX ahY ahZ rfl (by decide) (by decide) _ x.st.length (ji x.st) rfl (nM (nM hrow (.cells #[.int .i64 el,.int .i64 eo,.bool ei] 215)) (.cells #[.int .i64 el,.int .i64 eo,.bool ei] 215)) _ [.int .i64 el,.int .i64 eo,.bool ei] rfl rfl (ajt w _ _ _ _ _) (by intro u hu;simp at hu;rcases hu with rfl|rfl|rfl<;>rfl) hl (by simp;omega) ?_;intro v5 w5 b9 cA lM;obtain⟨a5,yM,rfl⟩:=ey b9;obtain⟨qj,xg,c5,f5⟩:=HS.out.grow (st':=x.st++[⟨el,eo,ei⟩]) (by rw [Lt];exact b9) ((aew w _ _ _).trans cA) (by rcases lM with h|h;exact .inl h;exact .inr (fun k hk=>by rw [h]at hk;have:=aK hk;simp at this;omega));clear b9 cA lM)
 all_goals
  go_end0;exact⟨rfl,_,qj,xg⟩
theorem TF(w:World)(B s:Nat)(v lp:Value)(x:XS)(e:aU)(h:bM w B s v lp x)(he:x.st[x.st.length - 1]? =some e)(hl:x.st.length<=100000):Calls prog 238 #[.pointer (some ⟨s,1,none⟩)] w fun ev w'=>ev= .returned (.agg #[.int .i64 e.l,.int .i64 e.o,.bool e.i])/\Below w.heap.size w w':=by
 have hpos:0<x.st.length:=by have:=(qW.1 he).1;omega
 obtain⟨n,hn⟩:∃n,x.st.length=n+1:=⟨x.st.length - 1,by omega⟩
 obtain⟨a,c,rfl⟩:=ey h.row;have hsl:=bZ h.cell;have kf:Hid (∀W,Below w.heap.size w W->Calls prog 263 #[.pointer (some ⟨s,1,none⟩),.int .i64 n] W fun ev w'=>ev= .returned (.tuple #[.agg #[.int .i64 e.l,.int .i64 e.o,.bool e.i],.bool true])/\Below W.heap.size W w'):=fun W hb=>
  VY W B s _ lp x n e ⟨by rw [hb.block s hsl];exact h.cell,eH h.row hb,h.low⟩ (by rw [hn,kr]at he;exact he)
 have c1:(w.alloc (.cells #[.int .i64 0,.int .i64 0,.bool false] 215)).cell? ⟨s,1,none⟩=some (.slice a (n+1) c):=by
  rw [<-hn];exact(jQ _ _ ⟨s,1,none⟩ hsl).trans (az h.cell 1)
 have hnb:n<=100000:=by omega
 clear h he hpos hn;obtain⟨el,eo,ei⟩:=e;simp only at kf ⊢;go_enter func238,ntmps238;go_wp2_with fail;refine(kf.out _ ((aA _ _).alloc (ay _) _)).mono ?_;rintro ev w2 ⟨rfl,hb2⟩;obtain⟨hc2,hf2⟩:=V5 hb2;have k0:=(hc2 w.heap.size 0 (by simp)).trans (show _=some (.int .i64 0)by simp);have k1:=(hc2 w.heap.size 1 (by simp)).trans (show _=some (.int .i64 0)by simp);have k2:=(hc2 w.heap.size 2 (by simp)).trans (show _=some (.bool false)by simp);have f0:=(hf2 w.heap.size 0 (by simp)).trans (show _=false by simp);have f1:=(hf2 w.heap.size 1 (by simp)).trans (show _=false by simp);have f2:=(hf2 w.heap.size 2 (by simp)).trans (show _=false by simp);have hz:w.heap.size<w2.heap.size:=by have:=hb2.size;simp at this;omega
 have HB:Hid (Below w.heap.size w w2):=((aA _ _).alloc (ay _) _).trans (hb2.mono (by simp));clear hc2 hf2 hb2 c1 kf;go_wp2;have e0:((((w2.setCell ⟨w.heap.size,0,none⟩ (.int .i64 el)).setCell ⟨w.heap.size,1,none⟩ (.int .i64 eo)).setCell ⟨w.heap.size,2,none⟩ (.bool ei)).alloc (.cells #[.int .i64 el,.int .i64 eo,.bool ei] 215)).cell? ⟨w.heap.size,0,none⟩=(((w2.setCell ⟨w.heap.size,0,none⟩ (.int .i64 el)).setCell ⟨w.heap.size,1,none⟩ (.int .i64 eo)).setCell ⟨w.heap.size,2,none⟩ (.bool ei)).cell? ⟨w.heap.size,0,none⟩:=jQ _ _ ⟨w.heap.size,0,none⟩ (by simp;omega);have e1:((((w2.setCell ⟨w.heap.size,0,none⟩ (.int .i64 el)).setCell ⟨w.heap.size,1,none⟩ (.int .i64 eo)).setCell ⟨w.heap.size,2,none⟩ (.bool ei)).alloc (.cells #[.int .i64 el,.int .i64 eo,.bool ei] 215)).cell? ⟨w.heap.size,1,none⟩=(((w2.setCell ⟨w.heap.size,0,none⟩ (.int .i64 el)).setCell ⟨w.heap.size,1,none⟩ (.int .i64 eo)).setCell ⟨w.heap.size,2,none⟩ (.bool ei)).cell? ⟨w.heap.size,1,none⟩:=jQ _ _ ⟨w.heap.size,1,none⟩ (by simp;omega);have e2:((((w2.setCell ⟨w.heap.size,0,none⟩ (.int .i64 el)).setCell ⟨w.heap.size,1,none⟩ (.int .i64 eo)).setCell ⟨w.heap.size,2,none⟩ (.bool ei)).alloc (.cells #[.int .i64 el,.int .i64 eo,.bool ei] 215)).cell? ⟨w.heap.size,2,none⟩=(((w2.setCell ⟨w.heap.size,0,none⟩ (.int .i64 el)).setCell ⟨w.heap.size,1,none⟩ (.int .i64 eo)).setCell ⟨w.heap.size,2,none⟩ (.bool ei)).cell? ⟨w.heap.size,2,none⟩:=jQ _ _ ⟨w.heap.size,2,none⟩ (by simp;omega);refine cG (v:= .agg #[.int .i64 el,.int .i64 eo,.bool ei]) (by simp [results,results238,Tryz.isAgg215,Tryz.sizeOf215,go_sem,e0,e1,e2,k0,k1,k2]) rfl ⟨rfl,?_⟩;exact(((HB.out.setCell (p:=⟨w.heap.size,0,none⟩) (ay _) _).setCell (p:=⟨w.heap.size,1,none⟩) (ay _) _).setCell (p:=⟨w.heap.size,2,none⟩) (ay _) _).alloc (by simp;omega) _
