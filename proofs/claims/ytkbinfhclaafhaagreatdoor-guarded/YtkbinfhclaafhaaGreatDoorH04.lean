import Derived.Test.YtkbinfhclaafhaaGreatDoorH03
import Derived.Lib.SliceRun
namespace Go.Proofs.YtkbinfhclaafhaaGreatDoor
open Go.RowKit
open Go.Proofs.Tryz
set_option maxRecDepth 100000
set_option maxHeartbeats 32000000
theorem af2 {cs:List Int}{i:Nat}(hm:mt cs i<cs.length)(_hi:i<=cs.length):cs.getD (mt cs i) 0=21:=by
 have key:∀(l:List Int)(n:Int)(d:Nat),bU l n=some d->l.getD d 0=21:=by
  intro l
  induction l with
  |nil=>intro n d h;cases h
  |cons c r ih=>
   intro n d h;rw [bU]at h;by_cases hc:c=21
   .rw [if_pos hc]at h;by_cases h0:n - 1=0
    .rw [if_pos h0]at h;obtain rfl:=Option.some.inj h;simpa using hc
    .rw [if_neg h0]at h;cases hr:bU r (n - 1)with
     |none=>rw [hr]at h;cases h
     |some d'=>rw [hr]at h;obtain rfl:=Option.some.inj h;simpa using ih _ _ hr
   .rw [if_neg hc]at h;cases hr:bU r (if aG c=true then n+1 else n)with
    |none=>rw [hr]at h;cases h
    |some d'=>rw [hr]at h;obtain rfl:=Option.some.inj h;simpa using ih _ _ hr
 unfold mt at hm ⊢;cases hd:bU (cs.drop i) 0 with
 |none=>rw [hd]at hm;simp at hm
 |some d=>
  have:=key _ _ _ hd;simp only;rw [List.getD_eq_getElem?_getD,List.getElem?_drop]at this;rw [List.getD_eq_getElem?_getD];exact this
theorem Xc {cs:List Int}{k:Nat}(h:k<cs.length)(hi:aG (cs.getD k 0)=true):k<mt cs k:=by
 have hs:=l6.start cs k (by omega);have hc:cs.getD k 0≠21:=by intro e;rw [e,MS]at hi;cases hi
 have h1:=hs.plain h hc;have:mt cs k=cs.length∨∃d,bU (cs.drop (k+1)) (if aG (cs.getD k 0)=true then(0:Int)+1 else 0)=some d/\mt cs k=k+(d+(k+1 - k)):=by
  unfold mt;rw [h1.2.2];cases hm:bU (cs.drop (k+1)) (if aG (cs.getD k 0)=true then(0:Int)+1 else 0)with
  |none=>exact .inl rfl
  |some d=>exact .inr ⟨d,rfl,rfl⟩
 rcases this with h'|⟨d,_,h'⟩<;>omega
theorem af3 {cs:List Int}{i j:Nat}(hi:i<cs.length)(hj:j<cs.length)(h1:aG (cs.getD i 0)=true)(h2:aG (cs.getD j 0)=true)(he:mt cs i=mt cs j)(hm:mt cs i<cs.length):i=j:=by
 have key:∀i j,i<cs.length->j<cs.length->aG (cs.getD i 0)=true->aG (cs.getD j 0)=true->mt cs i=mt cs j->mt cs i<cs.length->¬i<j:=by
  intro i j hi hj h1 h2 he hm hlt;obtain⟨d,hd,hlt'⟩:=Xe hi h1 hm hlt (by rw [he];exact Xc hj h2) h2;have:mt cs j=j+d:=by unfold mt;rw [hd]
  omega
 have a:=key i j hi hj h1 h2 he hm;have b:=key j i hj hi h2 h1 he.symm (by omega);omega
theorem Eu {rs:List (List Nat)}{m:Nat}:∀n k,yQ rs m n=some k->k<n/\(rs.getD k []).headD 0=m
 |0,k,h=>by cases h
 |n+1,k,h=>by
  rw [yQ]at h;split at h
  .rename_i hh;obtain rfl:=Option.some.inj h;exact⟨Nat.lt_succ_self _,hh⟩
  .have:=Eu n k h;exact⟨by omega,this.2⟩
theorem Xo {rs:List (List Nat)}{m:Nat}:∀n,yQ rs m n=none->∀k,k<n->(rs.getD k []).headD 0≠m
 |0,_,k,hk=>by omega
 |n+1,h,k,hk=>by
  rw [yQ]at h;split at h
  .cases h
  .rename_i hh;rcases Nat.lt_or_ge k n with h'|h'
   .exact Xo n h k h'
   .obtain rfl:k=n:=by omega
    exact hh
structure kD(n:Nat)(rs:List (List Nat)):Prop where
 ne:∀r∈rs,r≠[]
 lt:∀r∈rs,∀p∈r,p<n
 oW:rs.flatten.Nodup
def nx(cs:List Int)(rs:List (List Nat))(i:Nat):Option Nat:=if i<rs.length then fT cs rs ((rs.getD i []).getLastD 0)else none
theorem dB {α:Type}{l:List α}{i:Nat}{d:α}(h:i<l.length):l.getD i d∈l:=by
 rw [List.getD_eq_getElem?_getD,List.getElem?_eq_getElem h];exact List.getElem_mem h
theorem Hr {r:List Nat}(h:r≠[]):r.getLastD 0∈r:=by
 rw [List.getLastD_eq_getLast?,List.getLast?_eq_some_getLast h];exact List.getLast_mem h
theorem head_mem {r:List Nat}(h:r≠[]):r.headD 0∈r:=by
 cases r with
 |nil=>exact absurd rfl h
 |cons a l=>simp
theorem Gz:∀{rs:List (List Nat)},rs.flatten.Nodup->∀{i j p:Nat},p∈rs.getD i []->p∈rs.getD j []->i=j
 |[],_,i,j,p,h,_=>by simp at h
 |r::rs,hn,i,j,p,hi,hj=>by
  rw [List.flatten_cons,List.nodup_append]at hn;have up:∀k,p∈rs.getD k []->p∈rs.flatten:=by
   intro k hk;rcases Nat.lt_or_ge k rs.length with h|h
   .exact List.mem_flatten.2 ⟨_,dB h,hk⟩
   .rw [List.getD_eq_getElem?_getD,List.getElem?_eq_none h]at hk;cases hk
  cases i with
  |zero=>
   cases j with
   |zero=>rfl
   |succ j=>exact absurd rfl (hn.2.2 p (by simpa using hi) p (up j (by simpa using hj)))
  |succ i=>
   cases j with
   |zero=>exact absurd rfl (hn.2.2 p (by simpa using hj) p (up i (by simpa using hi)))
   |succ j=>rw [Gz hn.2.1 (i:=i) (j:=j) (p:=p) (by simpa using hi) (by simpa using hj)]
theorem Ey {cs:List Int}{rs:List (List Nat)}(h:kD cs.length rs){i k:Nat}(hn:nx cs rs i=some k):
  i<rs.length/\k<rs.length/\aG (cs.getD ((rs.getD i []).getLastD 0) 0)=true/\(rs.getD k []).headD 0=mt cs ((rs.getD i []).getLastD 0)/\(rs.getD i []).getLastD 0<cs.length/\mt cs ((rs.getD i []).getLastD 0)<cs.length:=by
 unfold nx at hn;split at hn
 .rename_i hi;unfold fT at hn;split at hn
  .rename_i bG;obtain⟨hk,hh⟩:=Eu _ _ hn;have m1:rs.getD i []∈rs:=dB hi;have m2:rs.getD k []∈rs:=dB hk;refine⟨hi,hk,bG,hh,h.lt _ m1 _ (Hr (h.ne _ m1)),?_⟩;rw [<-hh];exact h.lt _ m2 _ (head_mem (h.ne _ m2))
  .cases hn
 .cases hn
theorem agv {cs:List Int}{rs:List (List Nat)}(h:kD cs.length rs):∀i j k,nx cs rs i=some k->nx cs rs j=some k->i=j:=by
 intro i j k h1 h2;obtain⟨a1,_,a3,a4,a5,a6⟩:=Ey h h1;obtain⟨b1,_,b3,b4,b5,b6⟩:=Ey h h2;have:(rs.getD i []).getLastD 0=(rs.getD j []).getLastD 0:=af3 a5 b5 a3 b3 (by rw [<-a4,<-b4]) a6;have m1:=Hr (h.ne _ (dB (d:=[]) a1));have m2:=Hr (h.ne _ (dB (d:=[]) b1));rw [<-this]at m2;exact Gz h.oW m1 m2
theorem agu {cs:List Int}{rs:List (List Nat)}(h:kD cs.length rs){s:Nat}(hb:fQ cs (rs.getD s [])=true):∀i,nx cs rs i≠some s:=by
 intro i hn;obtain⟨a1,a2,a3,a4,a5,a6⟩:=Ey h hn;have h21:=af2 a6 (Nat.le_of_lt a5);have hop:0<=opener cs (mt cs ((rs.getD i []).getLastD 0)):=(XN cs _).2 ⟨_,Xc a5 a3,a3,rfl⟩;unfold fQ at hb;rw [a4,h21,decide_eq_true hop]at hb;cases hb
theorem KI {cs:List Int}{rs:List (List Nat)}(h:kD cs.length rs):∀f (pre:List Nat) i,i<rs.length->bP cs rs f (pre++rs.getD i [])=pre++(kJ (nx cs rs) f i).flatMap (rs.getD · [])
 |0,pre,i,hi=>by simp [bP,kJ]
 |f+1,pre,i,hi=>by
  have hne:=h.ne _ (dB (d:=[]) hi);have hlast:(pre++rs.getD i []).getLastD 0=(rs.getD i []).getLastD 0:=by
   rw [List.getLastD_eq_getLast?,List.getLast?_append,List.getLast?_eq_some_getLast hne,List.getLastD_eq_getLast?,List.getLast?_eq_some_getLast hne];rfl
  rw [bP,kJ,hlast];have hn:nx cs rs i=fT cs rs ((rs.getD i []).getLastD 0):=by rw [nx,if_pos hi]
  rw [<-hn];cases hk:nx cs rs i with
  |none=>simp
  |some k=>
   simp only;rw [KI h f (pre++rs.getD i []) k (Ey h hk).2.1];simp
theorem TF {rs:List (List Nat)}(h:rs.flatten.Nodup):∀(l:List Nat),l.Nodup->(l.flatMap (rs.getD · [])).Nodup
 |[],_=>by simp
 |i::l,hl=>by
  rw [List.nodup_cons]at hl;rw [List.flatMap_cons,List.nodup_append];refine⟨?_,TF h l hl.2,?_⟩
  .rcases Nat.lt_or_ge i rs.length with hi|hi
   .exact h.sublist (List.sublist_flatten_of_mem (dB hi))
   .rw [List.getD_eq_getElem?_getD,List.getElem?_eq_none hi];simp
  .intro a ha b hb hab;subst hab;obtain⟨j,hj,hb⟩:=List.mem_flatMap.1 hb;have:=Gz h ha hb;subst this;exact hl.1 hj
def Dj(cs:List Int)(rs:List (List Nat)):List Nat:=(List.range rs.length).filter fun i=>fQ cs (rs.getD i [])
theorem Tz(cs:List Int):∀rs:List (List Nat),rs.filter (fQ cs)=(Dj cs rs).map (rs.getD · [])
 |[]=>rfl
 |r::rs=>by
  have ih:=Tz cs rs;unfold Dj at ih ⊢;rw [List.length_cons,List.range_succ_eq_map,List.filter_cons,List.filter_cons];have e:(List.map Nat.succ (List.range rs.length)).filter (fun i=>fQ cs ((r::rs).getD i []))=((List.range rs.length).filter fun i=>fQ cs (rs.getD i [])).map Nat.succ:=by
   rw [List.filter_map];rfl
  rw [e,ih];cases hb:fQ cs r<;>simp [hb,Function.comp_def]
theorem Zd {cs:List Int}{rs:List (List Nat)}(h:kD cs.length rs)(f:Nat):((rs.filter (fQ cs)).flatMap (bP cs rs f)).Nodup:=by
 have hb:∀s∈Dj cs rs,s<rs.length/\fQ cs (rs.getD s [])=true:=by
  intro s hs;unfold Dj at hs;rw [List.mem_filter,List.mem_range]at hs;exact hs
 have e:(rs.filter (fQ cs)).flatMap (bP cs rs f)=((Dj cs rs).flatMap (kJ (nx cs rs) f)).flatMap (rs.getD · []):=by
  rw [Tz,List.flatMap_map,List.flatMap_assoc];have:∀l:List Nat,(∀s∈l,s<rs.length)->l.flatMap (fun a=>bP cs rs f (rs.getD a []))=l.flatMap fun x=>(kJ (nx cs rs) f x).flatMap (rs.getD · []):=by
   intro l
   induction l with
   |nil=>intro _;rfl
   |cons a l ih=>
    intro hl;rw [List.flatMap_cons,List.flatMap_cons,ih (fun s hs=>hl s (by simp [hs]))];have:=KI h f [] a (hl a (by simp));simp only [List.nil_append]at this;rw [this]
  exact this _ fun s hs=>(hb s hs).1
 rw [e];refine TF h.oW _ (XU (agv h) f _ ?_ fun s hs=>agu h (hb s hs).2);exact List.Pairwise.filter _ List.nodup_range
theorem XQ {cs lv:List Int}{rs:List (List Nat)}(h:kD cs.length rs)(hl:∀r∈rs,∀p∈r,lv.getD p 0=lv.getD (r.headD 0) 0)(hm:∀i,i<cs.length->aG (cs.getD i 0)=true->mt cs i<cs.length->lv.getD (mt cs i) 0=lv.getD i 0):
  ∀f i,i<rs.length->∀p∈(kJ (nx cs rs) f i).flatMap (rs.getD · []),lv.getD p 0=lv.getD ((rs.getD i []).headD 0) 0
 |0,i,hi,p,hp=>by simp [kJ]at hp;exact hl _ (dB hi) p (by simpa [List.getD_eq_getElem?_getD]using hp)
 |f+1,i,hi,p,hp=>by
  rw [kJ]at hp;cases hk:nx cs rs i with
  |none=>rw [hk]at hp;simp at hp;exact hl _ (dB hi) p (by simpa [List.getD_eq_getElem?_getD]using hp)
  |some k=>
   rw [hk]at hp;simp only [List.flatMap_cons]at hp;rcases List.mem_append.1 hp with hp|hp
   .exact hl _ (dB hi) p hp
   .obtain⟨a1,a2,a3,a4,a5,a6⟩:=Ey h hk;rw [XQ h hl hm f k a2 p hp,a4,hm _ a5 a3 a6];exact hl _ (dB hi) _ (Hr (h.ne _ (dB (d:=[]) hi)))
theorem abR {cs lv:List Int}{rs:List (List Nat)}(h:kD cs.length rs)(hl:∀r∈rs,∀p∈r,lv.getD p 0=lv.getD (r.headD 0) 0)(hm:∀i,i<cs.length->aG (cs.getD i 0)=true->mt cs i<cs.length->lv.getD (mt cs i) 0=lv.getD i 0){f:Nat}{r:List Nat}(hr:r∈rs):∀p∈bP cs rs f r,p<cs.length/\lv.getD p 0=lv.getD ((bP cs rs f r).headD 0) 0:=by
 obtain⟨i,hi,hri⟩:=List.getElem_of_mem hr;have hg:rs.getD i []=r:=by rw [List.getD_eq_getElem?_getD,List.getElem?_eq_getElem hi,<-hri];rfl
 have hc:=KI h f [] i hi;simp only [List.nil_append]at hc;rw [hg]at hc;have hhead:(bP cs rs f r).headD 0=r.headD 0:=by
  rw [hc];have:∃t,kJ (nx cs rs) f i=i::t:=by
   cases f with
   |zero=>exact⟨[],rfl⟩
   |succ f=>rw [kJ];cases nx cs rs i with
    |none=>exact⟨[],rfl⟩
    |some k=>exact⟨_,rfl⟩
  obtain⟨t,ht⟩:=this;rw [ht,List.flatMap_cons,hg];cases hr':r with
  |nil=>exact absurd hr' (h.ne r hr)
  |cons a l=>rfl
 intro p hp;rw [hhead,hc]at*;refine⟨?_,?_⟩
 .obtain⟨j,_,hj⟩:=List.mem_flatMap.1 hp;rcases Nat.lt_or_ge j rs.length with h'|h'
  .exact h.lt _ (dB h') p hj
  .rw [List.getD_eq_getElem?_getD,List.getElem?_eq_none h']at hj;cases hj
 .rw [XQ h hl hm f i hi p hp,hg]
def jY(c:Int):Bool:=c==11||(c==10||(c==12||(aG c||c==21)))
def Cl(c:Int):Prop:=c=0∨c=1∨c=3∨c=6∨c=10∨c=11∨c=12∨c=18∨c=19∨c=20∨c=21
def K0(c:Int):Prop:=(0<=c/\c<=8)∨(10<=c/\c<=12)∨(18<=c/\c<=21)
def K1(c:Int):Prop:=(0<=c/\c<=7)∨(10<=c/\c<=12)∨(18<=c/\c<=21)
def K3(c:Int):Prop:=c≠2/\K1 c
theorem ou {σ:Type}{f:σ->Int->List Int->Int}{g:σ->Int->List Int->σ}{I:σ->Prop}{P Q:Int->Prop}(h:∀s c r,I s->P c->Q (f s c r)/\I (g s c r)):∀(t:List Int)(s:σ),I s->(∀c∈t,P c)->∀c∈pass f g s t,Q c
 |[],_,_,_,c,hc=>by cases hc
 |a::r,s,hs,hp,c,hc=>by
  rw [pass]at hc;have:=h s a r hs (hp a (by simp));rcases List.mem_cons.1 hc with rfl|hc
  .exact this.1
  .exact ou h r _ this.2 (fun x hx=>hp x (by simp [hx])) c hc
theorem NI {strong tt:Int}{P:Int->Prop}(ht:P tt):∀(t:List Int)(last:Int),(∀c∈t,P c)->∀c∈jA strong tt last t,P c
 |[],_,_,c,hc=>by cases hc
 |a::r,last,hp,c,hc=>by
  rw [jA]at hc;rcases List.mem_cons.1 hc with hc|hc
  .rw [hc];generalize(if a=0∨a=1∨a=2 then a else last)=q;split
   .exact ht
   .exact hp a (by simp)
  .exact NI ht r _ (fun x hx=>hp x (by simp [hx])) c hc
theorem aak {aa:Int}(hs:aa=0∨aa=1){t:List Int}(ht:∀c∈t,K0 c):(∀c∈pass f6 g3 () (pass f5 g5 none (pass f4 g4 none (pass f3 g3 () (jA 2 6 aa (pass (f1 aa) (g1 aa) none t))))),Cl c)/\∀c∈xM aa t,Cl c:=by
 have a1:∀c∈pass (f1 aa) (g1 aa) none t,K1 c:=by
  refine ou (I:=fun s=>∀p,s=some p->K1 p) (P:=K0) (Q:=K1) ?_ t none (by simp) ht;intro s c r hI hc;have:K1 (f1 aa s c r):=by
   unfold f1;split
   .cases s with
    |none=>rcases hs with rfl|rfl<;>simp [K1]
    |some p=>
     simp only;split
     .simp [K1]
     .exact hI p rfl
   .unfold K0 at hc;unfold K1;omega
  exact⟨this,by intro p hp;rw [g1]at hp;obtain rfl:=Option.some.inj hp;exact this⟩
 have a2:∀c∈jA 2 6 aa (pass (f1 aa) (g1 aa) none t),K1 c:=NI (by simp [K1]) _ _ a1;have a3:∀c∈pass f3 g3 () (jA 2 6 aa (pass (f1 aa) (g1 aa) none t)),K3 c:=by
  refine ou (I:=fun _=>True) (P:=K1) (Q:=K3) ?_ _ () trivial a2;intro s c r _ hc;refine⟨?_,trivial⟩;unfold f3;split
  .simp [K3,K1]
  .exact⟨‹_›,hc⟩
 unfold xM;generalize pass f3 g3 () (jA 2 6 aa (pass (f1 aa) (g1 aa) none t))=t3 at*;have a4:∀c∈pass f4 g4 none t3,K3 c:=by
  refine ou (I:=fun s=>∀p,s=some p->K3 p) (P:=K3) (Q:=K3) ?_ t3 none (by simp) a3;intro s c r hI hc;have:K3 (f4 s c r):=by
   unfold f4;split
   .split
    .exact hI _ rfl
    .exact hc
   .exact hc
  exact⟨this,by intro p hp;rw [g4]at hp;obtain rfl:=Option.some.inj hp;exact this⟩
 have a5:∀c∈pass f5 g5 none (pass f4 g4 none t3),K3 c:=by
  refine ou (I:=fun _=>True) (P:=K3) (Q:=K3) ?_ _ none trivial a4;intro s c r _ hc;refine⟨?_,trivial⟩;unfold f5;split
  .simp [K3,K1]
  .exact hc
 have a6:∀c∈pass f6 g3 () (pass f5 g5 none (pass f4 g4 none t3)),Cl c:=by
  refine ou (I:=fun _=>True) (P:=K3) (Q:=Cl) ?_ _ () trivial a5;intro s c r _ hc;refine⟨?_,trivial⟩;unfold f6;split
  .simp [Cl]
  .unfold K3 K1 at hc;unfold Cl;omega
 exact⟨a6,NI (by simp [Cl]) _ _ a6⟩
def Ew:Int->List Int->List Int
 |_,[]=>[]
 |last,c::r=>(if c=0∨c=1 then c else if c=3/\last=0 then 0 else c)::Ew (if c=0∨c=1 then c else last) r
theorem NH:∀(t:List Int)(last:Int),(∀c∈t,c≠2)->Ew last t=jA 0 0 last t
 |[],_,_=>rfl
 |c::r,last,h=>by
  have hc:=h c (by simp);have hr:=fun x hx=>h x (List.mem_cons_of_mem _ hx)
  rw [Ew,jA];by_cases h0:c=0∨c=1
  .rw [if_pos h0,if_pos h0,if_pos (by omega:c=0∨c=1∨c=2),if_neg (by omega:¬(c=3/\c=0)),NH r c hr]
  .rw [if_neg h0,if_neg h0,if_neg (by omega:¬(c=0∨c=1∨c=2)),NH r last hr]
def qj(aj:Int):List Int->Int
 |[]=>bC aj
 |c::r=>if jY c=true then qj aj r else bC c
def fM(aj:Int)(s c:Int)(r:List Int):Int:=if jY c=true then(if s=qj aj r then s else c)else c
def gM(s c:Int)(_:List Int):Int:=if jY c=true then s else bC c
def yP(e c:Int):Int:=if jY c=true then e else c
theorem Cl.Xj {c:Int}(h:Cl c):(jY c=true↔bC c<0):=by
 unfold Cl at h;rcases h with rfl|rfl|rfl|rfl|rfl|rfl|rfl|rfl|rfl|rfl|rfl<;>decide
theorem XF {aj:Int}(he:aj=0∨aj=1):∀t:List Int,(∀c∈t,Cl c)->qj aj t=Ce aj t
 |[],_=>by rw [qj,Ce];rcases he with rfl|rfl<;>decide
 |c::r,h=>by
  have hc:=(h c (by simp)).Xj;rw [qj,Ce,XF he r (fun x hx=>h x (by simp [hx]))];by_cases hn:jY c=true
  .rw [if_pos hn,if_pos (hc.1 hn)]
  .rw [if_neg hn,if_neg (fun h'=>hn (hc.2 h'))]
theorem IX {c:Int}(h:¬bC c<0):bC c=0∨bC c=1:=by
 unfold bC at*;split
 .exact .inl rfl
 .split
  .exact .inr rfl
  .rename_i h0 h1;rw [if_neg h0,if_neg h1]at h;exact absurd (by decide) h
theorem Nz {aj e:Int}(he:aj=0∨aj=1):∀(t:List Int)(s:Int),(s=0∨s=1)->(∀c∈t,Cl c)->(pass (fM aj) gM s t).map (yP e)=pass (fN aj e) gN s t
 |[],_,_,_=>rfl
 |c::r,s,hs,h=>by
  have hc:=(h c (by simp)).Xj;have hr:=fun x hx=>h x (List.mem_cons_of_mem _ hx)
  rw [pass,pass,List.map_cons];by_cases hn:jY c=true
  .have hlt:=hc.1 hn;have hg:gM s c r=s:=by rw [gM,if_pos hn]
   have hg':gN s c r=s:=by rw [gN,if_pos hlt]
   rw [hg,hg',Nz he r s hs hr,fM,if_pos hn,XF he r hr,fN,if_pos hlt]
   congr 1
   by_cases hx:s=Ce aj r
   .rw [if_pos hx,if_pos hx,yP,if_neg (by rcases hs with rfl|rfl<;>decide)]
   .rw [if_neg hx,if_neg hx,yP,if_pos hn]
  .have hge:¬bC c<0:=fun h'=>hn (hc.2 h')
   have hg:gM s c r=bC c:=by rw [gM,if_neg hn]
   have hg':gN s c r=bC c:=by rw [gN,if_neg hge]
   rw [hg,hg',Nz he r _ (IX hge) hr,fM,if_neg hn,fN,if_neg hge,yP,if_neg hn]
theorem agi {aa aj e:Int}(hs:aa=0∨aa=1)(he:e=0∨e=1){t:List Int}:∀c∈Et aa aj e t,c=0∨c=1∨c=3∨c=6:=by
 refine ou (I:=fun s=>s=0∨s=1) (P:=fun _=>True) (Q:=fun c=>c=0∨c=1∨c=3∨c=6) ?_ t aa hs (fun _ _=>trivial);intro s c r hI _;by_cases hn:bC c<0
 .rw [fN,if_pos hn,gN,if_pos hn];refine⟨?_,hI⟩;split<;>omega
 .rw [fN,if_neg hn,gN,if_neg hn];refine⟨?_,IX hn⟩;unfold bC at hn;by_cases h0:c=0
  .exact .inl h0
  .rw [if_neg h0]at hn;by_cases h1:c=1∨c=3∨c=6
   .omega
   .rw [if_neg h1]at hn;exact absurd (by decide) hn
def nJ(own:Int)(t:List Int)(a:Nat):Nat->Bool
 |0=>false
 |m+1=>bC (t.getD a 0)==own||nJ own t (a+1) m
theorem Kh(p:Int->Bool)(t:List Int):∀m a,pV p t a (m+1)=(p (t.getD a 0)||pV p t (a+1) m)
 |0,a=>by simp [pV]
 |m+1,a=>by
  rw [pV,Kh p t m a,pV,Bool.or_assoc,show a+(m+1)=a+1+m by omega]
theorem Rb(own:Int)(t:List Int):∀m a,pV (OC own) t a m=nJ own t a m
 |0,a=>rfl
 |m+1,a=>by rw [Kh,nJ,Rb own t m (a+1)];rfl
def lN(t:List Int)(a:Nat):Nat->Int->Int
 |0,w=>w
 |m+1,w=>lN t (a+1) m (if bC (t.getD a 0)= -1 then w else bC (t.getD a 0))
theorem NT {own:Int}(ho:own=0∨own=1)(t:List Int):∀m a w,(w= -1∨w=1 - own)->nJ own t a m=false->(lN t a m w=if w= -1/\pV (Al own) t a m=false then -1 else 1 - own)
 |0,a,w,hw,_=>by
  rw [lN,pV];rcases hw with rfl|rfl
  .simp
  .rw [if_neg (by omega)]
 |m+1,a,w,hw,hh=>by
  rw [nJ,Bool.or_eq_false_iff]at hh;have hne:bC (t.getD a 0)≠own:=by simpa using hh.1
  rw [lN,Kh];by_cases hn:bC (t.getD a 0)= -1
  .rw [if_pos hn,NT ho t m (a+1) w hw hh.2];have:Al own (t.getD a 0)=false:=by unfold Al;rw [hn];rfl
   rw [this,Bool.false_or]
  .have h01:bC (t.getD a 0)=0∨bC (t.getD a 0)=1:=IX (by
    intro hlt;unfold bC at hn hlt;split at hlt
    .omega
    .split at hlt
     .omega
     .rename_i x y;rw [if_neg x,if_neg y]at hn;exact hn rfl)
   have:Al own (t.getD a 0)=true:=by unfold Al;rw [Bool.and_eq_true,decide_eq_true_eq,bne_iff_ne];exact⟨by omega,hne⟩
   rw [if_neg hn,this,NT ho t m (a+1) _ (.inr (by omega)) hh.2,if_neg (by omega),if_neg (by simp)]
theorem M4 {aa:Int}(hs:aa=0∨aa=1)(t:List Int):∀m,jJ aa t m=0∨jJ aa t m=1
 |0=>hs
 |m+1=>by
  rw [jJ];split
  .exact M4 hs t m
  .exact IX ‹_›
def qm(t:List Int)(p:Nat×Nat)(own aa:Int):Int:=
 if nJ own t (p.1+1) (p.2 - (p.1+1))=true then own
 else if lN t (p.1+1) (p.2 - (p.1+1)) (-1)≠ -1/\jJ aa t p.1≠lN t (p.1+1) (p.2 - (p.1+1)) (-1)then own else lN t (p.1+1) (p.2 - (p.1+1)) (-1)
def xC(t orig:List Int)(p:Nat×Nat)(own aa:Int):List Int:=
 if qm t p own aa= -1 then t else pz orig (qm t p own aa) p.2 (pz orig (qm t p own aa) p.1 t)
theorem agY {own aa:Int}(ho:own=0∨own=1)(hs:aa=0∨aa=1)(t orig:List Int)(p:Nat×Nat):xC t orig p own aa=vJ t orig p own aa:=by
 unfold xC vJ qm xB;rw [Rb];have hl:=M4 hs t p.1;cases hh:nJ own t (p.1+1) (p.2 - (p.1+1))with
 |true=>
  simp only [if_true];rw [if_neg (by omega),if_neg (by simp)]
 |false=>
  have hf:=NT ho t (p.2 - (p.1+1)) (p.1+1) (-1) (.inl rfl) hh;cases ho':pV (Al own) t (p.1+1) (p.2 - (p.1+1))with
  |false=>
   rw [ho',if_pos ⟨rfl,rfl⟩]at hf;rw [hf];simp
  |true=>
   rw [ho',if_neg (by simp)]at hf;rw [hf];have e:(if(1 - own≠ -1/\jJ aa t p.1≠1 - own)then own else 1 - own)=jJ aa t p.1:=by
    by_cases hx:jJ aa t p.1=1 - own
    .rw [if_neg (fun h=>h.2 hx),hx]
    .rw [if_pos ⟨by omega,hx⟩];omega
   simp only [if_false,Bool.false_eq_true];rw [e,if_neg (by omega),if_neg (by simp)]
def fV(l c:Int):Int:=if(c=3∨c=6)/\l%2=0 then 2 else if(c=3∨c=6)∨c≠(if l%2=0 then 0 else 1)then 1 else 0
theorem ahX {l c:Int}(hc:c=0∨c=1∨c=3∨c=6):l+fV l c=um c l:=by
 unfold fV um;by_cases hl:l%2=0
 .rw [if_pos hl,if_pos hl];rcases hc with rfl|rfl|rfl|rfl<;>simp [hl]
 .rw [if_neg hl,if_neg hl];rcases hc with rfl|rfl|rfl|rfl<;>simp [hl]
def mM(l:List Int)(x:Nat×Int×Int):List Int:=l.set x.1 (um x.2.2 x.2.1)
def fE(l:List Int)(x:Nat×Int×Int):List Int:=l.set x.1 (l.getD x.1 0+fV x.2.1 x.2.2)
theorem Q7:∀(xs:List (Nat×Int×Int))(l:List Int),(xs.map Prod.fst).Nodup->(∀x∈xs,l.getD x.1 0=x.2.1/\(x.2.2=0∨x.2.2=1∨x.2.2=3∨x.2.2=6))->xs.foldl fE l=xs.foldl mM l
 |[],_,_,_=>rfl
 |x::xs,l,hn,h=>by
  rw [List.map_cons,List.nodup_cons]at hn;have hx:=h x (by simp);have e:fE l x=mM l x:=by
   unfold fE mM;rw [hx.1,ahX hx.2]
  rw [List.foldl_cons,List.foldl_cons,e];refine Q7 xs _ hn.2 fun y hy=> ?_
  have hy':=h y (by simp [hy]);refine⟨?_,hy'.2⟩;unfold mM;rw [getD_set_ne]
  .exact hy'.1
  .intro he;exact hn.1 (by rw [he];exact List.mem_map.2 ⟨y,hy,rfl⟩)
def lD(at':List Nat)(ah:Int)(t:List Int):List (Nat×Int×Int):=(at'.zip t).map fun x=>(x.1,ah,x.2)
theorem ZT(at':List Nat)(ah:Int)(t:List Int)(h:at'.length<=t.length):(lD at' ah t).map Prod.fst=at':=by
 unfold lD;rw [List.map_map];show(at'.zip t).map Prod.fst=at';exact List.map_fst_zip h
def mQ:List Int->Bool
 |[]=>true
 |c::r=>if c=10 then true else if nL c=true then mQ r else false
def xG(c:Int)(r:List Int):Bool:=c==10||(nL c&&mQ r)
def l9(para:Int):Int->List Int->List Int->List Int
 |_,[],_=>[]
 |_,_::_,[]=>[]
 |prev,c::cs,o::os=>
  (if xG c cs=true then para else if dm c=false then prev else o)::l9 para (if xG c cs=true then para else if dm c=false then prev else o) cs os
def xm(para c o:Int):Int:=if c=10 then para else if dm c=false then -1 else o
def vD(para c:Int)(r:List Int)(v:Int):Int:=if nL c=true/\mQ r=true then para else v
def l1(para:Int):List Int->List Int->List Int
 |[],_=>[]
 |_::_,[]=>[]
 |c::cs,o::os=>vD para c cs (xm para c o)::l1 para cs os
def tT:Int->List Int->List Int
 |_,[]=>[]
 |a,v::r=>(if v= -1 then a else v)::tT (if v= -1 then a else v) r
theorem Ty {para:Int}(hp:para≠ -1):∀(cs os:List Int)(prev:Int),(∀o∈os,o≠ -1)->tT prev (l1 para cs os)=l9 para prev cs os
 |[],_,_,_=>rfl
 |_::_,[],_,_=>rfl
 |c::cs,o::os,prev,h=>by
  have ho:=h o (by simp);have key:(if vD para c cs (xm para c o)= -1 then prev else vD para c cs (xm para c o))=(if xG c cs=true then para else if dm c=false then prev else o):=by
   unfold vD xm;by_cases h10:c=10
   .subst h10;have e1:¬(nL 10=true/\mQ cs=true):=fun h=>absurd h.1 (by decide)
    have e2:xG 10 cs=true:=rfl;rw [if_neg e1,if_pos rfl,if_neg hp,if_pos e2]
   .have e2:xG c cs=(nL c&&mQ cs):=by
     unfold xG;rw [show(c==10)=false by simpa using h10,Bool.false_or]
    rw [e2];by_cases hl:nL c=true/\mQ cs=true
    .rw [if_pos hl,if_neg hp,if_pos (by rw [Bool.and_eq_true];exact hl)]
    .rw [if_neg hl,if_neg h10,if_neg (show¬(nL c&&mQ cs)=true by rw [Bool.and_eq_true];exact hl)];by_cases hf:dm c=false
     .rw [if_pos hf,if_pos hf,if_pos rfl]
     .rw [if_neg hf,if_neg hf,if_neg ho]
  rw [l1,tT,l9,key,Ty hp cs os _ (fun x hx=>h x (by simp [hx]))]
def yY(t rs:List Int):List (Nat×Nat):=match eO t rs t.length 0 ([],[])with
 |none=>[]
 |some out=>out.mergeSort fun a b=>decide (a.1<=b.1)
theorem agZ(t rs:List Int):kT t rs (yY t rs):=by
 unfold kT yY;cases hp:eO t rs t.length 0 ([],[])with
 |none=>rfl
 |some out=>
  simp only;refine⟨List.mergeSort_perm _ _,?_⟩;have:=List.pairwise_mergeSort (le:=fun(a b:Nat×Nat)=>decide (a.1<=b.1)) (by intro a b c;simp;omega) (by intro a b;simp;omega) out;exact this.imp (by intro a b h;simpa using h)
theorem kT.is {t rs:List Int}{ps:List (Nat×Nat)}(h:kT t rs ps):ps=yY t rs:=h.one (agZ t rs)
def xu(t orig:List Int)(ps:List (Nat×Nat))(e aa:Int):List Int:=ps.foldl (fun t p=>vJ t orig p e aa) t
theorem Xg(orig:List Int)(e aa:Int):∀(ps:List (Nat×Nat))(t:List Int),(xu t orig ps e aa).length=t.length
 |[],t=>rfl
 |p::ps,t=>by rw [xu,List.foldl_cons];exact(Xg orig e aa ps _).trans (agX _ _ _ _ _)
def Az(rs kinds:List Int)(s:Sq):List Int:=
 Et s.aa s.aj (s.level%2) (xu (xM s.aa (aV kinds s.at')) (aV kinds s.at') (yY (xM s.aa (aV kinds s.at')) (aV rs s.at')) (s.level%2) s.aa)
def vO(rs kinds:List Int)(s:Sq):List (Nat×Int×Int):=lD s.at' s.level (Az rs kinds s)
def dO(cs:List Int)(d:Int):Int:=if d=0∨d=1 then d else found cs
def gB(rs cs:List Int)(d:Int):List Int:=
 l9 (dO cs d) (dO cs d) cs (((iV cs (aH cs (dO cs d)) (aD cs) (dO cs d)).flatMap (vO rs (iX cs (dO cs d)))).foldl mM (aH cs (dO cs d)))
structure dG(w:World)(B s:Nat)(v:Value)(l:List Nat):Prop where
 cell:w.heap[s]? =some (.cells #[v] 257 (0,0))
 row:w.ownsRow B 3 1 v l.length (iv (nl l))
 low:B<=s
structure aU(w w':World)(s:Nat)(v v':Value):Prop where
 os:w'.os=w.os
 tape:w'.tape=w.tape
 output:w'.output=w.output
 size:w.heap.size<=w'.heap.size
 block:∀k,k<w.heap.size->k≠s->v.ownBlock≠some k->w'.heap[k]? =w.heap[k]?
 own:v'.ownBlock=v.ownBlock∨∀k,v'.ownBlock=some k->w.heap.size<=k
theorem aU.below {w w' w0:World}{B s:Nat}{v v':Value}{l:List Nat}(h:aU w w' s v v')(hs:dG w B s v l)(hb:Below B w0 w):Below B w0 w':=
 hb.trans ⟨h.os,h.tape,h.output,h.size,fun k hk=>by
  have hlow:=hs.low;have hlt:k<w.heap.size:=Nat.lt_of_lt_of_le (Nat.lt_of_lt_of_le hk hlow) (Nat.le_of_lt (bK hs.cell));refine h.block k hlt (by omega) ?_;intro e;have:=uB hs.row k e;omega⟩
theorem dG.ne {w:World}{B s:Nat}{v:Value}{l:List Nat}(h:dG w B s v l):v.ownBlock≠some s:=by
 rcases h.row.2 with⟨rfl,_⟩|⟨g,cp,cur,rfl,_,hh,_⟩
 .simp [Value.ownBlock]
 .simp only [Value.ownBlock];intro e;obtain rfl:=Option.some.inj e;rw [h.cell]at hh;simp at hh
theorem dG.grow {w w5:World}{B s:Nat}{v v5:Value}{l l':List Nat}{m:Nat}(h:dG w B s v l)(hown:w5.ownsRow B 3 1 v5 m (iv (nl l')))(hg:w.grownBy w5 v.ownBlock)(hv:v5.ownBlock=v.ownBlock∨v5.ownBlock=some (w.heap.size+1)):
  dG (w5.setCell ⟨s,0,none⟩ v5) B s v5 l'/\aU w (w5.setCell ⟨s,0,none⟩ v5) s v v5/\w5.cell? ⟨s,0,none⟩=some v/\w5.frozen? ⟨s,0,none⟩=false:=by
 have hlt:=bK h.cell;have gV:w5.heap[s]? =some (.cells #[v] 257 (0,0)):=by rw [hg.block s hlt h.ne.symm];exact h.cell
 have hne:v5.ownBlock≠some s:=by
  rcases hv with hv|hv
  .rw [hv];exact h.ne
  .rw [hv];intro e;have:=Option.some.inj e;omega
 have hm:m=l'.length:=by have:=hown.1;rw [vC,jM]at this;omega
 subst hm;refine⟨⟨by rw [Joins.block_setCell gV];rfl,iG hown hne 0 v5,h.low⟩,⟨hg.os,hg.tape,hg.output,?_,?_,?_⟩,au gV 0,bX gV 0⟩
 .have:=hg.size;simpa using this
 .intro k hk hks hkv;rw [Below.heap_setCell]
  .exact hg.block k hk (fun e=>hkv e.symm)
  .exact hks
 .rcases hv with hv|hv
  .exact .inl hv
  .exact .inr fun k hk=>by rw [hv]at hk;have:=Option.some.inj hk;omega
theorem M8(w:World)(B s:Nat)(v:Value)(l:List Nat)(h:dG w B s v l):Calls prog 244 #[.pointer (some ⟨s,0,none⟩)] w fun e w'=>e= .returned (.int .i64 l.length)/\w'=w:=by
 obtain⟨a,c,rfl⟩:=fH h.row;have c0:w.cell? ⟨s,0,none⟩=some (.slice a l.length c):=au h.cell 0;clear h;go_enter func244,ntmps244;go_wp2;go_ret;exact⟨rfl,rfl⟩
theorem Rk(w:World)(B s:Nat)(v:Value)(l:List Nat)(i:Nat)(h:dG w B s v l)(hi:i<l.length):Calls prog 234 #[.pointer (some ⟨s,0,none⟩),.int .i64 i] w fun e w'=>e= .returned (.tuple #[.int .i64 (l.getD i 0:Nat),.bool true])/\w'=w:=by
 obtain⟨g,c,rfl,_,_,_⟩:=kg h.row (by omega);have c0:w.cell? ⟨s,0,none⟩=some (.slice (some ⟨g,0,none⟩) l.length c):=au h.cell 0;have c1:=jZ h.row i (by rw [jM];exact hi);rw [uw _ _ hi]at c1;generalize l.getD i 0=x at*;generalize l.length=n at*;have hi':((i:Int)<(n:Int)):=by omega
 have hg:decide ((i:Int)<0)=false:=by simp
 clear h;go_enter func234,ntmps234;go_wp2;go_ret2;exact⟨rfl,rfl⟩
theorem aa3(w:World)(s:Nat)(i:Int)(hi:i<0):Calls prog 234 #[.pointer (some ⟨s,0,none⟩),.int .i64 i] w fun e w'=>e= .returned (.tuple #[.int .i64 0,.bool false])/\w'=w:=by
 go_enter func234,ntmps234;go_wp2;go_ret2;exact⟨rfl,rfl⟩
theorem YB(w:World)(B s:Nat)(v:Value)(l:List Nat)(i:Nat)(h:dG w B s v l)(hl:l.length<=1000000):Calls prog 197 #[.pointer (some ⟨s,0,none⟩),.int .i64 i] w fun e w'=>e= .returned (.tuple #[])/\∃v',dG w' B s v' (l++[i])/\aU w w' s v v':=by
 obtain⟨iI,p8,p9,qb,qd⟩:=info_parts Tryz.xh;have c0:w.cell? ⟨s,0,none⟩=some v:=au h.cell 0;have f0:w.frozen? ⟨s,0,none⟩=false:=bX h.cell 0;have hrow:=h.row;have hbz:B<=w.heap.size:=Nat.le_trans h.low (Nat.le_of_lt (bK h.cell));have HS:Hid (dG w B s v l):=h;obtain⟨a,c,rfl⟩:=fH hrow;clear h;go_enter func197,ntmps197;go_wp2_with(at_builtin;refine Pn _ rfl _ _ 31 rfl B 3 iI (.int .i64 0) 8 underlying31 p8 p9 qb qd rfl (by decide) _ _ _ rfl hrow _ _ _ rfl rfl rfl hl hbz ?_);intro v5 w5 hown5 hg5 hv5;obtain⟨a5,nV,rfl⟩:=fH hown5;obtain⟨hS5,tX,c5,f5⟩:=HS.out.grow (by rw [BS,Ik]at hown5;exact hown5) hg5 hv5;have lH:Hid _:=hS5;have CK:Hid _:=tX;clear hS5 tX hown5 hg5 hv5 hrow c0 f0;go_wp2;go_end0;exact⟨rfl,_,lH.out,CK.out⟩
theorem Iu {B g n c z:Nat}{e:TypeId}:∀(vs:List Value)(o:Nat)(w:World)(xs:List Value),w.ownsRow B e z (.slice (some ⟨g,0,none⟩) n c) n xs->∃xs',(w.setCells g o vs).ownsRow B e z (.slice (some ⟨g,0,none⟩) n c) n xs'/\w.grownBy (w.setCells g o vs) (some g)/\∀j,j<o->xs'[j]? =xs[j]?
 |[],_,w,xs,h=>⟨xs,h,World.grownBy.refl _ _,fun _ _=>rfl⟩
 |v::vs,o,w,xs,h=>by
  obtain⟨h1,h2⟩:=World.ownsRow.stored h o v;obtain⟨xs',h3,h4,h5⟩:=Iu vs (o+1) _ _ h1;refine⟨xs',h3,h2.trans h4,fun j hj=> ?_⟩;rw [h5 j (by omega),List.getElem?_set_ne (by omega)]
theorem take_same {α:Type}(xs ys:List α)(k:Nat)(h:∀j,j<k->ys[j]? =xs[j]?):ys.take k=xs.take k:=by
 apply List.ext_getElem?;intro j;rw [List.getElem?_take,List.getElem?_take];split
 .exact h j (by assumption)
 .rfl
theorem dG.cut {w:World}{B s g c n:Nat}{l:List Nat}{vs:List Value}(h:dG w B s (.slice (some ⟨g,0,none⟩) l.length c) l)(hn:n<l.length):
  dG ((w.setCells g n vs).setCell ⟨s,0,none⟩ (.slice (some ⟨g,0,none⟩) n c)) B s (.slice (some ⟨g,0,none⟩) n c) (l.take n)/\aU w ((w.setCells g n vs).setCell ⟨s,0,none⟩ (.slice (some ⟨g,0,none⟩) n c)) s (.slice (some ⟨g,0,none⟩) l.length c) (.slice (some ⟨g,0,none⟩) n c)/\(w.setCells g n vs).cell? ⟨s,0,none⟩=some (.slice (some ⟨g,0,none⟩) l.length c)/\(w.setCells g n vs).frozen? ⟨s,0,none⟩=false:=by
 have hlt:=bK h.cell;have hne:=h.ne;have hgs:g≠s:=by simpa [Value.ownBlock]using hne
 obtain⟨xs',h1,h2,h3⟩:=Iu vs n w _ h.row;have gV:(w.setCells g n vs).heap[s]? =some (.cells #[.slice (some ⟨g,0,none⟩) l.length c] 257 (0,0)):=by rw [h2.block s hlt (by simpa using hgs.symm)];exact h.cell
 have h4:=Iw h1 n (by omega);rw [Nat.mul_one,take_same _ _ n h3,<-Nat.mul_one n,MW,Nat.mul_one]at h4;refine⟨⟨by rw [Joins.block_setCell gV];rfl,?_,h.low⟩,⟨h2.os,h2.tape,h2.output,by have:=h2.size;simpa using this,?_,.inl rfl⟩,au gV 0,bX gV 0⟩
 .have:=iG h4 (s:=s) (by simpa [Value.ownBlock]using hgs) 0 (.slice (some ⟨g,0,none⟩) n c);simpa [Nat.min_eq_left (Nat.le_of_lt hn)]using this
 .intro k hk hks hkv;rw [Below.heap_setCell]
  .exact h2.block k hk (fun e=>hkv (by rw [e];rfl))
  .exact hks
theorem Si(w:World)(B s:Nat)(v:Value)(l:List Nat)(n:Nat)(h:dG w B s v l)(hn:n<l.length)(hl:l.length<=1000000):Calls prog 235 #[.pointer (some ⟨s,0,none⟩),.int .i64 n] w fun e w'=>e= .returned (.tuple #[])/\∃v',dG w' B s v' (l.take n)/\aU w w' s v v':=by
 obtain⟨g,c,rfl,hcap,hgw,hgB⟩:=kg h.row (by omega);have c0:w.cell? ⟨s,0,none⟩=some (.slice (some ⟨g,0,none⟩) l.length c):=au h.cell 0;have f0:w.frozen? ⟨s,0,none⟩=false:=bX h.cell 0;have UO:=Lib.run_clear_slice (P:=prog) w 31 3 0 (.int .i64 0) underlying31 Tryz.zeroValue3 rfl rfl g n (l.length - n) (c - n) (by omega) (fun j hj=>by
   rw [jZ h.row (n+j) (by rw [jM];omega)];rfl) (fun j _=>World.ownsRow.frozenAt h.row (n+j))
 have Vf:n<=c:=by omega
 have hni:((n:Int)<(l.length:Int)):=by omega
 obtain⟨hS,hF,c5,f5⟩:=h.cut (vs:=List.replicate (l.length - n) (.int .i64 0)) hn;have HS:Hid _:=hS;have HF:Hid _:=hF;clear h hS hF;generalize w.setCells g n (List.replicate (l.length - n) (.int .i64 0))=Wc at*;generalize l.length=L at*;go_enter func235,ntmps235;go_wp2;go_end0;exact⟨rfl,_,HS.out,HF.out⟩
theorem aht(w:World)(B s:Nat)(v:Value)(l:List Nat)(x:Nat)(h:dG w B s v (l++[x]))(hl:l.length<=100000):Calls prog 198 #[.pointer (some ⟨s,0,none⟩)] w fun e w'=>e= .returned (.tuple #[.int .i64 x,.bool true])/\∃v',dG w' B s v' l/\aU w w' s v v':=by
 have hlen:(l++[x]).length=l.length+1:=by simp
 obtain⟨a,c,rfl⟩:=fH h.row;have c0:w.cell? ⟨s,0,none⟩=some (.slice a (l.length+1) c):=by have:=au h.cell 0;rw [hlen]at this;exact this
 have ji:Hid (Calls prog 234 #[.pointer (some ⟨s,0,none⟩),.int .i64 l.length] w fun e w'=>e= .returned (.tuple #[.int .i64 x,.bool true])/\w'=w):=by
  have:=Rk w B s _ (l++[x]) l.length h (by omega);have hx:(l++[x]).getD l.length 0=x:=by simp
  rw [hx]at this;exact this
 have vY:Hid (Calls prog 235 #[.pointer (some ⟨s,0,none⟩),.int .i64 l.length] w fun e w'=>e= .returned (.tuple #[])/\∃v',dG w' B s v' l/\aU w w' s (.slice a (l++[x]).length c) v'):=by
  have:=Si w B s _ (l++[x]) l.length h (by omega) (by omega);have hx:(l++[x]).take l.length=l:=by simp
  rw [hx]at this;exact this
 clear h hlen;generalize l.length=L at*;go_enter func198,ntmps198;go_wp2_with fail;refine ji.out.mono ?_;rintro ev wx ⟨rfl,hx⟩;have hx':=hx.symm;subst hx';go_wp2_with fail;refine vY.out.mono ?_;rintro ev w2 ⟨rfl,v',hS,hF⟩;have HS:Hid _:=hS;have HF:Hid _:=hF;clear hS hF;go_wp2;go_ret2;exact⟨rfl,_,HS.out,HF.out⟩
theorem ahs(w:World)(B s:Nat)(v:Value)(h:dG w B s v []):Calls prog 198 #[.pointer (some ⟨s,0,none⟩)] w fun e w'=>e= .returned (.tuple #[.int .i64 0,.bool false])/\w'=w:=by
 obtain⟨a,c,rfl⟩:=fH h.row;have c0:w.cell? ⟨s,0,none⟩=some (.slice a 0 c):=au h.cell 0;clear h;go_enter func198,ntmps198;go_wp2_with fail;refine(aa3 w s (-1) (by omega)).mono ?_;rintro ev wx ⟨rfl,hx⟩;have hx':=hx.symm;subst hx';go_wp2;go_ret2;exact⟨rfl,rfl⟩
def ic(c:Int):Bool:=c==13||(c==14||(c==15||c==16))
theorem kH(c:Int)(w:World):Calls prog 196 #[.int .i64 c] w fun e w'=>e= .returned (.bool (aG c))/\w'=w:=by
 obtain⟨q,hq⟩:∃q,q=aG c:=⟨_,rfl⟩
 rw [<-hq];have HQ:Hid (q=aG c):=hq;clear hq;cases h1:(c==18)
 .cases h2:(c==19)
  .go_enter func196,ntmps196;go_wp2;go_ret;exact⟨jO (by rw [HQ.out,aG,h1,h2];rfl),rfl⟩
  .go_enter func196,ntmps196;go_wp2;go_ret;exact⟨jO (by rw [HQ.out,aG,h1,h2];rfl),rfl⟩
 .go_enter func196,ntmps196;go_wp2;go_ret;exact⟨jO (by rw [HQ.out,aG,h1];rfl),rfl⟩
theorem zN(c:Int)(w:World):Calls prog 202 #[.int .i64 c] w fun e w'=>e= .returned (.bool (ic c))/\w'=w:=by
 obtain⟨q,hq⟩:∃q,q=ic c:=⟨_,rfl⟩
 rw [<-hq];have HQ:Hid (q=ic c):=hq;clear hq;cases h1:(c==13)<;>cases h2:(c==14)<;>cases h3:(c==15)
 all_goals
  go_enter func202,ntmps202;go_wp2;go_ret;exact⟨jO (by rw [HQ.out,ic,h1,h2,h3];rfl),rfl⟩
theorem sw(c:Int)(w:World):Calls prog 160 #[.int .i64 c] w fun e w'=>e= .returned (.bool (!dm c))/\w'=w:=by
 have hl:(!dm c)=(ic c||(c==17||c==9)):=by
  rw [Bool.eq_iff_iff];simp only [dm,ic,Bool.not_eq_true',Bool.and_eq_false_iff,bne_eq_false_iff_eq,Bool.or_eq_false_iff,decide_eq_false_iff_not,Bool.or_eq_true,beq_iff_eq];omega
 rw [hl];clear hl;have HE:Hid (Calls prog 202 #[.int .i64 c] w fun e w'=>e= .returned (.bool (ic c))/\w'=w):=zN c w;generalize ic c=eb at*;cases eb<;>cases h2:(c==17)
 all_goals
  go_enter func160,ntmps160;go_wp2_with fail;refine HE.out.mono ?_;rintro ev wx ⟨rfl,hx⟩;have hx':=hx.symm;subst hx';go_wp2;go_ret;exact⟨jO (by simp),rfl⟩
theorem FO(c:Int)(w:World):Calls prog 217 #[.int .i64 c] w fun e w'=>e= .returned (.int .i64 (bC c))/\w'=w:=by
 obtain⟨q,hq⟩:∃q,q=bC c:=⟨_,rfl⟩
 rw [<-hq];have HQ:Hid (q=bC c):=hq;clear hq;cases h0:(c==0)<;>cases h1:(c==1)<;>cases h3:(c==3)<;>cases h6:(c==6)
 all_goals
  have HV:Hid (q=if(c==0)=true then 0 else if(c==1||(c==3||c==6))=true then 1 else -1):=by
   show _=_;rw [HQ.out,bC];simp
  go_enter func217,ntmps217;go_wp2;go_ret;exact⟨kM (by rw [HV.out,h0,h1,h3,h6];rfl),rfl⟩
theorem xJ(l:Int)(w:World)(hl:0<=l):Calls prog 96 #[.int .i64 l] w fun e w'=>e= .returned (.int .i64 (l%2))/\w'=w:=by
 obtain⟨q,hq⟩:∃q,q=l%2:=⟨_,rfl⟩
 have h01:q=0∨q=1:=by omega
 rw [<-hq];rcases h01 with rfl|rfl
 .have h':(l%2==0)=true:=by simpa using hq.symm
  clear hq;go_enter func96,ntmps96;go_wp2;go_ret;exact⟨rfl,rfl⟩
 .have h':(l%2==0)=false:=by rw [<-hq];rfl
  clear hq;go_enter func96,ntmps96;go_wp2;go_ret;exact⟨rfl,rfl⟩
