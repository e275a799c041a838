import Derived.Test.YtkbinfhclaafhaaGreatDoorH01
namespace Go.Proofs.YtkbinfhclaafhaaGreatDoor
open Go.RowKit
open Go.Proofs.Tryz
set_option maxRecDepth 100000
set_option maxHeartbeats 32000000
def pass {σ:Type}(f:σ->Int->List Int->Int)(g:σ->Int->List Int->σ):σ->List Int->List Int
 |_,[]=>[]
 |s,c::r=>f s c r::pass f g (g s c r) r
def bz {σ:Type}(f:σ->Int->List Int->Int)(g:σ->Int->List Int->σ)(s0:σ)(t:List Int)(k:Nat)(s:σ)(t':List Int):Prop:=
 ∃pre,pre.length=k/\t'=pre++t.drop k/\pass f g s0 t=pre++pass f g s (t.drop k)
section
variable{σ:Type}{f:σ->Int->List Int->Int}{g:σ->Int->List Int->σ}{s0 s:σ}{t t':List Int}{k:Nat}
theorem Yi:∀(t:List Int)(s:σ),(pass f g s t).length=t.length
 |[],_=>rfl
 |c::r,s=>by simp [pass,Yi r]
theorem bz.start(f:σ->Int->List Int->Int)(g:σ->Int->List Int->σ)(s0:σ)(t:List Int):bz f g s0 t 0 s0 t:=⟨[],rfl,by simp,by simp⟩
theorem bz.stop(h:bz f g s0 t k s t')(hk:¬k<t.length):t'=pass f g s0 t:=by
 obtain⟨pre,_,h2,h3⟩:=h;rw [List.drop_eq_nil_of_le (by omega)]at h2 h3;rw [h2,h3];rfl
theorem bz.at(h:bz f g s0 t k s t')(j:Nat)(hj:k<=j):t'.getD j 0=t.getD j 0:=by
 obtain⟨pre,h1,h2,_⟩:=h;rw [h2,List.getD_eq_getElem?_getD,List.getElem?_append_right (by omega),h1,List.getElem?_drop,show k+(j - k)=j by omega,List.getD_eq_getElem?_getD]
theorem bz.step(h:bz f g s0 t k s t')(hk:k<t.length)(v:Int)(s':σ)(hv:v=f s (t.getD k 0) (t.drop (k+1)))(hs:s'=g s (t.getD k 0) (t.drop (k+1))):bz f g s0 t (k+1) s' (t'.set k v):=by
 obtain⟨pre,h1,h2,h3⟩:=h;refine⟨pre++[v],by simp [h1],?_,?_⟩
 .rw [h2,drop_at hk,List.set_append_right _ _ (by omega),h1,Nat.sub_self];simp
 .rw [h3,drop_at hk,pass,<-hv,<-hs];simp
theorem bz.same(h:bz f g s0 t k s t')(hk:k<t.length):t'.set k (t.getD k 0)=t':=by
 obtain⟨pre,h1,h2,_⟩:=h;rw [h2,drop_at hk,List.set_append_right _ _ (by omega),h1,Nat.sub_self];rfl
theorem bz.stay(h:bz f g s0 t k s t')(hk:k<t.length)(s':σ)(hv:t.getD k 0=f s (t.getD k 0) (t.drop (k+1)))(hs:s'=g s (t.getD k 0) (t.drop (k+1))):bz f g s0 t (k+1) s' t':=by
 have:=h.step hk (t.getD k 0) s' hv hs
 rwa [h.same hk]at this
theorem bz.length(h:bz f g s0 t k s t')(hk:k<=t.length):t'.length=t.length:=by
 obtain⟨pre,h1,h2,_⟩:=h;rw [h2];simp [h1];omega
theorem bz.prev(h:bz f g s0 t k s t')(hk:k<t.length)(v:Int):(t'.set k v).getD k 0=v:=by
 have:=h.length (by omega);rw [List.getD_eq_getElem?_getD,List.getElem?_set_self (by omega)];rfl
end
def Ahead(t':List Int)(k:Nat)(s:Option Int):Prop:=(k=0/\s=none)∨(0<k/\s=some (t'.getD (k - 1) 0))
def f1(aa:Int)(s:Option Int)(c:Int)(_r:List Int):Int:=if c=8 then(match s with|none=>aa|some p=>if aG p=true∨p=21 then 12 else p)else c
def g1(aa:Int)(s:Option Int)(c:Int)(r:List Int):Option Int:=some (f1 aa s c r)
def f3(_:Unit)(c:Int)(_:List Int):Int:=if c=2 then 1 else c
def g3(_:Unit)(_:Int)(_:List Int):Unit:=()
def f4(s:Option Int)(c:Int)(r:List Int):Int:=match s,r with
 |some a,d::_=>if a=d/\((c=4/\a=3)∨(c=7/\(a=3∨a=6)))then a else c
 |_,_=>c
def g4(s:Option Int)(c:Int)(r:List Int):Option Int:=some (f4 s c r)
def nD:List Int->Bool
 |[]=>false
 |c::r=>if c=5 then nD r else c==3
def f5(s:Option Int)(c:Int)(r:List Int):Int:=if c=5/\(s=some 3∨nD r=true)then 3 else c
def g5(s:Option Int)(c:Int)(r:List Int):Option Int:=some (f5 s c r)
def f6(_:Unit)(c:Int)(_:List Int):Int:=if c=4∨c=5∨c=7 then 12 else c
theorem Tn {aa c:Int}{s:Option Int}{r:List Int}(h:¬c=8):f1 aa s c r=c:=by unfold f1;rw [if_neg h]
theorem ada {c:Int}{r:List Int}(h:¬c=2):f3 () c r=c:=by unfold f3;rw [if_neg h]
theorem adb {c:Int}{r:List Int}(h:¬(c=4∨c=5∨c=7)):f6 () c r=c:=by unfold f6;rw [if_neg h]
theorem Le {c:Int}{r:List Int}:f4 none c r=c:=by unfold f4;rfl
theorem Tp {s:Option Int}{c:Int}:f4 s c []=c:=by unfold f4;cases s<;>rfl
theorem Lf {a d c:Int}{r:List Int}:f4 (some a) c (d::r)=if a=d/\((c=4/\a=3)∨(c=7/\(a=3∨a=6)))then a else c:=rfl
theorem ahg {t:List Int}(h:0<t.length):bz f4 g4 none t 1 (some (t.getD 0 0)) t:=by
 have:=(bz.start f4 g4 none t).stay h (some (t.getD 0 0)) Le.symm (by rw [g4,Le]);exact this
theorem ahh {t t':List Int}{k:Nat}{s:Option Int}(h:bz f4 g4 none t k s t')(hk:¬k+1<t.length):t'=pass f4 g4 none t:=by
 by_cases h':k<t.length
 .have hd:t.drop (k+1)=[]:=List.drop_eq_nil_of_le (by omega);exact(h.stay h' (g4 s (t.getD k 0) (t.drop (k+1))) (by rw [hd,Tp]) rfl).stop (by omega)
 .exact h.stop h'
def xM(aa:Int)(t:List Int):List Int:=
 jA 0 0 aa (pass f6 g3 () (pass f5 g5 none (pass f4 g4 none (pass f3 g3 () (jA 2 6 aa (pass (f1 aa) (g1 aa) none t))))))
theorem Ahead.start(t':List Int):Ahead t' 0 none:= .inl ⟨rfl,rfl⟩
theorem Ahead.set {t':List Int}{k:Nat}(v:Int)(h:k<t'.length):Ahead (t'.set k v) (k+1) (some v):= .inr ⟨by omega,by
 rw [Nat.add_sub_cancel,List.getD_eq_getElem?_getD,List.getElem?_set_self h];rfl⟩
theorem Ahead.stay {t':List Int}{k:Nat}:Ahead t' (k+1) (some (t'.getD k 0)):= .inr ⟨by omega,by rw [Nat.add_sub_cancel]⟩
def wP(t:List Int)(k:Nat):Nat->List Int
 |0=>t
 |m+1=>(wP t k m).set (k+m) 3
theorem Tw(t:List Int)(k:Nat):∀m,(wP t k m).length=t.length
 |0=>rfl
 |m+1=>by simp [wP,Tw t k m]
theorem Lb {td:List Int}{j:Nat}(hj:j<=td.length):∀m a,a+m=j->(∀q,a<=q->q<j->td.getD q 0=5)->nD (td.drop a)=nD (td.drop j)
 |0,a,h,_=>by rw [<-h];rfl
 |m+1,a,h,hr=>by
  rw [drop_at (show a<td.length by omega),nD,if_pos (hr a (Nat.le_refl _) (by omega))];exact Lb hj m (a+1) (by omega) (fun q h1 h2=>hr q (by omega) h2)
theorem YN {td t':List Int}{k j:Nat}{s:Option Int}(h:bz f5 g5 none td k s t')(hrun:∀q,k<=q->q<j->td.getD q 0=5)(hj:j<=td.length)(hc:s=some 3∨nD (td.drop j)=true):
  ∀m,k+m<=j->∃s',bz f5 g5 none td (k+m) s' (wP t' k m)/\(m=0->s'=s)/\(0<m->s'=some 3)
 |0,_=>⟨s,h,fun _=>rfl,fun h=>by omega⟩
 |m+1,hm=>by
  obtain⟨s',h1,h2,h3⟩:=YN h hrun hj hc m (by omega);have hq:s'=some 3∨nD (td.drop (k+m+1))=true:=by
   rcases hc with hc|hc
   .left;rcases Nat.eq_zero_or_pos m with h0|h0
    .rw [h2 h0,hc]
    .exact h3 h0
   .right;rw [Lb hj (j - (k+m+1)) (k+m+1) (by omega) (fun q h1 h2=>hrun q (by omega) h2)];exact hc
  have hf:f5 s' (td.getD (k+m) 0) (td.drop (k+m+1))=3:=by
   unfold f5;exact if_pos ⟨hrun (k+m) (by omega) (by omega),hq⟩
  exact⟨some 3,h1.step (by omega) 3 (some 3) hf.symm (by rw [g5,hf]),fun h=>by omega,fun _=>rfl⟩
theorem ah2 {td t':List Int}{k j:Nat}{s:Option Int}(h:bz f5 g5 none td k s t')(hrun:∀q,k<=q->q<j->td.getD q 0=5)(hj:j<=td.length)(hkj:k<j)(hc:s=some 3∨nD (td.drop j)=true):
  bz f5 g5 none td j (some 3) (wP t' k (j - k))/\Ahead (wP t' k (j - k)) j (some 3):=by
 obtain⟨s',h1,_,h3⟩:=YN h hrun hj hc (j - k) (by omega);rw [h3 (by omega),show k+(j - k)=j by omega]at h1;refine⟨h1,?_⟩;have hlen:=h.length (by omega);obtain⟨m,hm⟩:∃m,j - k=m+1:=⟨j - k - 1,by omega⟩
 rw [hm,wP,show j=k+m+1 by omega];exact Ahead.set 3 (by rw [Tw,hlen];omega)
theorem YO {td t':List Int}{k j:Nat}{s:Option Int}(h:bz f5 g5 none td k s t')(hrun:∀q,k<=q->q<j->td.getD q 0=5)(hj:j<=td.length)(hs:¬s=some 3)(he:nD (td.drop j)=false):
  ∀m,k+m<=j->∃s',bz f5 g5 none td (k+m) s' t'/\(m=0->s'=s)/\(0<m->s'=some 5)
 |0,_=>⟨s,h,fun _=>rfl,fun h=>by omega⟩
 |m+1,hm=>by
  obtain⟨s',h1,h2,h3⟩:=YO h hrun hj hs he m (by omega);have hs':¬s'=some 3:=by
   rcases Nat.eq_zero_or_pos m with h0|h0
   .rw [h2 h0];exact hs
   .rw [h3 h0];simp
  have h5:=hrun (k+m) (by omega) (by omega);have hf:f5 s' (td.getD (k+m) 0) (td.drop (k+m+1))=5:=by
   unfold f5;rw [Lb hj (j - (k+m+1)) (k+m+1) (by omega) (fun q h1 h2=>hrun q (by omega) h2),he,if_neg (by rintro⟨_,h|h⟩;exact hs' h;cases h)];exact h5
  exact⟨some 5,h1.stay (by omega) (some 5) (by rw [hf];exact h5) (by rw [g5,hf]),fun h=>by omega,fun _=>rfl⟩
theorem ah3 {td t':List Int}{k j:Nat}{s:Option Int}(h:bz f5 g5 none td k s t')(hrun:∀q,k<=q->q<j->td.getD q 0=5)(hj:j<=td.length)(hkj:k<j)(hs:¬s=some 3)(he:nD (td.drop j)=false):
  bz f5 g5 none td j (some 5) t'/\Ahead t' j (some 5):=by
 obtain⟨s',h1,_,h3⟩:=YO h hrun hj hs he (j - k) (by omega);rw [h3 (by omega),show k+(j - k)=j by omega]at h1;refine⟨h1,.inr ⟨by omega,?_⟩⟩;rw [h.at (j - 1) (by omega),hrun (j - 1) (by omega) (by omega)]
theorem ac4 {td:List Int}{j:Nat}(hj:j<td.length)(h5:¬td.getD j 0=5):nD (td.drop j)=(td.getD j 0==3):=by rw [drop_at hj,nD,if_neg h5]
theorem ac5 {td:List Int}{j:Nat}(hj:¬j<td.length):nD (td.drop j)=false:=by rw [List.drop_eq_nil_of_le (by omega)];rfl
theorem YP {td t':List Int}{k:Nat}{s:Option Int}(h:bz f5 g5 none td k s t')(hk:k<td.length)(h5:¬td.getD k 0=5):bz f5 g5 none td (k+1) (some (td.getD k 0)) t'/\Ahead t' (k+1) (some (td.getD k 0)):=by
 have hf:f5 s (td.getD k 0) (td.drop (k+1))=td.getD k 0:=by unfold f5;rw [if_neg (fun h=>h5 h.1)]
 refine⟨h.stay hk _ hf.symm (by rw [g5,hf]),?_⟩;rw [<-h.at k (Nat.le_refl _)];exact Ahead.stay
def lW(rs:List Int)(r:Int)(st:List Nat):Nat->Option Nat
 |0=>none
 |m+1=>if(brk (rs.getD (st.getD m 0) 0)).2=r then some m else lW rs r st m
def oh(t rs:List Int)(i:Nat)(x:List Nat×List (Nat×Nat)):Option (List Nat×List (Nat×Nat)):=
 if t.getD i 0=12 then
  if(brk (rs.getD i 0)).1=1 then(if x.1.length=63 then none else some (x.1++[i],x.2))
  else if(brk (rs.getD i 0)).1=2 then(match lW rs (brk (rs.getD i 0)).2 x.1 x.1.length with
   |some m=>some (x.1.take m,x.2++[(x.1.getD m 0,i)])
   |none=>some x)
  else some x
 else some x
def eO(t rs:List Int):Nat->Nat->List Nat×List (Nat×Nat)->Option (List (Nat×Nat))
 |0,_,x=>some x.2
 |n+1,i,x=>match oh t rs i x with
  |some y=>eO t rs n (i+1) y
  |none=>none
def kT(t rs:List Int)(ps:List (Nat×Nat)):Prop:=match eO t rs t.length 0 ([],[])with
 |none=>ps=[]
 |some out=>ps.Perm out/\ps.Pairwise (fun a b=>a.1<=b.1)
theorem Zk(rs:List Int)(r:Int)(st:List Nat):∀m k,lW rs r st m=some k->k<m
 |0,k,h=>by simp [lW]at h
 |m+1,k,h=>by
  rw [lW]at h;split at h
  .simp at h;omega
  .have:=Zk rs r st m k h;omega
structure iA(i:Nat)(x:List Nat×List (Nat×Nat)):Prop where
 len:x.1.length<=63
 few:x.2.length<=i
 st:∀a∈x.1,a<i
 out:∀p∈x.2,p.1<p.2/\p.2<i
 oW:(x.1++x.2.map Prod.fst).Nodup
theorem iA.start:iA 0 ([],[]):=⟨by simp,by simp,by simp,by simp,by simp⟩
theorem iA.more {i:Nat}{x:List Nat×List (Nat×Nat)}(h:iA i x):iA (i+1) x:=
 ⟨h.len,Nat.le_succ_of_le h.few,fun a ha=>Nat.lt_succ_of_lt (h.st a ha),fun p hp=>⟨(h.out p hp).1,Nat.lt_succ_of_lt (h.out p hp).2⟩,h.oW⟩
theorem iA.push {i:Nat}{x:List Nat×List (Nat×Nat)}(h:iA i x)(hl:¬x.1.length=63):iA (i+1) (x.1++[i],x.2):=by
 obtain⟨h1,h2,h3,h4,h5⟩:=h;refine⟨by simp;omega,by simp;omega,?_,fun p hp=>⟨(h4 p hp).1,Nat.lt_succ_of_lt (h4 p hp).2⟩,?_⟩
 .intro a ha;simp at ha;rcases ha with ha|rfl
  .exact Nat.lt_succ_of_lt (h3 a ha)
  .exact Nat.lt_succ_self _
 .show((x.1++[i])++x.2.map Prod.fst).Nodup;have hp:((x.1++[i])++x.2.map Prod.fst).Perm (i::(x.1++x.2.map Prod.fst)):=by
   rw [List.append_assoc];exact List.perm_middle
  rw [hp.nodup_iff,List.nodup_cons];refine⟨?_,h5⟩;intro hm;rcases List.mem_append.1 hm with hm|hm
  .exact Nat.lt_irrefl _ (h3 i hm)
  .obtain⟨p,hq,rfl⟩:=List.mem_map.1 hm;have:=h4 p hq;omega
theorem iA.pop {i m:Nat}{x:List Nat×List (Nat×Nat)}(h:iA i x)(hm:m<x.1.length):iA (i+1) (x.1.take m,x.2++[(x.1.getD m 0,i)]):=by
 obtain⟨h1,h2,h3,h4,h5⟩:=h;have hget:x.1.getD m 0=x.1[m]:=by simp [List.getD_eq_getElem?_getD,List.getElem?_eq_getElem hm]
 have hmem:x.1.getD m 0∈x.1:=by rw [hget];exact List.getElem_mem hm
 refine⟨by simp;omega,by simp;omega,fun a ha=>Nat.lt_succ_of_lt (h3 a (List.mem_of_mem_take ha)),?_,?_⟩
 .intro p hp;simp at hp;rcases hp with hp|rfl
  .exact⟨(h4 p hp).1,Nat.lt_succ_of_lt (h4 p hp).2⟩
  .exact⟨by have:=h3 _ hmem;simpa [List.getD_eq_getElem?_getD]using this,Nat.lt_succ_self _⟩
 .have hs:(x.1.take m++[x.1.getD m 0]).Sublist x.1:=by
   have:x.1.take m++[x.1.getD m 0]=x.1.take (m+1):=by rw [hget,List.take_succ_eq_append_getElem hm]
   rw [this];exact List.take_sublist _ _
  have hn:=h5.sublist (hs.append (List.Sublist.refl (x.2.map Prod.fst)));refine(List.Perm.nodup_iff ?_).1 hn;simp only [List.map_append,List.map_cons,List.map_nil];rw [List.append_assoc];refine(List.Perm.refl _).append ?_;exact List.perm_append_comm
theorem iA.step {t rs:List Int}{i:Nat}{x y:List Nat×List (Nat×Nat)}(h:iA i x)(hy:oh t rs i x=some y):iA (i+1) y:=by
 unfold oh at hy;split at hy
 .split at hy
  .split at hy
   .cases hy
   .obtain rfl:=Option.some.inj hy;exact h.push ‹_›
  .split at hy
   .split at hy
    .rename_i m hm;obtain rfl:=Option.some.inj hy;exact h.pop (Zk _ _ _ _ _ hm)
    .obtain rfl:=Option.some.inj hy;exact h.more
   .obtain rfl:=Option.some.inj hy;exact h.more
 .obtain rfl:=Option.some.inj hy;exact h.more
theorem NV {t rs:List Int}:∀n i x out,iA i x->eO t rs n i x=some out->(∀p∈out,p.1<p.2/\p.2<i+n)/\(out.map Prod.fst).Nodup
 |0,i,x,out,h,hf=>by
  rw [eO]at hf;obtain rfl:=Option.some.inj hf;exact⟨h.out,(List.nodup_append.1 h.oW).2.1⟩
 |n+1,i,x,out,h,hf=>by
  rw [eO]at hf;split at hf
  .rename_i y hy;have:=NV n (i+1) y out (h.step hy) hf;exact⟨fun p hp=>⟨(this.1 p hp).1,by have:=(this.1 p hp).2;omega⟩,this.2⟩
  .cases hf
theorem Zp:∀(a b:List (Nat×Nat)),a.Perm b->(a.map Prod.fst).Nodup->a.Pairwise (fun p q=>p.1<=q.1)->b.Pairwise (fun p q=>p.1<=q.1)->a=b
 |[],b,h,_,_,_=>h.nil_eq
 |p::a,[],h,_,_,_=>by simpa using h.length_eq
 |p::a,q::b,h,hn,ha,hb=>by
  have hpq:p=q:=by
   have h1:p∈q::b:=h.subset (by simp);have h2:q∈p::a:=h.symm.subset (by simp);rcases List.mem_cons.1 h1 with h1|h1
   .exact h1
   .rcases List.mem_cons.1 h2 with h2|h2
    .exact h2.symm
    .have e1:=(List.pairwise_cons.1 hb).1 p h1;have e2:=(List.pairwise_cons.1 ha).1 q h2;have e3:p.1=q.1:=Nat.le_antisymm e2 e1;have:=(List.nodup_cons.1 hn).1;exact absurd (List.mem_map.2 ⟨q,h2,e3.symm⟩) this
  subst hpq;rw [Zp a b (List.Perm.cons_inv h) (List.nodup_cons.1 hn).2 (List.pairwise_cons.1 ha).2 (List.pairwise_cons.1 hb).2]
theorem kT.one {t rs:List Int}{ps qs:List (Nat×Nat)}(h:kT t rs ps)(k:kT t rs qs):ps=qs:=by
 unfold kT at h k;cases hp:eO t rs t.length 0 ([],[])with
 |none=>rw [hp]at h k;simp only at h k;rw [h,k]
 |some out=>
  rw [hp]at h k;have hn:=(NV _ _ _ _ iA.start hp).2;exact Zp ps qs (h.1.trans k.1.symm) ((List.Perm.nodup_iff (h.1.map Prod.fst)).2 hn) h.2 k.2
theorem kT.ok {t rs:List Int}{ps:List (Nat×Nat)}(h:kT t rs ps):∀p∈ps,p.1<p.2/\p.2<t.length:=by
 unfold kT at h;cases hp:eO t rs t.length 0 ([],[])with
 |none=>rw [hp]at h;simp only at h;rw [h];simp
 |some out=>
  rw [hp]at h;intro p hp';have:=(NV _ _ _ _ iA.start hp).1 p (h.1.subset hp');simpa using this
theorem X5 {t rs:List Int}:∀n i x out,iA i x->eO t rs n i x=some out->out.length<=i+n
 |0,i,x,out,h,hf=>by
  rw [eO]at hf;obtain rfl:=Option.some.inj hf;exact h.few
 |n+1,i,x,out,h,hf=>by
  rw [eO]at hf;split at hf
  .rename_i y hy;have:=X5 n (i+1) y out (h.step hy) hf;omega
  .cases hf
def swp(l:List (Nat×Nat))(k:Nat):List (Nat×Nat):=(l.set k (l.getD (k - 1) (0,0))).set (k - 1) (l.getD k (0,0))
theorem ai4(l:List (Nat×Nat))(k j:Nat)(hk:0<k)(hl:k<l.length):(swp l k).getD j (0,0)=if j=k then l.getD (k - 1) (0,0)else if j=k - 1 then l.getD k (0,0)else l.getD j (0,0):=by
 unfold swp;rw [List.getD_eq_getElem?_getD,List.getElem?_set,List.getElem?_set];by_cases h1:j=k
 .subst h1;rw [if_neg (by omega),if_pos rfl,if_pos hl,if_pos rfl];rfl
 .rw [if_neg h1];by_cases h2:j=k - 1
  .subst h2;rw [if_pos rfl,if_pos (by simp;omega),if_pos rfl];rfl
  .rw [if_neg (by omega),if_neg (by omega),if_neg h2,List.getD_eq_getElem?_getD]
theorem ai5(l:List (Nat×Nat))(k:Nat)(hk:0<k)(hl:k<l.length):(swp l k).Perm l:=by
 obtain⟨j,rfl⟩:∃j,k=j+1:=⟨k - 1,by omega⟩
 have h1:l=l.take j++(l.getD j (0,0)::l.getD (j+1) (0,0)::l.drop (j+2)):=by
  have a1:l.drop j=l.getD j (0,0)::l.drop (j+1):=by
   rw [List.drop_eq_getElem_cons (show j<l.length by omega)];simp [List.getD_eq_getElem?_getD,List.getElem?_eq_getElem (show j<l.length by omega)]
  have a2:l.drop (j+1)=l.getD (j+1) (0,0)::l.drop (j+2):=by
   rw [List.drop_eq_getElem_cons hl];simp [List.getD_eq_getElem?_getD,List.getElem?_eq_getElem hl]
  rw [<-a2,<-a1,List.take_append_drop]
 have hlen:(l.take j).length=j:=by simp;omega
 have h2:swp l (j+1)=l.take j++(l.getD (j+1) (0,0)::l.getD j (0,0)::l.drop (j+2)):=by
  unfold swp;rw [Nat.add_sub_cancel];generalize l.getD j (0,0)=a at*;generalize l.getD (j+1) (0,0)=b at*;generalize l.take j=u at*;generalize l.drop (j+2)=v at*;rw [h1,List.set_append_right _ _ (by omega),List.set_append_right _ _ (by omega),hlen];simp
 rw [h2]
 conv=>rhs;rw [h1]
 exact(List.Perm.refl _).append (List.Perm.swap _ _ _)
def key(l:List (Nat×Nat))(j:Nat):Nat:=(l.getD j (0,0)).1
def J9(out l:List (Nat×Nat))(i:Nat):Prop:=l.Perm out/\∀a b,a<b->b<i->key l a<=key l b
def Dh(out l:List (Nat×Nat))(i k:Nat):Prop:=l.Perm out/\k<=i/\(∀a b,a<b->b<=i->a≠k->b≠k->key l a<=key l b)/\∀b,k<b->b<=i->key l k<=key l b
theorem Dh.swp {out l:List (Nat×Nat)}{i k:Nat}(h:Dh out l i k)(hk:0<k)(hi:i<l.length)(hlt:key l k<key l (k - 1)):Dh out (swp l k) i (k - 1):=by
 obtain⟨h1,h2,h3,h4⟩:=h;have e:∀j,key (Go.Proofs.YtkbinfhclaafhaaGreatDoor.swp l k) j=if j=k then key l (k - 1)else if j=k - 1 then key l k else key l j:=by
  intro j;unfold key;rw [ai4 l k j hk (by omega)];split
  .rfl
  .split<;>rfl
 refine⟨(ai5 l k hk (by omega)).trans h1,by omega,?_,?_⟩
 .intro a b ha hb na nb;rw [e,e,if_neg na,if_neg nb];by_cases hak:a=k
  .rw [if_pos hak];rw [if_neg (by omega)];exact h3 (k - 1) b (by omega) hb (by omega) (by omega)
  .rw [if_neg hak];by_cases hbk:b=k
   .rw [if_pos hbk];exact h3 a (k - 1) (by omega) (by omega) hak (by omega)
   .rw [if_neg hbk];exact h3 a b ha hb hak hbk
 .intro b hb hbi;rw [e,e,if_neg (by omega),if_pos rfl,if_neg (by omega:¬b=k - 1)];by_cases hbk:b=k
  .rw [if_pos hbk];omega
  .rw [if_neg hbk];exact h4 b (by omega) hbi
theorem Dh.done {out l:List (Nat×Nat)}{i k:Nat}(h:Dh out l i k)(hk:k=0∨¬key l k<key l (k - 1)):J9 out l (i+1):=by
 obtain⟨h1,h2,h3,h4⟩:=h;refine⟨h1,fun a b ha hb=> ?_⟩;by_cases hbk:b=k
 .subst hbk;rcases hk with hk|hk
  .omega
  .by_cases hak:a=b - 1
   .subst hak;omega
   .have:=h3 a (b - 1) (by omega) (by omega) (by omega) (by omega);omega
 .by_cases hak:a=k
  .subst hak;exact h4 b ha (by omega)
  .exact h3 a b ha (by omega) hak hbk
theorem J9.done {out l:List (Nat×Nat)}{i:Nat}(h:J9 out l i)(hi:l.length<=i):l.Perm out/\l.Pairwise (fun a b=>a.1<=b.1):=by
 refine⟨h.1,?_⟩;rw [List.pairwise_iff_getElem];intro a b ha hb hab;have:=h.2 a b hab (by omega);simpa [key,List.getD_eq_getElem?_getD,List.getElem?_eq_getElem ha,List.getElem?_eq_getElem hb]using this
def dI(t:List Int)(k:Nat)(v:Int):Nat->List Int
 |0=>t
 |m+1=>(dI t k v m).set (k+m) v
theorem Gw(t:List Int)(k:Nat)(v:Int):∀m,(dI t k v m).length=t.length
 |0=>rfl
 |m+1=>by simp [dI,Gw t k v m]
theorem Tx(t:List Int)(k:Nat)(v:Int)(j:Nat):∀m,k+m<=t.length->(dI t k v m).getD j 0=if k<=j/\j<k+m then v else t.getD j 0
 |0,_=>by rw [dI,if_neg (by omega)]
 |m+1,h=>by
  rw [dI,List.getD_eq_getElem?_getD,List.getElem?_set];by_cases hj:k+m=j
  .rw [if_pos hj,if_pos (by rw [Gw];omega),if_pos (by omega)];rfl
  .rw [if_neg hj,<-List.getD_eq_getElem?_getD,Tx t k v j m (by omega)];by_cases hj':k<=j/\j<k+m
   .rw [if_pos hj',if_pos (by omega)]
   .rw [if_neg hj',if_neg (by omega)]
def Ce(aj:Int):List Int->Int
 |[]=>aj
 |c::r=>if bC c<0 then Ce aj r else bC c
def fN(aj e:Int)(s c:Int)(r:List Int):Int:=if bC c<0 then(if s=Ce aj r then s else e)else c
def gN(s c:Int)(_:List Int):Int:=if bC c<0 then s else bC c
def Et(aa aj e:Int)(t:List Int):List Int:=pass (fN aj e) gN aa t
def pV(p:Int->Bool)(t:List Int)(a:Nat):Nat->Bool
 |0=>false
 |m+1=>pV p t a m||p (t.getD (a+m) 0)
def jJ(aa:Int)(t:List Int):Nat->Int
 |0=>aa
 |m+1=>if bC (t.getD m 0)<0 then jJ aa t m else bC (t.getD m 0)
def rX:List Int->Nat
 |[]=>0
 |c::r=>if c=8 then rX r+1 else 0
def pz(orig:List Int)(d:Int)(k:Nat)(t:List Int):List Int:=dI t k d (1+rX (orig.drop (k+1)))
def OC(e:Int)(c:Int):Bool:=bC c==e
def Al(e:Int)(c:Int):Bool:=decide (0<=bC c)&&bC c !=e
def xB(t:List Int)(p:Nat×Nat)(e aa:Int):Int:=if pV (OC e) t (p.1+1) (p.2 - (p.1+1))=true then e else jJ aa t p.1
def vJ(t orig:List Int)(p:Nat×Nat)(e aa:Int):List Int:=
 if pV (OC e) t (p.1+1) (p.2 - (p.1+1))=false/\pV (Al e) t (p.1+1) (p.2 - (p.1+1))=false then t
 else pz orig (xB t p e aa) p.2 (pz orig (xB t p e aa) p.1 t)
theorem ags {l:List Int}{m:Nat}(hm:m<l.length):rX (l.drop m)=if l.getD m 0=8 then rX (l.drop (m+1))+1 else 0:=by rw [drop_at hm,rX]
theorem agr {l:List Int}{m:Nat}(hm:¬m<l.length):rX (l.drop m)=0:=by rw [List.drop_eq_nil_of_le (by omega)];rfl
theorem Zf(orig:List Int)(d:Int)(k:Nat)(t:List Int):(pz orig d k t).length=t.length:=Gw _ _ _ _
theorem agX(t orig:List Int)(p:Nat×Nat)(e aa:Int):(vJ t orig p e aa).length=t.length:=by
 unfold vJ;split
 .rfl
 .rw [Zf,Zf]
theorem Tryz.eO(a b:Int)(w:World):(Instr.field 194 (.agg #[.int .i64 a,.int .i64 b]) 0).run prog w= .ok (.int .i64 a) w:=by kernel_rfl
theorem dz.stay {w w':World}{B b off:Nat}{l:List Int}(h:dz w b off l)(hb:Below B w w')(hlt:b<B):dz w' b off l:=fun i hi=>by rw [hb.cell (p:=⟨b,off+i,none⟩) hlt];exact h i hi
theorem fH {w:World}{B:Nat}{e:TypeId}{z n:Nat}{v:Value}{xs:List Value}(h:w.ownsRow B e z v n xs):∃a cap,v= .slice a n cap:=by
 rcases h.2 with⟨rfl,rfl⟩|⟨g,cap,cur,rfl,_⟩
 .exact⟨none,0,rfl⟩
 .exact⟨_,cap,rfl⟩
theorem kg {w:World}{B:Nat}{e:TypeId}{z n:Nat}{v:Value}{xs:List Value}(h:w.ownsRow B e z v n xs)(hn:0<n):∃g cap,v= .slice (some ⟨g,0,none⟩) n cap/\n<=cap/\g<w.heap.size/\B<=g:=by
 rcases h.2 with⟨rfl,rfl⟩|⟨g,cap,cur,rfl,hb,hh,hc,_⟩
 .omega
 .refine⟨g,cap,rfl,hc,?_,hb⟩;rcases Nat.lt_or_ge g w.heap.size with h'|h'
  .exact h'
  .rw [Array.getElem?_eq_none h']at hh;cases hh
theorem bK {w:World}{k:Nat}{o:Obj}(h:w.heap[k]? =some o):k<w.heap.size:=by
 rcases Nat.lt_or_ge k w.heap.size with h'|h'
 .exact h'
 .rw [Array.getElem?_eq_none h']at h;cases h
theorem dJ {w w':World}{B:Nat}{e:TypeId}{z n:Nat}{v:Value}{xs:List Value}{r:Option Nat}(h:w.ownsRow B e z v n xs)(hg:w.grownBy w' r)(hne:v.ownBlock=none∨v.ownBlock≠r):w'.ownsRow B e z v n xs:=
 kK h fun k o hk ho=>by
  rw [hg.block k (bK ho) ?_]
  .exact ho
  .rw [hk]at hne;rcases hne with hne|hne
   .cases hne
   .exact hne
theorem own_below {w w':World}{B:Nat}{e:TypeId}{z n:Nat}{v:Value}{xs:List Value}(h:w.ownsRow B e z v n xs)(hb:Below w.heap.size w w'):w'.ownsRow B e z v n xs:=
 kK h fun k o _ ho=>by rw [hb.block k (bK ho)];exact ho
theorem lQ {w:World}{B B':Nat}{e e':TypeId}{z z' n n':Nat}{v v':Value}{xs xs':List Value}(h:w.ownsRow B e z v n xs)(h':w.ownsRow B' e' z' v' n' xs')(he:e≠e'):v.ownBlock=none∨v.ownBlock≠v'.ownBlock:=by
 rcases h.2 with⟨rfl,_⟩|⟨g,cap,cur,rfl,_,hh,_⟩
 .exact .inl rfl
 .rcases h'.2 with⟨rfl,_⟩|⟨g',cap',cur',rfl,_,hh',_⟩
  .exact .inr (by simp [Value.ownBlock])
  .refine .inr ?_;simp only [Value.ownBlock];intro e1;obtain rfl:=Option.some.inj e1;rw [hh]at hh';simp at hh';exact he hh'.2
theorem Iw {w:World}{B:Nat}{e:TypeId}{z n g cap:Nat}{xs:List Value}(h:w.ownsRow B e z (.slice (some ⟨g,0,none⟩) n cap) n xs)(k:Nat)(hk:k<=n):w.ownsRow B e z (.slice (some ⟨g,0,none⟩) k cap) k (xs.take (k*z)):=by
 obtain⟨h1,h2⟩:=h;have hkz:k*z<=n*z:=Nat.mul_le_mul_right z hk;refine⟨by rw [List.length_take];omega,?_⟩;rcases h2 with⟨h,_⟩|⟨g',cap',cur,e1,h3,h4,h5,h6,h7,h8⟩
 .cases h
 .cases e1;refine .inr ⟨g,cap,cur,rfl,h3,h4,by omega,h6,h7,?_⟩;rw [<-h8,List.take_take,Nat.min_eq_left hkz]
theorem uB {w:World}{B:Nat}{e:TypeId}{z n:Nat}{v:Value}{xs:List Value}(h:w.ownsRow B e z v n xs):∀k,v.ownBlock=some k->B<=k:=fun k hk=>(h.lt k hk).1
def nl(l:List Nat):List Int:=l.map Int.ofNat
theorem jM(l:List Nat):(nl l).length=l.length:=by simp [nl]
theorem uw(l:List Nat)(k:Nat)(h:k<l.length):(nl l).getD k 0=(l.getD k 0:Nat):=by simp [nl,List.getD_eq_getElem?_getD,List.getElem?_eq_getElem h]
theorem vC(l:List Int):(iv l).length=l.length:=by simp [iv]
theorem jZ {w:World}{B g n cap:Nat}{e:TypeId}{l:List Int}(h:w.ownsRow B e 1 (.slice (some ⟨g,0,none⟩) n cap) n (iv l))(k:Nat)(hk:k<l.length):w.cell? ⟨g,k,none⟩=some (.int .i64 (l.getD k 0)):=by
 rw [World.ownsRow.cellAt h k (by have:=h.1;rw [vC]at this;omega)];simp [iv,List.getD_eq_getElem?_getD,List.getElem?_eq_getElem hk]
theorem BS(l:List Int)(a:Int):iv l++[.int .i64 a]=iv (l++[a]):=by simp [iv]
theorem Ik(l:List Nat)(a:Nat):nl l++[(a:Int)]=nl (l++[a]):=by simp [nl]
theorem MW(l:List Nat)(k:Nat):(iv (nl l)).take (k*1)=iv (nl (l.take k)):=by simp [iv,nl,List.map_take]
theorem ajQ {P:Program}(w:World){ops:Array Oper}{rest:List Oper}{o:Oper}{a:Act}{Q:Exit->Act->World->Prop}(hgd:o.guard=none)(s x:Operand)(t:TypeId)
  (ho:o.op= .call {callee:= .builtin .append,args:=#[s,x],argTypes:=#[t,t]})
  (base:Nat) (e:TypeId) (i:TypeInfo) (z:Value) (bytes:Nat) (ht:P.underlying t=some (.slice e)) (hi:P.info? e=some i) (hz:i.zero=some z)
  (hsize:i.size=2) (hby:i.bytes=bytes) (hzs:z.cells.size=2) (wU:bytes<=64)
  (v:Value) (n:Nat) (xs:List Value) (hs:a.eval s=v) (hown:w.ownsRow base e 2 v n xs)
  (y0 y1:Value) (e':TypeId) (k:Nat) (hx:a.eval x= .slice (some ⟨k,0,none⟩) 1 1) (hk:k=w.heap.size) (h0:y0.oneCell'=true) (h1:y1.oneCell'=true) (hn:n<=1000000) (hbase:base<=w.heap.size)
  (h:∀v' w',w'.ownsRow base e 2 v' (n+1) (xs++[y0,y1])->w.grownBy w' v.ownBlock->wpList P ops Q rest (a.put o.dst v') w'):wpList P ops Q (o::rest) a (w.alloc (.cells #[y0,y1] e')):=by
 subst hk;refine wpList_append_own _ hgd s x t ho base e i z 2 bytes ht hi hz hsize hby hzs (by decide) v n xs hs (hown.alloc _) ⟨w.heap.size,0,none⟩ 1 1 [y0,y1] hx rfl ?_ ?_ ?_ ?_ ?_ ?_
 .intro j u hj
  match j,hj with
  |0,hj=>simp at hj;subst hj;simp [Addr.add]
  |1,hj=>simp at hj;subst hj;simp [Addr.add]
 .intro u hu;simp at hu;rcases hu with rfl|rfl
  .exact h0
  .exact h1
 .unfold maxLen;omega
 .have:(n+1)*bytes<=1000001*64:=Nat.mul_le_mul (by omega) wU;omega
 .simp;omega
 .intro v' w' h2 h3 _;refine h v' w' h2 ⟨h3.os,h3.tape,h3.output,?_,fun k hk hne=> ?_⟩
  .have:=h3.size;simp at this;omega
  .rw [h3.block k (by simp;omega) hne];exact Below.heap_alloc w _ k hk
def qp(l:List (Nat×Nat)):List Value:=l.flatMap fun p=>[.int .i64 (p.1:Nat),.int .i64 (p.2:Nat)]
theorem X6(l:List (Nat×Nat))(p:Nat×Nat):qp l++[.int .i64 (p.1:Nat),.int .i64 (p.2:Nat)]=qp (l++[p]):=by simp [qp]
structure tF(w0 w:World)(B:Nat)(sv ov:Value)(x:List Nat×List (Nat×Nat)):Prop where
 below:Below B w0 w
 st:w.ownsRow B 3 1 sv x.1.length (iv (nl x.1))
 out:w.ownsRow B 194 2 ov x.2.length (qp x.2)
 base:B<=w.heap.size
theorem tF.call {w0 w w':World}{B:Nat}{sv ov:Value}{x:List Nat×List (Nat×Nat)}(h:tF w0 w B sv ov x)(hb:Below w.heap.size w w'):tF w0 w' B sv ov x:=
 ⟨h.below.trans (hb.mono h.base),own_below h.st hb,own_below h.out hb,Nat.le_trans h.base hb.size⟩
theorem tF.start(w:World):tF w w w.heap.size (.slice none 0 0) (.slice none 0 0) ([],[]):=
 ⟨Below.refl _ _,⟨rfl,.inl ⟨rfl,rfl⟩⟩,⟨rfl,.inl ⟨rfl,rfl⟩⟩,Nat.le_refl _⟩
theorem tF.push {w0 w w':World}{B:Nat}{sv ov ZJ:Value}{x:List Nat×List (Nat×Nat)}{i:Nat}(h:tF w0 w B sv ov x)(hr:w'.ownsRow B 3 1 ZJ (x.1.length+1) (iv (nl x.1)++[.int .i64 (i:Nat)]))(hg:w.grownBy w' sv.ownBlock):tF w0 w' B ZJ ov (x.1++[i],x.2):=
 ⟨h.below.grown hg h.base (uB h.st),by rw [BS,Ik]at hr;simpa using hr,dJ h.out hg (lQ h.out h.st (by decide)),Nat.le_trans h.base hg.size⟩
theorem tF.pair {w0 w w':World}{B g cap:Nat}{ov EF:Value}{x:List Nat×List (Nat×Nat)}{i m:Nat}(h:tF w0 w B (.slice (some ⟨g,0,none⟩) x.1.length cap) ov x)(hm:m<x.1.length)
  (hr:w'.ownsRow B 194 2 EF (x.2.length+1) (qp x.2++[.int .i64 (x.1.getD m 0:Nat),.int .i64 (i:Nat)])) (hg:w.grownBy w' ov.ownBlock):tF w0 w' B (.slice (some ⟨g,0,none⟩) m cap) EF (x.1.take m,x.2++[(x.1.getD m 0,i)]):=by
 have h1:=dJ h.st hg (lQ h.st h.out (by decide));have h2:=Iw h1 m (by omega);rw [MW]at h2;refine⟨h.below.grown hg h.base (uB h.out),by simpa [Nat.min_eq_left (Nat.le_of_lt hm)]using h2,?_,Nat.le_trans h.base hg.size⟩;rw [X6 x.2 (x.1.getD m 0,i)]at hr;simpa using hr
def IL(lv:List Int)(lf:List Bool)(i:Nat)(x:List (List Nat)×List Nat):List (List Nat)×List Nat:=
 if lf.getD i false=false then x
 else if x.2≠[]/\lv.getD (x.2.headD 0) 0≠lv.getD i 0 then(x.1++[x.2],[i])else(x.1,x.2++[i])
def vL(x:List (List Nat)×List Nat):List (List Nat):=if x.2=[]then x.1 else x.1++[x.2]
def Co(lv:List Int)(lf:List Bool):Nat->Nat->List (List Nat)×List Nat->List (List Nat)
 |0,_,x=>vL x
 |n+1,i,x=>Co lv lf n (i+1) (IL lv lf i x)
def eZ(lv:List Int)(lf:List Bool):List (List Nat):=Co lv lf lv.length 0 ([],[])
def yQ(rs:List (List Nat))(m:Nat):Nat->Option Nat
 |0=>none
 |k+1=>if(rs.getD k []).headD 0=m then some k else yQ rs m k
def fT(cs:List Int)(rs:List (List Nat))(last:Nat):Option Nat:=if aG (cs.getD last 0)=true then yQ rs (mt cs last) rs.length else none
def bP(cs:List Int)(rs:List (List Nat)):Nat->List Nat->List Nat
 |0,at'=>at'
 |f+1,at'=>match fT cs rs (at'.getLastD 0)with
  |none=>at'
  |some k=>bP cs rs f (at'++rs.getD k [])
structure Sq where
 at':List Nat
 level:Int
 aa:Int
 aj:Int
def kW(lv:List Int)(lf:List Bool)(para:Int):Nat->Int
 |0=>para
 |k+1=>if lf.getD k false=true then lv.getD k 0 else kW lv lf para k
def rO(lv:List Int)(lf:List Bool)(para:Int)(len:Nat):Nat->Int
 |0=>para
 |m+1=>if lf.getD (len - (m+1)) false=true then lv.getD (len - (m+1)) 0 else rO lv lf para len m
def tJ(cs lv:List Int)(lf:List Bool)(para:Int)(last:Nat):Int:=if aG (cs.getD last 0)=true/\mt cs last=cs.length then para else rO lv lf para cs.length (cs.length - (last+1))
def Gp(cs lv:List Int)(lf:List Bool)(para:Int)(at':List Nat):Sq:=
 ⟨at',lv.getD (at'.headD 0) 0,mO (lv.getD (at'.headD 0) 0) (kW lv lf para (at'.headD 0)),mO (lv.getD (at'.headD 0) 0) (tJ cs lv lf para (at'.getLastD 0))⟩
def fQ(cs:List Int)(r:List Nat):Bool:= !(cs.getD (r.headD 0) 0==21&&decide (0<=opener cs (r.headD 0)))
def iV(cs lv:List Int)(lf:List Bool)(para:Int):List Sq:=
 ((eZ lv lf).filter (fQ cs)).map fun r=>Gp cs lv lf para (bP cs (eZ lv lf) cs.length r)
def aV(l:List Int)(at':List Nat):List Int:=at'.map fun p=>l.getD p 0
