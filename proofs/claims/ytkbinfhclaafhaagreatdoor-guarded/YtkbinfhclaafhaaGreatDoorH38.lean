import Derived.Test.YtkbinfhclaafhaaGreatDoorH37
import Derived.Test.YtkbinfhclaafhaaGreatDoorH27
import Derived.Test.YtkbinfhclaafhaaGreatDoorH33
namespace Go.Proofs.YtkbinfhclaafhaaGreatDoor
open Go.RowKit
open Go.Proofs.Tryz
set_option maxRecDepth 100000
set_option maxHeartbeats 32000000
theorem akI {α β:Type}(f:α->β):∀(bs:List Bool)(xs acc:List α),(bV bs xs acc).map f=bV bs (xs.map f) (acc.map f)
 |[],_,_=>by simp [bV]
 |_::_,[],_=>by simp [bV]
 |true::bs,x::xs,acc=>by simp [bV,akI f bs xs]
 |false::bs,x::xs,acc=>by simp [bV,akI f bs xs]
def CL:List Int->List Int->Prop
 |l::lv,x::xs=>(∀m y,lv.head? =some m->xs.head? =some y->1<=l->1<=m->x=y)/\CL lv xs
 |_,_=>True
theorem Q8 {α:Type}{x:α}:∀{acc:List α},(∀y∈acc,y=x)->x::acc=acc++[x]
 |[],_=>rfl
 |a::acc,h=>by
  have ha:=h a (by simp);subst ha;rw [List.cons_append,<-Q8 fun y hy=>h y (by simp [hy])]
theorem O9 {v:Int}(hv:1<=v):∀(lv xs acc:List Int),lv.length=xs.length->CL lv xs->(∀m x,lv.head? =some m->xs.head? =some x->v<=m->∀y∈acc,y=x)->bV (mask v lv) xs acc=acc++xs
 |[],[],acc,_,_,_=>by simp [mask,bV]
 |[],_::_,_,h,_,_=>by simp at h
 |_::_,[],_,h,_,_=>by simp at h
 |l::lv,x::xs,acc,hl,hc,ha=>by
  obtain⟨h1,h2⟩:=hc;have hl':lv.length=xs.length:=by simpa using hl
  by_cases hm:v<=l
  .have e:mask v (l::lv)=true::mask v lv:=by simp [mask,hm]
   have hx:=ha l x rfl rfl hm;rw [e,bV,O9 hv lv xs (x::acc) hl' h2 ?_,Q8 hx]
   .simp
   .intro m y e1 e2 VE z hz;have hxy:=h1 m y e1 e2 (by omega) (by omega);rcases List.mem_cons.1 hz with rfl|hz
    .exact hxy
    .rw [hx z hz];exact hxy
  .have e:mask v (l::lv)=false::mask v lv:=by simp [mask,hm]
   rw [e,bV,O9 hv lv xs [] hl' h2 (fun _ _ _ _ _ y hy=>by cases hy)];rfl
theorem Z4 {lv N:List Int}(f:Int->Int)(hl:lv.length=N.length)(hc:CL lv N):∀(n:Nat)(v:Int)(a:List Int),(n:Int)<=v->a.map f=N->(dU lv n v a).map f=N
 |0,_,_,_,h=>h
 |n+1,v,a,hv,h=>by
  rw [dU];refine Z4 f hl hc n (v - 1) _ (by omega) ?_;rw [akI,h,List.map_nil,O9 (by omega) lv N [] hl hc (fun _ _ _ _ _ y hy=>by cases hy)];rfl
theorem ajm(lv:List Int):0<=jP lv:=(GA lv 0).1
theorem agN {lv:List Int}(f:Int->Int)(hc:CL lv ((dM lv.length).map f)):(oZ lv).map f=(dM lv.length).map f:=by
 unfold oZ;have h0:=ajm lv;exact Z4 f (by simp [dM]) hc _ _ _ (by omega) rfl
theorem Pw:∀(lv xs:List Int),(∀i,i+1<lv.length->1<=lv.getD i 0->1<=lv.getD (i+1) 0->xs.getD i 0=xs.getD (i+1) 0)->CL lv xs
 |[],_,_=>by cases ‹List Int›<;>trivial
 |_::_,[],_=>trivial
 |l::lv,x::xs,h=>by
  refine⟨fun m y e1 e2 h1 h2=> ?_,Pw lv xs fun i hi a b=> ?_⟩
  .cases lv with
   |nil=>cases e1
   |cons m' lv=>
    cases xs with
    |nil=>cases e2
    |cons y' xs=>
     cases e1;cases e2;exact h 0 (by simp) h1 h2
  .exact h (i+1) (by simpa using hi) a b
def kr:Bool->List Int->Bool
 |b,[]=>b
 |b,c::r=>kr (if c=20 then true else if c=21 then false else b) r
theorem y8:∀(a:List Int)(b:Bool)(c:List Int),kr b (a++c)=kr (kr b a) c
 |[],_,_=>rfl
 |x::a,b,c=>by rw [List.cons_append,kr,kr,y8 a]
theorem IV(cs:List Int):∀i,i<=cs.length->dF cs i=kr false (cs.take i)
 |0,_=>by simp [dF,kr]
 |i+1,h=>by
  have e:cs.take (i+1)=cs.take i++[cs.getD i 0]:=by
   rw [List.take_add_one,List.getD_eq_getElem?_getD,List.getElem?_eq_getElem (show i<cs.length by omega)];rfl
  rw [dF,e,y8,<-IV cs i (by omega)];rfl
inductive Gl:List Int->Prop
 |nil:Gl []
 |out {c:Int} {r:List Int}:Am c=true->Gl r->Gl (c::r)
 |qg {m r:List Int}:(∀c∈m,0<=c/\c<=12)->Gl r->Gl (20::(m++21::r))
theorem Gl.app {a b:List Int}(h:Gl a)(hb:Gl b):Gl (a++b):=by
 induction h with
 |nil=>exact hb
 |out hc _ ih=>exact .out hc ih
 |@qg m r hm _ ih=>
  have e:20::(m++21::r)++b=20::(m++21::(r++b)):=by simp
  rw [e];exact .qg hm ih
theorem TU:∀(l:List Int),(∀c∈l,Am c=true)->Gl l
 |[],_=> .nil
 |c::l,h=> .out (h c (by simp)) (TU l fun x hx=>h x (by simp [hx]))
theorem IW:∀(m:List Int)(b:Bool),(∀c∈m,0<=c/\c<=12)->kr b m=b
 |[],_,_=>rfl
 |c::m,b,h=>by
  have:=h c (by simp);rw [kr,if_neg (by omega),if_neg (by omega),IW m b fun x hx=>h x (by simp [hx])]
theorem TV {l:List Int}(h:Gl l):kr false l=false:=by
 induction h with
 |nil=>rfl
 |@out c r hc _ ih=>
  have:=Ao hc;rw [kr,if_neg (by omega),if_neg (by omega)];exact ih
 |@qg m r hm _ ih=>rw [kr,if_pos rfl,y8,IW m true hm];exact ih
theorem TT {l:List Int}(h:Gl l):∀(pre cs:List Int),cs=pre++l->kr false pre=false->∀i,pre.length<=i->i<cs.length->
  (dF cs i=false->Am (cs.getD i 0)=true∨cs.getD i 0=20)/\(dF cs i=true->(0<=cs.getD i 0/\cs.getD i 0<=12)∨cs.getD i 0=21):=by
 have hat:∀(a:List Int)(c:Int)(r cs:List Int),cs=a++c::r->cs.getD a.length 0=c/\dF cs a.length=kr false a:=by
  intro a c r cs e;subst e;refine⟨by simp,?_⟩;rw [IV _ _ (by simp),List.take_left]
 induction h with
 |nil=>intro pre cs e _ i h1 h2;subst e;simp at h2;omega
 |@out c r hc hr ih=>
  intro pre cs e hp i h1 h2;by_cases hi:i=pre.length
  .obtain⟨g1,g2⟩:=hat pre c r cs e;rw [hi,g1,g2,hp];exact⟨fun _=> .inl hc,fun h=>by cases h⟩
  .have:=Ao hc;refine ih (pre++[c]) cs (by rw [e];simp) ?_ i (by simp;omega) h2;rw [y8,hp,kr,if_neg (by omega),if_neg (by omega)];rfl
 |@qg m r hm hr ih=>
  intro pre cs e hp i h1 h2;by_cases hi:i=pre.length
  .obtain⟨g1,g2⟩:=hat pre 20 _ cs e;rw [hi,g1,g2,hp];exact⟨fun _=> .inr rfl,fun h=>by cases h⟩
  .by_cases hi2:i<=pre.length+m.length
   .obtain⟨k,hk⟩:∃k,i=pre.length+1+k:=⟨i - (pre.length+1),by omega⟩
    have hkm:k<m.length:=by omega
    have e2:cs=(pre++20::m.take k)++m.getD k 0::(m.drop (k+1)++21::r):=by
     rw [e];have:m=m.take k++m.getD k 0::m.drop (k+1):=by
      rw [<-drop_at hkm,List.take_append_drop]
     conv=>lhs;rw [this]
     simp
    have hl:(pre++20::m.take k).length=i:=by simp;omega
    obtain⟨g1,g2⟩:=hat _ _ _ cs e2;rw [hl]at g1 g2;have hmem:m.getD k 0∈m:=dB hkm;rw [g1,g2,y8,hp,kr,if_pos rfl,IW _ true fun c hc=>hm c (List.mem_of_mem_take hc)];exact⟨fun h=>(by cases h),fun _=> .inl (hm _ hmem)⟩
   .have hst:kr false (pre++20::m)=true:=by rw [y8,hp,kr,if_pos rfl,IW m true hm]
    by_cases hi3:i=pre.length+1+m.length
    .have e2:cs=(pre++20::m)++21::r:=by rw [e];simp
     obtain⟨g1,g2⟩:=hat _ _ _ cs e2;have hl:(pre++20::m).length=i:=by simp;omega
     rw [hl]at g1 g2;rw [g1,g2,hst];exact⟨fun h=>(by cases h),fun _=> .inr rfl⟩
    .refine ih (pre++20::m++[21]) cs (by rw [e];simp) ?_ i (by simp;omega) h2;rw [y8,hst];rfl
theorem Px {l:List Int}(h:Gl l):GS l:=
 ⟨fun i hi=>(TT h [] l rfl rfl i (Nat.zero_le _) hi).1,fun i hi=>(TT h [] l rfl rfl i (Nat.zero_le _) hi).2,by rw [IV _ _ (Nat.le_refl _),List.take_length,TV h]⟩
def uz(k:Nat):List Pc->List Int
 |[]=>[]
 |x::xs=>List.replicate x.fl.length (k:Int)++uz (k+1) xs
theorem akH:∀(ay:List Pc)(k:Nat),(uz k ay).length=(ai ay).length
 |[],_=>rfl
 |x::xs,k=>by rw [uz,eY,List.length_append,List.length_append,akH xs,List.length_replicate]
theorem aah(k:Int):∀(n:Nat)(m:Int)(t:List Int),m<=k->(∀m',m'<=k->vR m' t=true)->vR m (List.replicate n k++t)=true
 |0,m,t,hm,h=>h m hm
 |n+1,m,t,hm,h=>by rw [List.replicate_succ,List.cons_append,vR,if_neg (by omega)];exact aah k n k t (Int.le_refl _) h
theorem aag:∀(ay:List Pc)(k:Nat)(m:Int),m<=k->vR m (uz k ay)=true
 |[],_,_,_=>rfl
 |x::xs,k,m,h=>by
  rw [uz];exact aah k _ m _ h fun m' hm'=>aag xs (k+1) m' (by omega)
theorem ahn(u v:List Int)(a:Nat)(h:∀r∈u,VR r)(j:Nat):(o7 a (u++v)).getD (u.length+j) 0=(o7 (a+W u) v).getD j 0:=by
 induction u generalizing a with
 |nil=>simp [fP]
 |cons r u ih=>
  have hr:=h r (by simp);rw [List.cons_append,o7,bM hr,List.length_cons,show u.length+1+j=(u.length+j)+1 by omega,List.getD_cons_succ,ih (a+wd r) fun x hx=>h x (by simp [hx]),Nat.add_assoc]
theorem Yp(u v:List Int)(a:Nat)(h:∀r∈u,VR r):∀j,j<u.length->a<=(o7 a (u++v)).getD j 0/\(o7 a (u++v)).getD j 0<a+W u:=by
 induction u generalizing a with
 |nil=>intro j hj;simp at hj
 |cons r u ih=>
  intro j hj;have hr:=h r (by simp);have hw:=AL r;rw [List.cons_append,o7,bM hr];cases j with
  |zero=>simp only [List.getD_cons_zero];omega
  |succ j=>
   rw [List.getD_cons_succ];have:=ih (a+wd r) (fun x hx=>h x (by simp [hx])) j (by simpa using hj);omega
theorem XD(ln:Nat):∀(ay:List Pc)(a k:Nat),(∀r∈ai ay,VR r)->∀j,j<(ai ay).length->pI ((o7 a (ai ay)).getD j 0) (cZ ln a ay) k=(uz k ay).getD j 0
 |[],_,_,_,j,hj=>by simp [ai]at hj
 |x::xs,a,k,hv,j,hj=>by
  rw [eY]at hv hj ⊢;rw [cZ,uz,pI];have xg:∀r∈x.fl,VR r:=fun r hr=>hv r (by simp [hr])
  by_cases Mk:j<x.fl.length
  .obtain⟨h1,h2⟩:=Yp x.fl (ai xs) a xg j Mk;rw [if_pos ⟨h1,h2⟩,List.getD_eq_getElem?_getD,List.getElem?_append_left (by simpa using Mk),List.getElem?_replicate,if_pos Mk];rfl
  .obtain⟨i,hi⟩:∃i,j=x.fl.length+i:=⟨j - x.fl.length,by omega⟩
   have hil:i<(ai xs).length:=by rw [List.length_append]at hj;omega
   rw [hi,ahn _ _ _ xg];have hge:a+W x.fl<=(o7 (a+W x.fl) (ai xs)).getD i 0:=by
    have:=Yp (ai xs) [] (a+W x.fl) (fun r hr=>hv r (by simp [hr])) i hil;rw [List.append_nil]at this;exact this.1
   rw [if_neg (by simp only;omega),XD ln xs (a+W x.fl) (k+1) (fun r hr=>hv r (by simp [hr])) i hil,List.getD_eq_getElem?_getD,List.getD_eq_getElem?_getD,List.getElem?_append_right (by simp)];simp
theorem XE(cs:List Int):∀(ay:List Pc)(pre:List Int)(k:Nat),cs=pre++(ai ay).map cls->kr false pre=false->(∀x∈ay,Gl (x.fl.map cls))->∀j,j+1<(ai ay).length->(uz k ay).getD j 0=(uz k ay).getD (j+1) 0∨dF cs (pre.length+(j+1))=false
 |[],_,_,_,_,_,j,hj=>by simp [ai]at hj
 |x::xs,pre,k,e,hp,hg,j,hj=>by
  rw [eY]at hj e;rw [uz];have hst:kr false (pre++x.fl.map cls)=false:=by rw [y8,hp,TV (hg x (by simp))]
  have e2:cs=(pre++x.fl.map cls)++(ai xs).map cls:=by rw [e];simp
  by_cases h1:j+1<x.fl.length
  .left;rw [List.getD_eq_getElem?_getD,List.getD_eq_getElem?_getD,List.getElem?_append_left (by simp;omega),List.getElem?_append_left (by simp;omega),List.getElem?_replicate,List.getElem?_replicate,if_pos (by omega),if_pos h1]
  .by_cases h2:j+1=x.fl.length
   .right;rw [h2,IV _ _ (by rw [e2];simp),e2,show pre.length+x.fl.length=(pre++x.fl.map cls).length by simp,List.take_left,hst]
   .obtain⟨i,hi⟩:∃i,j=x.fl.length+i:=⟨j - x.fl.length,by omega⟩
    have:=XE cs xs (pre++x.fl.map cls) (k+1) e2 hst (fun y hy=>hg y (by simp [hy])) i (by rw [List.length_append]at hj;omega);rw [hi];rcases this with h|h
    .left;rw [List.getD_eq_getElem?_getD,List.getD_eq_getElem?_getD,List.getElem?_append_right (by simp),List.getElem?_append_right (by simp;omega)];rw [List.getD_eq_getElem?_getD,List.getD_eq_getElem?_getD]at h;simp only [List.length_replicate];rw [show x.fl.length+i - x.fl.length=i by omega,show x.fl.length+i+1 - x.fl.length=i+1 by omega];exact h
    .right;rw [show pre.length+(x.fl.length+i+1)=(pre++x.fl.map cls).length+(i+1)by simp;omega];exact h
theorem afv(rs:List Int):(gB rs (rs.map cls) 0).length=rs.length:=by
 unfold gB;have hf:∀(para:Int)(cs os:List Int)(prev:Int),cs.length=os.length->(l9 para prev cs os).length=cs.length:=by
  intro para cs
  induction cs with
  |nil=>intro os prev _;rfl
  |cons c cs ih=>
   intro os prev h;cases os with
   |nil=>simp at h
   |cons o os=>rw [l9,List.length_cons,ih os _ (by simpa using h),List.length_cons]
 have hlen:∀(xs:List (Nat×Int×Int))(l:List Int),(xs.foldl mM l).length=l.length:=by
  intro xs
  induction xs with
  |nil=>intro l;rfl
  |cons x xs ih=>intro l;rw [List.foldl_cons,ih];simp [mM]
 rw [hf _ _ _ _ (by rw [hlen];simp [aH])];simp
theorem adF(ln:Nat)(ay:List Pc)(hv:∀r∈ai ay,VR r)(hg:∀x∈ay,Gl (x.fl.map cls)):ED (ai ay) (cZ ln 0 ay)=true:=by
 have hall:Gl ((ai ay).map cls):=by
  clear hv
  induction ay with
  |nil=>exact .nil
  |cons x xs ih=>rw [eY,List.map_append];exact(hg x (by simp)).app (ih fun y hy=>hg y (by simp [hy]))
 have gs:=Px hall;unfold ED IU;have hlen:=afv (ai ay);have hN:(dM (gB (ai ay) ((ai ay).map cls) 0).length).map (fun j=>pI ((o7 0 (ai ay)).getD j.toNat 0) (cZ ln 0 ay) 0)=uz 0 ay:=by
  rw [hlen];apply List.ext_getElem
  .rw [akH];simp [dM]
  .intro i h1 h2;have hi:i<(ai ay).length:=by rw [akH]at h2;exact h2
   have:=XD ln ay 0 0 hv i hi;rw [List.getD_eq_getElem?_getD,List.getD_eq_getElem?_getD,List.getElem?_eq_getElem h2]at this;simp only [dM,List.getElem_map,List.getElem_range,Int.toNat_natCast];rw [List.getD_eq_getElem?_getD];exact this
 rw [agN _ ?_,hN]
 .exact aag ay 0 (-1) (by omega)
 .rw [hN];refine Pw _ _ fun i hi h1 h2=> ?_
  rw [hlen]at hi;rcases XE ((ai ay).map cls) ay [] 0 rfl rfl hg i hi with h|h
  .exact h
  .exfalso;have:=adP gs (ai ay) (i+1) (by simpa using hi) (.inl (by simpa using h));omega
def iy(l:List Int):Prop:=∀r∈l,bI r=false
def Kept(x:Pc):Prop:=iy x.fl∨(x.k≠0/\iy (x.o++x.c)/\∃m,x.b=8296::(m++[8297])/\∀r∈m,cls r<=12)
theorem FY:cls 8296=20/\cls 8297=21:=by
 constructor<;>(unfold cls;repeat' split)<;>first|omega|rfl
theorem Im {r:Int}(h:bI r=false):Am (cls r)=true/\cls r<13:=by
 have hb:=wI r;unfold bI at h;simp only [Bool.or_eq_false_iff,beq_eq_false_iff_ne,ne_eq,decide_eq_false_iff_not]at h;have:cls r=0∨cls r=3∨cls r=4∨cls r=5∨cls r=7∨cls r=8∨cls r=9∨cls r=10∨cls r=11∨cls r=12:=by omega
 refine⟨?_,by omega⟩;rcases this with e|e|e|e|e|e|e|e|e|e<;>rw [e]<;>rfl
theorem ND {l:List Int}(h:iy l):Gl (l.map cls):=TU _ fun c hc=>by
 obtain⟨r,hr,rfl⟩:=List.mem_map.1 hc;exact(Im (h r hr)).1
theorem Kept.gl {x:Pc}(h:Kept x):Gl (x.fl.map cls):=by
 rcases h with h|⟨_,h,m,hb,hm⟩
 .exact ND h
 .unfold Pc.fl;rw [hb,List.map_append,List.map_append];refine((ND fun r hr=>h r (by simp [hr])).app ?_).app (ND fun r hr=>h r (by simp [hr]));rw [List.map_cons,List.map_append,List.map_cons,List.map_nil,FY.1,FY.2];exact .qg (fun c hc=>by obtain⟨r,hr,rfl⟩:=List.mem_map.1 hc;exact⟨(wI r).1,hm r hr⟩) .nil
theorem M5(ln:Nat):∀(done:List Pc)(x:Pc)(rest:List Pc)(a:Nat),(cZ ln a (done++x::rest))[done.length]? =some ⟨ln,x.k,a+W (ai done),a+W (ai done)+W x.fl,if x.k=0 then 0 else a+W (ai done)+W x.o,if x.k=0 then 0 else a+W (ai done)+W x.o+W x.b⟩
 |[],x,rest,a=>by rw [zP,fP,List.nil_append,cZ];rfl
 |y::ys,x,rest,a=>by
  rw [List.cons_append,cZ,List.length_cons,List.getElem?_cons_succ,M5 ln ys x rest,eY,bH];simp only [Nat.add_assoc]
theorem Wn(ln:Nat):∀(done:List Pc)(x:Pc)(rest:List Pc)(a k p:Nat),a+W (ai done)<=p->p<a+W (ai done)+W x.fl->pI p (cZ ln a (done++x::rest)) k=((k+done.length:Nat):Int)
 |[],x,rest,a,k,p,h1,h2=>by
  rw [zP,fP]at h1 h2;rw [List.nil_append,cZ,pI,if_pos ⟨by simp only;omega,by simp only;omega⟩];rfl
 |y::ys,x,rest,a,k,p,h1,h2=>by
  rw [eY,bH]at h1 h2;rw [List.cons_append,cZ,pI,if_neg (by simp only;omega),Wn ln ys x rest (a+W y.fl) (k+1) p (by omega) (by omega),List.length_cons]
  congr 1
  omega
section
variable{ps:List PR}{k:Nat}{x:PR}{lo hi:Nat}(hI:∀p,lo<=p->p<hi->pI p ps 0=(k:Int))(hx:ps[k]? =some x)
include hI hx
theorem Dt:∀(u v:List Int)(p:Nat)(st:List Int)(now:Int),(∀r∈u,VR r/\cls r<13)->lo<=p->p+W u<=hi->(st=[]∨now=k)->∃yR,jd ps (u++v) p st now=jd ps v (p+W u) st yR/\(st=[]∨yR=k)
 |[],v,p,st,now,_,_,_,h=>⟨now,rfl,h⟩
 |r::u,v,p,st,now,hu,h1,h2,h=>by
  obtain⟨hr,hc⟩:=hu r (by simp);have hw:=AL r;rw [bM hr]at h2;obtain⟨yR,e,hn⟩:=Dt u v (p+wd r) st k (fun y hy=>hu y (by simp [hy])) (by omega) (by omega) (.inr rfl);refine⟨yR,?_,hn⟩;rw [List.cons_append,FX ps r (u++v) p st now k x (hI p h1 (by omega)) hx,if_neg ?_,if_pos hc,e,bM hr,Nat.add_assoc];rintro⟨a,b⟩;rcases h with h|h
  .exact b h
  .exact a h.symm
theorem abV {v:List Int}{p:Nat}{now:Int}(h1:lo<=p)(h2:p<hi)(hk:x.kind≠0)(hb:x.body<=p)(he:p<x.end_):jd ps (8296::v) p [] now=jd ps v (p+wd 8296) [21] k:=by
 rw [FX ps 8296 v p [] now k x (hI p h1 h2) hx,if_neg (fun h=>h.2 rfl),FY.1,if_neg (by decide),if_neg (by omega),if_neg (by decide),if_pos (by decide)];rfl
theorem abU {v:List Int}{p:Nat}(h1:lo<=p)(h2:p<hi)(hk:x.kind≠0)(hb:x.body<=p)(he:p<x.end_):jd ps (8297::v) p [21] k=jd ps v (p+wd 8297) [] k:=by
 rw [FX ps 8297 v p [21] k k x (hI p h1 h2) hx,if_neg (fun h=>h.1 rfl),FY.2,if_neg (by decide),if_neg (by omega),if_neg (by decide),if_neg (by decide),if_pos (by decide)];rfl
end
theorem RV(ln:Nat)(all:List Pc)(hv:∀r∈ai all,VR r):∀(rest done:List Pc)(now:Int),all=done++rest->(∀x∈rest,Kept x)->jd (cZ ln 0 all) (ai rest) (W (ai done)) [] now=true
 |[],_,_,_,_=>rfl
 |x::rest,done,now,e,hk=>by
  have hnext:W (ai done)+W x.fl=W (ai (done++[x])):=by
   have:ai (done++[x])=ai done++x.fl:=by simp [ai]
   rw [this,bH]
  have ih:=fun yR=>RV ln all hv rest (done++[x]) yR (by rw [e];simp) (fun y hy=>hk y (by simp [hy]))
  have hI:∀p,W (ai done)<=p->p<W (ai done)+W x.fl->pI p (cZ ln 0 all) 0=((done.length:Nat):Int):=fun p h1 h2=>by
   have:=Wn ln done x rest 0 0 p (by omega) (by omega);rw [e,this]
   congr 1
   omega
  have hg:=M5 ln done x rest 0;rw [<-e,Nat.zero_add]at hg;have xg:∀r∈x.fl,VR r:=fun r hr=>hv r (by rw [e];simp only [ai,List.flatMap_append,List.flatMap_cons];simp [hr])
  rw [eY];rcases hk x (by simp)with h|⟨h0,h,m,hb,hm⟩
  .obtain⟨yR,e1,_⟩:=Dt hI hg x.fl (ai rest) (W (ai done)) [] now (fun r hr=>⟨xg r hr,(Im (h r hr)).2⟩) (Nat.le_refl _) (Nat.le_refl _) (.inl rfl);rw [e1,hnext];exact ih yR
  .have jw:∀r∈x.o,VR r/\cls r<13:=fun r hr=>⟨xg r (by simp [Pc.fl,hr]),(Im (h r (by simp [hr]))).2⟩
   have Ec:∀r∈x.c,VR r/\cls r<13:=fun r hr=>⟨xg r (by simp [Pc.fl,hr]),(Im (h r (by simp [hr]))).2⟩
   have VE:∀r∈m,VR r/\cls r<13:=fun r hr=>⟨xg r (by simp [Pc.fl,hb,hr]),by have:=hm r hr;omega⟩
   have hfl:x.fl=x.o++(8296::(m++(8297::x.c))):=by unfold Pc.fl;rw [hb];simp
   have v6:VR 8296:= .inl (by decide);have v7:VR 8297:= .inl (by decide);have w6:wd 8296=3:=by decide
   have w7:wd 8297=3:=by decide
   have hW:W x.fl=W x.o+(3+(W m+(3+W x.c))):=by rw [hfl,bH,bM v6,bH,bM v7,w6,w7]
   have hWb:W x.b=3+(W m+3):=by rw [hb,bM v6,bH,bM v7,fP,w6,w7]
   have e0:x.fl++ai rest=x.o++(8296::(m++(8297::(x.c++ai rest)))):=by rw [hfl];simp
   rw [e0];obtain⟨n1,e1,_⟩:=Dt hI hg x.o (8296::(m++(8297::(x.c++ai rest)))) (W (ai done)) [] now jw (Nat.le_refl _) (by omega) (.inl rfl);have e2:=abV hI hg (v:=m++(8297::(x.c++ai rest))) (p:=W (ai done)+W x.o) (now:=n1) (by omega) (by omega) h0 (by simp only;rw [if_neg h0];omega) (by simp only;rw [if_neg h0];omega);obtain⟨n3,e3,hn3⟩:=Dt hI hg m (8297::(x.c++ai rest)) (W (ai done)+W x.o+wd 8296) [21] (done.length:Int) VE (by omega) (by omega) (.inr rfl);have aeq:n3=(done.length:Int):=by
    rcases hn3 with h|h
    .cases h
    .exact h
   rw [aeq]at e3;have e4:=abU hI hg (v:=x.c++ai rest) (p:=W (ai done)+W x.o+wd 8296+W m) (by omega) (by omega) h0 (by simp only;rw [if_neg h0];omega) (by simp only;rw [if_neg h0];omega);obtain⟨n5,e5,_⟩:=Dt hI hg x.c (ai rest) (W (ai done)+W x.o+wd 8296+W m+wd 8297) [] (done.length:Int) Ec (by omega) (by omega) (.inl rfl);rw [e1,e2,e3,e4,e5,show W (ai done)+W x.o+wd 8296+W m+wd 8297+W x.c=W (ai (done++[x]))by rw [<-hnext];omega];exact ih n5
theorem MZ(ln:Nat)(ay:List Pc)(hv:∀r∈ai ay,VR r)(hk:∀x∈ay,Kept x):pq (ai ay) (cZ ln 0 ay)=true:=by
 have hall:Gl ((ai ay).map cls):=by
  clear hv
  induction ay with
  |nil=>exact .nil
  |cons x xs ih=>rw [eY,List.map_append];exact(hk x (by simp)).gl.app (ih fun y hy=>hk y (by simp [hy]))
 unfold pq;rw [adQ (Px hall),adF ln ay hv fun x hx=>(hk x hx).gl];have:=RV ln ay hv ay [] (-1) rfl hk;rw [zP,fP]at this;rw [this];rfl
theorem afQ(r:Int):∀c∈mC r,cls c<=12:=by
 intro c hc;unfold mC at hc;split at hc
 .exact(Yo (Il r c hc).1).2
 .rename_i h;rw [List.mem_singleton.1 hc];have hb:=wI r;unfold jC fO at h;simp only [Bool.and_eq_true,decide_eq_true_eq]at h;omega
theorem afR(r:Int):∀c∈mS r,bI c=false:=by
 intro c hc;unfold mS at hc;split at hc
 .exact(Yo (La r c hc)).1
 .rename_i h;rw [List.mem_singleton.1 hc];simpa using h
def Fit(x:Pc):Prop:=iy (x.o++x.c)/\(x.k=0->x.b=[])/\(x.k=0∨x.k=1∨x.k=2)
theorem afY {x:Pc}(h:Fit x):Kept (dQ x):=by
 obtain⟨h1,h2,h3⟩:=h;have ho:iy x.o:=fun r hr=>h1 r (by simp [hr])
 have hc:iy x.c:=fun r hr=>h1 r (by simp [hr])
 have plain:∀b:List Int,iy b->iy (x.o++b++x.c):=fun b hb r hr=>by
  rcases List.mem_append.1 hr with hr|hr
  .rcases List.mem_append.1 hr with hr|hr
   .exact ho r hr
   .exact hb r hr
  .exact hc r hr
 unfold dQ;by_cases k1:x.k=1
 .rw [if_pos k1];refine .inl (plain _ fun r hr=> ?_);obtain⟨q,_,hq⟩:=List.mem_flatMap.1 hr;exact afR q r hq
 .rw [if_neg k1];by_cases k2:x.k=2/\x.b.any bI=true
  .rw [if_pos k2];refine .inr ⟨by show 2≠0;decide,h1,_,rfl,fun r hr=> ?_⟩;obtain⟨q,_,hq⟩:=List.mem_flatMap.1 hr;exact afQ q r hq
  .rw [if_neg k2];refine .inl (plain x.b fun r hr=> ?_);rcases h3 with h3|h3|h3
   .rw [h2 h3]at hr;cases hr
   .exact absurd h3 k1
   .have:¬x.b.any bI=true:=fun h=>k2 ⟨h3,h⟩
    rw [List.any_eq_true]at this;cases hz:bI r
    .rfl
    .exact absurd ⟨r,hr,hz⟩ this
theorem SY {r:Int}(h:VR r/\r≠10):(∀c∈mS r,VR c/\c≠10)/\∀c∈mC r,VR c/\c≠10:=by
 constructor
 .intro c hc;unfold mS at hc;split at hc
  .exact Yq (La r c hc)
  .rw [List.mem_singleton.1 hc];exact h
 .intro c hc;unfold mC at hc;split at hc
  .exact Yq (Il r c hc).1
  .rw [List.mem_singleton.1 hc];exact h
theorem afZ {x:Pc}(h:LR x.fl):LR (dQ x).fl:=by
 have ho:LR x.o:=fun r hr=>h r (by simp [Pc.fl,hr])
 have hb:LR x.b:=fun r hr=>h r (by simp [Pc.fl,hr])
 have hc:LR x.c:=fun r hr=>h r (by simp [Pc.fl,hr])
 have plain:∀b:List Int,LR b->LR (x.o++b++x.c):=fun b hb r hr=>by
  rcases List.mem_append.1 hr with hr|hr
  .rcases List.mem_append.1 hr with hr|hr
   .exact ho r hr
   .exact hb r hr
  .exact hc r hr
 unfold dQ;split
 .refine plain _ fun r hr=> ?_
  obtain⟨q,hq1,hq⟩:=List.mem_flatMap.1 hr;exact(SY (hb q hq1)).1 r hq
 .split
  .refine plain _ fun r hr=> ?_
   rcases List.mem_cons.1 hr with rfl|hr
   .exact⟨.inl (by decide),by decide⟩
   .rcases List.mem_append.1 hr with hr|hr
    .obtain⟨q,hq1,hq⟩:=List.mem_flatMap.1 hr;exact(SY (hb q hq1)).2 r hq
    .rw [List.mem_singleton.1 hr];exact⟨.inl (by decide),by decide⟩
  .exact h
theorem Nt:∀{ay:List Pc},LR (ai ay)->LR (ai (ay.map dQ))
 |[],h=>h
 |x::xs,h=>by
  rw [List.map_cons,eY];rw [eY]at h;intro r hr;rcases List.mem_append.1 hr with hr|hr
  .exact afZ (fun q hq=>h q (by simp [hq])) r hr
  .exact Nt (fun q hq=>h q (by simp [hq])) r hr
theorem afM {b b':Bool}{ay:List Pc}(h:Lx b ay b'):∀x∈ay,(x.k=0->iy x.o)->Fit x:=by
 have a1:iy [34]:=by intro r hr;rw [List.mem_singleton.1 hr];decide
 have a2:iy [34,34]:=by intro r hr;simp at hr;rw [hr];decide
 have a3:iy [47,47]:=by intro r hr;simp at hr;rw [hr];decide
 have a4:iy [47,42,42,47]:=by intro r hr;simp at hr;rcases hr with rfl|rfl|rfl<;>decide
 have a5:iy [47,42]:=by intro r hr;simp at hr;rcases hr with rfl|rfl<;>decide
 have a6:iy [42,47]:=by intro r hr;simp at hr;rcases hr with rfl|rfl<;>decide
 have a7:iy []:=by intro r hr;cases hr
 induction h with
 |nil b=>intro x hx;cases hx
 |code hne hco hk hl ih=>
  intro x hx hc;rcases List.mem_cons.1 hx with rfl|hx
  .exact⟨by simpa using hc rfl,fun _=>rfl,.inl rfl⟩
  .exact ih x hx hc
 |str hs hl ih=>
  intro x hx hc;rcases List.mem_cons.1 hx with rfl|hx
  .exact⟨a2,fun h=>(by cases h),.inr (.inl rfl)⟩
  .exact ih x hx hc
 |iH hs=>intro x hx _;rw [List.mem_singleton.1 hx];exact⟨a1,fun h=>(by cases h),.inr (.inl rfl)⟩
 |lc=>intro x hx _;rw [List.mem_singleton.1 hx];exact⟨a3,fun h=>(by cases h),.inr (.inr rfl)⟩
 |blk hs hl ih=>
  intro x hx hc;rcases List.mem_cons.1 hx with rfl|hx
  .exact⟨a4,fun h=>(by cases h),.inr (.inr rfl)⟩
  .exact ih x hx hc
 |zH hs=>intro x hx _;rw [List.mem_singleton.1 hx];exact⟨a5,fun h=>(by cases h),.inr (.inr rfl)⟩
 |qf hs hl ih=>
  intro x hx hc;rcases List.mem_cons.1 hx with rfl|hx
  .exact⟨a6,fun h=>(by cases h),.inr (.inr rfl)⟩
  .exact ih x hx hc
 |Ei hs hne=>intro x hx _;rw [List.mem_singleton.1 hx];exact⟨a7,fun h=>(by cases h),.inr (.inr rfl)⟩
def oP(s:ByteArray)(p q:Nat):List UInt8:=(s.data.toList.drop p).take (q - p)
theorem Sg(s:ByteArray){p m q:Nat}(h1:p<=m)(h2:m<=q):oP s p m++oP s m q=oP s p q:=by
 unfold oP;have e:s.data.toList.drop m=(s.data.toList.drop p).drop (m - p):=by rw [List.drop_drop,show p+(m - p)=m by omega]
 rw [e,show q - p=(m - p)+(q - m)by omega,List.take_add]
theorem F6(s:ByteArray)(p:Nat):oP s p p=[]:=by unfold oP;rw [Nat.sub_self];rfl
theorem Bz {s:ByteArray}{a:Nat}{l:List Int}{t:List UInt8}(h:s.data.toList.drop a=bs l++t):oP s a (a+W l)=bs l:=by
 unfold oP;rw [h,show a+W l - a=(bs l).length by unfold W;omega,List.take_left]
def iK:Nat->Nat->List Ed->Prop
 |p,q,[]=>p<=q
 |p,q,e::es=>(p:Int)<=e.a/\0<=e.c/\e.a+e.c<=q/\iK (e.a+e.c).toNat q es
def gZ(s:ByteArray):Nat->Nat->List Ed->List UInt8
 |p,q,[]=>oP s p q
 |p,q,e::es=>oP s p e.a.toNat++(e.n.data.toList++gZ s (e.a+e.c).toNat q es)
theorem iK.le:∀{es:List Ed}{p q:Nat},iK p q es->p<=q
 |[],_,_,h=>h
 |e::es,p,q,h=>by obtain⟨h1,h2,h3,h4⟩:=h;omega
theorem iK.app:∀{es fs:List Ed}{p m q:Nat},iK p m es->iK m q fs->iK p q (es++fs)
 |[],fs,p,m,q,h1,h2=>by
  have h1:p<=m:=h1;cases fs with
  |nil=>have h2:m<=q:=h2;show p<=q;omega
  |cons e fs=>obtain⟨a,b,c,d⟩:=h2;exact⟨by omega,b,c,d⟩
 |e::es,fs,p,m,q,h1,h2=>by
  obtain⟨a,b,c,d⟩:=h1;have:=h2.le;exact⟨a,b,by omega,iK.app d h2⟩
theorem wG(s:ByteArray):∀{es fs:List Ed}{p m q:Nat},iK p m es->iK m q fs->gZ s p q (es++fs)=gZ s p m es++gZ s m q fs
 |[],fs,p,m,q,h1,h2=>by
  have h1:p<=m:=h1;cases fs with
  |nil=>exact(Sg s h1 h2).symm
  |cons e fs=>
   obtain⟨a,b,c,d⟩:=h2;rw [List.nil_append,gZ,gZ,gZ,<-List.append_assoc,<-Sg s h1 (show m<=e.a.toNat by omega)];simp only [List.append_assoc]
 |e::es,fs,p,m,q,h1,h2=>by
  obtain⟨a,b,c,d⟩:=h1;rw [List.cons_append,gZ,gZ,wG s d h2];simp only [List.append_assoc]
theorem zG(a b:ByteArray):(a++b).data.toList=a.data.toList++b.data.toList:=by simp
theorem Rc(s:ByteArray):∀(es:List Ed)(acc:ByteArray)(p:Nat),iK p s.size es->((es.foldl (kE s) (acc,p)).1++s.extract (es.foldl (kE s) (acc,p)).2 s.size).data.toList=acc.data.toList++gZ s p s.size es
 |[],acc,p,_=>by
  rw [List.foldl_nil,zG,ext_list];rfl
 |e::es,acc,p,h=>by
  obtain⟨h1,h2,h3,h4⟩:=h;have ok:vH s p e=true:=by
   unfold vH;simp only [Bool.and_eq_true,decide_eq_true_eq];omega
  rw [List.foldl_cons,kE,if_pos ok];simp only;rw [Rc s es _ _ h4,zG,zG,ext_list,gZ];simp only [List.append_assoc];rfl
theorem Rf(s:ByteArray)(es:List Ed)(h:iK 0 s.size es):(dA s es).data.toList=gZ s 0 s.size es:=by
 unfold dA;rw [Rc s es ⟨#[]⟩ 0 h];rfl
theorem akF:∀k,k<16->(qh.data.toList.drop k).take (k+1 - k)=[(xq k).toNat.toUInt8]:=by decide
theorem akG:∀k,k<16->(vS.data.toList.drop k).take (k+1 - k)=[(za k).toNat.toUInt8]:=by decide
theorem Kv:∀(l:List Int),(∀c∈l,0<=c/\c<128)->bs l=l.map fun c=>c.toNat.toUInt8
 |[],_=>rfl
 |c::l,h=>by
  obtain⟨h0,h1⟩:=h c (by simp);rw [tK,Gj h0 h1,Kv l fun x hx=>h x (by simp [hx])];rfl
theorem Yn {c:Int}(h:Pl c):0<=c/\c<128:=by unfold Pl at h;omega
theorem ac2(r:Int):(pX r.toNat).data.toList=bs (zO r):=by
 rw [Kv _ fun c hc=>Yn (La r c hc)];unfold pX jr ve;simp only [zG,ext_list];rw [akF _ (Nat.mod_lt _ (by decide)),akF _ (Nat.mod_lt _ (by decide)),akF _ (Nat.mod_lt _ (by decide)),akF _ (Nat.mod_lt _ (by decide))];rfl
theorem agc(r:Int):(nZ r.toNat).data.toList=bs (xw r):=by
 rw [Kv _ fun c hc=>Yn (Il r c hc).1];unfold nZ jr ve;simp only [zG,ext_list];rw [akG _ (Nat.mod_lt _ (by decide)),akG _ (Nat.mod_lt _ (by decide)),akG _ (Nat.mod_lt _ (by decide)),akG _ (Nat.mod_lt _ (by decide))];rfl
theorem Ku(mB:Int->Bool)(wS:Nat->ByteArray)(b:Nat):∀(rs:List Int)(p:Nat),(dW mB wS rs p).map (lu b)=dW mB wS rs (p+b)
 |[],_=>rfl
 |r::rs,p=>by
  rw [dW,dW];have ih:=Ku mB wS b rs (p+wd r);rw [show p+wd r+b=p+b+wd r by omega]at ih;split
  .rw [List.map_cons,ih]
   congr 1
  .exact ih
theorem Kr {s:ByteArray}(mB:Int->Bool)(wS:Nat->ByteArray)(R:Int->List Int)(hR:∀r,(wS r.toNat).data.toList=bs (R r)):∀(rs:List Int)(p:Nat)(t:List UInt8),(∀r∈rs,VR r)->s.data.toList.drop p=bs rs++t->
  iK p (p+W rs) (dW mB wS rs p)/\gZ s p (p+W rs) (dW mB wS rs p)=bs (rs.flatMap fun r=>if mB r=true then R r else [r])
 |[],p,_,_,_=>⟨Nat.le_refl _,by rw [dW,gZ,fP,Nat.add_zero,F6];rfl⟩
 |r::rs,p,t,hv,hd=>by
  have hr:=hv r (by simp);have hd2:s.data.toList.drop (p+wd r)=bs rs++t:=by
   have:=nM (s:=s) (rs:=[r]) (a:=p) (t:=bs rs++t) (by rw [hd,tK,tK,RB,List.append_nil,List.append_assoc]);rw [bM hr,fP,Nat.add_zero]at this;exact this
  obtain⟨i1,i2⟩:=Kr mB wS R hR rs (p+wd r) t (fun x hx=>hv x (by simp [hx])) hd2;rw [dW,List.flatMap_cons,bM hr,<-Nat.add_assoc];by_cases hm:mB r=true
  .rw [if_pos hm,if_pos hm];have hl:=i1.le;have e:((p:Int)+(wd r:Int)).toNat=p+wd r:=by omega
   refine⟨⟨Int.le_refl _,by simp only;omega,by simp only;omega,?_⟩,?_⟩
   .simp only [e];exact i1
   .rw [gZ];simp only [e,Int.toNat_natCast,F6,List.nil_append];rw [i2,hR,jc]
  .rw [if_neg hm,if_neg hm];have c1:iK p (p+wd r) []:=Nat.le_add_right _ _;have:=wG s c1 i1;rw [List.nil_append]at this;refine⟨c1.app i1,?_⟩;rw [this,i2,gZ,jc]
   congr 1
   have h1:=Bz (s:=s) (a:=p) (l:=[r]) (t:=bs rs++t) (by rw [hd,tK,tK,RB,List.append_nil,List.append_assoc]);rw [bM hr,fP,Nat.add_zero]at h1;exact h1
theorem Gv:∀(rs:List Int)(p:Nat),oU rs p≠ -1↔rs.any bI=true
 |[],_=>by simp [oU]
 |r::rs,p=>by
  rw [oU,List.any_cons];by_cases h:bI r=true
  .rw [if_pos h,h];simp
  .rw [if_neg h,Gv rs (p+wd r)];simp [h]
def xE(x:Pc)(a:Nat):List Ed:=
 if x.k=1 then dW bI pX x.b (a+W x.o)
 else if x.k=2/\x.b.any bI=true then [⟨(a+W x.o:Nat),0,⟨#[226,129,168]⟩⟩]++dW jC nZ x.b (a+W x.o)++[⟨(a+W x.o+W x.b:Nat),0,⟨#[226,129,169]⟩⟩]
 else []
theorem TL:bs [8296]=[226,129,168]/\bs [8297]=[226,129,169]:=by
 constructor<;>(unfold bs;simp only [List.flatMap_cons,List.flatMap_nil,List.append_nil];unfold en Lib.encodeRune;rw [Lib.encodeRuneZ_three (by omega)];decide)
theorem ahj {s:ByteArray}(x:Pc)(a:Nat)(t:List UInt8)(hv:∀r∈x.fl,VR r)(hd:s.data.toList.drop a=bs x.fl++t):
  iK a (a+W x.fl) (xE x a)/\gZ s a (a+W x.fl) (xE x a)=bs (dQ x).fl:=by
 have hW:W x.fl=W x.o+W x.b+W x.c:=by unfold Pc.fl;rw [bH,bH]
 have hd0:s.data.toList.drop a=bs x.o++(bs x.b++(bs x.c++t)):=by rw [hd];unfold Pc.fl;rw [jc,jc];simp only [List.append_assoc]
 have hd1:=nM hd0;have hd2:=nM hd1;have hvb:∀r∈x.b,VR r:=fun r hr=>hv r (by simp [Pc.fl,hr])
 have c1:iK a (a+W x.o) []:=Nat.le_add_right _ _;have c3:iK (a+W x.o+W x.b) (a+W x.o+W x.b+W x.c) []:=Nat.le_add_right _ _;have r1:gZ s a (a+W x.o) []=bs x.o:=Bz hd0;have r3:gZ s (a+W x.o+W x.b) (a+W x.o+W x.b+W x.c) []=bs x.c:=Bz hd2
 -- edits of the body alone
 have K:∀(es:List Ed)(l:List Int),iK (a+W x.o) (a+W x.o+W x.b) es->gZ s (a+W x.o) (a+W x.o+W x.b) es=bs l->iK a (a+W x.fl) es/\gZ s a (a+W x.fl) es=bs (x.o++l++x.c):=by
  intro es l e1 e2;have d1:=c1.app e1;have d2:=d1.app c3;have q1:=wG s c1 e1;have q2:=wG s d1 c3;rw [List.nil_append]at d1 d2 q1 q2;rw [List.append_nil]at d2 q2;rw [hW,show a+(W x.o+W x.b+W x.c)=a+W x.o+W x.b+W x.c by omega];refine⟨d2,?_⟩;rw [q2,q1,r1,r3,e2,jc,jc]
 unfold xE dQ;by_cases k1:x.k=1
 .rw [if_pos k1,if_pos k1];obtain⟨e1,e2⟩:=Kr (s:=s) bI pX zO ac2 x.b (a+W x.o) _ hvb hd1;exact K _ _ e1 e2
 .rw [if_neg k1,if_neg k1];by_cases k2:x.k=2/\x.b.any bI=true
  .rw [if_pos k2,if_pos k2];obtain⟨e1,e2⟩:=Kr (s:=s) jC nZ xw agc x.b (a+W x.o) _ hvb hd1;have f1:iK (a+W x.o) (a+W x.o) [⟨(a+W x.o:Nat),0,⟨#[226,129,168]⟩⟩]:=⟨Int.le_refl _,Int.le_refl _,by simp,by show _<=_;simp⟩
   have f2:iK (a+W x.o+W x.b) (a+W x.o+W x.b) [⟨(a+W x.o+W x.b:Nat),0,⟨#[226,129,169]⟩⟩]:=⟨Int.le_refl _,Int.le_refl _,by simp,by show _<=_;simp⟩
   refine K _ (8296::(x.b.flatMap mC++[8297])) ((f1.app e1).app f2) ?_;rw [wG s (f1.app e1) f2,wG s f1 e1,e2];rw [show(8296:Int)::(x.b.flatMap mC++[8297])=[8296]++(x.b.flatMap mC++[8297])from rfl,jc,jc,TL.1,TL.2];simp only [gZ,Int.add_zero,Int.toNat_natCast,F6,List.append_nil,List.nil_append,List.append_assoc];rfl
  .rw [if_neg k2,if_neg k2];exact K [] x.b (Nat.le_add_right _ _) (Bz hd1)
def o6:List Pc->Nat->List Ed
 |[],_=>[]
 |x::xs,a=>xE x a++o6 xs (a+W x.fl)
theorem N7 {s:ByteArray}:∀(ay:List Pc)(a:Nat)(t:List UInt8),(∀r∈ai ay,VR r)->s.data.toList.drop a=bs (ai ay)++t->
  iK a (a+W (ai ay)) (o6 ay a)/\gZ s a (a+W (ai ay)) (o6 ay a)=bs (ai (ay.map dQ))
 |[],a,_,_,_=>⟨Nat.le_refl _,by rw [o6,gZ,zP,fP,Nat.add_zero,F6];rfl⟩
 |x::xs,a,t,hv,hd=>by
  rw [eY]at hv hd ⊢;rw [jc,List.append_assoc]at hd;obtain⟨h1,h2⟩:=ahj x a _ (fun r hr=>hv r (by simp [hr])) hd;obtain⟨h3,h4⟩:=N7 xs (a+W x.fl) t (fun r hr=>hv r (by simp [hr])) (nM hd);rw [bH,<-Nat.add_assoc,o6];refine⟨h1.app h3,?_⟩;rw [wG s h1 h3,h2,h4,List.map_cons,eY,jc]
def gD(sf:Nat->Bool):Nat->List (List Pc)->List (List Pc)
 |_,[]=>[]
 |i,p::ps=>(if sf i=true then p else p.map dQ)::gD sf (i+1) ps
def mR(sf:Nat->Bool):Nat->Nat->List (List Pc)->List Ed
 |_,_,[]=>[]
 |i,a,p::ps=>(if sf i=true then []else o6 p a)++mR sf (i+1) (a+W (ai p)+1) ps
theorem Z8 {s:ByteArray}(sf:Nat->Bool):∀(pl:List (List Pc))(i a:Nat),pl≠[]->(∀p∈pl,LR (ai p))->s.data.toList.drop a=bs (joinL (pl.map ai))->a<=s.size->
  iK a s.size (mR sf i a pl)/\gZ s a s.size (mR sf i a pl)=bs (joinL ((gD sf i pl).map ai))
 |[],_,_,h,_,_,_=>absurd rfl h
 |[p],i,a,_,hv,hd,ha=>by
  have hd':s.data.toList.drop a=bs (ai p)++[]:=by rw [List.append_nil];exact hd
  have hz:s.size=a+W (ai p):=by
   have:=congrArg List.length hd';rw [List.length_drop,<-uF,List.append_nil]at this;unfold W;omega
  rw [mR,mR,List.append_nil,hz,gD,gD];by_cases hs:sf i=true
  .rw [if_pos hs,if_pos hs];exact⟨Nat.le_add_right _ _,Bz hd'⟩
  .rw [if_neg hs,if_neg hs];exact N7 p a [] (fun r hr=>(hv p (by simp) r hr).1) hd'
 |p::q::pl,i,a,_,hv,hd,ha=>by
  have hd':s.data.toList.drop a=bs (ai p)++10::bs (joinL ((q::pl).map ai)):=by rw [hd,List.map_cons,List.map_cons,joinL,jc,Dp]
  have hp:=nM hd';obtain⟨b1,b2,b3⟩:=zJ hp;obtain⟨i1,i2⟩:=Z8 sf (q::pl) (i+1) (a+W (ai p)+1) (by simp) (fun x hx=>hv x (List.mem_cons_of_mem _ hx)) b3 (by omega);have c2:iK (a+W (ai p)) (a+W (ai p)+1) []:=Nat.le_add_right _ _;have r2:gZ s (a+W (ai p)) (a+W (ai p)+1) []=[10]:=by
   show oP s _ _=_;unfold oP;rw [hp,show a+W (ai p)+1 - (a+W (ai p))=1 by omega];rfl
  have hm:joinL ((gD sf i (p::q::pl)).map ai)=ai (if sf i=true then p else p.map dQ)++10::joinL ((gD sf (i+1) (q::pl)).map ai):=by
   rw [gD,gD];rfl
  have key:iK a (a+W (ai p)) (if sf i=true then []else o6 p a)/\gZ s a (a+W (ai p)) (if sf i=true then []else o6 p a)=bs (ai (if sf i=true then p else p.map dQ)):=by
   by_cases hs:sf i=true
   .rw [if_pos hs,if_pos hs];exact⟨Nat.le_add_right _ _,Bz hd'⟩
   .rw [if_neg hs,if_neg hs];exact N7 p a _ (fun r hr=>(hv p (by simp) r hr).1) hd'
  obtain⟨k1,k2⟩:=key;have d1:=c2.app i1;have q1:=wG s c2 i1;rw [List.nil_append]at d1 q1;rw [mR,hm];refine⟨k1.app d1,?_⟩;rw [wG s k1 d1,k2,q1,r2,i2,jc,Dp];rfl
