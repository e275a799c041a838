import Derived.Test.YtkbinfhclaafhaaGreatDoorP15
import Derived.Lib.IndexBytes
import Derived.Lib.ValidU
import Derived.Lib.RuneCount
namespace Go.Proofs.YtkbinfhclaafhaaGreatDoor
open Go.RowKit
open Go.Proofs.Tryz
set_option maxRecDepth 100000
set_option maxHeartbeats 32000000
set_option linter.all false
def Qy(a:Int)(t:List Int):List Int:=pass f7 g7 a<|pass f6 g3 ()<|pass f5 g5 none (pass f4 g4 none (pass f3 g3 ()<|pass f2 g2 a<|pass (f1 a) (g1 a) none t))
def MR(b a:List Int)(s:Sq):List Int:=
 pass (uS<|s.level%2) g3 () (pass (fM s.ay) gM s.aq<|Bl (Qy s.aq<|bB a s.at') (bB a s.at') (Bq (Qy s.aq<|bB a s.at')<|bB b s.at') (s.level%2) s.aq)
def aso {a:Int}(d:a=0∨a=1){t:List Int}(e:∀c∈t,K0 c):Qy a t=uD a t:=by
 unfold Qy uD;rw[Ug,Ux,Wb];intro c b;have:=(agS d e).1 c b;unfold Cl at this;omega
def aes {e b:Int}(d:e=0∨e=1)(f:b=0∨b=1)(a:List Int):∀(c:List<|Nat×Nat)(t:List Int),Bl t a c e b=Bk t a c e b
 |[],_=>rfl
 |p::c,t=>by
  have:=aes d f a c<|s9 t a p e b;unfold Bl Bk at this ⊢;rw[qW,qW,aoF d f,this]
def mem_set {l:List Int}{k:Nat}{v c:Int}(h:c∈l.set k v):c∈l∨c=v:=by
 rcases List.mem_or_eq_of_mem_set h with h|h
 .exact .inl h
 .exact .inr h
def VU {t:List Int}{k:Nat}{v c:Int}:∀m,c∈bM t k v m->c∈t∨c=v
 |0,h=> .inl h
 |m+1,h=>by
  rcases mem_set h with h|h
  .exact VU m h
  .exact .inr h
def aoy {t:List Int}{p:Nat×Nat}{e a:Int}(b:e=0∨e=1)(c:a=0∨a=1):zX t p e a=0∨zX t p e a=1:=by
 unfold zX;split
 .exact b
 .exact VH c t p.1
def aoD {P:Int->Prop}(l:P 0)(m:P 1){t b:List Int}{p:Nat×Nat}{e d:Int}(j:e=0∨e=1)(k:d=0∨d=1)(g:∀c∈t,P c):∀c∈s9 t b p e d,P c:=by
 intro c a;have i:=aoy (t:=t) (p:=p) j k;have f:∀x,x=zX t p e d->P x:=λx hx=>by rcases i with h|h<;>rw[hx,h]<;>assumption
 unfold s9 at a;split at a
 .exact g c a
 .rcases VU _ a with a|a
  .rcases VU _ a with a|a
   .exact g c a
   .exact f c a
  .exact f c a
def aer {P:Int->Prop}(d:P 0)(f:P 1){orig:List Int}{e a:Int}(g:e=0∨e=1)(h:a=0∨a=1):∀(b:List<|Nat×Nat)(t:List Int),(∀c∈t,P c)->∀c∈Bk t orig b e a,P c
 |[],_,ht=>ht
 |p::b,t,ht=>by
  have:=aer d f (orig:=orig) g h b (s9 t orig p e a)<|aoD d f g h ht;unfold Bk at this ⊢;rw[qW];exact this
def aq0 {f a:List Int}{s:Sq}(b:s.aq=0∨s.aq=1)(g:s.ay=0∨s.ay=1)(e:∀c∈bB a s.at',K0 c):MR f a s=MS f a s:=by
 have d:s.level%2=0∨s.level%2=1:=by omega
 unfold MR MS;rw[aso b e,aes d b,afa,V3 g _ _ b]
 .rfl
 .exact aer (by simp[Cl]) (by simp[Cl]) d b _ _ (agS b e).2
def tV(a:List aV):Prop:=∀e∈a,e.o<=1
def tV.app {b:List aV}{e:aV}(h:tV b)(c:e.o<=1):tV (b++[e]):=λy a=>by
 rcases jL.1 a with a|a
 .exact h y a
 .rw[qX.1 a];exact c
def tV.sub {b a:List aV}(h:tV b)(d:∀e∈a,e∈b):tV a:=λe c=>h e<|d e c
def tV.pre {x:XS}(h:tV x.st)(c:Int):tV (dZ x c).st:=by
 unfold dZ;split
 .unfold jd;split
  .exact h
  .split
   .exact h
   .exact h.sub (WH _)
 .exact h
def tV.post {x:XS}(h:tV x.st)(d:List Int)(i:Nat)(c:Int):tV (fA d i x c).st:=by
 have a:∀b,tV (jr x b).st:=λb=>by
  unfold jr;simp only;split
  .exact h.app (by simp)
  .exact h
 unfold fA;split
 .have g:(if c=15 then(0:Int)else if c=16 then 1 else -1)<=1:=by
   split
   .decide
   .split<;>decide
  unfold jF;simp only;generalize(if c=15 then(0:Int)else if c=16 then 1 else -1)=o at*;generalize gz (aS x.st).l _=n;split
  .exact h.app g
  .split<;>exact h
 .split
  .exact a _
  .split
   .exact a _
   .split
    .exact a _
    .split
     .unfold ko;split
      .exact h
      .split
       .exact h
       .split
        .exact h.sub λe f=>ZI _ f
        .exact h
     .exact h
def ag2(b:List Int)(a:Int):∀i,tV (eP b a i).st
 |0=>by intro e c;rw[eP]at c;rw[qX.1 c];show(-1:Int)<=1;decide
 |i+1=>by rw[eP];exact((ag2 b a i).pre _).post b i _
def asB(b:List Int)(a:Int)(c:0<=a/\a<=125)(i:Nat):(iq b a i).o<=1:=
 ((ag2 b a i).pre _) _ (Qq ((yT b a c i).pre _).ne)
def QC(b:List Int)(a:Int)(c:0<=a/\a<=125)(i:Nat):0<=(iq b a i).l/\(iq b a i).l<=125:=
 ((yT b a c i).pre _).top.2
def QB {cs:List Int}{a:Int}(b:0<=a/\a<=125)(i:Nat):0<=(bh cs a).getD i 0/\(bh cs a).getD i 0<=125:=by
 rcases cP i cs.length with h|h
 .rw[bh,Ga _ _ _ _ h];exact QC cs a b i
 .rw[aO,rZ<|by simp[bh];exact h];simp
def Ya(b:List Int)(a:Int):(bh b a).length=b.length:=by simp[bh]
def IU {b:List Int}{p:Nat}(h:lq (aQ b) p=true):p<b.length/\bV (b.getD p 0)=true:=by
 unfold lq aQ at h;rw[aO,jq]at h;rcases cP p b.length with a|a
 .rw[aM a]at h;refine⟨a,?_⟩;rw[aO,aM a];exact h
 .rw[rZ a]at h;cases h
def am5 {b:List Int}(f:∀c∈b,0<=c/\c<=21){a:Int}(i:0<=a/\a<=125){p:Nat}(h:lq (aQ b) p=true):K0 ((iN b a).getD p 0):=by
 obtain⟨e,g⟩:=IU h;have j:=f _ (dG (d:=0) e);rw[iN,Ga _ _ _ _ e,kindOf];have k:=asB b a i p;generalize b.getD p 0=c at*;unfold K0;split
 .omega
 .unfold bV at g;simp at g;omega
def X8(b:List Int)(a:Int):l9 b.length (cZ (bh b a)<|aQ b):=by
 have h:=zY (bh b a)<|aQ b;refine⟨h.2.1,λr d p c=> ?_,afU _ _⟩;have:=(Qi d c).1;rwa [Ya]at this
def pP {a:List Int}{b:Int}:∀(f:Nat)(r:List Nat),(∀p∈r,lq (aQ a) p=true)->∀p∈cE a (cZ (bh a b)<|aQ a) f r,lq (aQ a) p=true
 |0,r,h=>h
 |f+1,r,h=>by
  rw[cE];cases hk:ig a (cZ (bh a b)<|aQ a) (r.getLastD 0)with
  |none=>exact h
  |some k=>
   refine pP f _ λp c=> ?_
   rcases jL.1 c with c|c
   .exact h p c
   .exact(Qi (dG (V5 hk).1) c).2
def anK {b:List Int}{a:Int}(f:0<=a/\a<=125):∀i,i<b.length->aU (b.getD i 0)=true->mt b i<b.length->(bh b a).getD (mt b i) 0=(bh b a).getD i 0:=by
 intro i c e d;rw[bh,Ga _ _ _ _ c,Ga _ _ _ _ d,(anL f c e d).1]
def af8(a b:Int):i6 a b=0∨i6 a b=1:=by
 unfold i6;generalize(if a<b then b else a)=m;split
 .exact .inr rfl
 .exact .inl rfl
section
variable{cs:List Int}{para:Int}
def Qk(e:∀c∈cs,0<=c/\c<=21)(b:0<=para/\para<=125){s:Sq}(g:s∈ij cs (bh cs para) (aQ cs) para):
  (s.aq=0∨s.aq=1)/\(s.ay=0∨s.ay=1)/\bB (kP cs para) s.at'=bB (iN cs para) s.at'/\(∀c∈bB (iN cs para) s.at',K0 c)/\∀p∈s.at',p<cs.length/\(bh cs para).getD p 0=s.level:=by
 unfold ij at g;obtain⟨r,k,rfl⟩:=jM.1 g;have d:=(tQ.1 k).1;have f:∀p∈cE cs (cZ (bh cs para)<|aQ cs) cs.length r,lq (aQ cs) p=true:=pP _ _ λp b=>(Qi d b).2
 refine⟨af8 _ _,af8 _ _,?_,?_,?_⟩
 .refine J3 λp a=> ?_
  obtain⟨h,i⟩:=IU<|f p a;exact am4 b h i
 .intro c j;obtain⟨p,a,rfl⟩:=jM.1 j;exact am5 e b<|f p a
 .exact ajw (X8 cs para) (zY _ _).2.2 (anK b) d
def oz(b a:List Int)(s:Sq):List (Nat×Int×Int):=jm s.at' s.level<|MR b a s
def IP {a:Type}{f:a->Int->List Int->Int}{g:a->Int->List Int->a}(s:a)(t:List Int):(pass f g s t).length=t.length:=UC t s
def aga(f d:List Int)(s:Sq):(MS f d s).length=s.at'.length:=by
 unfold MS Eb;rw[IP,VZ];unfold uD;have e:∀(a b:Int)(t:List Int)(l:Int),(lO a b l t).length=t.length:=λa b t=>by
  induction t with
  |nil=>intro l;rfl
  |cons c r ih=>intro l;rw[lO,eJ,ih,eJ]
 rw[e,IP,IP,IP,IP,e,IP];simp[bB]
def agD {c:List Nat}{d:Int}{t:List Int}{x:Nat×Int×Int}(h:x∈jm c d t):x.1∈c/\x.2.1=d/\x.2.2∈t:=by
 unfold jm at h;obtain⟨y,e,rfl⟩:=jM.1 h;obtain⟨a,b⟩:=y;exact⟨(List.of_mem_zip e).1,rfl,(List.of_mem_zip e).2⟩
def agF(c a:List Int):∀b:List Sq,(b.flatMap<|qH c a).map Prod.fst=b.flatMap Sq.at'
 |[]=>rfl
 |s::b=>by
  rw[xP,xP,fB,agF c a b,qH,agC _ _ _ (by rw[aga];exact au _)]
def Xj {P:Int->Prop}:∀(b:List<|Nat×Int×Int)(l:List Int),(∀x∈b,P<|nX x.2.2 x.2.1)->(∀o∈l,P o)->∀o∈b.foldl lB l,P o
 |[],_,_,h=>h
 |x::b,l,hx,h=>by
  rw[qW];refine Xj b _ (λy c=>hx y<|by simp[c]) λo a=> ?_
  rcases mem_set a with a|a
  .exact h o a
  .rw[a];exact hx x<|by simp
def amx {c l:Int}:l<=nX c l/\nX c l<=l+2:=by
 unfold nX;split
 .split
  .omega
  .split<;>omega
 .split<;>omega
def agB(a:∀c∈cs,0<=c/\c<=21)(b:List Int)(h:0<=para/\para<=125):∀s∈ij cs (bh cs para) (aQ cs) para,oz b (kP cs para) s=qH b (iN cs para) s:=λs i=>by
 obtain⟨d,e,f,g,_⟩:=Qk a h i;unfold oz qH;rw[<-aq0 d e g];unfold MR;rw[f]
def Xg(b:List Int)(a:Int):((ij b (bh b a) (aQ b) a).flatMap Sq.at').Nodup:=by
 have:=af1 (X8 b a) b.length;unfold ij;rw[J1,NI]at*;exact this
def Z8:∀(a:List<|Nat×Int×Int)(l:List Int)(p:Nat),p ∉ a.map Prod.fst->(a.foldl iU l).getD p 0=l.getD p 0
 |[],_,_,_=>rfl
 |x::a,l,p,h=>by
  rw[mP,fW,not_or]at h;rw[qW,Z8 a _ p h.2];exact getD_set_ne (λe=>h.1 e.symm) _
def apK(l c:Int):0<=jl l c/\jl l c<=2:=by
 unfold jl;split
 .omega
 .split<;>omega
def Z7:∀(a:List<|Nat×Int×Int)(l:List Int),(a.map Prod.fst).Nodup->∀p,l.getD p 0<=(a.foldl iU l).getD p 0/\(a.foldl iU l).getD p 0<=l.getD p 0+2
 |[],l,_,p=>by simp only[Sl];omega
 |x::a,l,hn,p=>by
  rw[mP,Dr]at hn;rw[qW];by_cases hx:x.1=p
  .rw[Z8 a _ p (by rw[<-hx];exact hn.1)];have d:=apK x.2.1 x.2.2;rcases cP p l.length with h|h
   .unfold iU;rw[hx,zC h];omega
   .have:(iU l x).getD p 0=l.getD p 0:=by
     have b:∀k:List Int,k.length<=p->k.getD p 0=0:=λk c=>by rw[aO,rZ c];rfl
     rw[b _ (by simpa [iU]using h),b _ h]
    omega
  .have:=Z7 a (iU l x) hn.2 p;have e:(iU l x).getD p 0=l.getD p 0:=getD_set_ne hx _;omega
def agE(a:∀c∈cs,0<=c/\c<=21)(d:List Int)(e:0<=para/\para<=125):∀b:List Sq,(∀s∈b,s∈ij cs (bh cs para) (aQ cs) para)->(b.flatMap<|oz d<|kP cs para).map Prod.fst=b.flatMap Sq.at'
 |[],_=>rfl
 |s::b,h=>by
  rw[xP,xP,fB,agE a d e b λx hx=>h x<|by simp[hx],agB a d e s<|h s<|by simp,qH,agC _ _ _ (by rw[aga];exact au _)]
def ari {c:Type}:∀{a b:List (List c)},a.Sublist b->a.flatten.Sublist b.flatten:=by
 intro a b h
 induction h with
 |slnil=>exact ahS _
 |cons x _ ih=>rw[Ax];exact ih.trans<|List.sublist_append_right _ _
 |cons_cons x _ ih=>rw[Ax,Ax];exact(List.append_sublist_append_left x).2 ih
def aoT(d:∀c∈cs,0<=c/\c<=21)(b:List Int)(f:0<=para/\para<=125)(a:List Sq)(e:a.Sublist<|ij cs (bh cs para) (aQ cs) para)(p:Nat):
  0<=((a.flatMap<|oz b<|kP cs para).foldl iU (bh cs para)).getD p 0/\((a.flatMap<|oz b<|kP cs para).foldl iU (bh cs para)).getD p 0<=127:=by
 have g:((a.flatMap<|oz b<|kP cs para).map Prod.fst).Nodup:=by
  rw[agE d b f a λs h=>e.subset h];exact(Xg cs para).sublist (by rw[J1,J1];exact ari<|e.map Sq.at')
 have i:=Z7 _ (bh cs para) g p;have j:=QB (cs:=cs) f p;omega
def ano(b:∀c∈cs,0<=c/\c<=21)(a:List Int)(d:Int)(f:para=gX cs d)(e:0<=para/\para<=125):
  zB para (l1 para cs<|((ij cs (bh cs para) (aQ cs) para).flatMap (oz a<|kP cs para)).foldl iU (bh cs para))=gV a cs d:=by
 have p:(ij cs (bh cs para) (aQ cs) para).flatMap (oz a<|kP cs para)=(ij cs (bh cs para) (aQ cs) para).flatMap (qH a<|iN cs para):=by
  rw[J1,J1,J3<|agB b a e]
 rw[p];have q:(((ij cs (bh cs para) (aQ cs) para).flatMap (qH a<|iN cs para)).map Prod.fst).Nodup:=by
  rw[agF];exact Xg cs para
 have g:∀x∈(ij cs (bh cs para) (aQ cs) para).flatMap (qH a<|iN cs para),(bh cs para).getD x.1 0=x.2.1/\(x.2.2=0∨x.2.2=1∨x.2.2=3∨x.2.2=6):=λx hx=>by
  obtain⟨s,t,hx⟩:=GQ.1 hx;obtain⟨h,u,v,w,j⟩:=Qk b e t;obtain⟨k,m,n⟩:=agD hx;refine⟨by rw[m];exact(j _ k).2,?_⟩;exact anW h (by omega) _ n
 rw[Z9 _ _ q g,D7<|by omega]
 .unfold gV;rw[<-f]
 .refine Xj (P:=λo=>o≠ -1) _ _ (λx hx=> ?_) λo r=> ?_
  .have:=(g x hx).1;have y:=QB (cs:=cs) e x.1;have:=amx (c:=x.2.2) (l:=x.2.1);omega
  .obtain⟨i,_,rfl⟩:=jM.1 (show o∈(List.range cs.length).map λi=>(iq cs para i).l from r);have:=QC cs para e i;omega
end
def Tryz.amC:(prog.info? 108).map (λi=>(i.zero,i.size,i.bytes))=some (some (.int .i64 0),1,8):=by kernel_rfl
def Tryz.ajp:prog.cellsOf 108=1:=by kernel_rfl
def Tryz.ar4:prog.underlying 263=some (.array 3 108):=by kernel_rfl
def Tryz.SH(a b c:Int)(w:World):(part 108 #[.int .i64 a,.int .i64 b,.int .i64 c] 0).run prog w= .ok (.int .i64 a) w/\(part 108 #[.int .i64 a,.int .i64 b,.int .i64 c] 1).run prog w= .ok (.int .i64 b) w/\(part 108 #[.int .i64 a,.int .i64 b,.int .i64 c] 2).run prog w= .ok (.int .i64 c) w:=⟨by kernel_rfl,by kernel_rfl,by kernel_rfl⟩
def Tryz.akB(a b c x y z:Int)(w:World):(Op.equalIn 10000 263 (.agg #[.int .i64 a,.int .i64 b,.int .i64 c]) (.agg #[.int .i64 x,.int .i64 y,.int .i64 z])).run prog w= .ok (a==x&&(b==y&&c==z)) w:=by
 obtain⟨i,d,_⟩:=gu Tryz.amC;have r:∀(p q:Int)(w:World),(Op.equalIn 9999 108 (.int .i64 p) (.int .i64 q)).run prog w= .ok (p==q) w:=λp q w=>run_equalIn_int w 9998 108 .i64 .i64 p q underlying108
 have e:List.range 3=[0,1,2]:=rfl;obtain⟨f,g,h⟩:=Tryz.SH a b c w;obtain⟨j,k,l⟩:=Tryz.SH x y z w;rw[ap6 w 9999 _ _ Tryz.ar4 d,e,Tryz.ajp];cases h1:(a==x)<;>cases h2:(b==y)<;>cases h3:(c==z)<;>simp[Op.eqItems,f,g,h,j,k,l,r,h1,h2,h3]
def asc(w:World)(B u f n A:Nat)(N O bv:Value)(J I K:Int)(t:List Int)(h:bf w B u f n A N O bv J I K t)(hn:n<=1000)(V:0<n):
  Calls prog 147 #[.pointer<|some ⟨u,0,none⟩] w λe s=>e= .returned (.tuple #[])/\bf s B u f n A N O bv J I K (pass f4 g4 none t)/\w.grownBy s (some f):=by
 have cO:=ah h;have x:=ah h.len;have HE:=Tryz.akB;clear h;go_enter func147,ntmps147;go_wp2;go_loopg [2] (n - 1) (λgk iv wr=>∃(k:Nat)(a:Int)(g:List Int),k+1<=n/\gk=n - (k+1)/\iv= .int .i64 ((k:Int)+1)/\bf wr B u f n A N O bv J I K g/\w.grownBy wr (some f)/\aZ f4 g4 none t (k+1) (some a) g/\a=g.getD k 0);exact⟨0,t.getD 0 0,t,by omega,by omega,by simp,cO.out,jO _ _,Uk<|by rw[x.out];exact V,rfl⟩;clear cO;obtain⟨k,a,g,hk,FC,rfl,m,M,o,W⟩:=hrel;by_cases am:k+1+1<n
 .have R:=m.at k (by omega);have S:=m.at (k+1) (by omega);have U:=m.at (k+1+1) (by omega);rw[<-W]at R;rw[o.at (k+1)<|au _]at S;rw[o.at (k+1+1)<|by omega]at U;have L:=m.f2;obtain⟨b,p⟩:=ac<|(k:Int)+1;rw[<-p];have d0:wr.cell? ⟨f,b.toNat - 1,none⟩=some (.int .i64 a):=by rw[show b.toNat - 1=k by omega];exact R
  have d1:wr.cell? ⟨f,b.toNat,none⟩=some (.int .i64<|t.getD (k+1) 0):=by rw[show b.toNat=k+1 by omega];exact S
  have dn:wr.cell? ⟨f,(b+1).toNat,none⟩=some (.int .i64<|t.getD (k+1+1) 0):=by rw[show(b+1).toNat=k+1+1 by omega];exact U
  clear R S U;have Y:(0:Int)<=b - 1:=by omega
  have Z:(0:Int)<=b:=by omega
  have ab:(1:Int)<=b:=by omega
  have ad:b<=(n:Int):=by omega
  have ae:(0:Int)<b:=by omega
  have aa:(0:Int)<=b+1:=by omega
  have D:b+1<(n:Int):=by omega
  have y:b<(n:Int):=by omega
  have af:b - 1<(n:Int):=by omega
  have ag:IntKind.i64.wrap (b - 1)=b - 1:=Ny _ ⟨by omega,by omega⟩;have ak:IntKind.i64.wrap (b+1)=b+1:=Ny _ ⟨by omega,by omega⟩;have HI:=ah p;have X:t.drop (k+1+1)=t.getD (k+1+1) 0::t.drop (k+1+2):=drop_at (by rw[x.out];omega);have F:=m.len;have Q:=ah m;have P:=ah M;have C:=o.at (k+1)<|au _;have T:f4 (some a) (t.getD (k+1) 0) (t.drop<|k+1+1)=t.getD (k+1) 0->Hid (aZ f4 g4 none t (k+1+1) (some (t.getD (k+1) 0)) g):=λl=>o.stay (by rw[x.out];omega) _ l.symm (by rw[g4,l])
  have dz:∀v,f4 (some a) (t.getD (k+1) 0) (t.drop<|k+1+1)=v->Hid (aZ f4 g4 none t (k+1+1) (some v) (g.set (k+1) v)/\v=(g.set (k+1) v).getD (k+1) 0):=λv l=>⟨o.step (by rw[x.out];omega) v (some v) l.symm<|by rw[g4,l],by rw[zC<|by rw[F];omega]⟩
  rw[X,TA]at T;have z:∀v,(if a=t.getD (k+1+1) 0/\((t.getD (k+1) 0=4/\a=3)∨(t.getD (k+1) 0=7/\(a=3∨a=6)))then a else t.getD (k+1) 0)=v->Hid (aZ f4 g4 none t (k+1+1) (some v) (g.set (k+1) v)/\v=(g.set (k+1) v).getD (k+1) 0):=λv l=>dz v<|by rw[X,TA];exact l
  have G:=ah T;have r:=ah z;have lD:=ah C;clear m M o W dz X C F T z;generalize t.getD (k+1) 0=c at*;generalize t.getD (k+1+1) 0=d at*;clear p;have e1:=World.new_ne wr _ L;have e2:=World.new_ne wr _ d0;go_wp2
  go_region_held3 (λs=>s.cell? ⟨u,2,none⟩=some (.slice (some ⟨f,0,none⟩) n A)/\s.cell? ⟨f,b.toNat - 1,none⟩=some (.int .i64 a)/\s.cell? ⟨f,b.toNat,none⟩=some (.int .i64 c)/\s.cell? ⟨f,(b+1).toNat,none⟩=some (.int .i64 d)) (go_keep) (fail)
  have bO:Below wr.heap.size wr (wr.alloc (.cells #[.int .i64 a,.int .i64 c,.int .i64 d] 263)).drew:=((aA _ _).alloc (au _) _).drew;have j:=ah<|Q.out.below bO;have H:Hid (w.grownBy (wr.alloc (.cells #[.int .i64 a,.int .i64 c,.int .i64 d] 263)).drew (some f)):=P.out.trans ⟨rfl,rfl,rfl,by simp,λq hq _=>dw wr _ q hq⟩;have b0:(wr.alloc (.cells #[.int .i64 a,.int .i64 c,.int .i64 d] 263)).drew.cell? ⟨wr.heap.size,0,none⟩=some (.int .i64 a):=by go_simp
  have b1:(wr.alloc (.cells #[.int .i64 a,.int .i64 c,.int .i64 d] 263)).drew.cell? ⟨wr.heap.size,1,none⟩=some (.int .i64 c):=by go_simp
  have b2:(wr.alloc (.cells #[.int .i64 a,.int .i64 c,.int .i64 d] 263)).drew.cell? ⟨wr.heap.size,2,none⟩=some (.int .i64 d):=by go_simp
  generalize(wr.alloc (.cells #[.int .i64 a,.int .i64 c,.int .i64 d] 263)).drew=W5 at*;generalize wr.heap.size=zb at*;clear d0 d1 dn L e1 e2 bO Y Z aa ab ad ae D y af ag ak;have hi:=HI.out;subst hi;have y:(k:Int)+1<(n:Int):=by omega
  have L:=j.out.f2;have ck:=j.out.at (k+1) (by omega);have al:=j.out.frozen<|k+1;rw[lD.out]at ck;cases l:(a==3&&(c==4&&d==3))
  .cases h2:(a==3&&(c==7&&d==3))
   .cases h3:(a==6&&(c==7&&d==6))
    .have i:=G.out (ai<|by simp at l h2 h3;omega);clear G r;go_wp2;go_roundg (n - (k+1+1));exact⟨k+1,c,g,by omega,rfl,by go_num,j.out,H.out,i.out,lD.out.symm⟩;omega
    .have i:=r.out 6 (by simp at h3;rw[aj<|by omega];omega);clear G r;go_wp2;go_roundg (n - (k+1+1));exact⟨k+1,6,g.set (k+1) 6,by omega,rfl,by go_num,j.out.set (k+1) 6,H.out.trans<|j.out.grown (k+1) 6,i.out.1,i.out.2⟩;omega
   .have i:=r.out 3 (by simp at h2;rw[aj<|by omega];omega);clear G r;go_wp2;go_roundg (n - (k+1+1));exact⟨k+1,3,g.set (k+1) 3,by omega,rfl,by go_num,j.out.set (k+1) 3,H.out.trans<|j.out.grown (k+1) 3,i.out.1,i.out.2⟩;omega
  .have i:=r.out 3 (by simp at l;rw[aj<|by omega];omega);clear G r;go_wp2;go_roundg (n - (k+1+1));exact⟨k+1,3,g.set (k+1) 3,by omega,rfl,by go_num,j.out.set (k+1) 3,H.out.trans<|j.out.grown (k+1) 3,i.out.1,i.out.2⟩;omega
 .have E:g=pass f4 g4 none t:=Ul o (by rw[x.out];omega);have Q:Hid (bf wr B u f n A N O bv J I K<|pass f4 g4 none t):=by rw[<-E];exact m
  have P:=ah M;have D:¬(k:Int)+1+1<(n:Int):=by omega
  have L:=m.f2;clear m M o E W;go_wp2;go_end0;exact⟨rfl,Q.out,P.out⟩
structure zw(W:World)(B:Nat)(L:LP)(ax aq ay:Int)(k0:List Int)(q:iR)(t:List Int):Prop where
 sq:bf W B q.sb q.gc q.m q.cc (.slice (some ⟨q.gp,q.op,none⟩) q.m q.cp) (.slice (some ⟨q.gr,0,none⟩) q.m q.cr) (.slice (some ⟨q.gb,0,none⟩) q.m q.m) ax aq ay t
 ru:Du W q.gr q.m<|bB L.rs q.at'
 be:bI W q.gb 0 k0
 pl:bI W q.gp q.op<|nl q.at'
 nr:q.gr≠q.gc
 nb:q.gb≠q.gc
 np:q.gp≠q.gc
section
variable{W W':World}{B:Nat}{L:LP}{ax aq ay:Int}{k0 t t':List Int}{q:iR}
def zw.rule(h:zw W B L ax aq ay k0 q t)(b:bf W' B q.sb q.gc q.m q.cc (.slice (some ⟨q.gp,q.op,none⟩) q.m q.cp) (.slice (some ⟨q.gr,0,none⟩) q.m q.cr) (.slice (some ⟨q.gb,0,none⟩) q.m q.m) ax aq ay t')(a:W.grownBy W'<|some q.gc):zw W' B L ax aq ay k0 q t':=
 ⟨b,λk c=>cell_grown a (h.ru k c) λe=>h.nr<|aJ e,h.be.grown a h.nb,h.pl.grown a h.np,h.nr,h.nb,h.np⟩
def zw.below(h:zw W B L ax aq ay k0 q t)(a:Below W.heap.size W W'):zw W' B L ax aq ay k0 q t:=
 ⟨h.sq.below a,h.ru.below a,h.be.below a,h.pl.below a,h.nr,h.nb,h.np⟩
end
def aqk(l:List Int)(k:Nat)(a:k<l.length):(pT l)[k]? =some (.int .i32<|l.getD k 0):=by
 simp[pT,aO,aM a]
def qb.sqs {W:World}{B:Nat}{L:LP}{c a:List Int}{q:iR}(h:qb W B L c a q):zw W B L (a.getD (q.at'.headD 0) 0) (i6 (a.getD (q.at'.headD 0) 0)<|kz a (aQ L.cs) L.p<|q.at'.headD 0) (i6 (a.getD (q.at'.headD 0) 0)<|qh L.cs a (aQ L.cs) L.p<|q.at'.getLastD 0) (bB c q.at') q (bB c q.at'):=by
 obtain⟨l,m,g⟩:=h.ty;obtain⟨i,d⟩:=Ba h.sq.row;obtain⟨j,f⟩:=Ba h.ru;refine⟨h.sq,λk b=> ?_,λk b=>by rw[fZ];exact jk h.be k b,h.pl,?_,h.ne,?_⟩
 .rw[di h.ru k<|by omega,aqk _ _ (by rw[Cv,h.len];exact b)]
 .intro e;rw[e]at f;exact absurd (xS d f)<|by decide
 .intro e;rw[e]at g;exact absurd (xS d g)<|by decide
def qG:Nat->Nat
 |0=>144
 |1=>145
 |2=>146
 |3=>147
 |4=>148
 |5=>149
 |6=>150
 |7=>151
 |8=>152
 |_=>153
def afA(b a c:Int)(d e t:List Int):Nat->List Int
 |0=>pass (f1 a) (g1 a) none t
 |1=>pass f2 g2 a t
 |2=>pass f3 g3 () t
 |3=>pass f4 g4 none t
 |4=>pass f5 g5 none t
 |5=>pass f6 g3 () t
 |6=>pass f7 g7 a t
 |7=>Bl t d (Bq t e) (b%2) a
 |8=>pass (fM c) gM a t
 |_=>pass (uS<|b%2) g3 () t
def Qh(c b d:Int)(a e:List Int):Nat->List Int
 |0=>a
 |k+1=>afA c b d a e (Qh c b d a e k) k
def apV(b a:List Int)(s:Sq):Qh s.level s.aq s.ay (bB a s.at') (bB b s.at') 10=MR b a s:=rfl
def apU(k:Nat):∀args w,(callFunc (qG k) args).run prog w= .ok (.enter (qG k) args) w:=by
 match k with
 |0=>exact jE func144 (by kernel_rfl)<|by kernel_rfl
 |1=>exact jE func145 (by kernel_rfl)<|by kernel_rfl
 |2=>exact jE func146 (by kernel_rfl)<|by kernel_rfl
 |3=>exact jE func147 (by kernel_rfl)<|by kernel_rfl
 |4=>exact jE func148 (by kernel_rfl)<|by kernel_rfl
 |5=>exact jE func149 (by kernel_rfl)<|by kernel_rfl
 |6=>exact jE func150 (by kernel_rfl)<|by kernel_rfl
 |7=>exact jE func151 (by kernel_rfl)<|by kernel_rfl
 |8=>exact jE func152 (by kernel_rfl)<|by kernel_rfl
 |_+9=>exact jE func153 (by kernel_rfl)<|by kernel_rfl
def arh {c:Int}(h:c=0∨c=1):bD c=c:=by rcases h with rfl|rfl<;>rfl
def apT {W:World}{B:Nat}{L:LP}{j g i:Int}{l t:List Int}{q:iR}(h:zw W B L j g i l q t)(m:Br W)(d:q.m<=1000)(u:0<q.m)(r:0<=j)(o:g=0∨g=1)(s:i=0∨i=1)(n:l.length=q.m)(k:Nat):
  Calls prog (qG k) #[.pointer<|some ⟨q.sb,0,none⟩] W λe p=>e= .returned (.tuple #[])/\zw p B L j g i l q (afA j g i l (bB L.rs q.at') t k)/\W.grownBy p (some q.gc):=by
 match k with
 |0=>exact(ar9 W B _ _ _ _ _ _ _ _ _ _ _ h.sq d o).mono λe f ⟨c,b,a⟩=>⟨c,h.rule b a,a⟩
 |1=>exact(asa W B _ _ _ _ _ _ _ _ _ _ _ h.sq d).mono λe f ⟨c,b,a⟩=>⟨c,h.rule b a,a⟩
 |2=>exact(asb W B _ _ _ _ _ _ _ _ _ _ _ h.sq d).mono λe f ⟨c,b,a⟩=>⟨c,h.rule b a,a⟩
 |3=>exact(asc W B _ _ _ _ _ _ _ _ _ _ _ h.sq d u).mono λe f ⟨c,b,a⟩=>⟨c,h.rule b a,a⟩
 |4=>exact(asf W B _ _ _ _ _ _ _ _ _ _ _ h.sq d o s).mono λe f ⟨c,b,a⟩=>⟨c,h.rule b a,a⟩
 |5=>exact(asg W B _ _ _ _ _ _ _ _ _ _ _ h.sq d).mono λe f ⟨c,b,a⟩=>⟨c,h.rule b a,a⟩
 |6=>exact(ash W B _ _ _ _ _ _ _ _ _ _ _ h.sq d).mono λe f ⟨c,b,a⟩=>⟨c,h.rule b a,a⟩
 |7=>exact(apI W B _ _ _ _ _ _ _ _ _ _ _ _ _ _ _ h.sq h.ru h.be n h.nb m d r).mono λe f ⟨c,b,a⟩=>⟨c,h.rule b a,a⟩
 |8=>exact(anO W B _ _ _ _ _ _ _ _ _ _ _ h.sq d (arh o)).mono λe f ⟨c,b,a⟩=>⟨c,h.rule b a,a⟩
 |_+9=>exact(anP W B _ _ _ _ _ _ _ _ _ _ _ h.sq d r).mono λe f ⟨c,b,a⟩=>⟨c,h.rule b a,a⟩
structure LV(W w0:World)(B:Nat)(L:LP)(ks ls:List Int)(go g:Nat)(av:Value)(qs:List iR)(j:Nat)(o:List Int):Prop where
 fs:FS W L ks ls go o
 rl:∀k,k<10->W.cell? ⟨g,k,none⟩=some (.func (.func<|qG k) #[] #[])
 row:W.ownsRow B 146 1 av qs.length<|qs.map iR.ptr
 sq:∀q∈qs.drop j,qb W B L ks ls q
 br:Br W
 hb:Below L.B w0 W
structure R9(B:Nat)(L:LP)(go g:Nat):Prop where
 lo:L.B<=B
 TT:go<B
 TS:L.B<=go
 gL:g<B
 gg:g≠go
 has:∀x,L.has x->x<B
 bp:11<L.B
section
variable{W W' w0:World}{B:Nat}{L:LP}{ks ls o o':List Int}{go g j:Nat}{av:Value}{qs:List iR}{q:iR}
def Br.grown {r:Nat}(h:Br W)(c:W.grownBy W'<|some r)(a:11≠r):Br W':=by
 obtain⟨d,b,e⟩:=h;exact⟨d,b,(c.block _ (cJ e) (λe=>a<|aJ e)).trans e⟩
def LV.below(h:LV W w0 B L ks ls go g av qs j o)(a:Below W.heap.size W W')(b:L.B<=W.heap.size):LV W' w0 B L ks ls go g av qs j o:=
 ⟨h.fs.below a,λk c=>cell_grown (r:=none) (G7 a) (h.rl k c)<|by simp,fu h.row a,λq d=>(h.sq q d).below a,h.br.below a,h.hb.trans<|a.mono b⟩
def LV.rule(h:LV W w0 B L ks ls go g av qs j o)(c:R9 B L go g)(t:∃b,W.heap[q.gc]? =some (.cells b 108 (0,0)))(A:B<=q.gc)(l:∀i∈qs.drop j,Ez q i)(a:W.grownBy W'<|some q.gc)(m:L.B<=W.heap.size):LV W' w0 B L ks ls go g av qs j o:=by
 obtain⟨b,f⟩:=t;have C:=c.TT;have D:=c.gL;have E:=c.lo;have F:=c.bp;refine⟨⟨h.fs.ln.same a.size λx hx=>a.block x (h.fs.ln.lt x hx) λe=>by have:=c.has x hx;have:=aJ e;omega,iY h.fs.row a<|by omega,h.fs.ap⟩,λk s=>cell_grown a (h.rl k s) (λe=>by have:=aJ e;simp only at this;omega),eI h.row a (.inr<|jG h.row f<|by decide),λi d=> ?_,h.br.grown a<|by omega,h.hb.grown a m λy u=>by cases u;omega⟩;have hx:=h.sq i d;have n:=l i d;obtain⟨v,p⟩:=Ba hx.ru;obtain⟨w,z,r⟩:=hx.ty;refine hx.grown a ?_ (λe=>n.1 e.symm) ?_ (λe=>n.2.2 e.symm) ?_
 .intro e;exact absurd (xS (e▸hx.sq.cell) f)<|by decide
 .intro e;exact absurd (xS (e▸p) f)<|by decide
 .intro e;exact absurd (xS (e▸r) f)<|by decide
def LV.impl(h:LV W w0 B L ks ls go g av qs j o)(b:R9 B L go g)(l:bu W' L.B go L.n L.n o')(a:W.grownBy W'<|some go)(f:L.B<=W.heap.size):LV W' w0 B L ks ls go g av qs j o':=by
 have t:=b.TT;have u:=b.bp;have v:=b.TS;obtain⟨i,m⟩:=Ba h.fs.row;refine⟨⟨h.fs.ln.same a.size λx hx=>a.block x (h.fs.ln.lt x hx) λe=>h.fs.ap x hx<|aJ e,l,h.fs.ap⟩,λk n=>cell_grown a (h.rl k n) λe=>b.gg<|aJ e,eI h.row a (.inr<|jG h.row m<|by decide),λc d=> ?_,h.br.grown a<|by omega,h.hb.grown a f λy p=>by cases p;exact b.TS⟩;have hx:=h.sq c d;have l1:=(hx.sq.row.lt c.gc rfl).1;have q:=(AJ hx.ru c.gr rfl).1;have r:=(AJ hx.be c.gb rfl).1;have s:=hx.lo;exact hx.grown a (by omega) (by omega) (by omega) (by omega)<|by omega
end
def tu(L:LP)(a:List Int)(q:iR):Sq:=sK L.cs a (aQ L.cs) L.p q.at'
def arb {L:LP}{a:List Int}{b:List iR}(c:L.cs.length=L.n)(h:b.map iR.at'=((cZ a<|aQ L.cs).filter (ia L.cs)).map (cE L.cs (cZ a<|aQ L.cs) L.n)):b.map (tu L a)=ij L.cs a (aQ L.cs) L.p:=by
 unfold ij;have:b.map (tu L a)=(b.map iR.at').map (sK L.cs a (aQ L.cs) L.p):=by rw[NI];rfl
 rw[this,h,NI,c];rfl
def drop_cons {a:Type}{l:List a}{j:Nat}{q:a}(h:l[j]? =some q):l.drop j=q::l.drop (j+1):=by
 obtain⟨b,e⟩:=r7.1 h;rw[kO b,e]
def aj9 {a:List iR}(h:a.Pairwise Ez){j:Nat}{q:iR}(b:a[j]? =some q):∀c∈a.drop (j+1),Ez q c:=by
 have:=h.sublist<|List.drop_sublist j a;rw[drop_cons b]at this;exact(Ds.1 this).1
def nK(n a b c d:Nat):Nat:=if(Lib.decodeN n a b c d).1=65533/\(Lib.decodeN n a b c d).2=1 then 0 else(Lib.decodeN n a b c d).2
def sz(s:ByteArray):Nat:=nK s.size (s.get! 0).toNat (s.get! 1).toNat (s.get! 2).toNat (s.get! 3).toNat
def uT:∀X:Fin 256,bits .and .i64 ((X.val:Nat):Int) 31=((X.val%32:Nat):Int):=by decide
def uF:∀X:Fin 256,bits .and .i64 ((X.val:Nat):Int) 15=((X.val%16:Nat):Int):=by decide
def uV:∀X:Fin 256,bits .and .i64 ((X.val:Nat):Int) 7=((X.val%8:Nat):Int):=by decide
def get_eq(s:ByteArray)(k:Nat)(h:k<s.size):s.get! k=s[k]'h:=by
 simp[ByteArray.get!,TR,h];rfl
def tA {n d e f g a b:Nat}(h:Lib.decodeN n d e f g=(a,b))(c:¬(a=65533/\b=1)):nK n d e f g=b:=by
 unfold nK;rw[h];exact ai c
def jI {n a b c d:Nat}(h:Lib.decodeN n a b c d=(65533,1)):nK n a b c d=0:=by
 unfold nK;rw[h];exact aj ⟨rfl,rfl⟩
def Fe {n a b c d:Nat}(h:a<128):Lib.decodeN n a b c d=(a,1):=by unfold Lib.decodeN;rw[aj h]
def Oj {n a b c d:Nat}(e:128<=a)(f:a<194):Lib.decodeN n a b c d=(65533,1):=by
 unfold Lib.decodeN;repeat' split
 all_goals first|(exfalso;omega)|rfl
def Ol {n a b c d:Nat}(e:245<=a)(f:a<256):Lib.decodeN n a b c d=(65533,1):=by
 unfold Lib.decodeN;repeat' split
 all_goals first|(exfalso;omega)|rfl
def Od {n b a c d:Nat}(e:194<=b)(f:b<224)(g:a<256)(h:n<2∨a<128∨191<a):Lib.decodeN n b a c d=(65533,1):=by
 unfold Lib.decodeN;repeat' split
 all_goals first|(exfalso;omega)|rfl
def Kw {n b0 b1 b2 b3:Nat}(a:194<=b0)(b:b0<224)(e:2<=n)(c:128<=b1)(d:b1<=191):Lib.decodeN n b0 b1 b2 b3=(b0%32*64+b1%64,2):=by
 unfold Lib.decodeN;repeat' split
 all_goals first|(exfalso;omega)|rfl
def Oe {n c a b d:Nat}(f:224<=c)(g:c<240)(i:a<256)(e:b<256)(h:n<3∨a<128∨191<a∨b<128∨191<b):Lib.decodeN n c a b d=(65533,1):=by
 unfold Lib.decodeN;repeat' split
 all_goals first|(exfalso;omega)|rfl
def Og {n a b c d:Nat}(e:224<=a)(f:a<240)(h:a%16*4096+b%64*64+c%64<2048∨(55296<=a%16*4096+b%64*64+c%64/\a%16*4096+b%64*64+c%64<=57343)):Lib.decodeN n a b c d=(65533,1):=by
 unfold Lib.decodeN;repeat' split
 all_goals first|(exfalso;omega)|rfl
def Ky {n b0 b1 b2 b3:Nat}(a:224<=b0)(b:b0<240)(i:3<=n)(c:128<=b1)(d:b1<=191)(e:128<=b2)(f:b2<=191)(g:2048<=b0%16*4096+b1%64*64+b2%64)
  (h:b0%16*4096+b1%64*64+b2%64<55296∨57343<b0%16*4096+b1%64*64+b2%64):Lib.decodeN n b0 b1 b2 b3=(b0%16*4096+b1%64*64+b2%64,3):=by
 unfold Lib.decodeN;repeat' split
 all_goals first|(exfalso;omega)|rfl
def Oh {n d a b c:Nat}(g:240<=d)(i:d<245)(j:a<256)(e:b<256)(f:c<256)(h:n<4∨a<128∨191<a∨b<128∨191<b∨c<128∨191<c):Lib.decodeN n d a b c=(65533,1):=by
 unfold Lib.decodeN;repeat' split
 all_goals first|(exfalso;omega)|rfl
def Oi {n a b c d:Nat}(e:240<=a)(f:a<245)(h:a%8*262144+b%64*4096+c%64*64+d%64<65536∨1114111<a%8*262144+b%64*4096+c%64*64+d%64):Lib.decodeN n a b c d=(65533,1):=by
 unfold Lib.decodeN;repeat' split
 all_goals first|(exfalso;omega)|rfl
def Kz {n b0 b1 b2 b3:Nat}(a:240<=b0)(b:b0<245)(k:4<=n)(c:128<=b1)(d:b1<=191)(e:128<=b2)(f:b2<=191)(i:128<=b3)(j:b3<=191)(g:65536<=b0%8*262144+b1%64*4096+b2%64*64+b3%64)
  (h:b0%8*262144+b1%64*4096+b2%64*64+b3%64<=1114111):Lib.decodeN n b0 b1 b2 b3=(b0%8*262144+b1%64*4096+b2%64*64+b3%64,4):=by
 unfold Lib.decodeN;repeat' split
 all_goals first|(exfalso;omega)|rfl
def ajA(r:Int)(w:World)(h:¬pW r):
  Calls prog 69 #[.int .i64 r] w λe f=>e= .returned (.int .i64<|cls r)/\Below w.heap.size w f:=by
 have d:(1488<=r/\r<=1514)∨r=8207∨(1575<=r/\r<=1610)∨r=1564∨(48<=r/\r<=57)∨r=43∨r=45∨(1632<=r/\r<=1641)∨(768<=r/\r<=879)∨(1611<=r/\r<=1618)∨r=173∨r=8203∨r=9∨r=32∨r=8195∨(8294<=r/\r<=8297):=by
  unfold pW at h;omega
 clear h;obtain⟨c,a⟩:=ac<|cls r;rw[<-a];have b:=ah a;clear a;rcases d with h|h|h|h|h|h|h|h|h|h|h|h|h|h|h|h
 all_goals
  first
   |subst h
   |(obtain⟨q,s⟩:=h
     have g:(r==8207)=false:=(by simp;omega);have i:(r==1564)=false:=(by simp;omega);have j:(r==43)=false:=(by simp;omega);have k:(r==45)=false:=(by simp;omega);have l:(r==173)=false:=(by simp;omega);have m:(r==8203)=false:=(by simp;omega);have n:(r==9)=false:=(by simp;omega);have o:(r==32)=false:=(by simp;omega);have p:(r==8195)=false:=by simp;omega)
  go_enter func69,ntmps69;go_wp2_with fail;go_ret;refine⟨dM ?_,aA _ _⟩;rw[b.out]
  first
   |exact(sD (by omega)).symm
   |exact(sO (by omega)).symm
   |exact(td (by omega)).symm
   |exact(tB (by omega)).symm
   |exact(tE (by omega)).symm
   |exact(tI (by omega)).symm
   |exact(tO (by omega)).symm
   |exact(tT (by omega)).symm
   |exact(uh (by omega)).symm
   |exact(uk (by omega)).symm
def ajz(r:Int)(w:World)(h:pW r):
  Calls prog 69 #[.int .i64 r] w λe o=>e= .returned (.int .i64<|cls r)/\Below w.heap.size w o:=by
 have n:(r<48/\r≠9/\r≠32/\r≠43/\r≠45)∨(57<r/\r<768/\r≠173)∨(879<r/\r<1488)∨(1514<r/\r<1575/\r≠1564)∨(1618<r/\r<1632)∨(1641<r/\r<8294/\r≠8195/\r≠8203/\r≠8207)∨8297<r:=by
  unfold pW at h;omega
 have u:(r==8207)=false:=by unfold pW at h;simp;omega
 have x:(r==1564)=false:=by unfold pW at h;simp;omega
 have y:(r==43)=false:=by unfold pW at h;simp;omega
 have z:(r==45)=false:=by unfold pW at h;simp;omega
 have A:(r==173)=false:=by unfold pW at h;simp;omega
 have B:(r==8203)=false:=by unfold pW at h;simp;omega
 have C:(r==9)=false:=by unfold pW at h;simp;omega
 have D:(r==32)=false:=by unfold pW at h;simp;omega
 have E:(r==8195)=false:=by unfold pW at h;simp;omega
 have b:=ah<|kV h;clear h;obtain⟨c,m⟩:=ac<|cls r;rw[<-m];rw[<-m]at b;clear m;rcases n with h|h|h|h|h|h|h
 all_goals
  go_enter func69,ntmps69;go_wp2_with fail;refine(NW r [35,36,37,8364] w.heap.size 0 4 4 _ rfl (by omega) (Vr _ _ _ _ _ rfl rfl)).mono ?_;rintro e F ⟨rfl,rfl⟩;generalize i:jP r [35,36,37,8364]=p at b ⊢;go_wp2_with fail;refine(NW r [44,46,47,58] (w.heap.size+1) 0 4 4 _ rfl (by omega) (Vr _ _ _ _ _ (by simp) rfl)).mono ?_;rintro e G ⟨rfl,rfl⟩;generalize j:jP r [44,46,47,58]=q at b ⊢;go_wp2_with fail;refine(aqV _ _ (by decide)).mono ?_;rintro e H ⟨v,rfl,a,g⟩;have f:=jB.Mx a;clear a;go_wp2_with fail;refine(air r _ v _ (by decide) f).mono ?_;rintro e I ⟨rfl,rfl⟩;clear f;generalize k:jP r (zy {data:=#[33,34,38,39,40,41,42,59,60,61,62,63,64,91,92,93,94,95,96,123,124,125,126]})=s at b ⊢;go_wp2_with fail;refine(NW r [9001,9002,12296,12297] _ 0 4 4 _ rfl (by omega) (Vr _ _ _ _ _ rfl rfl)).mono ?_;rintro e J ⟨rfl,rfl⟩;generalize l:jP r [9001,9002,12296,12297]=t at b ⊢;clear i j k l;have d:Below w.heap.size w _:=((((aA _ _).alloc (au _) _).alloc (by simp) _).trans (g.mono<|by simp;omega)).alloc (by have:=g.size;simp at this;omega) (.cells #[.int .i64 9001,.int .i64 9002,.int .i64 12296,.int .i64 12297] 3);go_wp2_with fail;all_goals
   go_ret;refine⟨dM ?_,d⟩;rw[b.out];clear d g b
   simp_all
def Oa(r:Int)(w:World):
  Calls prog 69 #[.int .i64 r] w λe a=>e= .returned (.int .i64<|cls r)/\Below w.heap.size w a:=by
 by_cases h:pW r
 .exact ajz r w h
 .exact ajA r w h
def iD(s:ByteArray)(p:Nat):Int:=((Utf8.decode s p).1:Int)
def aW(s:ByteArray)(p:Nat):Nat:=nK (s.size - p) (s.get! p).toNat (s.get!<|p+1).toNat (s.get!<|p+2).toNat (s.get!<|p+3).toNat
def runesFrom(s:ByteArray):Nat->Nat->Option (List Int)
 |0,_=>some []
 |f+1,p=>if p<s.size then(if aW s p=0 then none else(runesFrom s f<|p+aW s p).map (iD s p::·))else some []
def eZ(s:ByteArray):Option (List Int):=runesFrom s s.size 0
def DI(s:ByteArray)(p k:Nat)(h:p+k<s.size):(s.extract p s.size).get! k=s.get! (p+k):=by
 have a:k<(s.extract p s.size).size:=by simp[Ak];omega
 rw[get_eq _ _ a,get_eq _ _ h];simp[Yi]
def Xo(s:ByteArray)(p:Nat):(s.extract p s.size).size=s.size - p:=by simp[Ak]
def art(n a b c d e f g:Nat)(k:1<n->b=e)(l:2<n->c=f)(m:3<n->d=g):nK n a b c d=nK n a e f g:=by
 have:Lib.decodeN n a b c d=Lib.decodeN n a e f g:=by
  unfold Lib.decodeN;by_cases i:1<n
  .rw[k i];by_cases j:2<n
   .rw[l j];by_cases h:3<n
    .rw[m h]
    .simp[h]
   .have h:¬3<n:=(by omega);simp[j]
  .simp[i]
 unfold nK;rw[this]
def aru(s:ByteArray)(p:Nat)(h:p<s.size):sz (s.extract p s.size)=aW s p:=by
 unfold sz aW;rw[Xo,DI s p 0<|by omega];refine art _ _ _ _ _ _ _ _ (λh=> ?_) (λh=> ?_) (λh=> ?_)
 .rw[DI s p 1<|by omega]
 .rw[DI s p 2<|by omega]
 .rw[DI s p 3<|by omega]
def Ex(s:ByteArray)(p:Nat)(_h:p<s.size)(l:aW s p≠0):
  (aW s p=1/\(s.get! p).toNat<128/\iD s p=((s.get! p).toNat:Int))∨
  (aW s p=2/\p+2<=s.size/\194<=(s.get! p).toNat/\(s.get! p).toNat<224/\128<=(s.get!<|p+1).toNat/\(s.get!<|p+1).toNat<=191/\iD s p=64*(((s.get! p).toNat:Int)%32)+((s.get!<|p+1).toNat:Int) - 128)∨
  (aW s p=3/\p+3<=s.size/\224<=(s.get! p).toNat/\(s.get! p).toNat<240/\128<=(s.get!<|p+1).toNat/\(s.get!<|p+1).toNat<=191/\128<=(s.get!<|p+2).toNat/\(s.get!<|p+2).toNat<=191/\
   iD s p=64*(64*(((s.get! p).toNat:Int)%16)+((s.get!<|p+1).toNat:Int) - 128)+((s.get!<|p+2).toNat:Int) - 128)∨
  (aW s p=4/\p+4<=s.size/\240<=(s.get! p).toNat/\(s.get! p).toNat<245/\128<=(s.get!<|p+1).toNat/\(s.get!<|p+1).toNat<=191/\128<=(s.get!<|p+2).toNat/\(s.get!<|p+2).toNat<=191/\128<=(s.get!<|p+3).toNat/\(s.get!<|p+3).toNat<=191/\
   iD s p=64*(64*(64*(((s.get! p).toNat:Int)%8)+((s.get!<|p+1).toNat:Int) - 128)+((s.get!<|p+2).toNat:Int) - 128)+((s.get!<|p+3).toNat:Int) - 128):=by
 unfold iD;rw[Lib.decode_at];unfold aW at l ⊢;have q:=(s.get! p).toNat_lt;have l1:=(s.get!<|p+1).toNat_lt;have r:=(s.get!<|p+2).toNat_lt;have t:=(s.get!<|p+3).toNat_lt;generalize(s.get! p).toNat=i at*;generalize(s.get!<|p+1).toNat=h at*;generalize(s.get!<|p+2).toNat=j at*;generalize(s.get!<|p+3).toNat=k at*;obtain⟨n,o⟩:=ac<|s.size - p;rw[<-o]at l ⊢;by_cases a:i<128
 .left;rw[tA (Fe a)<|by omega,Fe a];exact⟨rfl,a,rfl⟩
 by_cases b:i<194
 .exact absurd (jI<|Oj (by omega) b) l
 by_cases c:245<=i
 .exact absurd (jI<|Ol c<|by omega) l
 by_cases d:i<224
 .by_cases e:n<2∨h<128∨191<h
  .exact absurd (jI<|Od (by omega) d (by omega) e) l
  .have m:=Kw (n:=n) (b0:=i) (b1:=h) (b2:=j) (b3:=k) (by omega) d (by omega) (by omega) (by omega);right;left;rw[tA m<|by omega,m];exact⟨rfl,by omega,by omega,by omega,by omega,by omega,by omega⟩
 by_cases f:i<240
 .by_cases e:n<3∨h<128∨191<h∨j<128∨191<j
  .exact absurd (jI<|Oe (by omega) f (by omega) (by omega) e) l
  .by_cases g:i%16*4096+h%64*64+j%64<2048∨(55296<=i%16*4096+h%64*64+j%64/\i%16*4096+h%64*64+j%64<=57343)
   .exact absurd (jI<|Og (by omega) f g) l
   .have m:=Ky (n:=n) (b0:=i) (b1:=h) (b2:=j) (b3:=k) (by omega) f (by omega) (by omega) (by omega) (by omega) (by omega) (by omega) (by omega);right;right;left;rw[tA m<|by omega,m];exact⟨rfl,by omega,by omega,by omega,by omega,by omega,by omega,by omega,by omega⟩
 by_cases e:n<4∨h<128∨191<h∨j<128∨191<j∨k<128∨191<k
 .exact absurd (jI<|Oh (by omega) (by omega) (by omega) (by omega) (by omega) e) l
 .by_cases g:i%8*262144+h%64*4096+j%64*64+k%64<65536∨1114111<i%8*262144+h%64*4096+j%64*64+k%64
  .exact absurd (jI<|Oi (by omega) (by omega) g) l
  .have m:=Kz (n:=n) (b0:=i) (b1:=h) (b2:=j) (b3:=k) (by omega) (by omega) (by omega) (by omega) (by omega) (by omega) (by omega) (by omega) (by omega) (by omega) (by omega);right;right;right;rw[tA m<|by omega,m];exact⟨rfl,by omega,by omega,by omega,by omega,by omega,by omega,by omega,by omega,by omega,by omega⟩
def Xw(n b a c d:Nat):Nat:=
 if b<128 then 1 else if b<194 then 0
 else if b<224 then if n<2∨a<128∨191<a then 0 else 2
 else if b<240 then if n<3∨a<128∨191<a∨c<128∨191<c∨b%16*4096+a%64*64+c%64<2048∨(55296<=b%16*4096+a%64*64+c%64/\b%16*4096+a%64*64+c%64<=57343)then 0 else 3
 else if b<245 then if n<4∨a<128∨191<a∨c<128∨191<c∨d<128∨191<d∨b%8*262144+a%64*4096+c%64*64+d%64<65536∨1114111<b%8*262144+a%64*4096+c%64*64+d%64 then 0 else 4
 else 0
def ars {n d a b c:Nat}(h:d<256)(e:a<256)(f:b<256)(g:c<256):nK n d a b c=Xw n d a b c:=by
 unfold Xw;split
 .exact tA (Fe<|by omega) (by omega)
 split
 .exact jI (Oj (by omega)<|by omega)
 split
 .split
  .exact jI (Od (by omega) (by omega) e<|by omega)
  .exact tA (Kw (by omega) (by omega) (by omega) (by omega)<|by omega) (by omega)
 split
 .split
  .by_cases q:n<3∨a<128∨191<a∨b<128∨191<b
   .exact jI (Oe (by omega) (by omega) e f q)
   .exact jI (Og (by omega) (by omega)<|by omega)
  .exact tA (Ky (by omega) (by omega) (by omega) (by omega) (by omega) (by omega) (by omega) (by omega)<|by omega) (by omega)
 split
 .split
  .by_cases q:n<4∨a<128∨191<a∨b<128∨191<b∨c<128∨191<c
   .exact jI (Oh (by omega) (by omega) e f g q)
   .exact jI (Oi (by omega) (by omega)<|by omega)
  .exact tA (Kz (by omega) (by omega) (by omega) (by omega) (by omega) (by omega) (by omega) (by omega) (by omega) (by omega)<|by omega) (by omega)
 .exact jI (Ol (by omega)<|by omega)
def MQ(s:ByteArray)(w:World)(o:0<s.size)(O:s.size<=10000):
  Calls prog 112 #[.string s] w λe G=>e= .returned (.int .i64<|sz s)/\G=w:=by
 have K:s[0]'o=s.get! 0:=(get_eq s 0 o).symm;have y:Hid (∀h:1<s.size,s[1]'h=s.get! 1):=λh=>(get_eq s 1 h).symm
 have z:Hid (∀h:2<s.size,s[2]'h=s.get! 2):=λh=>(get_eq s 2 h).symm
 have A:Hid (∀h:3<s.size,s[3]'h=s.get! 3):=λh=>(get_eq s 3 h).symm
 obtain⟨v,j⟩:=ac<|sz s;rw[<-j];unfold sz at j;rw[ars (SG _) (SG _) (SG _)<|SG _]at j;generalize s.get! 0=a at*;generalize s.get! 1=b at*;generalize s.get! 2=d at*;generalize s.get! 3=i at*;have m:=a.toNat_lt;have J:bits .and .i64 (a.toNat:Int) 31=((a.toNat%32:Nat):Int):=uT ⟨a.toNat,m⟩;have I:bits .and .i64 (a.toNat:Int) 15=((a.toNat%16:Nat):Int):=uF ⟨a.toNat,m⟩;have H:bits .and .i64 (a.toNat:Int) 7=((a.toNat%8:Nat):Int):=uV ⟨a.toNat,m⟩;have B:=ah j;clear j;have g:∀c:UInt8,(c.toNat:Int)<128∨(191:Int)<c.toNat∨((128:Int)<=c.toNat/\(c.toNat:Int)<=191):=λc=>by omega
 have k:(a.toNat:Int)<128∨((128:Int)<=a.toNat/\(a.toNat:Int)<194)∨(245:Int)<=a.toNat∨((194:Int)<=a.toNat/\(a.toNat:Int)<224)∨((224:Int)<=a.toNat/\(a.toNat:Int)<240)∨((240:Int)<=a.toNat/\(a.toNat:Int)<245):=by omega
 rcases k with p|⟨p,q⟩|p|⟨p,q⟩|⟨p,q⟩|⟨p,q⟩
 rotate_left 3
 focus (rcases(by omega:(s.size:Int)<2∨(2:Int)<=s.size)with n|n;rotate_left;rcases g b with f|f|⟨f,x⟩)
 rotate_left 4
 focus (rcases(by omega:(s.size:Int)<3∨(3:Int)<=s.size)with n|n;rotate_left;rcases g b with f|f|⟨f,x⟩;rotate_left 2;rcases g d with l|l|⟨l,F⟩;rotate_left 2;rcases(by omega:64*(64*((a.toNat:Int)%16)+(b.toNat:Int) - 128)+(d.toNat:Int) - 128<2048∨((2048:Int)<=64*(64*((a.toNat:Int)%16)+(b.toNat:Int) - 128)+(d.toNat:Int) - 128/\64*(64*((a.toNat:Int)%16)+(b.toNat:Int) - 128)+(d.toNat:Int) - 128<55296)∨((55296:Int)<=64*(64*((a.toNat:Int)%16)+(b.toNat:Int) - 128)+(d.toNat:Int) - 128/\64*(64*((a.toNat:Int)%16)+(b.toNat:Int) - 128)+(d.toNat:Int) - 128<=57343)∨(57343:Int)<64*(64*((a.toNat:Int)%16)+(b.toNat:Int) - 128)+(d.toNat:Int) - 128)with r|⟨r,t⟩|⟨r,t⟩|r)
 rotate_left 9
 focus (rcases(by omega:(s.size:Int)<4∨(4:Int)<=s.size)with n|n;rotate_left;rcases g b with f|f|⟨f,x⟩;rotate_left 2;rcases g d with l|l|⟨l,F⟩;rotate_left 2;rcases g i with u|u|⟨u,P⟩;rotate_left 2;rcases(by omega:64*(64*(64*((a.toNat:Int)%8)+(b.toNat:Int) - 128)+(d.toNat:Int) - 128)+(i.toNat:Int) - 128<65536∨((65536:Int)<=64*(64*(64*((a.toNat:Int)%8)+(b.toNat:Int) - 128)+(d.toNat:Int) - 128)+(i.toNat:Int) - 128/\64*(64*(64*((a.toNat:Int)%8)+(b.toNat:Int) - 128)+(d.toNat:Int) - 128)+(i.toNat:Int) - 128<=1114111)∨(1114111:Int)<64*(64*(64*((a.toNat:Int)%8)+(b.toNat:Int) - 128)+(d.toNat:Int) - 128)+(i.toNat:Int) - 128)with r|⟨r,t⟩|r)
 all_goals
  try have C:1<s.size:=by omega
  try have L:=y.out C
  try have D:2<s.size:=by omega
  try have M:=z.out D
  try have E:3<s.size:=by omega
  try have N:=A.out E
  clear g;go_enter func112,ntmps112;go_wp2;try(refine fV 4 ?_;(repeat (rw[bN];go_wp2)))
  go_ret;exact⟨dM<|by rw[B.out];unfold Xw;(repeat' split)<;>omega,rfl⟩
def Gd(s:ByteArray)(f p:Nat)(h:¬p<s.size):runesFrom s f p=some []:=by
 cases f with
 |zero=>rfl
 |succ f=>simp[runesFrom,h]
def WX(s:ByteArray)(f p:Nat)(b:s.size<=p+f)(h:p<s.size)(a:aW s p=0):runesFrom s f p=none:=by
 cases f with
 |zero=>omega
 |succ f=>simp[runesFrom,h,a]
def aqc(s:ByteArray)(f p:Nat)(c:s.size<=p+f)(h:p<s.size)(b:aW s p≠0):
  ∃a,s.size<=p+aW s p+a/\runesFrom s f p=(runesFrom s a<|p+aW s p).map (iD s p::·):=by
 cases f with
 |zero=>omega
 |succ f=>exact⟨f,by omega,by simp[runesFrom,h,b]⟩
def uQ(s:ByteArray)(p:Nat)(l:List Int):Prop:=∃f,s.size<=p+f/\l.length<=p/\eZ s=(runesFrom s f p).map (l++·)
def uQ.start(s:ByteArray):uQ s 0 []:=⟨s.size,by omega,by simp,by simp[eZ]⟩
def uQ.stop {s:ByteArray}{p:Nat}{l:List Int}(h:uQ s p l)(a:¬p<s.size):eZ s=some l:=by
 obtain⟨f,_,_,e⟩:=h;rw[e,Gd s f p a];simp
def uQ.bad {s:ByteArray}{p:Nat}{l:List Int}(h:uQ s p l)(b:p<s.size)(c:aW s p=0):eZ s=none:=by
 obtain⟨f,a,_,e⟩:=h;rw[e,WX s f p a b c];rfl
def uQ.step {s:ByteArray}{p:Nat}{l:List Int}(h:uQ s p l)(g:p<s.size)(i:aW s p≠0):uQ s (p+aW s p) (l++[iD s p]):=by
 obtain⟨f,d,j,e⟩:=h;obtain⟨b,a,c⟩:=aqc s f p d g i;refine⟨b,a,by simp;omega,?_⟩;rw[e,c];cases runesFrom s b (p+aW s p)<;>simp
def rU(l:List Int)(b s u n:Nat)(w:World)(E:l.length=n)(Q:n<=1000)(D:bI w b s l):
  Calls prog 46 #[.slice (some ⟨b,s,none⟩) n u] w λe G=>∃v,e= .returned v/\G.ownsRow w.heap.size 3 1 v n ((l.map cls).map (Value.int .i64))/\Below w.heap.size w G:=by
 obtain⟨N,L,A,B,C⟩:=gu Tryz.FR;have I:=ah D;have t:=ah E;clear D E;go_enter func46,ntmps46;go_wp2;go_loopw [3,4] (λv i wr=>∃k:Nat,k<=n/\i= .int .i64 k/\wr.ownsRow w.heap.size 3 1 v k (((l.take k).map cls).map (Value.int .i64))/\Below w.heap.size w wr) (λ_ i _=>n - (intOf i).toNat);case atStart=>exact⟨0,mQ _,rfl,gQ _ _ _ _,aA _ _⟩
 case round=>
  obtain⟨k,P,rfl,d,o⟩:=hrel;have z:=o.size;by_cases r:k<n
  .have f:=(I.out.below o) k (by rw[t.out];exact r);obtain⟨x,hx⟩:=ac<|l.getD k 0;rw[<-hx]at f;have J:Hid ((l.take<|k+1).map cls=(l.take k).map cls++[cls x]):=by
    have q:k<l.length:=(by rw[t.out];exact r);show(l.take<|k+1).map cls=(l.take k).map cls++[cls x]
    rw[hx,pG q,fB];simp[aO,aM q]
   clear hx;have F:(k:Int)<(n:Int):=(by omega);go_wp2_with fail;refine(Oa x _).mono ?_;rintro e H ⟨rfl,a⟩;have h:H.ownsRow w.heap.size 3 1 _ k (((l.take k).map cls).map (Value.int .i64)):=d.kept ⟨a.os,a.tape,a.output,a.size,λj M _=>a.block j M⟩ (row:=none) (by rcases d.2 with⟨rfl,_⟩|⟨g,c,K,rfl,_⟩<;>simp[Value.ownBlock]);have p:Below w.heap.size w H:=o.trans<|a.mono z;have O:=p.size;clear d o a f;go_wp2_with(at_builtin;refine Jd _ rfl _ _ 31 rfl w.heap.size 3 N (.int .i64 0) 8 underlying31 L A B C rfl (by decide) _ _ _ rfl h _ _ rfl rfl (by omega) (by omega) ?_);intro R S m y;clear h;go_wp2;go_roundw;case rel=>exact⟨k+1,by omega,by go_num,by rw[J.out];simpa using m,p.trans y⟩
   case measure=>simp[intOf];omega
  .go_wp2;go_ret;refine⟨_,rfl,?_,o⟩;have e:k=n:=(by omega);subst e;rwa [ku<|by rw[t.out];omega]at d
def ajD(w:World):
  Calls prog 46 #[.slice none 0 0] w λe a=>e= .returned (.slice none 0 0)/\a=w:=by
 go_enter func46,ntmps46;go_wp2;refine fV 1 ?_;rw[bN];go_wp2;go_ret;exact⟨rfl,rfl⟩
def ajB(l:List Int)(v:Value)(w:World)(h:l.length<=1000)(i:jB w v l):
  Calls prog 46 #[v] w λe d=>∃f,e= .returned f/\d.ownsRow w.heap.size 3 1 f l.length ((l.map cls).map (Value.int .i64))/\Below w.heap.size w d:=by
 rcases i with⟨rfl,rfl⟩|⟨b,c,a,rfl,g⟩
 .refine(ajD w).mono ?_;rintro e d ⟨rfl,rfl⟩;exact⟨_,rfl,gQ _ _ _ _,aA _ _⟩
 .exact rU l b c a l.length w rfl h g
def TD(e:Int):Value:= .agg #[.int .i64 e,.int .i64 (if e=0 then 0 else -1),.int .i64 (if e=0 then 0 else -1)]
def _root_.Go.World.ownsRow.low {w:World}{b a:Nat}{e:TypeId}{size:Nat}{v:Value}{n:Nat}{f:List Value}(h:w.ownsRow b e size v n f)(l:a<=b):w.ownsRow a e size v n f:=by
 refine⟨h.1,?_⟩;rcases h.2 with h|⟨g,c,d,i,j,k⟩
 .exact .inl h
 .exact .inr ⟨g,c,d,i,bP l j,k⟩
def arq(s:ByteArray)(p:Nat):aW s p=if(Utf8.decode s p).1=65533/\(Utf8.decode s p).2=1 then 0 else(Utf8.decode s p).2:=by
 unfold aW nK;rw[Lib.decode_at]
def I5(s:ByteArray)(p:Nat)(h:aW s p≠0):(Utf8.decode s p).2=aW s p:=by
 rw[arq]at h ⊢;split at h
 .exact absurd rfl h
 .rename_i a;rw[ai a]
def count_eq(s:ByteArray):∀f p l,runesFrom s f p=some l->Lib.runeCountFrom s f p=l.length
 |0,_,l,h=>by simp[runesFrom]at h;subst h;rfl
 |f+1,p,l,h=>by
  unfold runesFrom at h;unfold Lib.runeCountFrom;by_cases b:p<s.size
  .rw[aj b]at h ⊢;by_cases a:aW s p=0
   .rw[aj a]at h;cases h
   .rw[ai a]at h;cases hr:runesFrom s f (p+aW s p)with
    |none=>rw[hr]at h;cases h
    |some c=>
     rw[hr]at h;simp at h;subst h;rw[I5 s p a,count_eq s f _ c hr];simp;omega
  .rw[ai b]at h ⊢;simp at h;subst h;rfl
def runeCount_eq {s:ByteArray}{l:List Int}(h:eZ s=some l):Lib.runeCount s=l.length:=count_eq s s.size 0 l h
