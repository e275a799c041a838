import Derived.Test.YtkbinfhclaafhaaGreatDoorZ11
import Derived.Test.YtkbinfhclaafhaaGreatDoorZ08
import Derived.Test.YtkbinfhclaafhaaGreatDoorZ15
import Derived.Test.YtkbinfhclaafhaaGreatDoorZ07
import Derived.Test.YtkbinfhclaafhaaGreatDoorZ09
import Derived.ChangeKeysEq
import Derived.Deep.RegionHeld3
import Derived.Deep.DrawnRows
import Derived.Test.YtkbinfhclaafhaaGreatDoorZ01
import Derived.Lib.TrimU
import Derived.Laws.BitsAllLaws
import Derived.Lib.Strings
import Derived.Lib.IndexBytes
namespace Go.Proofs.YtkbinfhclaafhaaGreatDoor
open Go.RowKit
open Go.Proofs.Tryz
set_option maxRecDepth 100000
set_option maxHeartbeats 32000000
set_option linter.all false
def Nc(aq:Int)(t:List Int):List Int:=pass f7 g7 aq (pass f6 g3 () (pass f5 g5 none (pass f4 g4 none (pass f3 g3 () (pass f2 g2 aq (pass (f1 aq) (g1 aq) none t))))))
def JW(rs kinds:List Int)(s:Sq):List Int:=
 pass (r9 (s.level%2)) g3 () (pass (fM s.ax) gM s.aq (zg (Nc s.aq (bz kinds s.at')) (bz kinds s.at') (zi (Nc s.aq (bz kinds s.at')) (bz rs s.at')) (s.level%2) s.aq))
theorem anU {aq:Int}(hs:aq=0∨aq=1){t:List Int}(ht:∀c∈t,K0 c):Nc aq t=rO aq t:=by
 unfold Nc rO;rw [abt,abw,Sg];intro c hc;have:=(ac7 hs ht).1 c hc;unfold Cl at this;omega
theorem aaR {e aq:Int}(he:e=0∨e=1)(hs:aq=0∨aq=1)(orig:List Int):∀(ps:List (Nat×Nat))(t:List Int),zg t orig ps e aq=zf t orig ps e aq
 |[],_=>rfl
 |p::ps,t=>by
  have:=aaR he hs orig ps (qG t orig p e aq);unfold zg zf at this ⊢;rw [o6,o6,aj6 he hs,this]
theorem mem_set {l:List Int}{k:Nat}{v c:Int}(h:c∈l.set k v):c∈l∨c=v:=by
 rcases List.mem_or_eq_of_mem_set h with h|h
 .exact .inl h
 .exact .inr h
theorem RV {t:List Int}{k:Nat}{v c:Int}:∀m,c∈bL t k v m->c∈t∨c=v
 |0,h=> .inl h
 |m+1,h=>by
  rcases mem_set h with h|h
  .exact RV m h
  .exact .inr h
theorem ajZ {t:List Int}{p:Nat×Nat}{e aq:Int}(he:e=0∨e=1)(hs:aq=0∨aq=1):xM t p e aq=0∨xM t p e aq=1:=by
 unfold xM;split
 .exact he
 .exact RG hs t p.1
theorem aj4 {P:Int->Prop}(h0:P 0)(h1:P 1){t orig:List Int}{p:Nat×Nat}{e aq:Int}(he:e=0∨e=1)(hs:aq=0∨aq=1)(ht:∀c∈t,P c):∀c∈qG t orig p e aq,P c:=by
 intro c hc;have hd:=ajZ (t:=t) (p:=p) he hs;have hP:∀x,x=xM t p e aq->P x:=fun x hx=>by rcases hd with h|h<;>rw [hx,h]<;>assumption
 unfold qG at hc;split at hc
 .exact ht c hc
 .rcases RV _ hc with hc|hc
  .rcases RV _ hc with hc|hc
   .exact ht c hc
   .exact hP c hc
  .exact hP c hc
theorem aaQ {P:Int->Prop}(h0:P 0)(h1:P 1){orig:List Int}{e aq:Int}(he:e=0∨e=1)(hs:aq=0∨aq=1):∀(ps:List (Nat×Nat))(t:List Int),(∀c∈t,P c)->∀c∈zf t orig ps e aq,P c
 |[],_,ht=>ht
 |p::ps,t,ht=>by
  have:=aaQ h0 h1 (orig:=orig) he hs ps (qG t orig p e aq) (aj4 h0 h1 he hs ht);unfold zf at this ⊢;rw [o6];exact this
theorem amM {rs kinds:List Int}{s:Sq}(hs:s.aq=0∨s.aq=1)(he:s.ax=0∨s.ax=1)(hk:∀c∈bz kinds s.at',K0 c):JW rs kinds s=JX rs kinds s:=by
 have h2:s.level%2=0∨s.level%2=1:=by omega
 unfold JW JX;rw [anU hs hk,aaR h2 hs,abz,R7 he _ _ hs]
 .rfl
 .exact aaQ (by simp [Cl]) (by simp [Cl]) h2 hs _ _ (ac7 hs hk).2
def ry(st:List aU):Prop:=∀e∈st,e.o<=1
theorem ry.app {st:List aU}{e:aU}(h:ry st)(he:e.o<=1):ry (st++[e]):=fun y hy=>by
 rcases kK.1 hy with hy|hy
 .exact h y hy
 .rw [pY.1 hy];exact he
theorem ry.sub {st st':List aU}(h:ry st)(hs:∀e∈st',e∈st):ry st':=fun e he=>h e (hs e he)
theorem ry.pre {x:XS}(h:ry x.st)(c:Int):ry (dL x c).st:=by
 unfold dL;split
 .unfold iD;split
  .exact h
  .split
   .exact h
   .exact h.sub (SP _)
 .exact h
theorem ry.post {x:XS}(h:ry x.st)(cs:List Int)(i:Nat)(c:Int):ry (eN cs i x c).st:=by
 have hb:∀bJ,ry (iO x bJ).st:=fun bJ=>by
  unfold iO;simp only;split
  .exact h.app (by simp)
  .exact h
 unfold eN;split
 .have ho:(if c=15 then(0:Int)else if c=16 then 1 else -1)<=1:=by
   split
   .decide
   .split<;>decide
  unfold iZ;simp only;generalize(if c=15 then(0:Int)else if c=16 then 1 else -1)=o at*;generalize fG (aR x.st).l _=n;split
  .exact h.app ho
  .split<;>exact h
 .split
  .exact hb _
  .split
   .exact hb _
   .split
    .exact hb _
    .split
     .unfold jA;split
      .exact h
      .split
       .exact h
       .split
        .exact h.sub fun e he=>Vz _ he
        .exact h
     .exact h
theorem adh(cs:List Int)(para:Int):∀i,ry (dW cs para i).st
 |0=>by intro e he;rw [dW]at he;rw [pY.1 he];show(-1:Int)<=1;decide
 |i+1=>by rw [dW];exact((adh cs para i).pre _).post cs i _
theorem an8(cs:List Int)(para:Int)(hp:0<=para/\para<=125)(i:Nat):(gG cs para i).o<=1:=
 ((adh cs para i).pre _) _ (M5 ((wm cs para hp i).pre _).ne)
theorem Ng(cs:List Int)(para:Int)(hp:0<=para/\para<=125)(i:Nat):0<=(gG cs para i).l/\(gG cs para i).l<=125:=
 ((wm cs para hp i).pre _).top.2
theorem Nf {cs:List Int}{para:Int}(hp:0<=para/\para<=125)(i:Nat):0<=(aZ cs para).getD i 0/\(aZ cs para).getD i 0<=125:=by
 rcases cK i cs.length with h|h
 .rw [aZ,DK _ _ _ _ h];exact Ng cs para hp i
 .rw [aO,pU (by simp [aZ];exact h)];simp
theorem Ud(cs:List Int)(para:Int):(aZ cs para).length=cs.length:=by simp [aZ]
theorem aax {cs:List Int}{p:Nat}(h:jW (aN cs) p=true):p<cs.length/\bN (cs.getD p 0)=true:=by
 unfold jW aN at h;rw [aO,jO]at h;rcases cK p cs.length with hp|hp
 .rw [aQ hp]at h;refine⟨hp,?_⟩;rw [aO,aQ hp];exact h
 .rw [pU hp]at h;cases h
theorem aiD {cs:List Int}(hcs:∀c∈cs,0<=c/\c<=21){para:Int}(hp:0<=para/\para<=125){p:Nat}(h:jW (aN cs) p=true):K0 ((gZ cs para).getD p 0):=by
 obtain⟨hlt,hl⟩:=aax h;have hc:=hcs _ (dm (d:=0) hlt);rw [gZ,DK _ _ _ _ hlt,kindOf];have hu:=an8 cs para hp p;generalize cs.getD p 0=c at*;unfold K0;split
 .omega
 .unfold bN at hl;simp at hl;omega
theorem Ub(cs:List Int)(para:Int):kN cs.length (cQ (aZ cs para) (aN cs)):=by
 have h:=xN (aZ cs para) (aN cs);refine⟨h.2.1,fun r hr p hp=> ?_,ack _ _⟩;have:=(MT hr hp).1
 rwa [Ud]at this
theorem Wy {cs:List Int}{para:Int}:∀(f:Nat)(r:List Nat),(∀p∈r,jW (aN cs) p=true)->∀p∈bV cs (cQ (aZ cs para) (aN cs)) f r,jW (aN cs) p=true
 |0,r,h=>h
 |f+1,r,h=>by
  rw [bV];cases hk:gD cs (cQ (aZ cs para) (aN cs)) (r.getLastD 0)with
  |none=>exact h
  |some k=>
   refine Wy f _ fun p hp=> ?_
   rcases kK.1 hp with hp|hp
   .exact h p hp
   .exact(MT (dm (R9 hk).1) hp).2
theorem ajf {cs:List Int}{para:Int}(hp:0<=para/\para<=125):∀i,i<cs.length->aS (cs.getD i 0)=true->mt cs i<cs.length->(aZ cs para).getD (mt cs i) 0=(aZ cs para).getD i 0:=by
 intro i hi bH hm;rw [aZ,DK _ _ _ _ hi,DK _ _ _ _ hm,(ajg hp hi bH hm).1]
theorem acz(a b:Int):iy a b=0∨iy a b=1:=by
 unfold iy;generalize(if a<b then b else a)=m;split
 .exact .inr rfl
 .exact .inl rfl
section
variable{cs:List Int}{para:Int}
theorem MV(hcs:∀c∈cs,0<=c/\c<=21)(hp:0<=para/\para<=125){s:Sq}(hs:s∈gF cs (aZ cs para) (aN cs) para):
  (s.aq=0∨s.aq=1)/\(s.ax=0∨s.ax=1)/\bz (kP cs para) s.at'=bz (gZ cs para) s.at'/\(∀c∈bz (gZ cs para) s.at',K0 c)/\∀p∈s.at',p<cs.length/\(aZ cs para).getD p 0=s.level:=by
 unfold gF at hs;obtain⟨r,hr,rfl⟩:=jr.1 hs;have hr':=(uW.1 hr).1;have hl:∀p∈bV cs (cQ (aZ cs para) (aN cs)) cs.length r,jW (aN cs) p=true:=Wy _ _ fun p hp=>(MT hr' hp).2
 refine⟨acz _ _,acz _ _,?_,?_,?_⟩
 .refine GD fun p hp'=> ?_
  obtain⟨h1,h2⟩:=aax (hl p hp');exact aiC hp h1 h2
 .intro c hc;obtain⟨p,hp',rfl⟩:=jr.1 hc;exact aiD hcs hp (hl p hp')
 .exact afA (Ub cs para) (xN _ _).2.2 (ajf hp) hr'
def mN(rs kinds:List Int)(s:Sq):List (Nat×Int×Int):=iM s.at' s.level (JW rs kinds s)
theorem Fv {σ:Type}{f:σ->Int->List Int->Int}{g:σ->Int->List Int->σ}(s:σ)(t:List Int):(pass f g s t).length=t.length:=aby t s
theorem acB(rs kinds:List Int)(s:Sq):(JX rs kinds s).length=s.at'.length:=by
 unfold JX Cb;rw [Fv,R5];unfold rO;have hn:∀(a b:Int)(t:List Int)(l:Int),(kC a b l t).length=t.length:=fun a b t=>by
  induction t with
  |nil=>intro l;rfl
  |cons c r ih=>intro l;rw [kC,eW,ih,eW]
 rw [hn,Fv,Fv,Fv,Fv,hn,Fv];simp [bz]
theorem acU {at':List Nat}{au:Int}{t:List Int}{x:Nat×Int×Int}(h:x∈iM at' au t):x.1∈at'/\x.2.1=au/\x.2.2∈t:=by
 unfold iM at h;obtain⟨y,hy,rfl⟩:=jr.1 h;obtain⟨a,b⟩:=y;exact⟨(List.of_mem_zip hy).1,rfl,(List.of_mem_zip hy).2⟩
theorem acW(rs kinds:List Int):∀ss:List Sq,(ss.flatMap (oP rs kinds)).map Prod.fst=ss.flatMap Sq.at'
 |[]=>rfl
 |s::ss=>by
  rw [uV,uV,fO,acW rs kinds ss,oP,acT _ _ _ (by rw [acB];exact ay _)]
theorem Tm {P:Int->Prop}:∀(xs:List (Nat×Int×Int))(l:List Int),(∀x∈xs,P (mF x.2.2 x.2.1))->(∀o∈l,P o)->∀o∈xs.foldl jZ l,P o
 |[],_,_,h=>h
 |x::xs,l,hx,h=>by
  rw [o6];refine Tm xs _ (fun y hy=>hx y (by simp [hy])) fun o ho=> ?_
  rcases mem_set ho with ho|ho
  .exact h o ho
  .rw [ho];exact hx x (by simp)
theorem ah3 {c l:Int}:l<=mF c l/\mF c l<=l+2:=by
 unfold mF;split
 .split
  .omega
  .split<;>omega
 .split<;>omega
theorem acS(hcs:∀c∈cs,0<=c/\c<=21)(rs:List Int)(hp:0<=para/\para<=125):∀s∈gF cs (aZ cs para) (aN cs) para,mN rs (kP cs para) s=oP rs (gZ cs para) s:=fun s hs=>by
 obtain⟨a1,a2,a3,a4,_⟩:=MV hcs hp hs;unfold mN oP;rw [<-amM a1 a2 a4];unfold JW;rw [a3]
theorem Th(cs:List Int)(para:Int):((gF cs (aZ cs para) (aN cs) para).flatMap Sq.at').Nodup:=by
 have:=acq (Ub cs para) cs.length;unfold gF;rw [GA,KM]at*;exact this
theorem VT:∀(xs:List (Nat×Int×Int))(l:List Int)(p:Nat),p ∉ xs.map Prod.fst->(xs.foldl ig l).getD p 0=l.getD p 0
 |[],_,_,_=>rfl
 |x::xs,l,p,h=>by
  rw [pX,jF,not_or]at h;rw [o6,VT xs _ p h.2];exact getD_set_ne (fun e=>h.1 e.symm) _
theorem ak9(l c:Int):0<=iK l c/\iK l c<=2:=by
 unfold iK;split
 .omega
 .split<;>omega
theorem VS:∀(xs:List (Nat×Int×Int))(l:List Int),(xs.map Prod.fst).Nodup->∀p,l.getD p 0<=(xs.foldl ig l).getD p 0/\(xs.foldl ig l).getD p 0<=l.getD p 0+2
 |[],l,_,p=>by simp only [OG];omega
 |x::xs,l,hn,p=>by
  rw [pX,Bn]at hn;rw [o6];by_cases hx:x.1=p
  .rw [VT xs _ p (by rw [<-hx];exact hn.1)];have hr:=ak9 x.2.1 x.2.2;rcases cK p l.length with h|h
   .unfold ig;rw [hx,xd h];omega
   .have:(ig l x).getD p 0=l.getD p 0:=by
     have e1:∀k:List Int,k.length<=p->k.getD p 0=0:=fun k hk=>by rw [aO,pU hk];rfl
     rw [e1 _ (by simpa [ig]using h),e1 _ h]
    omega
  .have:=VS xs (ig l x) hn.2 p;have e:(ig l x).getD p 0=l.getD p 0:=getD_set_ne hx _;omega
theorem acV(hcs:∀c∈cs,0<=c/\c<=21)(rs:List Int)(hp:0<=para/\para<=125):∀ss:List Sq,(∀s∈ss,s∈gF cs (aZ cs para) (aN cs) para)->(ss.flatMap (mN rs (kP cs para))).map Prod.fst=ss.flatMap Sq.at'
 |[],_=>rfl
 |s::ss,h=>by
  rw [uV,uV,fO,acV hcs rs hp ss (fun x hx=>h x (by simp [hx])),acS hcs rs hp s (h s (by simp)),oP,acT _ _ _ (by rw [acB];exact ay _)]
theorem amZ {α:Type}:∀{a b:List (List α)},a.Sublist b->a.flatten.Sublist b.flatten:=by
 intro a b h
 induction h with
 |slnil=>exact ad1 _
 |cons x _ ih=>rw [yq];exact ih.trans (List.sublist_append_right _ _)
 |cons_cons x _ ih=>rw [yq,yq];exact(List.append_sublist_append_left x).2 ih
theorem akk(hcs:∀c∈cs,0<=c/\c<=21)(rs:List Int)(hp:0<=para/\para<=125)(ss:List Sq)(hss:ss.Sublist (gF cs (aZ cs para) (aN cs) para))(p:Nat):
  0<=((ss.flatMap (mN rs (kP cs para))).foldl ig (aZ cs para)).getD p 0/\((ss.flatMap (mN rs (kP cs para))).foldl ig (aZ cs para)).getD p 0<=127:=by
 have h1:((ss.flatMap (mN rs (kP cs para))).map Prod.fst).Nodup:=by
  rw [acV hcs rs hp ss (fun s hs=>hss.subset hs)];exact(Th cs para).sublist (by rw [GA,GA];exact amZ (hss.map Sq.at'))
 have h2:=VS _ (aZ cs para) h1 p;have h3:=Nf (cs:=cs) hp p;omega
theorem aiX(hcs:∀c∈cs,0<=c/\c<=21)(rs:List Int)(d:Int)(hpd:para=gz cs d)(hp:0<=para/\para<=125):
  wZ para (l1 para cs (((gF cs (aZ cs para) (aN cs) para).flatMap (mN rs (kP cs para))).foldl ig (aZ cs para)))=gu rs cs d:=by
 have h1:(gF cs (aZ cs para) (aN cs) para).flatMap (mN rs (kP cs para))=(gF cs (aZ cs para) (aN cs) para).flatMap (oP rs (gZ cs para)):=by
  rw [GA,GA,GD (acS hcs rs hp)]
 rw [h1];have h2:(((gF cs (aZ cs para) (aN cs) para).flatMap (oP rs (gZ cs para))).map Prod.fst).Nodup:=by
  rw [acW];exact Th cs para
 have h3:∀x∈(gF cs (aZ cs para) (aN cs) para).flatMap (oP rs (gZ cs para)),(aZ cs para).getD x.1 0=x.2.1/\(x.2.2=0∨x.2.2=1∨x.2.2=3∨x.2.2=6):=fun x hx=>by
  obtain⟨s,hs,hx⟩:=GF.1 hx;obtain⟨a1,a2,a3,a4,a5⟩:=MV hcs hp hs;obtain⟨b1,b2,b3⟩:=acU hx;refine⟨by rw [b2];exact(a5 _ b1).2,?_⟩;exact ajp a1 (by omega) _ b3
 rw [VU _ _ h2 h3,XD (by omega)]
 .unfold gu;rw [<-hpd]
 .refine Tm (P:=fun o=>o≠ -1) _ _ (fun x hx=> ?_) fun o ho=> ?_
  .have:=(h3 x hx).1;have h4:=Nf (cs:=cs) hp x.1;have:=ah3 (c:=x.2.2) (l:=x.2.1);omega
  .obtain⟨i,_,rfl⟩:=jr.1 (show o∈(List.range cs.length).map fun i=>(gG cs para i).l from ho);have:=Ng cs para hp i;omega
end
theorem Tryz.ah8:(prog.info? 108).map (fun i=>(i.zero,i.size,i.bytes))=some (some (.int .i64 0),1,8):=by kernel_rfl
theorem Tryz.afu:prog.cellsOf 108=1:=by kernel_rfl
theorem Tryz.anC:prog.underlying 263=some (.array 3 108):=by kernel_rfl
theorem Tryz.abo(a b c:Int)(w:World):(part 108 #[.int .i64 a,.int .i64 b,.int .i64 c] 0).run prog w= .ok (.int .i64 a) w/\(part 108 #[.int .i64 a,.int .i64 b,.int .i64 c] 1).run prog w= .ok (.int .i64 b) w/\(part 108 #[.int .i64 a,.int .i64 b,.int .i64 c] 2).run prog w= .ok (.int .i64 c) w:=⟨by kernel_rfl,by kernel_rfl,by kernel_rfl⟩
theorem Tryz.agA(a b c x y z:Int)(w:World):(Op.equalIn 10000 263 (.agg #[.int .i64 a,.int .i64 b,.int .i64 c]) (.agg #[.int .i64 x,.int .i64 y,.int .i64 z])).run prog w= .ok (a==x&&(b==y&&c==z)) w:=by
 obtain⟨i,hi,_⟩:=gW Tryz.ah8;have r:∀(p q:Int)(w:World),(Op.equalIn 9999 108 (.int .i64 p) (.int .i64 q)).run prog w= .ok (p==q) w:=fun p q w=>run_equalIn_int w 9998 108 .i64 .i64 p q underlying108
 have e:List.range 3=[0,1,2]:=rfl;obtain⟨p1,p2,p3⟩:=Tryz.abo a b c w;obtain⟨q1,q2,q3⟩:=Tryz.abo x y z w;rw [alv w 9999 _ _ Tryz.anC hi,e,Tryz.afu];cases h1:(a==x)<;>cases h2:(b==y)<;>cases h3:(c==z)<;>simp [Op.eqItems,p1,p2,p3,q1,q2,q3,r,h1,h2,h3]
theorem anJ(w:World)(B sb gc n cc:Nat)(pv rv bv:Value)(au aq ax:Int)(t:List Int)(h:aW w B sb gc n cc pv rv bv au aq ax t)(hn:n<=1000)(h1n:0<n):
  Calls prog 147 #[.pointer (some ⟨sb,0,none⟩)] w fun e w'=>e= .returned (.tuple #[])/\aW w' B sb gc n cc pv rv bv au aq ax (pass f4 g4 none t)/\w.grownBy w' (some gc):=by
 have cE:=ah h;have HL:=ah h.len;have HE:=Tryz.agA;clear h;go_enter func147,ntmps147;go_wp2;go_loopg [2] (n - 1) (fun gk iv wr=>∃(k:Nat)(a:Int)(t':List Int),k+1<=n/\gk=n - (k+1)/\iv= .int .i64 ((k:Int)+1)/\aW wr B sb gc n cc pv rv bv au aq ax t'/\w.grownBy wr (some gc)/\aV f4 g4 none t (k+1) (some a) t'/\a=t'.getD k 0);case atStart=>exact⟨0,t.getD 0 0,t,by omega,by omega,by simp,cE.out,jt _ _,abu (by rw [HL.out];exact h1n),rfl⟩
 case round=>
  clear cE;obtain⟨k,a,t',hk,Dh,rfl,hS,hG,hN,ha⟩:=hrel;by_cases hlt:k+1+1<n
  .have c0:=hS.at k (by omega);have c1:=hS.at (k+1) (by omega);have cn:=hS.at (k+1+1) (by omega);rw [<-ha]at c0;rw [hN.at (k+1) (ay _)]at c1;rw [hN.at (k+1+1) (by omega)]at cn;have c2:=hS.f2;obtain⟨i1,hi1⟩:∃i1,i1=(k:Int)+1:=⟨_,rfl⟩
   rw [<-hi1];have d0:wr.cell? ⟨gc,i1.toNat - 1,none⟩=some (.int .i64 a):=by rw [show i1.toNat - 1=k by omega];exact c0
   have d1:wr.cell? ⟨gc,i1.toNat,none⟩=some (.int .i64 (t.getD (k+1) 0)):=by rw [show i1.toNat=k+1 by omega];exact c1
   have dn:wr.cell? ⟨gc,(i1+1).toNat,none⟩=some (.int .i64 (t.getD (k+1+1) 0)):=by rw [show(i1+1).toNat=k+1+1 by omega];exact cn
   clear c0 c1 cn;have bX:(0:Int)<=i1 - 1:=by omega
   have hk1:(0:Int)<=i1:=by omega
   have hk3:(1:Int)<=i1:=by omega
   have hk4:i1<=(n:Int):=by omega
   have hk5:(0:Int)<i1:=by omega
   have hk2:(0:Int)<=i1+1:=by omega
   have hkn:i1+1<(n:Int):=by omega
   have Zm:i1<(n:Int):=by omega
   have hkm:i1 - 1<(n:Int):=by omega
   have hw1:IntKind.i64.wrap (i1 - 1)=i1 - 1:=Ox _ ⟨by omega,by omega⟩;have hw2:IntKind.i64.wrap (i1+1)=i1+1:=Ox _ ⟨by omega,by omega⟩;have HI:=ah hi1;have hd:t.drop (k+1+1)=t.getD (k+1+1) 0::t.drop (k+1+2):=drop_at (by rw [HL.out];omega);have htl:=hS.len;have HS:=ah hS;have HG:=ah hG;have hat:=hN.at (k+1) (ay _);have cM:f4 (some a) (t.getD (k+1) 0) (t.drop (k+1+1))=t.getD (k+1) 0->Hid (aV f4 g4 none t (k+1+1) (some (t.getD (k+1) 0)) t'):=fun h1=>hN.stay (by rw [HL.out];omega) _ h1.symm (by rw [g4,h1])
   have cZ:∀v,f4 (some a) (t.getD (k+1) 0) (t.drop (k+1+1))=v->Hid (aV f4 g4 none t (k+1+1) (some v) (t'.set (k+1) v)/\v=(t'.set (k+1) v).getD (k+1) 0):=fun v h1=>⟨hN.step (by rw [HL.out];omega) v (some v) h1.symm (by rw [g4,h1]),by rw [xd (by rw [htl];omega)]⟩
   rw [hd,PB]at cM;have aas:∀v,(if a=t.getD (k+1+1) 0/\((t.getD (k+1) 0=4/\a=3)∨(t.getD (k+1) 0=7/\(a=3∨a=6)))then a else t.getD (k+1) 0)=v->Hid (aV f4 g4 none t (k+1+1) (some v) (t'.set (k+1) v)/\v=(t'.set (k+1) v).getD (k+1) 0):=fun v h1=>cZ v (by rw [hd,PB];exact h1)
   have qL:=ah cM;have zH:=ah aas;have kf:=ah hat;clear hS hG hN ha cZ hd hat htl cM aas;generalize t.getD (k+1) 0=c at*;generalize t.getD (k+1+1) 0=d at*;clear hi1;have e1:=World.new_ne wr _ c2;have e2:=World.new_ne wr _ d0;go_wp2
   go_region_held3 (fun w'=>w'.cell? ⟨sb,2,none⟩=some (.slice (some ⟨gc,0,none⟩) n cc)/\w'.cell? ⟨gc,i1.toNat - 1,none⟩=some (.int .i64 a)/\w'.cell? ⟨gc,i1.toNat,none⟩=some (.int .i64 c)/\w'.cell? ⟨gc,(i1+1).toNat,none⟩=some (.int .i64 d)) (go_keep) (fail)
   have dB:Below wr.heap.size wr (wr.alloc (.cells #[.int .i64 a,.int .i64 c,.int .i64 d] 263)).drew:=((aA _ _).alloc (ay _) _).drew;have fC:=ah (HS.out.below dB);have D5:Hid (w.grownBy (wr.alloc (.cells #[.int .i64 a,.int .i64 c,.int .i64 d] 263)).drew (some gc)):=HG.out.trans ⟨rfl,rfl,rfl,by simp,fun q hq _=>dM wr _ q hq⟩;have b0:(wr.alloc (.cells #[.int .i64 a,.int .i64 c,.int .i64 d] 263)).drew.cell? ⟨wr.heap.size,0,none⟩=some (.int .i64 a):=by go_simp
   have b1:(wr.alloc (.cells #[.int .i64 a,.int .i64 c,.int .i64 d] 263)).drew.cell? ⟨wr.heap.size,1,none⟩=some (.int .i64 c):=by go_simp
   have b2:(wr.alloc (.cells #[.int .i64 a,.int .i64 c,.int .i64 d] 263)).drew.cell? ⟨wr.heap.size,2,none⟩=some (.int .i64 d):=by go_simp
   generalize(wr.alloc (.cells #[.int .i64 a,.int .i64 c,.int .i64 d] 263)).drew=W5 at*;generalize wr.heap.size=zb at*;clear d0 d1 dn c2 e1 e2 dB bX hk1 hk2 hk3 hk4 hk5 hkn Zm hkm hw1 hw2;have hi:=HI.out;subst hi;have Zm:(k:Int)+1<(n:Int):=by omega
   have c2:=fC.out.f2;have ck:=fC.out.at (k+1) (by omega);have hfr:=fC.out.frozen (k+1);rw [kf.out]at ck;cases h1:(a==3&&(c==4&&d==3))
   .cases h2:(a==3&&(c==7&&d==3))
    .cases h3:(a==6&&(c==7&&d==6))
     .have HK:=qL.out (ai (by simp at h1 h2 h3;omega));clear qL zH;go_wp2;go_roundg (n - (k+1+1));case measure=>omega
      case rel=>exact⟨k+1,c,t',by omega,rfl,by go_num,fC.out,D5.out,HK.out,kf.out.symm⟩
     .have HK:=zH.out 6 (by simp at h3;rw [aj (by omega)];omega);clear qL zH;go_wp2;go_roundg (n - (k+1+1));case measure=>omega
      case rel=>exact⟨k+1,6,t'.set (k+1) 6,by omega,rfl,by go_num,fC.out.set (k+1) 6,D5.out.trans (fC.out.grown (k+1) 6),HK.out.1,HK.out.2⟩
    .have HK:=zH.out 3 (by simp at h2;rw [aj (by omega)];omega);clear qL zH;go_wp2;go_roundg (n - (k+1+1));case measure=>omega
     case rel=>exact⟨k+1,3,t'.set (k+1) 3,by omega,rfl,by go_num,fC.out.set (k+1) 3,D5.out.trans (fC.out.grown (k+1) 3),HK.out.1,HK.out.2⟩
   .have HK:=zH.out 3 (by simp at h1;rw [aj (by omega)];omega);clear qL zH;go_wp2;go_roundg (n - (k+1+1));case measure=>omega
    case rel=>exact⟨k+1,3,t'.set (k+1) 3,by omega,rfl,by go_num,fC.out.set (k+1) 3,D5.out.trans (fC.out.grown (k+1) 3),HK.out.1,HK.out.2⟩
  .have hpe:t'=pass f4 g4 none t:=abv hN (by rw [HL.out];omega);have HS:Hid (aW wr B sb gc n cc pv rv bv au aq ax (pass f4 g4 none t)):=by rw [<-hpe];exact hS
   have HG:=ah hG;have hkn:¬(k:Int)+1+1<(n:Int):=by omega
   have c2:=hS.f2;clear hS hG hN hpe ha;go_wp2;go_end0;exact⟨rfl,HS.out,HG.out⟩
structure wW(W:World)(B:Nat)(L:LP)(au aq ax:Int)(k0:List Int)(q:ic)(t:List Int):Prop where
 sq:aW W B q.sb q.gc q.m q.cc (.slice (some ⟨q.gp,q.op,none⟩) q.m q.cp) (.slice (some ⟨q.gr,0,none⟩) q.m q.cr) (.slice (some ⟨q.gb,0,none⟩) q.m q.m) au aq ax t
 ru:Bp W q.gr q.m (bz L.rs q.at')
 be:bG W q.gb 0 k0
 pl:bG W q.gp q.op (nl q.at')
 nr:q.gr≠q.gc
 nb:q.gb≠q.gc
 np:q.gp≠q.gc
section
variable{W W':World}{B:Nat}{L:LP}{au aq ax:Int}{k0 t t':List Int}{q:ic}
theorem wW.rule(h:wW W B L au aq ax k0 q t)(hS:aW W' B q.sb q.gc q.m q.cc (.slice (some ⟨q.gp,q.op,none⟩) q.m q.cp) (.slice (some ⟨q.gr,0,none⟩) q.m q.cr) (.slice (some ⟨q.gb,0,none⟩) q.m q.m) au aq ax t')(hg:W.grownBy W' (some q.gc)):wW W' B L au aq ax k0 q t':=
 ⟨hS,fun k hk=>cell_grown hg (h.ru k hk) (fun e=>h.nr (aK e)),h.be.grown hg h.nb,h.pl.grown hg h.np,h.nr,h.nb,h.np⟩
theorem wW.below(h:wW W B L au aq ax k0 q t)(hb:Below W.heap.size W W'):wW W' B L au aq ax k0 q t:=
 ⟨h.sq.below hb,h.ru.below hb,h.be.below hb,h.pl.below hb,h.nr,h.nb,h.np⟩
end
theorem alJ(l:List Int)(k:Nat)(hk:k<l.length):(nW l)[k]? =some (.int .i32 (l.getD k 0)):=by
 simp [nW,aO,aQ hk]
theorem ow.sqs {W:World}{B:Nat}{L:LP}{ks ls:List Int}{q:ic}(h:ow W B L ks ls q):wW W B L (ls.getD (q.at'.headD 0) 0) (iy (ls.getD (q.at'.headD 0) 0) (jG ls (aN L.cs) L.p (q.at'.headD 0))) (iy (ls.getD (q.at'.headD 0) 0) (oz L.cs ls (aN L.cs) L.p (q.at'.getLastD 0))) (bz ks q.at') q (bz ks q.at'):=by
 obtain⟨c5,fr,e5⟩:=h.ty;obtain⟨c2,e2⟩:=yV h.sq.row;obtain⟨c3,e3⟩:=yV h.ru;refine⟨h.sq,fun k hk=> ?_,fun k hk=>by rw [iz];exact iJ h.be k hk,h.pl,?_,h.ne,?_⟩
 .rw [dg h.ru k (by omega),alJ _ _ (by rw [XX,h.len];exact hk)]
 .intro e;rw [e]at e3;exact absurd (uZ e2 e3) (by decide)
 .intro e;rw [e]at e5;exact absurd (uZ e2 e5) (by decide)
def oO:Nat->Nat
 |0=>144
 |1=>145
 |2=>146
 |3=>147
 |4=>148
 |5=>149
 |6=>150
 |7=>151
 |8=>152
 |_=>153
def abZ(au aq ax:Int)(k0 rs t:List Int):Nat->List Int
 |0=>pass (f1 aq) (g1 aq) none t
 |1=>pass f2 g2 aq t
 |2=>pass f3 g3 () t
 |3=>pass f4 g4 none t
 |4=>pass f5 g5 none t
 |5=>pass f6 g3 () t
 |6=>pass f7 g7 aq t
 |7=>zg t k0 (zi t rs) (au%2) aq
 |8=>pass (fM ax) gM aq t
 |_=>pass (r9 (au%2)) g3 () t
def MS(au aq ax:Int)(k0 rs:List Int):Nat->List Int
 |0=>k0
 |k+1=>abZ au aq ax k0 rs (MS au aq ax k0 rs k) k
theorem alj(rs ks:List Int)(s:Sq):MS s.level s.aq s.ax (bz ks s.at') (bz rs s.at') 10=JW rs ks s:=rfl
theorem ali(k:Nat):∀args w,(callFunc (oO k) args).run prog w= .ok (.enter (oO k) args) w:=by
 match k with
 |0=>exact lF func144 (by kernel_rfl) (by kernel_rfl)
 |1=>exact lF func145 (by kernel_rfl) (by kernel_rfl)
 |2=>exact lF func146 (by kernel_rfl) (by kernel_rfl)
 |3=>exact lF func147 (by kernel_rfl) (by kernel_rfl)
 |4=>exact lF func148 (by kernel_rfl) (by kernel_rfl)
 |5=>exact lF func149 (by kernel_rfl) (by kernel_rfl)
 |6=>exact lF func150 (by kernel_rfl) (by kernel_rfl)
 |7=>exact lF func151 (by kernel_rfl) (by kernel_rfl)
 |8=>exact lF func152 (by kernel_rfl) (by kernel_rfl)
 |_+9=>exact lF func153 (by kernel_rfl) (by kernel_rfl)
theorem amY {c:Int}(h:c=0∨c=1):bC c=c:=by rcases h with rfl|rfl<;>rfl
theorem alh {W:World}{B:Nat}{L:LP}{au aq ax:Int}{k0 t:List Int}{q:ic}(h:wW W B L au aq ax k0 q t)(hbr:Br W)(hn:q.m<=1000)(hm:0<q.m)(kU:0<=au)(vD:aq=0∨aq=1)(LZ:ax=0∨ax=1)(bX:k0.length=q.m)(k:Nat):
  Calls prog (oO k) #[.pointer (some ⟨q.sb,0,none⟩)] W fun e W'=>e= .returned (.tuple #[])/\wW W' B L au aq ax k0 q (abZ au aq ax k0 (bz L.rs q.at') t k)/\W.grownBy W' (some q.gc):=by
 match k with
 |0=>exact(anG W B _ _ _ _ _ _ _ _ _ _ _ h.sq hn vD).mono fun e w' ⟨he,hS,hg⟩=>⟨he,h.rule hS hg,hg⟩
 |1=>exact(anH W B _ _ _ _ _ _ _ _ _ _ _ h.sq hn).mono fun e w' ⟨he,hS,hg⟩=>⟨he,h.rule hS hg,hg⟩
 |2=>exact(anI W B _ _ _ _ _ _ _ _ _ _ _ h.sq hn).mono fun e w' ⟨he,hS,hg⟩=>⟨he,h.rule hS hg,hg⟩
 |3=>exact(anJ W B _ _ _ _ _ _ _ _ _ _ _ h.sq hn hm).mono fun e w' ⟨he,hS,hg⟩=>⟨he,h.rule hS hg,hg⟩
 |4=>exact(anL W B _ _ _ _ _ _ _ _ _ _ _ h.sq hn vD LZ).mono fun e w' ⟨he,hS,hg⟩=>⟨he,h.rule hS hg,hg⟩
 |5=>exact(anM W B _ _ _ _ _ _ _ _ _ _ _ h.sq hn).mono fun e w' ⟨he,hS,hg⟩=>⟨he,h.rule hS hg,hg⟩
 |6=>exact(anN W B _ _ _ _ _ _ _ _ _ _ _ h.sq hn).mono fun e w' ⟨he,hS,hg⟩=>⟨he,h.rule hS hg,hg⟩
 |7=>exact(ak7 W B _ _ _ _ _ _ _ _ _ _ _ _ _ _ _ h.sq h.ru h.be bX h.nb hbr hn kU).mono fun e w' ⟨he,hS,hg⟩=>⟨he,h.rule hS hg,hg⟩
 |8=>exact(ajj W B _ _ _ _ _ _ _ _ _ _ _ h.sq hn (amY vD)).mono fun e w' ⟨he,hS,hg⟩=>⟨he,h.rule hS hg,hg⟩
 |_+9=>exact(ajk W B _ _ _ _ _ _ _ _ _ _ _ h.sq hn kU).mono fun e w' ⟨he,hS,hg⟩=>⟨he,h.rule hS hg,hg⟩
structure LV(W w0:World)(B:Nat)(L:LP)(ks ls:List Int)(go g:Nat)(av:Value)(qs:List ic)(j:Nat)(o:List Int):Prop where
 fs:FS W L ks ls go o
 rl:∀k,k<10->W.cell? ⟨g,k,none⟩=some (.func (.func (oO k)) #[] #[])
 row:W.ownsRow B 146 1 av qs.length (qs.map ic.ptr)
 sq:∀q∈qs.drop j,ow W B L ks ls q
 br:Br W
 hb:Below L.B w0 W
structure Oy(B:Nat)(L:LP)(go g:Nat):Prop where
 lo:L.B<=B
 PY:go<B
 PW:L.B<=go
 gL:g<B
 gg:g≠go
 has:∀x,L.has x->x<B
 bp:11<L.B
section
variable{W W' w0:World}{B:Nat}{L:LP}{ks ls o o':List Int}{go g j:Nat}{av:Value}{qs:List ic}{q:ic}
theorem Br.grown {r:Nat}(h:Br W)(hg:W.grownBy W' (some r))(hne:11≠r):Br W':=by
 obtain⟨tt,fr,e⟩:=h;exact⟨tt,fr,(hg.block _ (bZ e) (fun e=>hne (aK e))).trans e⟩
theorem LV.below(h:LV W w0 B L ks ls go g av qs j o)(hb:Below W.heap.size W W')(hsz:L.B<=W.heap.size):LV W' w0 B L ks ls go g av qs j o:=
 ⟨h.fs.below hb,fun k hk=>cell_grown (r:=none) (Ez hb) (h.rl k hk) (by simp),eH h.row hb,fun q hq=>(h.sq q hq).below hb,h.br.below hb,h.hb.trans (hb.mono hsz)⟩
theorem LV.rule(h:LV W w0 B L ks ls go g av qs j o)(hc:Oy B L go g)(hq:∃cur,W.heap[q.gc]? =some (.cells cur 108 (0,0)))(hB:B<=q.gc)(hap:∀q'∈qs.drop j,Cv q q')(hg:W.grownBy W' (some q.gc))(hsz:L.B<=W.heap.size):LV W' w0 B L ks ls go g av qs j o:=by
 obtain⟨cur,hh⟩:=hq;have n1:=hc.PY;have n2:=hc.gL;have n3:=hc.lo;have n4:=hc.bp;refine⟨⟨h.fs.ln.same hg.size fun x hx=>hg.block x (h.fs.ln.lt x hx) (fun e=>by have:=hc.has x hx;have:=aK e;omega),iu h.fs.row hg (by omega),h.fs.ap⟩,fun k hk=>cell_grown hg (h.rl k hk) (fun e=>by have:=aK e;simp only at this;omega),dO h.row hg (.inr (jY h.row hh (by decide))),fun q' hq'=> ?_,h.br.grown hg (by omega),h.hb.grown hg hsz (fun y hy=>by cases hy;omega)⟩;have hx:=h.sq q' hq';have ha:=hap q' hq';obtain⟨c3,e3⟩:=yV hx.ru;obtain⟨c5,fr,e5⟩:=hx.ty;refine hx.grown hg ?_ (fun e=>ha.1 e.symm) ?_ (fun e=>ha.2.2 e.symm) ?_
 .intro e;exact absurd (uZ (e▸hx.sq.cell) hh) (by decide)
 .intro e;exact absurd (uZ (e▸e3) hh) (by decide)
 .intro e;exact absurd (uZ (e▸e5) hh) (by decide)
theorem LV.impl(h:LV W w0 B L ks ls go g av qs j o)(hc:Oy B L go g)(hR:bf W' L.B go L.n L.n o')(hg:W.grownBy W' (some go))(hsz:L.B<=W.heap.size):LV W' w0 B L ks ls go g av qs j o':=by
 have n1:=hc.PY;have n4:=hc.bp;have n5:=hc.PW;obtain⟨cur,hh⟩:=yV h.fs.row;refine⟨⟨h.fs.ln.same hg.size fun x hx=>hg.block x (h.fs.ln.lt x hx) (fun e=>h.fs.ap x hx (aK e)),hR,h.fs.ap⟩,fun k hk=>cell_grown hg (h.rl k hk) (fun e=>hc.gg (aK e)),dO h.row hg (.inr (jY h.row hh (by decide))),fun q' hq'=> ?_,h.br.grown hg (by omega),h.hb.grown hg hsz (fun y hy=>by cases hy;exact hc.PW)⟩;have hx:=h.sq q' hq';have l1:=(hx.sq.row.lt q'.gc rfl).1;have l2:=(yE hx.ru q'.gr rfl).1;have l3:=(yE hx.be q'.gb rfl).1;have l4:=hx.lo;exact hx.grown hg (by omega) (by omega) (by omega) (by omega) (by omega)
end
def qI(L:LP)(ls:List Int)(q:ic):Sq:=qf L.cs ls (aN L.cs) L.p q.at'
theorem amV {L:LP}{ls:List Int}{qs:List ic}(hn:L.cs.length=L.n)(h:qs.map ic.at'=((cQ ls (aN L.cs)).filter (gA L.cs)).map (bV L.cs (cQ ls (aN L.cs)) L.n)):qs.map (qI L ls)=gF L.cs ls (aN L.cs) L.p:=by
 unfold gF;have:qs.map (qI L ls)=(qs.map ic.at').map (qf L.cs ls (aN L.cs) L.p):=by rw [KM];rfl
 rw [this,h,KM,hn];rfl
theorem drop_cons {α:Type}{l:List α}{j:Nat}{q:α}(h:l[j]? =some q):l.drop j=q::l.drop (j+1):=by
 obtain⟨hj,e⟩:=qW.1 h;rw [l9 hj,e]
theorem agb {qs:List ic}(h:qs.Pairwise Cv){j:Nat}{q:ic}(hq:qs[j]? =some q):∀q'∈qs.drop (j+1),Cv q q':=by
 have:=h.sublist (List.drop_sublist j qs);rw [drop_cons hq]at this;exact(Ep.1 this).1
def mO(n b0 b1 b2 b3:Nat):Nat:=if(Lib.decodeN n b0 b1 b2 b3).1=65533/\(Lib.decodeN n b0 b1 b2 b3).2=1 then 0 else(Lib.decodeN n b0 b1 b2 b3).2
def sz(s:ByteArray):Nat:=mO s.size (s.get! 0).toNat (s.get! 1).toNat (s.get! 2).toNat (s.get! 3).toNat
theorem KU:∀X:Fin 256,bits .and .i64 ((X.val:Nat):Int) 31=((X.val%32:Nat):Int):=by decide
theorem Aa:∀X:Fin 256,bits .and .i64 ((X.val:Nat):Int) 15=((X.val%16:Nat):Int):=by decide
theorem yF:∀X:Fin 256,bits .and .i64 ((X.val:Nat):Int) 7=((X.val%8:Nat):Int):=by decide
theorem get_eq(s:ByteArray)(k:Nat)(h:k<s.size):s.get! k=s[k]'h:=by
 simp [ByteArray.get!,PV,h];rfl
theorem amk(s:ByteArray)(w:World)(c0:UInt8)(h0:0<s.size)(_hs:s.size<=10000)(e0:s[0]'h0=c0)(_p0:(c0.toNat:Int)<128):
  Calls prog 112 #[.string s] w fun e w'=>e= .returned (.int .i64 1)/\w'=w:=by
 go_enter func112,ntmps112;go_wp2;go_ret;exact⟨rfl,rfl⟩
theorem aml(s:ByteArray)(w:World)(c0:UInt8)(h0:0<s.size)(_hs:s.size<=10000)(e0:s[0]'h0=c0)(_p0:(128:Int)<=(c0.toNat:Int))(_p1:(c0.toNat:Int)<194):
  Calls prog 112 #[.string s] w fun e w'=>e= .returned (.int .i64 0)/\w'=w:=by
 go_enter func112,ntmps112;go_wp2;go_ret;exact⟨rfl,rfl⟩
theorem amm(s:ByteArray)(w:World)(c0:UInt8)(h0:0<s.size)(_hs:s.size<=10000)(e0:s[0]'h0=c0)(_p0:(245:Int)<=(c0.toNat:Int))(_p1:(c0.toNat:Int)<256):
  Calls prog 112 #[.string s] w fun e w'=>e= .returned (.int .i64 0)/\w'=w:=by
 go_enter func112,ntmps112;go_wp2;go_ret;exact⟨rfl,rfl⟩
theorem amD(s:ByteArray)(w:World)(c0:UInt8)(h0:0<s.size)(_hs:s.size<=10000)(e0:s[0]'h0=c0)(_p0:(194:Int)<=(c0.toNat:Int))(_p1:(c0.toNat:Int)<224)(_p2:(s.size:Int)<2):
  Calls prog 112 #[.string s] w fun e w'=>e= .returned (.int .i64 0)/\w'=w:=by
 go_enter func112,ntmps112;go_wp2;go_ret;exact⟨rfl,rfl⟩
theorem amx(s:ByteArray)(w:World)(c0 c1:UInt8)(h0:0<s.size)(h1:1<s.size)(_hs:s.size<=10000)(e0:s[0]'h0=c0)(e1:s[1]'h1=c1)(_p0:(194:Int)<=(c0.toNat:Int))(_p1:(c0.toNat:Int)<224)(_p2:(2:Int)<=(s.size:Int))(_p3:(c1.toNat:Int)<128):
  Calls prog 112 #[.string s] w fun e w'=>e= .returned (.int .i64 0)/\w'=w:=by
 have ha:bits .and .i64 (c0.toNat:Int) 31=((c0.toNat%32:Nat):Int):=KU ⟨c0.toNat,c0.toNat_lt⟩;go_enter func112,ntmps112;go_wp2;refine dw 1 ?_;rw [aY];go_wp2;go_ret;exact⟨rfl,rfl⟩
theorem amr(s:ByteArray)(w:World)(c0 c1:UInt8)(h0:0<s.size)(h1:1<s.size)(_hs:s.size<=10000)(e0:s[0]'h0=c0)(e1:s[1]'h1=c1)(_p0:(194:Int)<=(c0.toNat:Int))(_p1:(c0.toNat:Int)<224)(_p2:(2:Int)<=(s.size:Int))(_p3:(191:Int)<(c1.toNat:Int)):
  Calls prog 112 #[.string s] w fun e w'=>e= .returned (.int .i64 0)/\w'=w:=by
 have ha:bits .and .i64 (c0.toNat:Int) 31=((c0.toNat%32:Nat):Int):=KU ⟨c0.toNat,c0.toNat_lt⟩;go_enter func112,ntmps112;go_wp2;refine dw 1 ?_;rw [aY];go_wp2;go_ret;exact⟨rfl,rfl⟩
theorem size_two(s:ByteArray)(w:World)(c0 c1:UInt8)(h0:0<s.size)(h1:1<s.size)(_hs:s.size<=10000)(e0:s[0]'h0=c0)(e1:s[1]'h1=c1)(_p0:(194:Int)<=(c0.toNat:Int))(_p1:(c0.toNat:Int)<224)(_p2:(2:Int)<=(s.size:Int))(_p3:(128:Int)<=(c1.toNat:Int))(_p4:(c1.toNat:Int)<=191):
  Calls prog 112 #[.string s] w fun e w'=>e= .returned (.int .i64 2)/\w'=w:=by
 have ha:bits .and .i64 (c0.toNat:Int) 31=((c0.toNat%32:Nat):Int):=KU ⟨c0.toNat,c0.toNat_lt⟩;go_enter func112,ntmps112;go_wp2;refine dw 2 ?_;rw [aY];go_wp2;rw [aY];go_wp2;go_ret;exact⟨rfl,rfl⟩
theorem pM {n b0 b1 b2 b3 a b:Nat}(h:Lib.decodeN n b0 b1 b2 b3=(a,b))(hab:¬(a=65533/\b=1)):mO n b0 b1 b2 b3=b:=by
 unfold mO;rw [h];exact ai hab
theorem ez {n b0 b1 b2 b3:Nat}(h:Lib.decodeN n b0 b1 b2 b3=(65533,1)):mO n b0 b1 b2 b3=0:=by
 unfold mO;rw [h];exact aj ⟨rfl,rfl⟩
theorem C2 {n b0 b1 b2 b3:Nat}(h:b0<128):Lib.decodeN n b0 b1 b2 b3=(b0,1):=by unfold Lib.decodeN;rw [aj h]
theorem Lh {n b0 b1 b2 b3:Nat}(h0:128<=b0)(h1:b0<194):Lib.decodeN n b0 b1 b2 b3=(65533,1):=by
 unfold Lib.decodeN;repeat' split
 all_goals first|(exfalso;omega)|rfl
theorem Li {n b0 b1 b2 b3:Nat}(h0:245<=b0)(h1:b0<256):Lib.decodeN n b0 b1 b2 b3=(65533,1):=by
 unfold Lib.decodeN;repeat' split
 all_goals first|(exfalso;omega)|rfl
theorem EI {n b0 b1 b2 b3:Nat}(h0:194<=b0)(h1:b0<224)(hb:b1<256)(h:n<2∨b1<128∨191<b1):Lib.decodeN n b0 b1 b2 b3=(65533,1):=by
 unfold Lib.decodeN;repeat' split
 all_goals first|(exfalso;omega)|rfl
theorem Hf {n b0 b1 b2 b3:Nat}(h0:194<=b0)(h1:b0<224)(hn:2<=n)(h2:128<=b1)(h3:b1<=191):Lib.decodeN n b0 b1 b2 b3=(b0%32*64+b1%64,2):=by
 unfold Lib.decodeN;repeat' split
 all_goals first|(exfalso;omega)|rfl
theorem Bz {n b0 b1 b2 b3:Nat}(h0:224<=b0)(h1:b0<240)(hb:b1<256)(hb2:b2<256)(h:n<3∨b1<128∨191<b1∨b2<128∨191<b2):Lib.decodeN n b0 b1 b2 b3=(65533,1):=by
 unfold Lib.decodeN;repeat' split
 all_goals first|(exfalso;omega)|rfl
theorem Hg {n b0 b1 b2 b3:Nat}(h0:224<=b0)(h1:b0<240)(h:b0%16*4096+b1%64*64+b2%64<2048∨(55296<=b0%16*4096+b1%64*64+b2%64/\b0%16*4096+b1%64*64+b2%64<=57343)):Lib.decodeN n b0 b1 b2 b3=(65533,1):=by
 unfold Lib.decodeN;repeat' split
 all_goals first|(exfalso;omega)|rfl
theorem EJ {n b0 b1 b2 b3:Nat}(h0:224<=b0)(h1:b0<240)(hn:3<=n)(h2:128<=b1)(h3:b1<=191)(h4:128<=b2)(h5:b2<=191)(h6:2048<=b0%16*4096+b1%64*64+b2%64)
  (h7:b0%16*4096+b1%64*64+b2%64<55296∨57343<b0%16*4096+b1%64*64+b2%64):Lib.decodeN n b0 b1 b2 b3=(b0%16*4096+b1%64*64+b2%64,3):=by
 unfold Lib.decodeN;repeat' split
 all_goals first|(exfalso;omega)|rfl
theorem yO {n b0 b1 b2 b3:Nat}(h0:240<=b0)(h1:b0<245)(hb:b1<256)(hb2:b2<256)(hb3:b3<256)(h:n<4∨b1<128∨191<b1∨b2<128∨191<b2∨b3<128∨191<b3):Lib.decodeN n b0 b1 b2 b3=(65533,1):=by
 unfold Lib.decodeN;repeat' split
 all_goals first|(exfalso;omega)|rfl
theorem Hh {n b0 b1 b2 b3:Nat}(h0:240<=b0)(h1:b0<245)(h:b0%8*262144+b1%64*4096+b2%64*64+b3%64<65536∨1114111<b0%8*262144+b1%64*4096+b2%64*64+b3%64):Lib.decodeN n b0 b1 b2 b3=(65533,1):=by
 unfold Lib.decodeN;repeat' split
 all_goals first|(exfalso;omega)|rfl
theorem Hj {n b0 b1 b2 b3:Nat}(h0:240<=b0)(h1:b0<245)(hn:4<=n)(h2:128<=b1)(h3:b1<=191)(h4:128<=b2)(h5:b2<=191)(h8:128<=b3)(h9:b3<=191)(h6:65536<=b0%8*262144+b1%64*4096+b2%64*64+b3%64)
  (h7:b0%8*262144+b1%64*4096+b2%64*64+b3%64<=1114111):Lib.decodeN n b0 b1 b2 b3=(b0%8*262144+b1%64*4096+b2%64*64+b3%64,4):=by
 unfold Lib.decodeN;repeat' split
 all_goals first|(exfalso;omega)|rfl
theorem afE(r:Int)(w:World)(h:¬nZ r):
  Calls prog 69 #[.int .i64 r] w fun e w'=>e= .returned (.int .i64 (cls r))/\Below w.heap.size w w':=by
 have h':(1488<=r/\r<=1514)∨r=8207∨(1575<=r/\r<=1610)∨r=1564∨(48<=r/\r<=57)∨r=43∨r=45∨(1632<=r/\r<=1641)∨(768<=r/\r<=879)∨(1611<=r/\r<=1618)∨r=173∨r=8203∨r=9∨r=32∨r=8195∨(8294<=r/\r<=8297):=by
  unfold nZ at h;omega
 clear h;obtain⟨c,hc⟩:∃c,c=cls r:=⟨_,rfl⟩
 rw [<-hc];have HC:=ah hc;clear hc;rcases h' with h|h|h|h|h|h|h|h|h|h|h|h|h|h|h|h
 .obtain⟨h1,h2⟩:=h;have e0:(r==8207)=false:=by simp;omega
  have e1:(r==1564)=false:=by simp;omega
  have e2:(r==43)=false:=by simp;omega
  have e3:(r==45)=false:=by simp;omega
  have e4:(r==173)=false:=by simp;omega
  have e5:(r==8203)=false:=by simp;omega
  have e6:(r==9)=false:=by simp;omega
  have e7:(r==32)=false:=by simp;omega
  have e8:(r==8195)=false:=by simp;omega
  go_enter func69,ntmps69;go_wp2_with fail;go_ret;exact⟨bI (by rw [HC.out];exact(K8 (by omega)).symm),aA _ _⟩
 .subst h;go_enter func69,ntmps69;go_wp2_with fail;go_ret;exact⟨bI (by rw [HC.out];exact(K8 (by omega)).symm),aA _ _⟩
 .obtain⟨h1,h2⟩:=h;have e0:(r==8207)=false:=by simp;omega
  have e1:(r==1564)=false:=by simp;omega
  have e2:(r==43)=false:=by simp;omega
  have e3:(r==45)=false:=by simp;omega
  have e4:(r==173)=false:=by simp;omega
  have e5:(r==8203)=false:=by simp;omega
  have e6:(r==9)=false:=by simp;omega
  have e7:(r==32)=false:=by simp;omega
  have e8:(r==8195)=false:=by simp;omega
  go_enter func69,ntmps69;go_wp2_with fail;go_ret;exact⟨bI (by rw [HC.out];exact(K9 (by omega)).symm),aA _ _⟩
 .subst h;go_enter func69,ntmps69;go_wp2_with fail;go_ret;exact⟨bI (by rw [HC.out];exact(K9 (by omega)).symm),aA _ _⟩
 .obtain⟨h1,h2⟩:=h;have e0:(r==8207)=false:=by simp;omega
  have e1:(r==1564)=false:=by simp;omega
  have e2:(r==43)=false:=by simp;omega
  have e3:(r==45)=false:=by simp;omega
  have e4:(r==173)=false:=by simp;omega
  have e5:(r==8203)=false:=by simp;omega
  have e6:(r==9)=false:=by simp;omega
  have e7:(r==32)=false:=by simp;omega
  have e8:(r==8195)=false:=by simp;omega
  go_enter func69,ntmps69;go_wp2_with fail;go_ret;exact⟨bI (by rw [HC.out];exact(WK (by omega)).symm),aA _ _⟩
 .subst h;go_enter func69,ntmps69;go_wp2_with fail;go_ret;exact⟨bI (by rw [HC.out];exact(La (by omega)).symm),aA _ _⟩
 .subst h;go_enter func69,ntmps69;go_wp2_with fail;go_ret;exact⟨bI (by rw [HC.out];exact(La (by omega)).symm),aA _ _⟩
 .obtain⟨h1,h2⟩:=h;have e0:(r==8207)=false:=by simp;omega
  have e1:(r==1564)=false:=by simp;omega
  have e2:(r==43)=false:=by simp;omega
  have e3:(r==45)=false:=by simp;omega
  have e4:(r==173)=false:=by simp;omega
  have e5:(r==8203)=false:=by simp;omega
  have e6:(r==9)=false:=by simp;omega
  have e7:(r==32)=false:=by simp;omega
  have e8:(r==8195)=false:=by simp;omega
  go_enter func69,ntmps69;go_wp2_with fail;go_ret;exact⟨bI (by rw [HC.out];exact(WL (by omega)).symm),aA _ _⟩
 .obtain⟨h1,h2⟩:=h;have e0:(r==8207)=false:=by simp;omega
  have e1:(r==1564)=false:=by simp;omega
  have e2:(r==43)=false:=by simp;omega
  have e3:(r==45)=false:=by simp;omega
  have e4:(r==173)=false:=by simp;omega
  have e5:(r==8203)=false:=by simp;omega
  have e6:(r==9)=false:=by simp;omega
  have e7:(r==32)=false:=by simp;omega
  have e8:(r==8195)=false:=by simp;omega
  go_enter func69,ntmps69;go_wp2_with fail;go_ret;exact⟨bI (by rw [HC.out];exact(Lb (by omega)).symm),aA _ _⟩
 .obtain⟨h1,h2⟩:=h;have e0:(r==8207)=false:=by simp;omega
  have e1:(r==1564)=false:=by simp;omega
  have e2:(r==43)=false:=by simp;omega
  have e3:(r==45)=false:=by simp;omega
  have e4:(r==173)=false:=by simp;omega
  have e5:(r==8203)=false:=by simp;omega
  have e6:(r==9)=false:=by simp;omega
  have e7:(r==32)=false:=by simp;omega
  have e8:(r==8195)=false:=by simp;omega
  go_enter func69,ntmps69;go_wp2_with fail;go_ret;exact⟨bI (by rw [HC.out];exact(Lb (by omega)).symm),aA _ _⟩
 .subst h;go_enter func69,ntmps69;go_wp2_with fail;go_ret;exact⟨bI (by rw [HC.out];exact(Lc (by omega)).symm),aA _ _⟩
 .subst h;go_enter func69,ntmps69;go_wp2_with fail;go_ret;exact⟨bI (by rw [HC.out];exact(Lc (by omega)).symm),aA _ _⟩
 .subst h;go_enter func69,ntmps69;go_wp2_with fail;go_ret;exact⟨bI (by rw [HC.out];exact(WM (by omega)).symm),aA _ _⟩
 .subst h;go_enter func69,ntmps69;go_wp2_with fail;go_ret;exact⟨bI (by rw [HC.out];exact(Ld (by omega)).symm),aA _ _⟩
 .subst h;go_enter func69,ntmps69;go_wp2_with fail;go_ret;exact⟨bI (by rw [HC.out];exact(Ld (by omega)).symm),aA _ _⟩
 .obtain⟨h1,h2⟩:=h;have e0:(r==8207)=false:=by simp;omega
  have e1:(r==1564)=false:=by simp;omega
  have e2:(r==43)=false:=by simp;omega
  have e3:(r==45)=false:=by simp;omega
  have e4:(r==173)=false:=by simp;omega
  have e5:(r==8203)=false:=by simp;omega
  have e6:(r==9)=false:=by simp;omega
  have e7:(r==32)=false:=by simp;omega
  have e8:(r==8195)=false:=by simp;omega
  go_enter func69,ntmps69;go_wp2_with fail;go_ret;exact⟨bI (by rw [HC.out];exact(G8 (by omega)).symm),aA _ _⟩
theorem afD(r:Int)(w:World)(h:nZ r):
  Calls prog 69 #[.int .i64 r] w fun e w'=>e= .returned (.int .i64 (cls r))/\Below w.heap.size w w':=by
 have h':(r<48/\r≠9/\r≠32/\r≠43/\r≠45)∨(57<r/\r<768/\r≠173)∨(879<r/\r<1488)∨(1514<r/\r<1575/\r≠1564)∨(1618<r/\r<1632)∨(1641<r/\r<8294/\r≠8195/\r≠8203/\r≠8207)∨8297<r:=by
  unfold nZ at h;omega
 have e1:(r==8207)=false:=by unfold nZ at h;simp;omega
 have e2:(r==1564)=false:=by unfold nZ at h;simp;omega
 have e3:(r==43)=false:=by unfold nZ at h;simp;omega
 have e4:(r==45)=false:=by unfold nZ at h;simp;omega
 have e5:(r==173)=false:=by unfold nZ at h;simp;omega
 have e6:(r==8203)=false:=by unfold nZ at h;simp;omega
 have e7:(r==9)=false:=by unfold nZ at h;simp;omega
 have e8:(r==32)=false:=by unfold nZ at h;simp;omega
 have e9:(r==8195)=false:=by unfold nZ at h;simp;omega
 have HB:=ah (WN h);clear h;obtain⟨c,hc⟩:∃c,c=cls r:=⟨_,rfl⟩
 rw [<-hc];rw [<-hc]at HB;clear hc;rcases h' with h|h|h|h|h|h|h
 all_goals
  go_enter func69,ntmps69;go_wp2_with fail;refine(KT r [35,36,37,8364] w.heap.size 0 4 4 _ rfl (by omega) (Rp _ _ _ _ _ rfl rfl)).mono ?_;rintro e wA ⟨rfl,rfl⟩;generalize hb1:je r [35,36,37,8364]=b1 at HB ⊢;go_wp2_with fail;refine(KT r [44,46,47,58] (w.heap.size+1) 0 4 4 _ rfl (by omega) (Rp _ _ _ _ _ (by simp) rfl)).mono ?_;rintro e wB ⟨rfl,rfl⟩;generalize hb2:je r [44,46,47,58]=b2 at HB ⊢;go_wp2_with fail;refine(amh _ _ (by decide)).mono ?_;rintro e wC ⟨v,rfl,hown,Qn⟩;have hsl:=js.JA hown;clear hown;go_wp2_with fail;refine(aeA r _ v _ (by decide) hsl).mono ?_;rintro e wD ⟨rfl,rfl⟩;clear hsl;generalize hb3:je r (wX {data:=#[33,34,38,39,40,41,42,59,60,61,62,63,64,91,92,93,94,95,96,123,124,125,126]})=b3 at HB ⊢;go_wp2_with fail;refine(KT r [9001,9002,12296,12297] _ 0 4 4 _ rfl (by omega) (Rp _ _ _ _ _ rfl rfl)).mono ?_;rintro e wE ⟨rfl,rfl⟩;generalize hb4:je r [9001,9002,12296,12297]=b4 at HB ⊢;clear hb1 hb2 hb3 hb4;have Ya:Below w.heap.size w _:=((((aA _ _).alloc (ay _) _).alloc (by simp) _).trans (Qn.mono (by simp;omega))).alloc (by have:=Qn.size;simp at this;omega) (.cells #[.int .i64 9001,.int .i64 9002,.int .i64 12296,.int .i64 12297] 3);go_wp2_with fail;all_goals
   go_ret;refine⟨bI ?_,Ya⟩;rw [HB.out];clear Ya Qn HB
   simp_all
theorem WG(r:Int)(w:World):
  Calls prog 69 #[.int .i64 r] w fun e w'=>e= .returned (.int .i64 (cls r))/\Below w.heap.size w w':=by
 by_cases h:nZ r
 .exact afD r w h
 .exact afE r w h
def iL(s:ByteArray)(p:Nat):Int:=((Utf8.decode s p).1:Int)
def bu(s:ByteArray)(p:Nat):Nat:=mO (s.size - p) (s.get! p).toNat (s.get! (p+1)).toNat (s.get! (p+2)).toNat (s.get! (p+3)).toNat
def runesFrom(s:ByteArray):Nat->Nat->Option (List Int)
 |0,_=>some []
 |f+1,p=>if p<s.size then(if bu s p=0 then none else(runesFrom s f (p+bu s p)).map (iL s p::·))else some []
def fH(s:ByteArray):Option (List Int):=runesFrom s s.size 0
theorem BC(s:ByteArray)(p k:Nat)(h:p+k<s.size):(s.extract p s.size).get! k=s.get! (p+k):=by
 have h':k<(s.extract p s.size).size:=by simp [adz];omega
 rw [get_eq _ _ h',get_eq _ _ h];simp [Uk]
theorem Tw(s:ByteArray)(p:Nat):(s.extract p s.size).size=s.size - p:=by simp [adz]
theorem am5(n b0 b1 b2 b3 c1 c2 c3:Nat)(h1:1<n->b1=c1)(h2:2<n->b2=c2)(h3:3<n->b3=c3):mO n b0 b1 b2 b3=mO n b0 c1 c2 c3:=by
 have:Lib.decodeN n b0 b1 b2 b3=Lib.decodeN n b0 c1 c2 c3:=by
  unfold Lib.decodeN;by_cases n1:1<n
  .rw [h1 n1];by_cases n2:2<n
   .rw [h2 n2];by_cases n3:3<n
    .rw [h3 n3]
    .simp [n3]
   .have n3:¬3<n:=by omega
    simp [n2]
  .simp [n1]
 unfold mO;rw [this]
theorem am6(s:ByteArray)(p:Nat)(h:p<s.size):sz (s.extract p s.size)=bu s p:=by
 unfold sz bu;rw [Tw,BC s p 0 (by omega)];refine am5 _ _ _ _ _ _ _ _ (fun h=> ?_) (fun h=> ?_) (fun h=> ?_)
 .rw [BC s p 1 (by omega)]
 .rw [BC s p 2 (by omega)]
 .rw [BC s p 3 (by omega)]
theorem FK(s:ByteArray)(p:Nat)(_h:p<s.size)(h0:bu s p≠0):
  (bu s p=1/\(s.get! p).toNat<128/\iL s p=((s.get! p).toNat:Int))∨
  (bu s p=2/\p+2<=s.size/\194<=(s.get! p).toNat/\(s.get! p).toNat<224/\128<=(s.get! (p+1)).toNat/\(s.get! (p+1)).toNat<=191/\iL s p=64*(((s.get! p).toNat:Int)%32)+((s.get! (p+1)).toNat:Int) - 128)∨
  (bu s p=3/\p+3<=s.size/\224<=(s.get! p).toNat/\(s.get! p).toNat<240/\128<=(s.get! (p+1)).toNat/\(s.get! (p+1)).toNat<=191/\128<=(s.get! (p+2)).toNat/\(s.get! (p+2)).toNat<=191/\
   iL s p=64*(64*(((s.get! p).toNat:Int)%16)+((s.get! (p+1)).toNat:Int) - 128)+((s.get! (p+2)).toNat:Int) - 128)∨
  (bu s p=4/\p+4<=s.size/\240<=(s.get! p).toNat/\(s.get! p).toNat<245/\128<=(s.get! (p+1)).toNat/\(s.get! (p+1)).toNat<=191/\128<=(s.get! (p+2)).toNat/\(s.get! (p+2)).toNat<=191/\128<=(s.get! (p+3)).toNat/\(s.get! (p+3)).toNat<=191/\
   iL s p=64*(64*(64*(((s.get! p).toNat:Int)%8)+((s.get! (p+1)).toNat:Int) - 128)+((s.get! (p+2)).toNat:Int) - 128)+((s.get! (p+3)).toNat:Int) - 128):=by
 unfold iL;rw [Lib.decode_at];unfold bu at h0 ⊢;have l0:=(s.get! p).toNat_lt;have l1:=(s.get! (p+1)).toNat_lt;have l2:=(s.get! (p+2)).toNat_lt;have l3:=(s.get! (p+3)).toNat_lt;generalize(s.get! p).toNat=b0 at*;generalize(s.get! (p+1)).toNat=b1 at*;generalize(s.get! (p+2)).toNat=b2 at*;generalize(s.get! (p+3)).toNat=b3 at*;obtain⟨n,hn⟩:∃n,n=s.size - p:=⟨_,rfl⟩
 rw [<-hn]at h0 ⊢;by_cases a:b0<128
 .left;rw [pM (C2 a) (by omega),C2 a];exact⟨rfl,a,rfl⟩
 by_cases b:b0<194
 .exact absurd (ez (Lh (by omega) b)) h0
 by_cases c:245<=b0
 .exact absurd (ez (Li c (by omega))) h0
 by_cases d:b0<224
 .by_cases e:n<2∨b1<128∨191<b1
  .exact absurd (ez (EI (by omega) d (by omega) e)) h0
  .have hd:=Hf (n:=n) (b0:=b0) (b1:=b1) (b2:=b2) (b3:=b3) (by omega) d (by omega) (by omega) (by omega);right;left;rw [pM hd (by omega),hd];exact⟨rfl,by omega,by omega,by omega,by omega,by omega,by omega⟩
 by_cases f:b0<240
 .by_cases e:n<3∨b1<128∨191<b1∨b2<128∨191<b2
  .exact absurd (ez (Bz (by omega) f (by omega) (by omega) e)) h0
  .by_cases g:b0%16*4096+b1%64*64+b2%64<2048∨(55296<=b0%16*4096+b1%64*64+b2%64/\b0%16*4096+b1%64*64+b2%64<=57343)
   .exact absurd (ez (Hg (by omega) f g)) h0
   .have hd:=EJ (n:=n) (b0:=b0) (b1:=b1) (b2:=b2) (b3:=b3) (by omega) f (by omega) (by omega) (by omega) (by omega) (by omega) (by omega) (by omega);right;right;left;rw [pM hd (by omega),hd];exact⟨rfl,by omega,by omega,by omega,by omega,by omega,by omega,by omega,by omega⟩
 by_cases e:n<4∨b1<128∨191<b1∨b2<128∨191<b2∨b3<128∨191<b3
 .exact absurd (ez (yO (by omega) (by omega) (by omega) (by omega) (by omega) e)) h0
 .by_cases g:b0%8*262144+b1%64*4096+b2%64*64+b3%64<65536∨1114111<b0%8*262144+b1%64*4096+b2%64*64+b3%64
  .exact absurd (ez (Hh (by omega) (by omega) g)) h0
  .have hd:=Hj (n:=n) (b0:=b0) (b1:=b1) (b2:=b2) (b3:=b3) (by omega) (by omega) (by omega) (by omega) (by omega) (by omega) (by omega) (by omega) (by omega) (by omega) (by omega);right;right;right;rw [pM hd (by omega),hd];exact⟨rfl,by omega,by omega,by omega,by omega,by omega,by omega,by omega,by omega,by omega,by omega⟩
theorem amE(s:ByteArray)(w:World)(c0:UInt8)(h0:0<s.size)(_hs:s.size<=10000)(e0:s[0]'h0=c0)(_p0:(224:Int)<=(c0.toNat:Int))(_p1:(c0.toNat:Int)<240)(_p2:(s.size:Int)<3):
  Calls prog 112 #[.string s] w fun e w'=>e= .returned (.int .i64 0)/\w'=w:=by
 go_enter func112,ntmps112;go_wp2;go_ret;exact⟨rfl,rfl⟩
theorem amy(s:ByteArray)(w:World)(c0 c1:UInt8)(h0:0<s.size)(h1:1<s.size)(_hs:s.size<=10000)(e0:s[0]'h0=c0)(e1:s[1]'h1=c1)(_p0:(224:Int)<=(c0.toNat:Int))(_p1:(c0.toNat:Int)<240)(_p2:(3:Int)<=(s.size:Int))(_p3:(c1.toNat:Int)<128):
  Calls prog 112 #[.string s] w fun e w'=>e= .returned (.int .i64 0)/\w'=w:=by
 have ha:bits .and .i64 (c0.toNat:Int) 15=((c0.toNat%16:Nat):Int):=Aa ⟨c0.toNat,c0.toNat_lt⟩;go_enter func112,ntmps112;go_wp2;refine dw 1 ?_;rw [aY];go_wp2;go_ret;exact⟨rfl,rfl⟩
theorem ams(s:ByteArray)(w:World)(c0 c1:UInt8)(h0:0<s.size)(h1:1<s.size)(_hs:s.size<=10000)(e0:s[0]'h0=c0)(e1:s[1]'h1=c1)(_p0:(224:Int)<=(c0.toNat:Int))(_p1:(c0.toNat:Int)<240)(_p2:(3:Int)<=(s.size:Int))(_p3:(191:Int)<(c1.toNat:Int)):
  Calls prog 112 #[.string s] w fun e w'=>e= .returned (.int .i64 0)/\w'=w:=by
 have ha:bits .and .i64 (c0.toNat:Int) 15=((c0.toNat%16:Nat):Int):=Aa ⟨c0.toNat,c0.toNat_lt⟩;go_enter func112,ntmps112;go_wp2;refine dw 1 ?_;rw [aY];go_wp2;go_ret;exact⟨rfl,rfl⟩
theorem amz(s:ByteArray)(w:World)(c0 c1 c2:UInt8)(h0:0<s.size)(h1:1<s.size)(h2:2<s.size)(_hs:s.size<=10000)(e0:s[0]'h0=c0)(e1:s[1]'h1=c1)(e2:s[2]'h2=c2)(_p0:(224:Int)<=(c0.toNat:Int))(_p1:(c0.toNat:Int)<240)(_p2:(3:Int)<=(s.size:Int))(_p3:(128:Int)<=(c1.toNat:Int))(_p4:(c1.toNat:Int)<=191)(_p5:(c2.toNat:Int)<128):
  Calls prog 112 #[.string s] w fun e w'=>e= .returned (.int .i64 0)/\w'=w:=by
 have ha:bits .and .i64 (c0.toNat:Int) 15=((c0.toNat%16:Nat):Int):=Aa ⟨c0.toNat,c0.toNat_lt⟩;go_enter func112,ntmps112;go_wp2;refine dw 2 ?_;rw [aY];go_wp2;rw [aY];go_wp2;go_ret;exact⟨rfl,rfl⟩
theorem amt(s:ByteArray)(w:World)(c0 c1 c2:UInt8)(h0:0<s.size)(h1:1<s.size)(h2:2<s.size)(_hs:s.size<=10000)(e0:s[0]'h0=c0)(e1:s[1]'h1=c1)(e2:s[2]'h2=c2)(_p0:(224:Int)<=(c0.toNat:Int))(_p1:(c0.toNat:Int)<240)(_p2:(3:Int)<=(s.size:Int))(_p3:(128:Int)<=(c1.toNat:Int))(_p4:(c1.toNat:Int)<=191)(_p5:(191:Int)<(c2.toNat:Int)):
  Calls prog 112 #[.string s] w fun e w'=>e= .returned (.int .i64 0)/\w'=w:=by
 have ha:bits .and .i64 (c0.toNat:Int) 15=((c0.toNat%16:Nat):Int):=Aa ⟨c0.toNat,c0.toNat_lt⟩;go_enter func112,ntmps112;go_wp2;refine dw 2 ?_;rw [aY];go_wp2;rw [aY];go_wp2;go_ret;exact⟨rfl,rfl⟩
theorem amI(s:ByteArray)(w:World)(c0 c1 c2:UInt8)(h0:0<s.size)(h1:1<s.size)(h2:2<s.size)(_hs:s.size<=10000)(e0:s[0]'h0=c0)(e1:s[1]'h1=c1)(e2:s[2]'h2=c2)(_p0:(224:Int)<=(c0.toNat:Int))(_p1:(c0.toNat:Int)<240)(_p2:(3:Int)<=(s.size:Int))(_p3:(128:Int)<=(c1.toNat:Int))(_p4:(c1.toNat:Int)<=191)(_p5:(128:Int)<=(c2.toNat:Int))(_p6:(c2.toNat:Int)<=191)(_p7:64*(64*((c0.toNat:Int)%16)+(c1.toNat:Int) - 128)+(c2.toNat:Int) - 128<2048):
  Calls prog 112 #[.string s] w fun e w'=>e= .returned (.int .i64 0)/\w'=w:=by
 have ha:bits .and .i64 (c0.toNat:Int) 15=((c0.toNat%16:Nat):Int):=Aa ⟨c0.toNat,c0.toNat_lt⟩;go_enter func112,ntmps112;go_wp2;refine dw 3 ?_;rw [aY];go_wp2;rw [aY];go_wp2;rw [aY];go_wp2;go_ret;exact⟨rfl,rfl⟩
theorem amJ(s:ByteArray)(w:World)(c0 c1 c2:UInt8)(h0:0<s.size)(h1:1<s.size)(h2:2<s.size)(_hs:s.size<=10000)(e0:s[0]'h0=c0)(e1:s[1]'h1=c1)(e2:s[2]'h2=c2)(_p0:(224:Int)<=(c0.toNat:Int))(_p1:(c0.toNat:Int)<240)(_p2:(3:Int)<=(s.size:Int))(_p3:(128:Int)<=(c1.toNat:Int))(_p4:(c1.toNat:Int)<=191)(_p5:(128:Int)<=(c2.toNat:Int))(_p6:(c2.toNat:Int)<=191)(_p7:(55296:Int)<=64*(64*((c0.toNat:Int)%16)+(c1.toNat:Int) - 128)+(c2.toNat:Int) - 128)(_p8:64*(64*((c0.toNat:Int)%16)+(c1.toNat:Int) - 128)+(c2.toNat:Int) - 128<=57343):
  Calls prog 112 #[.string s] w fun e w'=>e= .returned (.int .i64 0)/\w'=w:=by
 have ha:bits .and .i64 (c0.toNat:Int) 15=((c0.toNat%16:Nat):Int):=Aa ⟨c0.toNat,c0.toNat_lt⟩;go_enter func112,ntmps112;go_wp2;refine dw 3 ?_;rw [aY];go_wp2;rw [aY];go_wp2;rw [aY];go_wp2;go_ret;exact⟨rfl,rfl⟩
theorem amG(s:ByteArray)(w:World)(c0 c1 c2:UInt8)(h0:0<s.size)(h1:1<s.size)(h2:2<s.size)(_hs:s.size<=10000)(e0:s[0]'h0=c0)(e1:s[1]'h1=c1)(e2:s[2]'h2=c2)(_p0:(224:Int)<=(c0.toNat:Int))(_p1:(c0.toNat:Int)<240)(_p2:(3:Int)<=(s.size:Int))(_p3:(128:Int)<=(c1.toNat:Int))(_p4:(c1.toNat:Int)<=191)(_p5:(128:Int)<=(c2.toNat:Int))(_p6:(c2.toNat:Int)<=191)(_p7:(2048:Int)<=64*(64*((c0.toNat:Int)%16)+(c1.toNat:Int) - 128)+(c2.toNat:Int) - 128)(_p8:64*(64*((c0.toNat:Int)%16)+(c1.toNat:Int) - 128)+(c2.toNat:Int) - 128<55296):
  Calls prog 112 #[.string s] w fun e w'=>e= .returned (.int .i64 3)/\w'=w:=by
 have ha:bits .and .i64 (c0.toNat:Int) 15=((c0.toNat%16:Nat):Int):=Aa ⟨c0.toNat,c0.toNat_lt⟩;go_enter func112,ntmps112;go_wp2;refine dw 3 ?_;rw [aY];go_wp2;rw [aY];go_wp2;rw [aY];go_wp2;go_ret;exact⟨rfl,rfl⟩
theorem amH(s:ByteArray)(w:World)(c0 c1 c2:UInt8)(h0:0<s.size)(h1:1<s.size)(h2:2<s.size)(_hs:s.size<=10000)(e0:s[0]'h0=c0)(e1:s[1]'h1=c1)(e2:s[2]'h2=c2)(_p0:(224:Int)<=(c0.toNat:Int))(_p1:(c0.toNat:Int)<240)(_p2:(3:Int)<=(s.size:Int))(_p3:(128:Int)<=(c1.toNat:Int))(_p4:(c1.toNat:Int)<=191)(_p5:(128:Int)<=(c2.toNat:Int))(_p6:(c2.toNat:Int)<=191)(_p7:(57343:Int)<64*(64*((c0.toNat:Int)%16)+(c1.toNat:Int) - 128)+(c2.toNat:Int) - 128):
  Calls prog 112 #[.string s] w fun e w'=>e= .returned (.int .i64 3)/\w'=w:=by
 have ha:bits .and .i64 (c0.toNat:Int) 15=((c0.toNat%16:Nat):Int):=Aa ⟨c0.toNat,c0.toNat_lt⟩;go_enter func112,ntmps112;go_wp2;refine dw 3 ?_;rw [aY];go_wp2;rw [aY];go_wp2;rw [aY];go_wp2;go_ret;exact⟨rfl,rfl⟩
