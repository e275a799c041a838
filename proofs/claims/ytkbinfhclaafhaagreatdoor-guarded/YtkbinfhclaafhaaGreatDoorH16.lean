import Derived.Test.YtkbinfhclaafhaaGreatDoorH12
import Derived.Test.YtkbinfhclaafhaaGreatDoorH07
import Derived.Test.YtkbinfhclaafhaaGreatDoorH15
import Derived.Test.YtkbinfhclaafhaaGreatDoorH06
import Derived.Test.YtkbinfhclaafhaaGreatDoorH09
import Derived.ChangeKeysEq
import Derived.Deep.RegionHeld3
import Derived.Deep.DrawnRows
import Derived.Test.YtkbinfhclaafhaaGreatDoorH14
import Derived.Test.YtkbinfhclaafhaaGreatDoorH01
import Derived.Lib.TrimU
import Derived.Laws.BitsAllLaws
import Derived.Lib.Strings
import Derived.Lib.IndexBytes
namespace Go.Proofs.YtkbinfhclaafhaaGreatDoor
open Go.RowKit
open Go.Proofs.Tryz
set_option maxRecDepth 100000
set_option maxHeartbeats 32000000
def I8(aa:Int)(t:List Int):List Int:=pass f7 g7 aa (pass f6 g3 () (pass f5 g5 none (pass f4 g4 none (pass f3 g3 () (pass f2 g2 aa (pass (f1 aa) (g1 aa) none t))))))
def E8(rs kinds:List Int)(s:Sq):List Int:=
 pass (wR (s.level%2)) g3 () (pass (fM s.aj) gM s.aa (uu (I8 s.aa (aV kinds s.at')) (aV kinds s.at') (yY (I8 s.aa (aV kinds s.at')) (aV rs s.at')) (s.level%2) s.aa))
theorem ajO {aa:Int}(hs:aa=0∨aa=1){t:List Int}(ht:∀c∈t,K0 c):I8 aa t=xM aa t:=by
 unfold I8 xM;rw [Yf,Yg,NH];intro c hc;have:=(aak hs ht).1 c hc;unfold Cl at this;omega
theorem Xh {e aa:Int}(he:e=0∨e=1)(hs:aa=0∨aa=1)(orig:List Int):∀(ps:List (Nat×Nat))(t:List Int),uu t orig ps e aa=xu t orig ps e aa
 |[],_=>rfl
 |p::ps,t=>by
  have:=Xh he hs orig ps (vJ t orig p e aa);unfold uu xu at this ⊢;rw [List.foldl_cons,List.foldl_cons,agY he hs,this]
theorem mem_set {l:List Int}{k:Nat}{v c:Int}(h:c∈l.set k v):c∈l∨c=v:=by
 rcases List.mem_or_eq_of_mem_set h with h|h
 .exact .inl h
 .exact .inr h
theorem Nq {t:List Int}{k:Nat}{v c:Int}:∀m,c∈dI t k v m->c∈t∨c=v
 |0,h=> .inl h
 |m+1,h=>by
  rcases mem_set h with h|h
  .exact Nq m h
  .exact .inr h
theorem agT {t:List Int}{p:Nat×Nat}{e aa:Int}(he:e=0∨e=1)(hs:aa=0∨aa=1):xB t p e aa=0∨xB t p e aa=1:=by
 unfold xB;split
 .exact he
 .exact M4 hs t p.1
theorem agW {P:Int->Prop}(h0:P 0)(h1:P 1){t orig:List Int}{p:Nat×Nat}{e aa:Int}(he:e=0∨e=1)(hs:aa=0∨aa=1)(ht:∀c∈t,P c):∀c∈vJ t orig p e aa,P c:=by
 intro c hc;have hd:=agT (t:=t) (p:=p) he hs;have hP:∀x,x=xB t p e aa->P x:=fun x hx=>by rcases hd with h|h<;>rw [hx,h]<;>assumption
 unfold vJ at hc;split at hc
 .exact ht c hc
 .rcases Nq _ hc with hc|hc
  .rcases Nq _ hc with hc|hc
   .exact ht c hc
   .exact hP c hc
  .exact hP c hc
theorem Xf {P:Int->Prop}(h0:P 0)(h1:P 1){orig:List Int}{e aa:Int}(he:e=0∨e=1)(hs:aa=0∨aa=1):∀(ps:List (Nat×Nat))(t:List Int),(∀c∈t,P c)->∀c∈xu t orig ps e aa,P c
 |[],_,ht=>ht
 |p::ps,t,ht=>by
  have:=Xf h0 h1 (orig:=orig) he hs ps (vJ t orig p e aa) (agW h0 h1 he hs ht);unfold xu at this ⊢;rw [List.foldl_cons];exact this
theorem aiM {rs kinds:List Int}{s:Sq}(hs:s.aa=0∨s.aa=1)(he:s.aj=0∨s.aj=1)(hk:∀c∈aV kinds s.at',K0 c):E8 rs kinds s=Az rs kinds s:=by
 have h2:s.level%2=0∨s.level%2=1:=by omega
 unfold E8 Az;rw [ajO hs hk,Xh h2 hs,Yj,Nz he _ _ hs]
 .rfl
 .exact Xf (by simp [Cl]) (by simp [Cl]) h2 hs _ _ (aak hs hk).2
def oJ(st:List aO):Prop:=∀e∈st,e.o<=1
theorem oJ.app {st:List aO}{e:aO}(h:oJ st)(he:e.o<=1):oJ (st++[e]):=fun y hy=>by
 rcases List.mem_append.1 hy with hy|hy
 .exact h y hy
 .rw [List.mem_singleton.1 hy];exact he
theorem oJ.sub {st st':List aO}(h:oJ st)(hs:∀e∈st',e∈st):oJ st':=fun e he=>h e (hs e he)
theorem oJ.pre {x:XS}(h:oJ x.st)(c:Int):oJ (dK x c).st:=by
 unfold dK;split
 .unfold nC;split
  .exact h
  .split
   .exact h
   .exact h.sub (Od _)
 .exact h
theorem oJ.post {x:XS}(h:oJ x.st)(cs:List Int)(i:Nat)(c:Int):oJ (gK cs i x c).st:=by
 have hb:∀odd,oJ (jT x odd).st:=fun odd=>by
  unfold jT;simp only;split
  .exact h.app (by simp)
  .exact h
 unfold gK;split
 .have ho:(if c=15 then(0:Int)else if c=16 then 1 else -1)<=1:=by
   split
   .decide
   .split<;>decide
  unfold nW;simp only;generalize(if c=15 then(0:Int)else if c=16 then 1 else -1)=o at*;generalize iD (aS x.st).l _=n;split
  .exact h.app ho
  .split<;>exact h
 .split
  .exact hb _
  .split
   .exact hb _
   .split
    .exact hb _
    .split
     .unfold uC;split
      .exact h
      .split
       .exact h
       .split
        .exact h.sub fun e he=>List.dropLast_subset _ he
        .exact h
     .exact h
theorem aar(cs:List Int)(para:Int):∀i,oJ (dZ cs para i).st
 |0=>by intro e he;rw [dZ]at he;rw [List.mem_singleton.1 he];show(-1:Int)<=1;decide
 |i+1=>by rw [dZ];exact((aar cs para i).pre _).post cs i _
theorem ajW(cs:List Int)(para:Int)(hp:0<=para/\para<=125)(i:Nat):(iJ cs para i).o<=1:=
 ((aar cs para i).pre _) _ (IZ ((vT cs para hp i).pre _).ne)
theorem Jd(cs:List Int)(para:Int)(hp:0<=para/\para<=125)(i:Nat):0<=(iJ cs para i).l/\(iJ cs para i).l<=125:=
 ((vT cs para hp i).pre _).top.2
theorem Jc {cs:List Int}{para:Int}(hp:0<=para/\para<=125)(i:Nat):0<=(aH cs para).getD i 0/\(aH cs para).getD i 0<=125:=by
 rcases Nat.lt_or_ge i cs.length with h|h
 .rw [aH,sj _ _ _ _ h];exact Jd cs para hp i
 .rw [List.getD_eq_getElem?_getD,List.getElem?_eq_none (by simp [aH];exact h)];simp
theorem Pt(cs:List Int)(para:Int):(aH cs para).length=cs.length:=by simp [aH]
theorem Hw {cs:List Int}{p:Nat}(h:jW (aD cs) p=true):p<cs.length/\dm (cs.getD p 0)=true:=by
 unfold jW aD at h;rw [List.getD_eq_getElem?_getD,List.getElem?_map]at h;rcases Nat.lt_or_ge p cs.length with hp|hp
 .rw [List.getElem?_eq_getElem hp]at h;refine⟨hp,?_⟩;rw [List.getD_eq_getElem?_getD,List.getElem?_eq_getElem hp];exact h
 .rw [List.getElem?_eq_none hp]at h;cases h
theorem aff {cs:List Int}(hcs:∀c∈cs,0<=c/\c<=21){para:Int}(hp:0<=para/\para<=125){p:Nat}(h:jW (aD cs) p=true):K0 ((iX cs para).getD p 0):=by
 obtain⟨hlt,hl⟩:=Hw h;have hc:=hcs _ (dB (d:=0) hlt);rw [iX,sj _ _ _ _ hlt,kindOf];have hu:=ajW cs para hp p;generalize cs.getD p 0=c at*;unfold K0;split
 .omega
 .unfold dm at hl;simp at hl;omega
theorem Po(cs:List Int)(para:Int):kD cs.length (eZ (aH cs para) (aD cs)):=by
 have h:=Cq (aH cs para) (aD cs);refine⟨h.2.1,fun r hr p hp=> ?_,Y8 _ _⟩;have:=(Cn hr hp).1
 rwa [Pt]at this
theorem KH {cs:List Int}{para:Int}:∀(f:Nat)(r:List Nat),(∀p∈r,jW (aD cs) p=true)->∀p∈bP cs (eZ (aH cs para) (aD cs)) f r,jW (aD cs) p=true
 |0,r,h=>h
 |f+1,r,h=>by
  rw [bP];cases hk:fT cs (eZ (aH cs para) (aD cs)) (r.getLastD 0)with
  |none=>exact h
  |some k=>
   refine KH f _ fun p hp=> ?_
   rcases List.mem_append.1 hp with hp|hp
   .exact h p hp
   .exact(Cn (dB (NB hk).1) hp).2
theorem af4 {cs:List Int}{para:Int}(hp:0<=para/\para<=125):∀i,i<cs.length->aG (cs.getD i 0)=true->mt cs i<cs.length->(aH cs para).getD (mt cs i) 0=(aH cs para).getD i 0:=by
 intro i hi bG hm;rw [aH,sj _ _ _ _ hi,sj _ _ _ _ hm,(Xd hp hi bG hm).1]
theorem Zl(a b:Int):mO a b=0∨mO a b=1:=by
 unfold mO;generalize(if a<b then b else a)=m;split
 .exact .inr rfl
 .exact .inl rfl
section
variable{cs:List Int}{para:Int}
theorem EZ(hcs:∀c∈cs,0<=c/\c<=21)(hp:0<=para/\para<=125){s:Sq}(hs:s∈iV cs (aH cs para) (aD cs) para):
  (s.aa=0∨s.aa=1)/\(s.aj=0∨s.aj=1)/\aV (kP cs para) s.at'=aV (iX cs para) s.at'/\(∀c∈aV (iX cs para) s.at',K0 c)/\∀p∈s.at',p<cs.length/\(aH cs para).getD p 0=s.level:=by
 unfold iV at hs;obtain⟨r,hr,rfl⟩:=List.mem_map.1 hs;have hr':=(List.mem_filter.1 hr).1;have hl:∀p∈bP cs (eZ (aH cs para) (aD cs)) cs.length r,jW (aD cs) p=true:=KH _ _ fun p hp=>(Cn hr' hp).2
 refine⟨Zl _ _,Zl _ _,?_,?_,?_⟩
 .refine List.map_congr_left fun p hp'=> ?_
  obtain⟨h1,h2⟩:=Hw (hl p hp');exact afd hp h1 h2
 .intro c hc;obtain⟨p,hp',rfl⟩:=List.mem_map.1 hc;exact aff hcs hp (hl p hp')
 .exact abR (Po cs para) (Cq _ _).2.2 (af4 hp) hr'
def kQ(rs kinds:List Int)(s:Sq):List (Nat×Int×Int):=lD s.at' s.level (E8 rs kinds s)
theorem Ch {σ:Type}{f:σ->Int->List Int->Int}{g:σ->Int->List Int->σ}(s:σ)(t:List Int):(pass f g s t).length=t.length:=Yi t s
theorem Zo(rs kinds:List Int)(s:Sq):(Az rs kinds s).length=s.at'.length:=by
 unfold Az Et;rw [Ch,Xg];unfold xM;have hn:∀(a b:Int)(t:List Int)(l:Int),(jA a b l t).length=t.length:=fun a b t=>by
  induction t with
  |nil=>intro l;rfl
  |cons c r ih=>intro l;rw [jA,List.length_cons,ih,List.length_cons]
 rw [hn,Ch,Ch,Ch,Ch,hn,Ch];simp [aV]
theorem O3 {at':List Nat}{ah:Int}{t:List Int}{x:Nat×Int×Int}(h:x∈lD at' ah t):x.1∈at'/\x.2.1=ah/\x.2.2∈t:=by
 unfold lD at h;obtain⟨y,hy,rfl⟩:=List.mem_map.1 h;obtain⟨a,b⟩:=y;exact⟨(List.of_mem_zip hy).1,rfl,(List.of_mem_zip hy).2⟩
theorem ZV(rs kinds:List Int):∀ss:List Sq,(ss.flatMap (vO rs kinds)).map Prod.fst=ss.flatMap Sq.at'
 |[]=>rfl
 |s::ss=>by
  rw [List.flatMap_cons,List.flatMap_cons,List.map_append,ZV rs kinds ss,vO,ZT _ _ _ (by rw [Zo];exact Nat.le_refl _)]
theorem OO {P:Int->Prop}:∀(xs:List (Nat×Int×Int))(l:List Int),(∀x∈xs,P (um x.2.2 x.2.1))->(∀o∈l,P o)->∀o∈xs.foldl mM l,P o
 |[],_,_,h=>h
 |x::xs,l,hx,h=>by
  rw [List.foldl_cons];refine OO xs _ (fun y hy=>hx y (by simp [hy])) fun o ho=> ?_
  rcases mem_set ho with ho|ho
  .exact h o ho
  .rw [ho];exact hx x (by simp)
theorem aeJ {c l:Int}:l<=um c l/\um c l<=l+2:=by
 unfold um;split
 .split
  .omega
  .split<;>omega
 .split<;>omega
theorem ZR(hcs:∀c∈cs,0<=c/\c<=21)(rs:List Int)(hp:0<=para/\para<=125):∀s∈iV cs (aH cs para) (aD cs) para,kQ rs (kP cs para) s=vO rs (iX cs para) s:=fun s hs=>by
 obtain⟨a1,a2,a3,a4,_⟩:=EZ hcs hp hs;unfold kQ vO;rw [<-aiM a1 a2 a4];unfold E8;rw [a3]
theorem OI(cs:List Int)(para:Int):((iV cs (aH cs para) (aD cs) para).flatMap Sq.at').Nodup:=by
 have:=Zd (Po cs para) cs.length;unfold iV;rw [List.flatMap_def,List.map_map]at*;exact this
theorem Q6:∀(xs:List (Nat×Int×Int))(l:List Int)(p:Nat),p ∉ xs.map Prod.fst->(xs.foldl fE l).getD p 0=l.getD p 0
 |[],_,_,_=>rfl
 |x::xs,l,p,h=>by
  rw [List.map_cons,List.mem_cons,not_or]at h;rw [List.foldl_cons,Q6 xs _ p h.2];exact getD_set_ne (fun e=>h.1 e.symm) _
theorem ahU(l c:Int):0<=fV l c/\fV l c<=2:=by
 unfold fV;split
 .omega
 .split<;>omega
theorem Q5:∀(xs:List (Nat×Int×Int))(l:List Int),(xs.map Prod.fst).Nodup->∀p,l.getD p 0<=(xs.foldl fE l).getD p 0/\(xs.foldl fE l).getD p 0<=l.getD p 0+2
 |[],l,_,p=>by simp only [List.foldl_nil];omega
 |x::xs,l,hn,p=>by
  rw [List.map_cons,List.nodup_cons]at hn;rw [List.foldl_cons];by_cases hx:x.1=p
  .rw [Q6 xs _ p (by rw [<-hx];exact hn.1)];have hr:=ahU x.2.1 x.2.2;rcases Nat.lt_or_ge p l.length with h|h
   .unfold fE;rw [hx,tV h];omega
   .have:(fE l x).getD p 0=l.getD p 0:=by
     have e1:∀k:List Int,k.length<=p->k.getD p 0=0:=fun k hk=>by rw [List.getD_eq_getElem?_getD,List.getElem?_eq_none hk];rfl
     rw [e1 _ (by simpa [fE]using h),e1 _ h]
    omega
  .have:=Q5 xs (fE l x) hn.2 p;have e:(fE l x).getD p 0=l.getD p 0:=getD_set_ne hx _;omega
theorem ZU(hcs:∀c∈cs,0<=c/\c<=21)(rs:List Int)(hp:0<=para/\para<=125):∀ss:List Sq,(∀s∈ss,s∈iV cs (aH cs para) (aD cs) para)->(ss.flatMap (kQ rs (kP cs para))).map Prod.fst=ss.flatMap Sq.at'
 |[],_=>rfl
 |s::ss,h=>by
  rw [List.flatMap_cons,List.flatMap_cons,List.map_append,ZU hcs rs hp ss (fun x hx=>h x (by simp [hx])),ZR hcs rs hp s (h s (by simp)),vO,ZT _ _ _ (by rw [Zo];exact Nat.le_refl _)]
theorem ai1 {α:Type}:∀{a b:List (List α)},a.Sublist b->a.flatten.Sublist b.flatten:=by
 intro a b h
 induction h with
 |slnil=>exact List.Sublist.refl _
 |cons x _ ih=>rw [List.flatten_cons];exact ih.trans (List.sublist_append_right _ _)
 |cons_cons x _ ih=>rw [List.flatten_cons,List.flatten_cons];exact(List.append_sublist_append_left x).2 ih
theorem aha(hcs:∀c∈cs,0<=c/\c<=21)(rs:List Int)(hp:0<=para/\para<=125)(ss:List Sq)(hss:ss.Sublist (iV cs (aH cs para) (aD cs) para))(p:Nat):
  0<=((ss.flatMap (kQ rs (kP cs para))).foldl fE (aH cs para)).getD p 0/\((ss.flatMap (kQ rs (kP cs para))).foldl fE (aH cs para)).getD p 0<=127:=by
 have h1:((ss.flatMap (kQ rs (kP cs para))).map Prod.fst).Nodup:=by
  rw [ZU hcs rs hp ss (fun s hs=>hss.subset hs)];exact(OI cs para).sublist (by rw [List.flatMap_def,List.flatMap_def];exact ai1 (hss.map Sq.at'))
 have h2:=Q5 _ (aH cs para) h1 p;have h3:=Jc (cs:=cs) hp p;omega
theorem afy(hcs:∀c∈cs,0<=c/\c<=21)(rs:List Int)(d:Int)(hpd:para=dO cs d)(hp:0<=para/\para<=125):
  tT para (l1 para cs (((iV cs (aH cs para) (aD cs) para).flatMap (kQ rs (kP cs para))).foldl fE (aH cs para)))=gB rs cs d:=by
 have h1:(iV cs (aH cs para) (aD cs) para).flatMap (kQ rs (kP cs para))=(iV cs (aH cs para) (aD cs) para).flatMap (vO rs (iX cs para)):=by
  rw [List.flatMap_def,List.flatMap_def,List.map_congr_left (ZR hcs rs hp)]
 rw [h1];have h2:(((iV cs (aH cs para) (aD cs) para).flatMap (vO rs (iX cs para))).map Prod.fst).Nodup:=by
  rw [ZV];exact OI cs para
 have h3:∀x∈(iV cs (aH cs para) (aD cs) para).flatMap (vO rs (iX cs para)),(aH cs para).getD x.1 0=x.2.1/\(x.2.2=0∨x.2.2=1∨x.2.2=3∨x.2.2=6):=fun x hx=>by
  obtain⟨s,hs,hx⟩:=List.mem_flatMap.1 hx;obtain⟨a1,a2,a3,a4,a5⟩:=EZ hcs hp hs;obtain⟨b1,b2,b3⟩:=O3 hx;refine⟨by rw [b2];exact(a5 _ b1).2,?_⟩;exact agi a1 (by omega) _ b3
 rw [Q7 _ _ h2 h3,Ty (by omega)]
 .unfold gB;rw [<-hpd]
 .refine OO (P:=fun o=>o≠ -1) _ _ (fun x hx=> ?_) fun o ho=> ?_
  .have:=(h3 x hx).1;have h4:=Jc (cs:=cs) hp x.1;have:=aeJ (c:=x.2.2) (l:=x.2.1);omega
  .obtain⟨i,_,rfl⟩:=List.mem_map.1 (show o∈(List.range cs.length).map fun i=>(iJ cs para i).l from ho);have:=Jd cs para hp i;omega
end
theorem Tryz.aeO:(prog.info? 108).map (fun i=>(i.zero,i.size,i.bytes))=some (some (.int .i64 0),1,8):=by kernel_rfl
theorem Tryz.abK:prog.cellsOf 108=1:=by kernel_rfl
theorem Tryz.ajz:prog.underlying 263=some (.array 3 108):=by kernel_rfl
theorem Tryz.X8(a b c:Int)(w:World):(part 108 #[.int .i64 a,.int .i64 b,.int .i64 c] 0).run prog w= .ok (.int .i64 a) w/\(part 108 #[.int .i64 a,.int .i64 b,.int .i64 c] 1).run prog w= .ok (.int .i64 b) w/\(part 108 #[.int .i64 a,.int .i64 b,.int .i64 c] 2).run prog w= .ok (.int .i64 c) w:=⟨by kernel_rfl,by kernel_rfl,by kernel_rfl⟩
theorem Tryz.acX(a b c x y z:Int)(w:World):(Op.equalIn 10000 263 (.agg #[.int .i64 a,.int .i64 b,.int .i64 c]) (.agg #[.int .i64 x,.int .i64 y,.int .i64 z])).run prog w= .ok (a==x&&(b==y&&c==z)) w:=by
 obtain⟨i,hi,_⟩:=info_parts Tryz.aeO;have r:∀(p q:Int)(w:World),(Op.equalIn 9999 108 (.int .i64 p) (.int .i64 q)).run prog w= .ok (p==q) w:=fun p q w=>run_equalIn_int w 9998 108 .i64 .i64 p q underlying108
 have e:List.range 3=[0,1,2]:=rfl;obtain⟨p1,p2,p3⟩:=Tryz.X8 a b c w;obtain⟨q1,q2,q3⟩:=Tryz.X8 x y z w;rw [run_equalIn_array w 9999 _ _ Tryz.ajz hi,e,Tryz.abK];cases h1:(a==x)<;>cases h2:(b==y)<;>cases h3:(c==z)<;>simp [Op.eqItems,p1,p2,p3,q1,q2,q3,r,h1,h2,h3]
theorem ajF(w:World)(B sb gc n cc:Nat)(pv rv bv:Value)(ah aa aj:Int)(t:List Int)(h:aA w B sb gc n cc pv rv bv ah aa aj t)(hn:n<=1000)(h1n:0<n):
  Calls prog 147 #[.pointer (some ⟨sb,0,none⟩)] w fun e w'=>e= .returned (.tuple #[])/\aA w' B sb gc n cc pv rv bv ah aa aj (pass f4 g4 none t)/\w.grownBy w' (some gc):=by
 have cK:Hid (aA w B sb gc n cc pv rv bv ah aa aj t):=h;have HL:Hid (t.length=n):=h.len;have HE:=Tryz.acX;clear h;go_enter func147,ntmps147;go_wp2;go_loopg [2] (n - 1) (fun gk iv wr=>∃(k:Nat)(a:Int)(t':List Int),k+1<=n/\gk=n - (k+1)/\iv= .int .i64 ((k:Int)+1)/\aA wr B sb gc n cc pv rv bv ah aa aj t'/\w.grownBy wr (some gc)/\bz f4 g4 none t (k+1) (some a) t'/\a=t'.getD k 0);case atStart=>exact⟨0,t.getD 0 0,t,by omega,by omega,by simp,cK.out,World.grownBy.refl _ _,ahg (by rw [HL.out];exact h1n),rfl⟩
 case round=>
  clear cK;obtain⟨k,a,t',hk,GY,rfl,hS,hG,hN,ha⟩:=hrel;by_cases hlt:k+1+1<n
  .have c0:=hS.at k (by omega);have c1:=hS.at (k+1) (by omega);have cn:=hS.at (k+1+1) (by omega);rw [<-ha]at c0;rw [hN.at (k+1) (Nat.le_refl _)]at c1;rw [hN.at (k+1+1) (by omega)]at cn;have c2:=hS.f2;obtain⟨i1,hi1⟩:∃i1,i1=(k:Int)+1:=⟨_,rfl⟩
   rw [<-hi1];have d0:wr.cell? ⟨gc,i1.toNat - 1,none⟩=some (.int .i64 a):=by rw [show i1.toNat - 1=k by omega];exact c0
   have d1:wr.cell? ⟨gc,i1.toNat,none⟩=some (.int .i64 (t.getD (k+1) 0)):=by rw [show i1.toNat=k+1 by omega];exact c1
   have dn:wr.cell? ⟨gc,(i1+1).toNat,none⟩=some (.int .i64 (t.getD (k+1+1) 0)):=by rw [show(i1+1).toNat=k+1+1 by omega];exact cn
   clear c0 c1 cn;have hk0:(0:Int)<=i1 - 1:=by omega
   have hk1:(0:Int)<=i1:=by omega
   have hk3:(1:Int)<=i1:=by omega
   have hk4:i1<=(n:Int):=by omega
   have hk5:(0:Int)<i1:=by omega
   have hk2:(0:Int)<=i1+1:=by omega
   have hkn:i1+1<(n:Int):=by omega
   have hkn2:i1<(n:Int):=by omega
   have hkm:i1 - 1<(n:Int):=by omega
   have hw1:IntKind.i64.wrap (i1 - 1)=i1 - 1:=IntWalk.i64_in _ ⟨by omega,by omega⟩;have hw2:IntKind.i64.wrap (i1+1)=i1+1:=IntWalk.i64_in _ ⟨by omega,by omega⟩;have HI:Hid (i1=(k:Int)+1):=hi1;have hd:t.drop (k+1+1)=t.getD (k+1+1) 0::t.drop (k+1+2):=drop_at (by rw [HL.out];omega);have htl:=hS.len;have HS:Hid (aA wr B sb gc n cc pv rv bv ah aa aj t'):=hS;have HG:Hid (w.grownBy wr (some gc)):=hG;have hat:=hN.at (k+1) (Nat.le_refl _);have bQ:f4 (some a) (t.getD (k+1) 0) (t.drop (k+1+1))=t.getD (k+1) 0->Hid (bz f4 g4 none t (k+1+1) (some (t.getD (k+1) 0)) t'):=fun h1=>hN.stay (by rw [HL.out];omega) _ h1.symm (by rw [g4,h1])
   have bY:∀v,f4 (some a) (t.getD (k+1) 0) (t.drop (k+1+1))=v->Hid (bz f4 g4 none t (k+1+1) (some v) (t'.set (k+1) v)/\v=(t'.set (k+1) v).getD (k+1) 0):=fun v h1=>⟨hN.step (by rw [HL.out];omega) v (some v) h1.symm (by rw [g4,h1]),by rw [tV (by rw [htl];omega)]⟩
   rw [hd,Lf]at bQ;have V7:∀v,(if a=t.getD (k+1+1) 0/\((t.getD (k+1) 0=4/\a=3)∨(t.getD (k+1) 0=7/\(a=3∨a=6)))then a else t.getD (k+1) 0)=v->Hid (bz f4 g4 none t (k+1+1) (some v) (t'.set (k+1) v)/\v=(t'.set (k+1) v).getD (k+1) 0):=fun v h1=>bY v (by rw [hd,Lf];exact h1)
   have uP:Hid (_):=bQ;have oz:Hid (_):=V7;have ji:Hid (t'.getD (k+1) 0=t.getD (k+1) 0):=hat;clear hS hG hN ha bY hd hat htl bQ V7;generalize t.getD (k+1) 0=c at*;generalize t.getD (k+1+1) 0=d at*;clear hi1;have e1:=World.new_ne wr _ c2;have e2:=World.new_ne wr _ d0;go_wp2
   go_region_held3 (fun w'=>w'.cell? ⟨sb,2,none⟩=some (.slice (some ⟨gc,0,none⟩) n cc)/\w'.cell? ⟨gc,i1.toNat - 1,none⟩=some (.int .i64 a)/\w'.cell? ⟨gc,i1.toNat,none⟩=some (.int .i64 c)/\w'.cell? ⟨gc,(i1+1).toNat,none⟩=some (.int .i64 d)) (go_keep) (fail)
   have hb5:Below wr.heap.size wr (wr.alloc (.cells #[.int .i64 a,.int .i64 c,.int .i64 d] 263)).drew:=((Below.refl _ _).alloc (Nat.le_refl _) _).drew;have lH:Hid (aA (wr.alloc (.cells #[.int .i64 a,.int .i64 c,.int .i64 d] 263)).drew B sb gc n cc pv rv bv ah aa aj t'):=HS.out.below hb5;have A7:Hid (w.grownBy (wr.alloc (.cells #[.int .i64 a,.int .i64 c,.int .i64 d] 263)).drew (some gc)):=HG.out.trans ⟨rfl,rfl,rfl,by simp,fun q hq _=>Below.heap_alloc wr _ q hq⟩;have b0:(wr.alloc (.cells #[.int .i64 a,.int .i64 c,.int .i64 d] 263)).drew.cell? ⟨wr.heap.size,0,none⟩=some (.int .i64 a):=by go_simp
   have b1:(wr.alloc (.cells #[.int .i64 a,.int .i64 c,.int .i64 d] 263)).drew.cell? ⟨wr.heap.size,1,none⟩=some (.int .i64 c):=by go_simp
   have b2:(wr.alloc (.cells #[.int .i64 a,.int .i64 c,.int .i64 d] 263)).drew.cell? ⟨wr.heap.size,2,none⟩=some (.int .i64 d):=by go_simp
   generalize(wr.alloc (.cells #[.int .i64 a,.int .i64 c,.int .i64 d] 263)).drew=W5 at*;generalize wr.heap.size=zb at*;clear d0 d1 dn c2 e1 e2 hb5 hk0 hk1 hk2 hk3 hk4 hk5 hkn hkn2 hkm hw1 hw2;have hi:=HI.out;subst hi;have hkn2:(k:Int)+1<(n:Int):=by omega
   have c2:=lH.out.f2;have ck:=lH.out.at (k+1) (by omega);have hfr:=lH.out.frozen (k+1);rw [ji.out]at ck;cases h1:(a==3&&(c==4&&d==3))
   .cases h2:(a==3&&(c==7&&d==3))
    .cases h3:(a==6&&(c==7&&d==6))
     .have HK:=uP.out (if_neg (by simp at h1 h2 h3;omega));clear uP oz;go_wp2;go_roundg (n - (k+1+1));case measure=>omega
      case rel=>exact⟨k+1,c,t',by omega,rfl,by go_num,lH.out,A7.out,HK.out,ji.out.symm⟩
     .have HK:=oz.out 6 (by simp at h3;rw [if_pos (by omega)];omega);clear uP oz;go_wp2;go_roundg (n - (k+1+1));case measure=>omega
      case rel=>exact⟨k+1,6,t'.set (k+1) 6,by omega,rfl,by go_num,lH.out.set (k+1) 6,A7.out.trans (lH.out.grown (k+1) 6),HK.out.1,HK.out.2⟩
    .have HK:=oz.out 3 (by simp at h2;rw [if_pos (by omega)];omega);clear uP oz;go_wp2;go_roundg (n - (k+1+1));case measure=>omega
     case rel=>exact⟨k+1,3,t'.set (k+1) 3,by omega,rfl,by go_num,lH.out.set (k+1) 3,A7.out.trans (lH.out.grown (k+1) 3),HK.out.1,HK.out.2⟩
   .have HK:=oz.out 3 (by simp at h1;rw [if_pos (by omega)];omega);clear uP oz;go_wp2;go_roundg (n - (k+1+1));case measure=>omega
    case rel=>exact⟨k+1,3,t'.set (k+1) 3,by omega,rfl,by go_num,lH.out.set (k+1) 3,A7.out.trans (lH.out.grown (k+1) 3),HK.out.1,HK.out.2⟩
  .have hpe:t'=pass f4 g4 none t:=ahh hN (by rw [HL.out];omega);have HS:Hid (aA wr B sb gc n cc pv rv bv ah aa aj (pass f4 g4 none t)):=by rw [<-hpe];exact hS
   have HG:Hid (w.grownBy wr (some gc)):=hG;have hkn:¬(k:Int)+1+1<(n:Int):=by omega
   have c2:=hS.f2;clear hS hG hN hpe ha;go_wp2;go_end0;exact⟨rfl,HS.out,HG.out⟩
structure pU(W:World)(B:Nat)(L:LP)(ah aa aj:Int)(k0:List Int)(q:fA)(t:List Int):Prop where
 sq:aA W B q.sb q.gc q.m q.cc (.slice (some ⟨q.gp,q.op,none⟩) q.m q.cp) (.slice (some ⟨q.gr,0,none⟩) q.m q.cr) (.slice (some ⟨q.gb,0,none⟩) q.m q.m) ah aa aj t
 ru:wC W q.gr q.m (aV L.rs q.at')
 be:dz W q.gb 0 k0
 pl:dz W q.gp q.op (nl q.at')
 nr:q.gr≠q.gc
 nb:q.gb≠q.gc
 np:q.gp≠q.gc
section
variable{W W':World}{B:Nat}{L:LP}{ah aa aj:Int}{k0 t t':List Int}{q:fA}
theorem pU.rule(h:pU W B L ah aa aj k0 q t)(hS:aA W' B q.sb q.gc q.m q.cc (.slice (some ⟨q.gp,q.op,none⟩) q.m q.cp) (.slice (some ⟨q.gr,0,none⟩) q.m q.cr) (.slice (some ⟨q.gb,0,none⟩) q.m q.m) ah aa aj t')(hg:W.grownBy W' (some q.gc)):pU W' B L ah aa aj k0 q t':=
 ⟨hS,fun k hk=>cell_grown hg (h.ru k hk) (fun e=>h.nr (Option.some.inj e)),h.be.grown hg h.nb,h.pl.grown hg h.np,h.nr,h.nb,h.np⟩
theorem pU.below(h:pU W B L ah aa aj k0 q t)(hb:Below W.heap.size W W'):pU W' B L ah aa aj k0 q t:=
 ⟨h.sq.below hb,h.ru.below hb,h.be.below hb,h.pl.below hb,h.nr,h.nb,h.np⟩
end
theorem ain(l:List Int)(k:Nat)(hk:k<l.length):(lV l)[k]? =some (.int .i32 (l.getD k 0)):=by
 simp [lV,List.getD_eq_getElem?_getD,List.getElem?_eq_getElem hk]
theorem l7.sqs {W:World}{B:Nat}{L:LP}{ks ls:List Int}{q:fA}(h:l7 W B L ks ls q):pU W B L (ls.getD (q.at'.headD 0) 0) (mO (ls.getD (q.at'.headD 0) 0) (kW ls (aD L.cs) L.p (q.at'.headD 0))) (mO (ls.getD (q.at'.headD 0) 0) (tJ L.cs ls (aD L.cs) L.p (q.at'.getLastD 0))) (aV ks q.at') q (aV ks q.at'):=by
 obtain⟨c5,fr,e5⟩:=h.ty;obtain⟨c2,e2⟩:=vz h.sq.row;obtain⟨c3,e3⟩:=vz h.ru;refine⟨h.sq,fun k hk=> ?_,fun k hk=>by rw [Nat.zero_add];exact jZ h.be k hk,h.pl,?_,h.ne,?_⟩
 .rw [World.ownsRow.cellAt h.ru k (by omega),ain _ _ (by rw [TS,h.len];exact hk)]
 .intro e;rw [e]at e3;exact absurd (rQ e2 e3) (by decide)
 .intro e;rw [e]at e5;exact absurd (rQ e2 e5) (by decide)
def lq:Nat->Nat
 |0=>144
 |1=>145
 |2=>146
 |3=>147
 |4=>148
 |5=>149
 |6=>150
 |7=>151
 |8=>152
 |_=>153
def YL(ah aa aj:Int)(k0 rs t:List Int):Nat->List Int
 |0=>pass (f1 aa) (g1 aa) none t
 |1=>pass f2 g2 aa t
 |2=>pass f3 g3 () t
 |3=>pass f4 g4 none t
 |4=>pass f5 g5 none t
 |5=>pass f6 g3 () t
 |6=>pass f7 g7 aa t
 |7=>uu t k0 (yY t rs) (ah%2) aa
 |8=>pass (fM aj) gM aa t
 |_=>pass (wR (ah%2)) g3 () t
def ET(ah aa aj:Int)(k0 rs:List Int):Nat->List Int
 |0=>k0
 |k+1=>YL ah aa aj k0 rs (ET ah aa aj k0 rs k) k
theorem ah1(rs ks:List Int)(s:Sq):ET s.level s.aa s.aj (aV ks s.at') (aV rs s.at') 10=E8 rs ks s:=rfl
theorem ah0(k:Nat):∀args w,(callFunc (lq k) args).run prog w= .ok (.enter (lq k) args) w:=by
 match k with
 |0=>exact iB func144 (by kernel_rfl) (by kernel_rfl)
 |1=>exact iB func145 (by kernel_rfl) (by kernel_rfl)
 |2=>exact iB func146 (by kernel_rfl) (by kernel_rfl)
 |3=>exact iB func147 (by kernel_rfl) (by kernel_rfl)
 |4=>exact iB func148 (by kernel_rfl) (by kernel_rfl)
 |5=>exact iB func149 (by kernel_rfl) (by kernel_rfl)
 |6=>exact iB func150 (by kernel_rfl) (by kernel_rfl)
 |7=>exact iB func151 (by kernel_rfl) (by kernel_rfl)
 |8=>exact iB func152 (by kernel_rfl) (by kernel_rfl)
 |_+9=>exact iB func153 (by kernel_rfl) (by kernel_rfl)
theorem ai0 {c:Int}(h:c=0∨c=1):bC c=c:=by rcases h with rfl|rfl<;>rfl
theorem ahZ {W:World}{B:Nat}{L:LP}{ah aa aj:Int}{k0 t:List Int}{q:fA}(h:pU W B L ah aa aj k0 q t)(hbr:Br W)(hn:q.m<=1000)(hm:0<q.m)(mG:0<=ah)(hso:aa=0∨aa=1)(GX:aj=0∨aj=1)(hk0:k0.length=q.m)(k:Nat):
  Calls prog (lq k) #[.pointer (some ⟨q.sb,0,none⟩)] W fun e W'=>e= .returned (.tuple #[])/\pU W' B L ah aa aj k0 q (YL ah aa aj k0 (aV L.rs q.at') t k)/\W.grownBy W' (some q.gc):=by
 match k with
 |0=>exact(ajC W B _ _ _ _ _ _ _ _ _ _ _ h.sq hn hso).mono fun e w' ⟨he,hS,hg⟩=>⟨he,h.rule hS hg,hg⟩
 |1=>exact(ajD W B _ _ _ _ _ _ _ _ _ _ _ h.sq hn).mono fun e w' ⟨he,hS,hg⟩=>⟨he,h.rule hS hg,hg⟩
 |2=>exact(ajE W B _ _ _ _ _ _ _ _ _ _ _ h.sq hn).mono fun e w' ⟨he,hS,hg⟩=>⟨he,h.rule hS hg,hg⟩
 |3=>exact(ajF W B _ _ _ _ _ _ _ _ _ _ _ h.sq hn hm).mono fun e w' ⟨he,hS,hg⟩=>⟨he,h.rule hS hg,hg⟩
 |4=>exact(ajH W B _ _ _ _ _ _ _ _ _ _ _ h.sq hn hso GX).mono fun e w' ⟨he,hS,hg⟩=>⟨he,h.rule hS hg,hg⟩
 |5=>exact(ajI W B _ _ _ _ _ _ _ _ _ _ _ h.sq hn).mono fun e w' ⟨he,hS,hg⟩=>⟨he,h.rule hS hg,hg⟩
 |6=>exact(ajJ W B _ _ _ _ _ _ _ _ _ _ _ h.sq hn).mono fun e w' ⟨he,hS,hg⟩=>⟨he,h.rule hS hg,hg⟩
 |7=>exact(ahQ W B _ _ _ _ _ _ _ _ _ _ _ _ _ _ _ h.sq h.ru h.be hk0 h.nb hbr hn mG).mono fun e w' ⟨he,hS,hg⟩=>⟨he,h.rule hS hg,hg⟩
 |8=>exact(af7 W B _ _ _ _ _ _ _ _ _ _ _ h.sq hn (ai0 hso)).mono fun e w' ⟨he,hS,hg⟩=>⟨he,h.rule hS hg,hg⟩
 |_+9=>exact(af8 W B _ _ _ _ _ _ _ _ _ _ _ h.sq hn mG).mono fun e w' ⟨he,hS,hg⟩=>⟨he,h.rule hS hg,hg⟩
structure LV(W w0:World)(B:Nat)(L:LP)(ks ls:List Int)(go g:Nat)(av:Value)(qs:List fA)(j:Nat)(o:List Int):Prop where
 fs:FS W L ks ls go o
 rl:∀k,k<10->W.cell? ⟨g,k,none⟩=some (.func (.func (lq k)) #[] #[])
 row:W.ownsRow B 146 1 av qs.length (qs.map fA.ptr)
 sq:∀q∈qs.drop j,l7 W B L ks ls q
 br:Br W
 hb:Below L.B w0 W
structure J6(B:Nat)(L:LP)(go g:Nat):Prop where
 lo:L.B<=B
 Lu:go<B
 Lt:L.B<=go
 gL:g<B
 gg:g≠go
 has:∀x,L.has x->x<B
 bp:11<L.B
section
variable{W W' w0:World}{B:Nat}{L:LP}{ks ls o o':List Int}{go g j:Nat}{av:Value}{qs:List fA}{q:fA}
theorem Br.grown {r:Nat}(h:Br W)(hg:W.grownBy W' (some r))(hne:11≠r):Br W':=by
 obtain⟨tt,fr,e⟩:=h;exact⟨tt,fr,(hg.block _ (bK e) (fun e=>hne (Option.some.inj e))).trans e⟩
theorem LV.below(h:LV W w0 B L ks ls go g av qs j o)(hb:Below W.heap.size W W')(hsz:L.B<=W.heap.size):LV W' w0 B L ks ls go g av qs j o:=
 ⟨h.fs.below hb,fun k hk=>cell_grown (r:=none) (Bj hb) (h.rl k hk) (by simp),own_below h.row hb,fun q hq=>(h.sq q hq).below hb,h.br.below hb,h.hb.trans (hb.mono hsz)⟩
theorem LV.rule(h:LV W w0 B L ks ls go g av qs j o)(hc:J6 B L go g)(hq:∃cur,W.heap[q.gc]? =some (.cells cur 108 (0,0)))(hB:B<=q.gc)(hap:∀q'∈qs.drop j,Apart q q')(hg:W.grownBy W' (some q.gc))(hsz:L.B<=W.heap.size):LV W' w0 B L ks ls go g av qs j o:=by
 obtain⟨cur,hh⟩:=hq;have n1:=hc.Lu;have n2:=hc.gL;have n3:=hc.lo;have n4:=hc.bp;refine⟨⟨h.fs.ln.same hg.size fun x hx=>hg.block x (h.fs.ln.lt x hx) (fun e=>by have:=hc.has x hx;have:=Option.some.inj e;omega),fJ h.fs.row hg (by omega),h.fs.ap⟩,fun k hk=>cell_grown hg (h.rl k hk) (fun e=>by have:=Option.some.inj e;simp only at this;omega),dJ h.row hg (.inr (iF h.row hh (by decide))),fun q' hq'=> ?_,h.br.grown hg (by omega),h.hb.grown hg hsz (fun y hy=>by cases hy;omega)⟩;have hx:=h.sq q' hq';have ha:=hap q' hq';obtain⟨c3,e3⟩:=vz hx.ru;obtain⟨c5,fr,e5⟩:=hx.ty;refine hx.grown hg ?_ (fun e=>ha.1 e.symm) ?_ (fun e=>ha.2.2 e.symm) ?_
 .intro e;exact absurd (rQ (e▸hx.sq.cell) hh) (by decide)
 .intro e;exact absurd (rQ (e▸e3) hh) (by decide)
 .intro e;exact absurd (rQ (e▸e5) hh) (by decide)
theorem LV.impl(h:LV W w0 B L ks ls go g av qs j o)(hc:J6 B L go g)(hR:dx W' L.B go L.n L.n o')(hg:W.grownBy W' (some go))(hsz:L.B<=W.heap.size):LV W' w0 B L ks ls go g av qs j o':=by
 have n1:=hc.Lu;have n4:=hc.bp;have n5:=hc.Lt;obtain⟨cur,hh⟩:=vz h.fs.row;refine⟨⟨h.fs.ln.same hg.size fun x hx=>hg.block x (h.fs.ln.lt x hx) (fun e=>h.fs.ap x hx (Option.some.inj e)),hR,h.fs.ap⟩,fun k hk=>cell_grown hg (h.rl k hk) (fun e=>hc.gg (Option.some.inj e)),dJ h.row hg (.inr (iF h.row hh (by decide))),fun q' hq'=> ?_,h.br.grown hg (by omega),h.hb.grown hg hsz (fun y hy=>by cases hy;exact hc.Lt)⟩;have hx:=h.sq q' hq';have l1:=(hx.sq.row.lt q'.gc rfl).1;have l2:=(World.ownsRow.lt hx.ru q'.gr rfl).1;have l3:=(World.ownsRow.lt hx.be q'.gb rfl).1;have l4:=hx.lo;exact hx.grown hg (by omega) (by omega) (by omega) (by omega) (by omega)
end
def nN(L:LP)(ls:List Int)(q:fA):Sq:=Gp L.cs ls (aD L.cs) L.p q.at'
theorem aiW {L:LP}{ls:List Int}{qs:List fA}(hn:L.cs.length=L.n)(h:qs.map fA.at'=((eZ ls (aD L.cs)).filter (fQ L.cs)).map (bP L.cs (eZ ls (aD L.cs)) L.n)):qs.map (nN L ls)=iV L.cs ls (aD L.cs) L.p:=by
 unfold iV;have:qs.map (nN L ls)=(qs.map fA.at').map (Gp L.cs ls (aD L.cs) L.p):=by rw [List.map_map];rfl
 rw [this,h,List.map_map,hn];rfl
theorem drop_cons {α:Type}{l:List α}{j:Nat}{q:α}(h:l[j]? =some q):l.drop j=q::l.drop (j+1):=by
 obtain⟨hj,e⟩:=List.getElem?_eq_some_iff.1 h;rw [List.drop_eq_getElem_cons hj,e]
theorem acG {qs:List fA}(h:qs.Pairwise Apart){j:Nat}{q:fA}(hq:qs[j]? =some q):∀q'∈qs.drop (j+1),Apart q q':=by
 have:=h.sublist (List.drop_sublist j qs);rw [drop_cons hq]at this;exact(List.pairwise_cons.1 this).1
def lX(n b0 b1 b2 b3:Nat):Nat:=if(Lib.decodeN n b0 b1 b2 b3).1=65533/\(Lib.decodeN n b0 b1 b2 b3).2=1 then 0 else(Lib.decodeN n b0 b1 b2 b3).2
def sz(s:ByteArray):Nat:=lX s.size (s.get! 0).toNat (s.get! 1).toNat (s.get! 2).toNat (s.get! 3).toNat
theorem get_eq(s:ByteArray)(k:Nat)(h:k<s.size):s.get! k=s[k]'h:=by
 simp [ByteArray.get!,getElem!_pos,h];rfl
theorem uH {n b0 b1 b2 b3 a b:Nat}(h:Lib.decodeN n b0 b1 b2 b3=(a,b))(hab:¬(a=65533/\b=1)):lX n b0 b1 b2 b3=b:=by
 unfold lX;rw [h];exact if_neg hab
theorem kC {n b0 b1 b2 b3:Nat}(h:Lib.decodeN n b0 b1 b2 b3=(65533,1)):lX n b0 b1 b2 b3=0:=by
 unfold lX;rw [h];exact if_pos ⟨rfl,rfl⟩
theorem BA {n b0 b1 b2 b3:Nat}(h:b0<128):Lib.decodeN n b0 b1 b2 b3=(b0,1):=by unfold Lib.decodeN;rw [if_pos h]
theorem KV {n b0 b1 b2 b3:Nat}(h0:128<=b0)(h1:b0<194):Lib.decodeN n b0 b1 b2 b3=(65533,1):=by
 unfold Lib.decodeN;repeat' split
 all_goals first|(exfalso;omega)|rfl
theorem KW {n b0 b1 b2 b3:Nat}(h0:245<=b0)(h1:b0<256):Lib.decodeN n b0 b1 b2 b3=(65533,1):=by
 unfold Lib.decodeN;repeat' split
 all_goals first|(exfalso;omega)|rfl
theorem KQ {n b0 b1 b2 b3:Nat}(h0:194<=b0)(h1:b0<224)(hb:b1<256)(h:n<2∨b1<128∨191<b1):Lib.decodeN n b0 b1 b2 b3=(65533,1):=by
 unfold Lib.decodeN;repeat' split
 all_goals first|(exfalso;omega)|rfl
theorem F7 {n b0 b1 b2 b3:Nat}(h0:194<=b0)(h1:b0<224)(hn:2<=n)(h2:128<=b1)(h3:b1<=191):Lib.decodeN n b0 b1 b2 b3=(b0%32*64+b1%64,2):=by
 unfold Lib.decodeN;repeat' split
 all_goals first|(exfalso;omega)|rfl
theorem KR {n b0 b1 b2 b3:Nat}(h0:224<=b0)(h1:b0<240)(hb:b1<256)(hb2:b2<256)(h:n<3∨b1<128∨191<b1∨b2<128∨191<b2):Lib.decodeN n b0 b1 b2 b3=(65533,1):=by
 unfold Lib.decodeN;repeat' split
 all_goals first|(exfalso;omega)|rfl
theorem KS {n b0 b1 b2 b3:Nat}(h0:224<=b0)(h1:b0<240)(h:b0%16*4096+b1%64*64+b2%64<2048∨(55296<=b0%16*4096+b1%64*64+b2%64/\b0%16*4096+b1%64*64+b2%64<=57343)):Lib.decodeN n b0 b1 b2 b3=(65533,1):=by
 unfold Lib.decodeN;repeat' split
 all_goals first|(exfalso;omega)|rfl
theorem F8 {n b0 b1 b2 b3:Nat}(h0:224<=b0)(h1:b0<240)(hn:3<=n)(h2:128<=b1)(h3:b1<=191)(h4:128<=b2)(h5:b2<=191)(h6:2048<=b0%16*4096+b1%64*64+b2%64)
  (h7:b0%16*4096+b1%64*64+b2%64<55296∨57343<b0%16*4096+b1%64*64+b2%64):Lib.decodeN n b0 b1 b2 b3=(b0%16*4096+b1%64*64+b2%64,3):=by
 unfold Lib.decodeN;repeat' split
 all_goals first|(exfalso;omega)|rfl
theorem KT {n b0 b1 b2 b3:Nat}(h0:240<=b0)(h1:b0<245)(hb:b1<256)(hb2:b2<256)(hb3:b3<256)(h:n<4∨b1<128∨191<b1∨b2<128∨191<b2∨b3<128∨191<b3):Lib.decodeN n b0 b1 b2 b3=(65533,1):=by
 unfold Lib.decodeN;repeat' split
 all_goals first|(exfalso;omega)|rfl
theorem KU {n b0 b1 b2 b3:Nat}(h0:240<=b0)(h1:b0<245)(h:b0%8*262144+b1%64*4096+b2%64*64+b3%64<65536∨1114111<b0%8*262144+b1%64*4096+b2%64*64+b3%64):Lib.decodeN n b0 b1 b2 b3=(65533,1):=by
 unfold Lib.decodeN;repeat' split
 all_goals first|(exfalso;omega)|rfl
theorem F9 {n b0 b1 b2 b3:Nat}(h0:240<=b0)(h1:b0<245)(hn:4<=n)(h2:128<=b1)(h3:b1<=191)(h4:128<=b2)(h5:b2<=191)(h8:128<=b3)(h9:b3<=191)(h6:65536<=b0%8*262144+b1%64*4096+b2%64*64+b3%64)
  (h7:b0%8*262144+b1%64*4096+b2%64*64+b3%64<=1114111):Lib.decodeN n b0 b1 b2 b3=(b0%8*262144+b1%64*4096+b2%64*64+b3%64,4):=by
 unfold Lib.decodeN;repeat' split
 all_goals first|(exfalso;omega)|rfl
def gJ(s:ByteArray)(p:Nat):Int:=((Utf8.decode s p).1:Int)
def aJ(s:ByteArray)(p:Nat):Nat:=lX (s.size - p) (s.get! p).toNat (s.get! (p+1)).toNat (s.get! (p+2)).toNat (s.get! (p+3)).toNat
def runesFrom(s:ByteArray):Nat->Nat->Option (List Int)
 |0,_=>some []
 |f+1,p=>if p<s.size then(if aJ s p=0 then none else(runesFrom s f (p+aJ s p)).map (gJ s p::·))else some []
def dh(s:ByteArray):Option (List Int):=runesFrom s s.size 0
theorem Gu(s:ByteArray)(p k:Nat)(h:p+k<s.size):(s.extract p s.size).get! k=s.get! (p+k):=by
 have h':k<(s.extract p s.size).size:=by simp [ByteArray.size_extract];omega
 rw [get_eq _ _ h',get_eq _ _ h];simp [ByteArray.getElem_extract]
theorem aiJ(s:ByteArray)(p:Nat):(s.extract p s.size).size=s.size - p:=by simp [ByteArray.size_extract]
theorem Ff(s:ByteArray)(p:Nat)(_h:p<s.size)(h0:aJ s p≠0):
  (aJ s p=1/\(s.get! p).toNat<128/\gJ s p=((s.get! p).toNat:Int))∨
  (aJ s p=2/\p+2<=s.size/\194<=(s.get! p).toNat/\(s.get! p).toNat<224/\128<=(s.get! (p+1)).toNat/\(s.get! (p+1)).toNat<=191/\gJ s p=64*(((s.get! p).toNat:Int)%32)+((s.get! (p+1)).toNat:Int) - 128)∨
  (aJ s p=3/\p+3<=s.size/\224<=(s.get! p).toNat/\(s.get! p).toNat<240/\128<=(s.get! (p+1)).toNat/\(s.get! (p+1)).toNat<=191/\128<=(s.get! (p+2)).toNat/\(s.get! (p+2)).toNat<=191/\
   gJ s p=64*(64*(((s.get! p).toNat:Int)%16)+((s.get! (p+1)).toNat:Int) - 128)+((s.get! (p+2)).toNat:Int) - 128)∨
  (aJ s p=4/\p+4<=s.size/\240<=(s.get! p).toNat/\(s.get! p).toNat<245/\128<=(s.get! (p+1)).toNat/\(s.get! (p+1)).toNat<=191/\128<=(s.get! (p+2)).toNat/\(s.get! (p+2)).toNat<=191/\128<=(s.get! (p+3)).toNat/\(s.get! (p+3)).toNat<=191/\
   gJ s p=64*(64*(64*(((s.get! p).toNat:Int)%8)+((s.get! (p+1)).toNat:Int) - 128)+((s.get! (p+2)).toNat:Int) - 128)+((s.get! (p+3)).toNat:Int) - 128):=by
 unfold gJ;rw [Lib.decode_at];unfold aJ at h0 ⊢;have l0:=(s.get! p).toNat_lt;have l1:=(s.get! (p+1)).toNat_lt;have l2:=(s.get! (p+2)).toNat_lt;have l3:=(s.get! (p+3)).toNat_lt;generalize(s.get! p).toNat=b0 at*;generalize(s.get! (p+1)).toNat=b1 at*;generalize(s.get! (p+2)).toNat=b2 at*;generalize(s.get! (p+3)).toNat=b3 at*;obtain⟨n,hn⟩:∃n,n=s.size - p:=⟨_,rfl⟩
 rw [<-hn]at h0 ⊢;by_cases a:b0<128
 .left;rw [uH (BA a) (by omega),BA a];exact⟨rfl,a,rfl⟩
 by_cases b:b0<194
 .exact absurd (kC (KV (by omega) b)) h0
 by_cases c:245<=b0
 .exact absurd (kC (KW c (by omega))) h0
 by_cases d:b0<224
 .by_cases e:n<2∨b1<128∨191<b1
  .exact absurd (kC (KQ (by omega) d (by omega) e)) h0
  .have hd:=F7 (n:=n) (b0:=b0) (b1:=b1) (b2:=b2) (b3:=b3) (by omega) d (by omega) (by omega) (by omega);right;left;rw [uH hd (by omega),hd];exact⟨rfl,by omega,by omega,by omega,by omega,by omega,by omega⟩
 by_cases f:b0<240
 .by_cases e:n<3∨b1<128∨191<b1∨b2<128∨191<b2
  .exact absurd (kC (KR (by omega) f (by omega) (by omega) e)) h0
  .by_cases g:b0%16*4096+b1%64*64+b2%64<2048∨(55296<=b0%16*4096+b1%64*64+b2%64/\b0%16*4096+b1%64*64+b2%64<=57343)
   .exact absurd (kC (KS (by omega) f g)) h0
   .have hd:=F8 (n:=n) (b0:=b0) (b1:=b1) (b2:=b2) (b3:=b3) (by omega) f (by omega) (by omega) (by omega) (by omega) (by omega) (by omega) (by omega);right;right;left;rw [uH hd (by omega),hd];exact⟨rfl,by omega,by omega,by omega,by omega,by omega,by omega,by omega,by omega⟩
 by_cases e:n<4∨b1<128∨191<b1∨b2<128∨191<b2∨b3<128∨191<b3
 .exact absurd (kC (KT (by omega) (by omega) (by omega) (by omega) (by omega) e)) h0
 .by_cases g:b0%8*262144+b1%64*4096+b2%64*64+b3%64<65536∨1114111<b0%8*262144+b1%64*4096+b2%64*64+b3%64
  .exact absurd (kC (KU (by omega) (by omega) g)) h0
  .have hd:=F9 (n:=n) (b0:=b0) (b1:=b1) (b2:=b2) (b3:=b3) (by omega) (by omega) (by omega) (by omega) (by omega) (by omega) (by omega) (by omega) (by omega) (by omega) (by omega);right;right;right;rw [uH hd (by omega),hd];exact⟨rfl,by omega,by omega,by omega,by omega,by omega,by omega,by omega,by omega,by omega,by omega⟩
