import Derived.ScopeJumps
import Derived.WalkMore
import Derived.Test.YtkbinfhclaafhaaGreatDoorH23
namespace Go.Proofs.YtkbinfhclaafhaaGreatDoor
open Go.RowKit
open Go.Proofs.Tryz
set_option maxRecDepth 100000
set_option maxHeartbeats 32000000
def jumps(K:Nat->Act->World->Prop)(Q:Exit->Act->World->Prop):Exit->Act->World->Prop
 | .goto l,a,w=>K l a w
 |e,a,w=>Q e a w
section
variable{P:Program}{a:Act}{w:World}{Q:Exit->Act->World->Prop}{K:Nat->Act->World->Prop}
@[go_sem] theorem akB:jumps K Q .normal a w=Q .normal a w:=rfl
@[go_sem] theorem akz (id:Nat):jumps K Q (.exit id) a w=Q (.exit id) a w:=rfl
@[go_sem] theorem akD:jumps K Q .ret a w=Q .ret a w:=rfl
@[go_sem] theorem akC (ch:List PanicEntry):jumps K Q (.panic ch) a w=Q (.panic ch) a w:=rfl
@[go_sem] theorem akA (l:Nat):jumps K Q (.goto l) a w=K l a w:=rfl
theorem ajR {r X:Code}(l0:Nat)(J:Nat->Nat->Act->World->Prop)
  (first:r.wp P (Exit.then (fun a w=>∃n,J l0 n a w) (fun _ _ _=>False)) a w)
  (hf0:findLabel (.seq r (.seq (.label l0) X)) l0=some (.seq .skip X))
  (pass:∀l n a w,J l n a w->∃X',findLabel (.seq r (.seq (.label l0) X)) l=some (.seq .skip X')/\X'.wp P (jumps (fun l' a' w'=>∃m,m<n/\J l' m a' w') Q) a w):
  (Code.scope (.seq r (.seq (.label l0) X))).wp P Q a w:=by
 have key:∀n l a w,J l n a w->∀b k cs,∃e a' w',Q e a' w'/\∃rest,findLabel (.seq r (.seq (.label l0) X)) l=some rest/\Arrives P (lone (b.at a (.code rest:: .inScope (.seq r (.seq (.label l0) X))::k)) cs w) b k cs e a' w':=by
  intro n
  induction n using Nat.strongRecOn with
  |_ n ih=>
   intro l a w hJ b k cs;obtain⟨X',hf,hX⟩:=pass l n a w hJ;have hX2:(Code.seq .skip X').wp P (jumps (fun l' a' w'=>∃m,m<n/\J l' m a' w') Q) a w:=wp_seq (wp_skip hX);obtain⟨e,a₁,w₁,hq,harr⟩:=hX2 b (.inScope (.seq r (.seq (.label l0) X))::k) cs;cases e with
   |normal=>exact⟨.normal,a₁,w₁,hq,_,hf,Steps.trans harr (.one step_inScope)⟩
   |exit id=>exact⟨.exit id,a₁,w₁,hq,_,hf,fun k' hk=>harr k' (by simp [exitTo,hk])⟩
   |goto l'=>
    obtain⟨m,hm,hJ'⟩:=hq;obtain⟨e₂,a₂,w₂,hq₂,rest,hf2,harr₂⟩:=ih m hm l' a₁ w₁ hJ' b k cs;exact⟨e₂,a₂,w₂,hq₂,_,hf,.of_steps (harr _ (by simp [gotoIn,hf2])) harr₂⟩
   |ret=>exact⟨_,a₁,w₁,hq,_,hf,harr⟩
   |panic ch=>exact⟨_,a₁,w₁,hq,_,hf,harr⟩
   |outgrown=>exact⟨_,a₁,w₁,hq,_,hf,harr⟩
 have first':(Code.seq r (.seq (.label l0) X)).wp P (jumps (fun l' a' w'=>∃m,J l' m a' w') Q) a w:=by
  refine wp_seq (wp_mono first ?_);intro e a' w' h;cases e with
  |normal=>
   obtain⟨n,hJ⟩:=h;obtain⟨X',hf,hX⟩:=pass l0 n a' w' hJ;rw [hf0]at hf;injection hf with hf
   injection hf with _ hf
   subst hf;refine wp_seq (wp_label ?_);refine wp_mono hX ?_;intro e a'' w'' h';cases e with
   |goto l'=>obtain⟨m,_,hJ'⟩:=h';exact⟨m,hJ'⟩
   |_=>exact h'
  |_=>exact h.elim
 intro b k cs;obtain⟨e,a₁,w₁,hq,harr⟩:=first' b (.inScope (.seq r (.seq (.label l0) X))::k) cs;cases e with
 |normal=>exact⟨.normal,a₁,w₁,hq,.head step_scope (Steps.trans harr (.one step_inScope))⟩
 |exit id=>exact⟨.exit id,a₁,w₁,hq,fun k' hk=> .head step_scope (harr k' (by simp [exitTo,hk]))⟩
 |goto l'=>
  obtain⟨m,hJ'⟩:=hq;obtain⟨e₂,a₂,w₂,hq₂,rest,hf2,harr₂⟩:=key m l' a₁ w₁ hJ' b k cs;exact⟨e₂,a₂,w₂,hq₂,.of_steps (.head step_scope (harr _ (by simp [gotoIn,hf2]))) harr₂⟩
 |ret=>exact⟨_,a₁,w₁,hq,.of_steps (.one step_scope) harr⟩
 |panic ch=>exact⟨_,a₁,w₁,hq,.of_steps (.one step_scope) harr⟩
 |outgrown=>exact⟨_,a₁,w₁,hq,.of_steps (.one step_scope) harr⟩
end
noncomputable def YH:Code:=match Tryz.f107.body with
 |some (.scope c)=>c
 |_=> .skip
noncomputable def Ck(l:Nat):Code:=match findLabel YH l with
 |some (.seq _ X)=>X
 |_=> .skip
def AtR(rb:Nat)(a:Act):Prop:=∃u0 u1 u2 u3 u5 u6 u7 u8 u9 qA qB qD qE qF qG u16 qH qI qJ u20 u21 u22 u23 u24 u25 u26 u27 u28 u29 u30 u31 u32 u33 u34 u35 u36 u37 u38 qK u40 qL u42 qM u44 u45 u46 qN u48 u49 qO u51 qP u53 qV u55 qW qX u58 u59 u60 qY qZ u63 u64 q9 u66 rq u68 u69 u70 ry u72 u73 sD u75 sF sG sH sI sJ sK sM sN sO sP sQ:Value,a={tmps:=#[u0,u1,u2,u3,.pointer (some ⟨rb,0,none⟩),u5,u6,u7,u8,u9,qA,qB,qD,qE,qF,qG,u16,qH,qI,qJ,u20,u21,u22,u23,u24,u25,u26,u27,u28,u29,u30,u31,u32,u33,u34,u35,u36,u37,u38,qK,u40,qL,u42,qM,u44,u45,u46,qN,u48,u49,qO,u51,qP,u53,qV,u55,qW,qX,u58,u59,u60,qY,qZ,u63,u64,q9,u66,rq,u68,u69,u70,ry,u72,u73,sD,u75,sF,sG,sH,sI,sJ,sK,sM,sN,sO,sP,sQ],defers:=[]}
structure jl(w:World):Prop where
 lc:∃t f,w.heap[(7:Nat)]? =some (.cells #[.int .u8 47,.int .u8 47] t f)
 bb:∃t f,w.heap[(8:Nat)]? =some (.cells #[.int .u8 47,.int .u8 42] t f)
 be:∃t f,w.heap[(9:Nat)]? =some (.cells #[.int .u8 42,.int .u8 47] t f)
theorem jl.below {w w':World}{n:Nat}(h:jl w)(hn:10<=n)(hb:Below n w w'):jl w':=
 ⟨h.lc.imp fun _ h=>h.imp fun _ h=>(hb.block _ (by omega)).trans h,h.bb.imp fun _ h=>h.imp fun _ h=>(hb.block _ (by omega)).trans h,h.be.imp fun _ h=>h.imp fun _ h=>(hb.block _ (by omega)).trans h⟩
theorem jl.sz {w:World}(h:jl w):10<=w.heap.size∨w.heap.size<=9+1/\9<w.heap.size:=by
 obtain⟨_,_,h1⟩:=h.be;have:=bJ h1;omega
structure RC where
 w0:World
 rb:Nat
 s:ByteArray
 l:Nat
 n₀:Nat
 J:List PR->World->Prop
 Jx:List PR->World->Prop
 X:List PR
structure kV(C:RC):Prop where
 T:Tl C.l C.n₀ C.J C.Jx C.X
 hn:C.n₀<=C.rb
 h20:10<=C.n₀
 hz:C.s.size<=1000
 env:jl C.w0
structure RW(C:RC)(w:World)(p:RP)(st:Bool)(pre:List PR):Prop where
 rs:Rs w C.rb C.s C.l C.J C.Jx C.X p st pre
 ok:nT C.s p
 be:Below C.n₀ C.w0 w
def LJ(C:RC)(lab n:Nat)(a:Act)(w:World):Prop:=AtR C.rb a/\∃p st pre,RW C w p st pre/\
 ((lab=3/\(st=false->C.X=pre++aI C.s false p)/\n=if st then 0 else 2*(C.s.size - p.at_)+3)∨
  (st=false/\C.X=pre++aI C.s false p/\p.at_<C.s.size/\n=2*(C.s.size - p.at_)+2/\
  ((lab=0/\bt C.s p.at_=34)∨(lab=1/\bt C.s p.at_=47/\bt C.s (p.at_+1)=47)∨(lab=2/\bt C.s p.at_=47/\bt C.s (p.at_+1)=42))))
def RE(C:RC):Ending->World->Prop:=fun e w'=>(∃v,e= .returned v)/\Below C.n₀ C.w0 w'/\(C.J C.X w'∨∃pre,pre<+:C.X/\C.Jx pre w')
theorem RW.drewN {C:RC}{w:World}{p:RP}{st:Bool}{pre:List PR}(h:RW C w p st pre)(O:kV C)(m:Nat):RW C (w.drewN m) p st pre:=
 ⟨h.rs.grown O.T (yC (kZ _ _)) (h.rs.rd.drewN m),h.ok,below_drewN h.be m⟩
theorem RW.below {C:RC}{w w':World}{p:RP}{st:Bool}{pre:List PR}(h:RW C w p st pre)(O:kV C)(hb:Below w.heap.size w w'):RW C w' p st pre:=by
 have hr:w'.heap[C.rb]? =w.heap[C.rb]? :=hb.block _ h.rs.rd.lt;have ha:iY w w':=⟨hb.os,hb.tape,hb.output,hb.size,fun k o hk _=>(hb.block k (bJ hk)).trans hk⟩
 exact⟨h.rs.jS O.T ha (hr.trans h.rs.rd),h.ok,h.be.trans (hb.mono (by have:=h.rs.rd.lt;have:=O.hn;omega))⟩
theorem RW.al {C:RC}{w:World}{p:RP}{st:Bool}{pre:List PR}(h:RW C w p st pre)(O:kV C)(o:Obj):RW C (w.alloc o) p st pre:=h.below O ((Below.refl _ _).alloc (Nat.le_refl _) _)
theorem jl.cells {w:World}(h:jl w):(w.cell? ⟨7,0,none⟩=some (.int .u8 47)/\w.cell? ⟨7,1,none⟩=some (.int .u8 47))/\(w.cell? ⟨8,0,none⟩=some (.int .u8 47)/\w.cell? ⟨8,1,none⟩=some (.int .u8 42))/\(w.cell? ⟨9,0,none⟩=some (.int .u8 42)/\w.cell? ⟨9,1,none⟩=some (.int .u8 47)):=
 let⟨_,_,h1⟩:=h.lc
 let⟨_,_,h2⟩:=h.bb
 let⟨_,_,h3⟩:=h.be
 ⟨⟨au h1 0,au h1 1⟩,⟨au h2 0,au h2 1⟩,⟨au h3 0,au h3 1⟩⟩
theorem RW.env {C:RC}{w:World}{p:RP}{st:Bool}{pre:List PR}(h:RW C w p st pre)(O:kV C):jl w:=O.env.below O.h20 h.be
theorem RW.over {C:RC}{w:World}{p:RP}{st:Bool}{pre:List PR}(h:RW C w p st pre)(O:kV C):Calls prog 177 #[.pointer (some ⟨C.rb,0,none⟩)] w fun e w'=>e= .returned (.bool (jN C.s p st))/\RW C w' p st pre:=
 (XW w C.rb C.s _ p st h.rs.rd).mono fun _ _ ⟨he,m,hm⟩=>⟨he,by rw [hm];exact h.drewN O m⟩
theorem RW.Wv {C:RC}{w:World}{p:RP}{st:Bool}{pre:List PR}(h:RW C w p st pre)(O:kV C):Calls prog 182 #[.pointer (some ⟨C.rb,0,none⟩)] w fun e w'=>e= .returned (.bool (rW C.s p st))/\RW C w' p st pre:=
 (Ww w C.rb C.s _ p st h.rs.rd h.ok.e).mono fun _ _ ⟨he,m,hm⟩=>⟨he,by rw [hm];exact h.drewN O m⟩
theorem RW.sign {C:RC}{w:World}{p:RP}{st:Bool}{pre:List PR}(h:RW C w p st pre)(O:kV C)(hlt:p.at_<C.s.size):Calls prog 178 #[.pointer (some ⟨C.rb,0,none⟩)] w fun e w'=>e= .returned (.agg #[.int .u8 (bt C.s p.at_),.int .u8 (bt C.s (p.at_+1))])/\RW C w' p st pre:=
 (aiG w C.rb C.s _ p st h.rs.rd hlt (by have:=O.hz;omega)).mono fun _ _ ⟨he,hb⟩=>⟨he,h.below O hb⟩
theorem RW.cut {C:RC}{w:World}{p:RP}{st:Bool}{pre:List PR}(h:RW C w p st pre)(O:kV C)(k t:Nat)(hk:k<=2)(ht:t<=2)(hat:p.at_+t<=C.s.size)(hX:st=false->(pre++aW k t p)<+:C.X):
  Calls prog 179 #[.pointer (some ⟨C.rb,0,none⟩),.int .i64 k,.int .i64 t] w fun e w'=>(∃v,e= .returned v)/\∃st',(st=true->st'=true)/\RW C w' (dX t p st) st' (pre++aW k t p):=by
 have a:=h.ok.a;have b:=h.ok.b;have c:=h.ok.c;have d:=h.ok.d;have e:=h.ok.e;have z:=O.hz;exact(Sk w C.rb C.s C.l C.n₀ C.J C.Jx C.X O.T O.hn p st pre h.rs k t hk ht a c (by omega) (by omega) (by omega) (by omega) hX).mono fun _ _ ⟨he,hb,st',h1,h2⟩=>⟨he,st',h1,h2,h.ok.cut hat,h.be.trans hb⟩
theorem RW.open {C:RC}{w:World}{p:RP}{st:Bool}{pre:List PR}(h:RW C w p st pre)(O:kV C)(hd:Nat)(hh:hd<=2)(hat:p.at_+hd<=C.s.size)(hX:st=false->(pre++aW 0 0 p)<+:C.X):
  Calls prog 181 #[.pointer (some ⟨C.rb,0,none⟩),.int .i64 hd] w fun e w'=>(∃v,e= .returned v)/\∃st',(st=true->st'=true)/\RW C w' (bF hd p st) st' (pre++aW 0 0 p):=
 (agG w C.rb C.s C.l C.n₀ C.J C.Jx C.X O.T O.hn p st pre h.rs hd hh h.ok O.hz hX).mono fun _ _ ⟨he,hb,st',h1,h2⟩=>⟨he,st',h1,h2,h.ok.open hat,h.be.trans hb⟩
theorem RW.grown {C:RC}{w w':World}{p p':RP}{st:Bool}{pre:List PR}(h:RW C w p st pre)(O:kV C)(hg:w.grownBy w' (some C.rb))(hr:Rd w' C.rb C.s (.func (.yield C.l) #[] #[]) p' st)(hp:nT C.s p'):RW C w' p' st pre:=
 ⟨h.rs.grown O.T hg hr,hp,h.be.trans (Below.yT hg O.hn (by have:=h.rs.rd.lt;have:=O.hn;omega))⟩
theorem RW.feed {C:RC}{w:World}{p:RP}{st:Bool}{pre:List PR}(h:RW C w p st pre)(O:kV C)(hat:p.at_+1<=C.s.size):
  Calls prog 180 #[.pointer (some ⟨C.rb,0,none⟩)] w fun e w'=>(∃v,e= .returned v)/\RW C w' (jq p) st pre:=
 (adg w C.rb C.s _ p st h.rs.rd (by have:=h.ok.e;have:=O.hz;omega) (by have:=h.ok.f;have:=h.ok.e;have:=O.hz;omega)).mono fun _ _ ⟨he,h1,h2⟩=>⟨he,h.grown O h2 h1 (h.ok.feed hat)⟩
theorem RW.aiK {C:RC}{w:World}{p:RP}{st:Bool}{pre:List PR}(h:RW C w p st pre)(O:kV C):
  Calls prog 183 #[.pointer (some ⟨C.rb,0,none⟩)] w fun e w'=>(∃v,e= .returned v)/\RW C w' (bB p (if st then p.at_ else bf C.s p.at_)) st pre:=by
 refine(aiL w C.rb C.s _ p st h.rs.rd h.ok.e (by have:=O.hz;omega)).mono fun _ _ ⟨he,h1,h2⟩=>⟨he,h.grown O h2 h1 ?_⟩
 cases st with
 |true=>exact h.ok.to (Nat.le_refl _) h.ok.e
 |false=>exact h.ok.to (Ae _ _) (Hy h.ok.e)
theorem RW.step {C:RC}{w:World}{p:RP}{st:Bool}{pre:List PR}(h:RW C w p st pre)(O:kV C){j:Nat}(h1:p.at_<=j)(h2:j<=C.s.size):RW C (w.setCell ⟨C.rb,6,none⟩ (.int .i64 j)) (bB p j) st pre:=
 h.grown O (jU (kZ _ _)) (h.rs.rd.s6 j) (h.ok.to h1 h2)
theorem RW.end {C:RC}{w:World}{p:RP}{st:Bool}{pre:List PR}(h:RW C w p st pre)(hX:st=false->C.X=pre)(v:Value):RE C (.returned v) w:=by
 refine⟨⟨_,rfl⟩,h.be,?_⟩;cases st with
 |true=>exact .inr (h.rs.no rfl)
 |false=>refine .inl ?_;have:=h.rs.go rfl;rw [hX rfl];exact this
theorem ahN(C:RC)(O:kV C)(w:World)(p:RP)(st:Bool)(pre:List PR)(h:RW C w p st pre)(hX:st=false->C.X=pre++aI C.s false p)(n:Nat)(hn:n=if st then 0 else 2*(C.s.size - p.at_)+3)
  (K:Nat->Act->World->Prop) (hK:∀l m a w,m<n->LJ C l m a w->K l a w) (u0 u1 u2 u3 u5 u6 u7 u8 u9 qA qB qD qE qF qG u16 qH qI qJ u20 u21 u22 u23 u24 u25 u26 u27 u28 u29 u30 u31 u32 u33 u34 u35 u36 u37 u38 qK u40 qL u42 qM u44 u45 u46 qN u48 u49 qO u51 qP u53 qV u55 qW qX u58 u59 u60 qY qZ u63 u64 q9 u66 rq u68 u69 u70 ry u72 u73 sD u75 sF sG sH sI sJ sK sM sN sO sP sQ:Value):
  Code.wp prog (Ck 3) (jumps K (bodyPost prog Tryz.f107 (RE C))) {tmps:=#[u0,u1,u2,u3,.pointer (some ⟨C.rb,0,none⟩),u5,u6,u7,u8,u9,qA,qB,qD,qE,qF,qG,u16,qH,qI,qJ,u20,u21,u22,u23,u24,u25,u26,u27,u28,u29,u30,u31,u32,u33,u34,u35,u36,u37,u38,qK,u40,qL,u42,qM,u44,u45,u46,qN,u48,u49,qO,u51,qP,u53,qV,u55,qW,qX,u58,u59,u60,qY,qZ,u63,u64,q9,u66,rq,u68,u69,u70,ry,u72,u73,sD,u75,sF,sG,sH,sI,sJ,sK,sM,sN,sO,sP,sQ],defers:=[]} w:=by
 conv=>arg 2;whnf
 have HK:Hid (∀l m a w,m<n->LJ C l m a w->K l a w):=hK;have HN:Hid (n=if st then 0 else 2*(C.s.size - p.at_)+3):=hn;clear hK hn;go_wp2;go_loopg [] (C.s.size - p.at_) (fun gh W=>∃p' st' pre',gh=C.s.size - p'.at_/\RW C W p' st' pre'/\(st'=false->C.X=pre'++aI C.s false p')/\(st'=false->st=false/\p.at_<=p'.at_));case atStart=>exact⟨p,st,pre,rfl,h,hX,fun e=>⟨e,Nat.le_refl _⟩⟩
 case round=>
  obtain⟨p',st',pre',rfl,hW,mF,hle⟩:=hrel;have HW:Hid (RW C wr p' st' pre'):=hW;have zx:Hid (st'=false->C.X=pre'++aI C.s false p'):=mF;have mY:Hid (st'=false->st=false/\p.at_<=p'.at_):=hle;clear hX h;by_cases ho:jN C.s p' st'=true
  .have HO:=hW.over O;rw [ho]at HO;have HE:Hid (st'=false->C.X=pre'++aW 0 0 p'):=fun e=>by
    rw [mF e,aI,if_neg]
    .rfl
    .subst e;simp [jN]at ho;omega
   clear ho hW mF hle;go_wp2_with fail;refine HO.mono ?_;rintro ev W1 ⟨rfl,h1⟩;have HC:=h1.cut O 0 0 (by omega) (by omega) (by have:=h1.ok.e;omega) (fun e=>by rw [HE.out e];exact List.prefix_refl _);clear HO h1;go_wp2_with fail;refine HC.mono ?_;rintro ev W2 ⟨⟨v,rfl⟩,st2,h2,h3⟩;have HF:Hid (RE C (.returned (.tuple #[])) W2):=h3.end (fun e=>by
    have:st'=false:=by cases hs:st' with
     |true=>rw [h2 hs]at e;cases e
     |false=>rfl
    exact HE.out this) _
   clear HC h2 h3;go_wp2;exact bodyPost_ret (results_none rfl _ _ _) rfl HF.out
  .have ho:jN C.s p' st'=false:=by simpa using ho
   have HO:=hW.over O;rw [ho]at HO;have hst:st'=false:=by simp [jN]at ho;exact ho.1
   have hlt:p'.at_<C.s.size:=by have:=hW.ok.e;simp [jN]at ho;omega
   subst hst;have bZ:Hid (p'.at_<C.s.size):=hlt;clear ho hW mF hle;have oF:Hid (C.X=pre'++aI C.s false p'):=zx.out rfl;have rC:Hid (st=false/\p.at_<=p'.at_):=mY.out rfl;clear zx mY;go_wp2_with fail;refine HO.mono ?_;rintro ev W1 ⟨rfl,h1⟩;have HS:=h1.sign O hlt;clear HO h1 hlt;go_wp2_with fail;refine HS.mono ?_;rintro ev W2 ⟨rfl,h2⟩;obtain⟨b0,hb0⟩:∃b0,bt C.s p'.at_=b0:=⟨_,rfl⟩
   obtain⟨b1,hb1⟩:∃b1,bt C.s (p'.at_+1)=b1:=⟨_,rfl⟩
   have HB:Hid (bt C.s p'.at_=b0/\bt C.s (p'.at_+1)=b1):=⟨hb0,hb1⟩
   rw [hb0,hb1];clear hb0 hb1 HS;have h3:RW C (W2.alloc (.cells #[.int .u8 b0,.int .u8 b1] 246)) p' false pre':=h2.al O _;obtain⟨⟨y1,y2⟩,⟨y3,y4⟩,y5,y6⟩:=(h3.env O).cells;have H3:Hid (RW C (W2.alloc (.cells #[.int .u8 b0,.int .u8 b1] 246)) p' false pre'):=h3;have c6:=h3.rs.rd.c6;have f6:=h3.rs.rd.fz 6;clear h2 h3;by_cases o8:b0=34
   .subst o8;go_wp2;refine wp_goto ?_;exact HK.out 0 (2*(C.s.size - p'.at_)+2) _ _ (by have:=HN.out;rw [rC.out.1]at this;have h1:=rC.out.2;have h2:=bZ.out;simp at this;omega) ⟨⟨_,_,_,_,_,_,_,_,_,_,_,_,_,_,_,_,_,_,_,_,_,_,_,_,_,_,_,_,_,_,_,_,_,_,_,_,_,_,_,_,_,_,_,_,_,_,_,_,_,_,_,_,_,_,_,_,_,_,_,_,_,_,_,_,_,_,_,_,_,_,_,_,_,_,_,_,_,_,_,_,_,_,_,_,_,_,rfl⟩,p',false,pre',H3.out,.inr ⟨rfl,oF.out,bZ.out,rfl,.inl ⟨rfl,HB.out.1⟩⟩⟩
   .have EN:(b0==34)=false:=by simpa using o8
    by_cases Aq:b0=47/\b1=47
    .obtain⟨rfl,rfl⟩:=Aq;clear o8 EN;go_wp2;refine wp_goto ?_;exact HK.out 1 (2*(C.s.size - p'.at_)+2) _ _ (by have:=HN.out;rw [rC.out.1]at this;have h1:=rC.out.2;have h2:=bZ.out;simp at this;omega) ⟨⟨_,_,_,_,_,_,_,_,_,_,_,_,_,_,_,_,_,_,_,_,_,_,_,_,_,_,_,_,_,_,_,_,_,_,_,_,_,_,_,_,_,_,_,_,_,_,_,_,_,_,_,_,_,_,_,_,_,_,_,_,_,_,_,_,_,_,_,_,_,_,_,_,_,_,_,_,_,_,_,_,_,_,_,_,_,_,rfl⟩,p',false,pre',H3.out,.inr ⟨rfl,oF.out,bZ.out,rfl,.inr (.inl ⟨rfl,HB.out⟩)⟩⟩
    .by_cases Ci:b0=47/\b1=42
     .obtain⟨rfl,rfl⟩:=Ci;clear o8 EN Aq;go_wp2;refine wp_goto ?_;exact HK.out 2 (2*(C.s.size - p'.at_)+2) _ _ (by have:=HN.out;rw [rC.out.1]at this;have h1:=rC.out.2;have h2:=bZ.out;simp at this;omega) ⟨⟨_,_,_,_,_,_,_,_,_,_,_,_,_,_,_,_,_,_,_,_,_,_,_,_,_,_,_,_,_,_,_,_,_,_,_,_,_,_,_,_,_,_,_,_,_,_,_,_,_,_,_,_,_,_,_,_,_,_,_,_,_,_,_,_,_,_,_,_,_,_,_,_,_,_,_,_,_,_,_,_,_,_,_,_,_,_,rfl⟩,p',false,pre',H3.out,.inr ⟨rfl,oF.out,bZ.out,rfl,.inr (.inr ⟨rfl,HB.out⟩)⟩⟩
     .by_cases lU:b0=10
      .subst lU;clear o8 EN Aq Ci;have HE:Hid (C.X=(pre'++aW 0 0 p')++aI C.s false (jq (bq 0 p'))):=by
        show _=_;have e1:=HB.out.1;rw [oF.out,aI,if_pos bZ.out,if_neg (by decide),if_neg (by rw [e1];decide),if_neg (by rw [e1];rintro⟨h,_⟩;exact absurd h (by decide)),if_neg (by rw [e1];rintro⟨h,_⟩;exact absurd h (by decide)),if_pos e1,List.append_assoc]
       have HC:=H3.out.cut O 0 0 (by omega) (by omega) (by have:=bZ.out;omega) (fun _=>⟨_,HE.out.symm⟩);rw [uZ]at HC;clear c6 f6;go_wp2_with fail;refine HC.mono ?_;rintro ev W3 ⟨⟨v,rfl⟩,iW,_,h3⟩;have CO:=h3.feed O (by rw [gU];have:=bZ.out;omega);clear HC h3;go_wp2_with fail;refine CO.mono ?_;rintro ev W4 ⟨⟨v,rfl⟩,h4⟩;have H4:Hid (RW C W4 (jq (bq 0 p')) iW (pre'++aW 0 0 p')):=h4;clear CO h4;go_wp2;have hfa:(jq (bq 0 p')).at_=p'.at_+1:=by show(bq 0 p').at_+1=_;rw [gU]
       go_roundg (C.s.size - (p'.at_+1));case measure=>have:=bZ.out;omega
       case rel=>exact⟨_,iW,_,by rw [hfa],H4.out,fun _=>HE.out,fun _=>⟨rC.out.1,by have:=rC.out.2;omega⟩⟩
      .have IJ:(b0==10)=false:=by simpa using lU
       have HE:Hid (C.X=pre'++aI C.s false (bB p' (p'.at_+1))):=by
        show _=_;obtain⟨e1,e2⟩:=HB.out;rw [oF.out,aI,if_pos bZ.out,if_neg (by decide),if_neg (by rw [e1];exact o8),if_neg (by rw [e1,e2];exact Aq),if_neg (by rw [e1,e2];exact Ci),if_neg (by rw [e1];exact lU)]
       have HZ:Hid (p'.at_+1<=1000):=by have:=bZ.out;have:=O.hz;show _<=_;omega
       have hz1:(p'.at_:Int)<=1000:=by have:=HZ.out;omega
       by_cases Oh:b0=47
       .subst Oh;have r1:(b1==47)=false:=by simpa using Aq
        have r2:(b1==42)=false:=by simpa using Ci
        clear o8 Aq Ci lU;go_wp2;go_roundg (C.s.size - (p'.at_+1));case measure=>have:=bZ.out;omega
        case rel=>exact⟨_,false,_,rfl,H3.out.step O (j:=p'.at_+1) (by omega) (by have:=bZ.out;omega),fun _=>HE.out,fun _=>⟨rC.out.1,by have:=rC.out.2;show _<=p'.at_+1;omega⟩⟩
       .have r47:(b0==47)=false:=by simpa using Oh
        clear o8 Aq Ci lU Oh;go_wp2;go_roundg (C.s.size - (p'.at_+1));case measure=>have:=bZ.out;omega
        case rel=>exact⟨_,false,_,rfl,H3.out.step O (j:=p'.at_+1) (by omega) (by have:=bZ.out;omega),fun _=>HE.out,fun _=>⟨rC.out.1,by have:=rC.out.2;show _<=p'.at_+1;omega⟩⟩
theorem ahP(C:RC)(O:kV C)(w:World)(p:RP)(pre:List PR)(h:RW C w p false pre)(hX:C.X=pre++aI C.s false p)(hlt:p.at_<C.s.size)(e0:bt C.s p.at_=47)(e1:bt C.s (p.at_+1)=47)(n:Nat)(hn:n=2*(C.s.size - p.at_)+2)
  (K:Nat->Act->World->Prop) (hK:∀l m a w,m<n->LJ C l m a w->K l a w) (u0 u1 u2 u3 u5 u6 u7 u8 u9 qA qB qD qE qF qG u16 qH qI qJ u20 u21 u22 u23 u24 u25 u26 u27 u28 u29 u30 u31 u32 u33 u34 u35 u36 u37 u38 qK u40 qL u42 qM u44 u45 u46 qN u48 u49 qO u51 qP u53 qV u55 qW qX u58 u59 u60 qY qZ u63 u64 q9 u66 rq u68 u69 u70 ry u72 u73 sD u75 sF sG sH sI sJ sK sM sN sO sP sQ:Value):
  Code.wp prog (Ck 1) (jumps K (bodyPost prog Tryz.f107 (RE C))) {tmps:=#[u0,u1,u2,u3,.pointer (some ⟨C.rb,0,none⟩),u5,u6,u7,u8,u9,qA,qB,qD,qE,qF,qG,u16,qH,qI,qJ,u20,u21,u22,u23,u24,u25,u26,u27,u28,u29,u30,u31,u32,u33,u34,u35,u36,u37,u38,qK,u40,qL,u42,qM,u44,u45,u46,qN,u48,u49,qO,u51,qP,u53,qV,u55,qW,qX,u58,u59,u60,qY,qZ,u63,u64,q9,u66,rq,u68,u69,u70,ry,u72,u73,sD,u75,sF,sG,sH,sI,sJ,sK,sM,sN,sO,sP,sQ],defers:=[]} w:=by
 conv=>arg 2;whnf
 have HK:Hid (∀l m a w,m<n->LJ C l m a w->K l a w):=hK;have HN:Hid (n=2*(C.s.size - p.at_)+2):=hn;clear hK hn;have bZ:Hid (p.at_+1<C.s.size):=l8 (by rw [e1];decide);have HE:Hid (C.X=(pre++aW 0 0 p)++(aW 2 0 (bB (bF 2 p false) (bf C.s (p.at_+2)))++aI C.s false (bq 0 (bB (bF 2 p false) (bf C.s (p.at_+2)))))):=by
  show _=_;rw [hX,aI,if_pos hlt,if_neg (by decide),if_neg (by rw [e0];decide),if_pos ⟨e0,e1⟩,List.append_assoc]
 have HO:=h.open O 2 (by omega) (by have:=bZ.out;omega) (fun _=>⟨_,HE.out.symm⟩);clear h hX hlt e0 e1;go_wp2_with fail;refine HO.mono ?_;rintro ev W1 ⟨⟨v,rfl⟩,st1,_,h1⟩;have HS:=h1.aiK O;clear HO h1;go_wp2_with fail;refine HS.mono ?_;rintro ev W2 ⟨⟨v,rfl⟩,h2⟩;rw [Ez]at h2;have HC:=h2.cut O 2 0 (by omega) (by omega) (by have:=h2.ok.e;omega) (fun e=>by rw [e,if_neg (by decide),HE.out,<-List.append_assoc];exact List.prefix_append _ _);clear HS h2;go_wp2_with fail;refine HC.mono ?_;rintro ev W3 ⟨⟨v,rfl⟩,iW,DJ,h3⟩;have H3:Hid (RW C W3 (dX 0 (bB (bF 2 p false) (if st1 then p.at_+2 else bf C.s (p.at_+2))) st1) iW ((pre++aW 0 0 p)++aW 2 0 (bB (bF 2 p false) (if st1 then p.at_+2 else bf C.s (p.at_+2))))):=h3;have Ji:Hid (st1=true->iW=true):=DJ;clear HC h3 DJ;go_wp2;refine wp_goto ?_;have hat:p.at_<(dX 0 (bB (bF 2 p false) (if st1 then p.at_+2 else bf C.s (p.at_+2))) st1).at_:=by
  rw [Dw];show _<(if st1 then p.at_+2 else bf C.s (p.at_+2))+0;have:=Ae C.s (p.at_+2);split<;>omega
 have hx:iW=false->C.X=((pre++aW 0 0 p)++aW 2 0 (bB (bF 2 p false) (if st1 then p.at_+2 else bf C.s (p.at_+2))))++aI C.s false (dX 0 (bB (bF 2 p false) (if st1 then p.at_+2 else bf C.s (p.at_+2))) st1):=fun e=>by
  have:st1=false:=by cases hs:st1 with
   |true=>rw [Ji.out hs]at e;cases e
   |false=>rfl
  subst this;rw [if_neg (by decide),uZ,List.append_assoc];exact HE.out
 exact HK.out 3 (if iW then 0 else 2*(C.s.size - (dX 0 (bB (bF 2 p false) (if st1 then p.at_+2 else bf C.s (p.at_+2))) st1).at_)+3) _ _ (by have h1:=HN.out;have h2:=hat;have h3:=bZ.out;split<;>omega) ⟨⟨_,_,_,_,_,_,_,_,_,_,_,_,_,_,_,_,_,_,_,_,_,_,_,_,_,_,_,_,_,_,_,_,_,_,_,_,_,_,_,_,_,_,_,_,_,_,_,_,_,_,_,_,_,_,_,_,_,_,_,_,_,_,_,_,_,_,_,_,_,_,_,_,_,_,_,_,_,_,_,_,_,_,_,_,_,_,rfl⟩,dX 0 (bB (bF 2 p false) (if st1 then p.at_+2 else bf C.s (p.at_+2))) st1,iW,_,H3.out,.inl ⟨rfl,hx,rfl⟩⟩
theorem ahM(C:RC)(O:kV C)(w:World)(p:RP)(pre:List PR)(h:RW C w p false pre)(hX:C.X=pre++aI C.s false p)(hlt:p.at_<C.s.size)(e0:bt C.s p.at_=47)(e1:bt C.s (p.at_+1)=42)(n:Nat)(hn:n=2*(C.s.size - p.at_)+2)
  (K:Nat->Act->World->Prop) (hK:∀l m a w,m<n->LJ C l m a w->K l a w) (u0 u1 u2 u3 u5 u6 u7 u8 u9 qA qB qD qE qF qG u16 qH qI qJ u20 u21 u22 u23 u24 u25 u26 u27 u28 u29 u30 u31 u32 u33 u34 u35 u36 u37 u38 qK u40 qL u42 qM u44 u45 u46 qN u48 u49 qO u51 qP u53 qV u55 qW qX u58 u59 u60 qY qZ u63 u64 q9 u66 rq u68 u69 u70 ry u72 u73 sD u75 sF sG sH sI sJ sK sM sN sO sP sQ:Value):
  Code.wp prog (Ck 2) (jumps K (bodyPost prog Tryz.f107 (RE C))) {tmps:=#[u0,u1,u2,u3,.pointer (some ⟨C.rb,0,none⟩),u5,u6,u7,u8,u9,qA,qB,qD,qE,qF,qG,u16,qH,qI,qJ,u20,u21,u22,u23,u24,u25,u26,u27,u28,u29,u30,u31,u32,u33,u34,u35,u36,u37,u38,qK,u40,qL,u42,qM,u44,u45,u46,qN,u48,u49,qO,u51,qP,u53,qV,u55,qW,qX,u58,u59,u60,qY,qZ,u63,u64,q9,u66,rq,u68,u69,u70,ry,u72,u73,sD,u75,sF,sG,sH,sI,sJ,sK,sM,sN,sO,sP,sQ],defers:=[]} w:=by
 conv=>arg 2;whnf
 have HK:Hid (∀l m a w,m<n->LJ C l m a w->K l a w):=hK;have HN:Hid (n=2*(C.s.size - p.at_)+2):=hn;clear hK hn;have bZ:Hid (p.at_+1<C.s.size):=l8 (by rw [e1];decide);have HE:Hid (C.X=(pre++aW 0 0 p)++aI C.s true (bF 2 p false)):=by
  show _=_;rw [hX,aI,if_pos hlt,if_neg (by decide),if_neg (by rw [e0];decide),if_neg (by rw [e1];rintro⟨_,h⟩;exact absurd h (by decide)),if_pos ⟨e0,e1⟩,List.append_assoc]
 have HO:=h.open O 2 (by omega) (by have:=bZ.out;omega) (fun _=>⟨_,HE.out.symm⟩);clear h hX hlt e0 e1;go_wp2_with fail;refine HO.mono ?_;rintro ev W1 ⟨⟨v,rfl⟩,st1,_,h1⟩;have H1:Hid (RW C W1 (bF 2 p false) st1 (pre++aW 0 0 p)):=h1;clear HO h1;go_wp2;go_loopg [] (C.s.size - (bF 2 p false).at_) (fun gh W=>∃p' st' pre',gh=C.s.size - p'.at_/\RW C W p' st' pre'/\(st'=false->C.X=pre'++aI C.s true p')/\p.at_<p'.at_);case atStart=>exact⟨bF 2 p false,st1,_,rfl,H1.out,fun _=>HE.out,by rw [Ez];omega⟩
 case round=>
  obtain⟨p',st',pre',rfl,hW,mF,hle⟩:=hrel;have HW:Hid (RW C wr p' st' pre'):=hW;have zx:Hid (st'=false->C.X=pre'++aI C.s true p'):=mF;have mY:Hid (p.at_<p'.at_):=hle;clear hle;by_cases ho:jN C.s p' st'=true
  .have HO:=hW.over O;rw [ho]at HO;have HE2:Hid (st'=false->C.X=pre'++aW 2 0 p'):=fun e=>by
    rw [mF e,aI,if_neg]
    .rfl
    .subst e;simp [jN]at ho;omega
   clear ho hW mF;go_wp2_with fail;refine HO.mono ?_;rintro ev W2 ⟨rfl,h2⟩;have HC:=h2.cut O 2 0 (by omega) (by omega) (by have:=h2.ok.e;omega) (fun e=>by rw [HE2.out e];exact List.prefix_refl _);clear HO h2;go_wp2_with fail;refine HC.mono ?_;rintro ev W3 ⟨⟨v,rfl⟩,st2,h2,h3⟩;have HF:Hid (RE C (.returned (.tuple #[])) W3):=h3.end (fun e=>by
    have:st'=false:=by cases hs:st' with
     |true=>rw [h2 hs]at e;cases e
     |false=>rfl
    exact HE2.out this) _
   clear HC h2 h3;go_wp2;go_end0;exact HF.out
  .have ho:jN C.s p' st'=false:=by simpa using ho
   have HO:=hW.over O;rw [ho]at HO;have hst:st'=false:=by simp [jN]at ho;exact ho.1
   have hlt:p'.at_<C.s.size:=by have:=hW.ok.e;simp [jN]at ho;omega
   subst hst;have jk:Hid (p'.at_<C.s.size):=hlt;clear ho hW mF;have oF:Hid (C.X=pre'++aI C.s true p'):=zx.out rfl;clear zx;go_wp2_with fail;refine HO.mono ?_;rintro ev W2 ⟨rfl,h1⟩;have HS:=h1.sign O hlt;clear HO h1 hlt;go_wp2_with fail;refine HS.mono ?_;rintro ev W3 ⟨rfl,h2⟩;obtain⟨b0,hb0⟩:∃b0,bt C.s p'.at_=b0:=⟨_,rfl⟩
   obtain⟨b1,hb1⟩:∃b1,bt C.s (p'.at_+1)=b1:=⟨_,rfl⟩
   have HB:Hid (bt C.s p'.at_=b0/\bt C.s (p'.at_+1)=b1):=⟨hb0,hb1⟩
   rw [hb0,hb1];clear hb0 hb1 HS;have h3:RW C (W3.alloc (.cells #[.int .u8 b0,.int .u8 b1] 246)) p' false pre':=h2.al O _;obtain⟨⟨y1,y2⟩,⟨y3,y4⟩,y5,y6⟩:=(h3.env O).cells;have H3:Hid (RW C (W3.alloc (.cells #[.int .u8 b0,.int .u8 b1] 246)) p' false pre'):=h3;have c6:=h3.rs.rd.c6;have f6:=h3.rs.rd.fz 6;clear h2 h3;by_cases Cj:b0=42/\b1=47
   .obtain⟨rfl,rfl⟩:=Cj;have HE2:Hid (C.X=(pre'++aW 2 2 p')++aI C.s false (bq 2 p')):=by
     show _=_;rw [oF.out,aI,if_pos jk.out,if_pos rfl,if_pos HB.out,List.append_assoc]
    have HL2:Hid (p'.at_+1<C.s.size):=l8 (by rw [HB.out.2];decide);have HC:=H3.out.cut O 2 2 (by omega) (by omega) (by have:=HL2.out;omega) (fun _=>⟨_,HE2.out.symm⟩);rw [uZ]at HC;clear c6 f6;go_wp2_with fail;refine HC.mono ?_;rintro ev W4 ⟨⟨v,rfl⟩,iW,_,h4⟩;have H4:Hid (RW C W4 (bq 2 p') iW (pre'++aW 2 2 p')):=h4;clear HC h4;go_wp2;refine wp_goto ?_;have hat:p.at_<(bq 2 p').at_:=by rw [gU];have:=mY.out;omega
    exact HK.out 3 (if iW then 0 else 2*(C.s.size - (bq 2 p').at_)+3) _ _ (by have h1:=HN.out;have h2:=hat;have h3:=bZ.out;split<;>omega) ⟨⟨_,_,_,_,_,_,_,_,_,_,_,_,_,_,_,_,_,_,_,_,_,_,_,_,_,_,_,_,_,_,_,_,_,_,_,_,_,_,_,_,_,_,_,_,_,_,_,_,_,_,_,_,_,_,_,_,_,_,_,_,_,_,_,_,_,_,_,_,_,_,_,_,_,_,_,_,_,_,_,_,_,_,_,_,_,_,rfl⟩,bq 2 p',iW,_,H4.out,.inl ⟨rfl,fun _=>HE2.out,rfl⟩⟩
   .by_cases lU:b0=10
    .subst lU;clear Cj;have HE2:Hid (C.X=(pre'++aW 2 0 p')++aI C.s true (jq (bq 0 p'))):=by
      show _=_;rw [oF.out,aI,if_pos jk.out,if_pos rfl,if_neg (by rw [HB.out.1];rintro⟨h,_⟩;exact absurd h (by decide)),if_pos HB.out.1,List.append_assoc]
     have HC:=H3.out.cut O 2 0 (by omega) (by omega) (by have:=jk.out;omega) (fun _=>⟨_,HE2.out.symm⟩);rw [uZ]at HC;clear c6 f6;go_wp2_with fail;refine HC.mono ?_;rintro ev W4 ⟨⟨v,rfl⟩,iW,_,h4⟩;have CO:=h4.feed O (by rw [gU];have:=jk.out;omega);clear HC h4;go_wp2_with fail;refine CO.mono ?_;rintro ev W5 ⟨⟨v,rfl⟩,h5⟩;have H5:Hid (RW C W5 (jq (bq 0 p')) iW (pre'++aW 2 0 p')):=h5;clear CO h5;go_wp2;have hfa:(jq (bq 0 p')).at_=p'.at_+1:=by show(bq 0 p').at_+1=_;rw [gU]
     go_roundg (C.s.size - (p'.at_+1));case measure=>have:=jk.out;omega
     case rel=>exact⟨_,iW,_,by rw [hfa],H5.out,fun _=>HE2.out,by rw [hfa];have:=mY.out;omega⟩
    .have IJ:(b0==10)=false:=by simpa using lU
     have HE2:Hid (C.X=pre'++aI C.s true (bB p' (p'.at_+1))):=by
      show _=_;obtain⟨e1,e2⟩:=HB.out;rw [oF.out,aI,if_pos jk.out,if_pos rfl,if_neg (by rw [e1,e2];exact Cj),if_neg (by rw [e1];exact lU)]
     have hz1:(p'.at_:Int)<=1000:=by have:=jk.out;have:=O.hz;omega
     by_cases Og:b0=42
     .subst Og;have r1:(b1==47)=false:=by simpa using Cj
      clear Cj lU;go_wp2;go_roundg (C.s.size - (p'.at_+1));case measure=>have:=jk.out;omega
      case rel=>exact⟨_,false,_,rfl,H3.out.step O (j:=p'.at_+1) (by omega) (by have:=jk.out;omega),fun _=>HE2.out,by have:=mY.out;show _<p'.at_+1;omega⟩
     .have r42:(b0==42)=false:=by simpa using Og
      clear Cj lU Og;go_wp2;go_roundg (C.s.size - (p'.at_+1));case measure=>have:=jk.out;omega
      case rel=>exact⟨_,false,_,rfl,H3.out.step O (j:=p'.at_+1) (by omega) (by have:=jk.out;omega),fun _=>HE2.out,by have:=mY.out;show _<p'.at_+1;omega⟩
theorem ahO(C:RC)(O:kV C)(w:World)(p:RP)(pre:List PR)(h:RW C w p false pre)(hX:C.X=pre++aI C.s false p)(hlt:p.at_<C.s.size)(e0:bt C.s p.at_=34)(n:Nat)(hn:n=2*(C.s.size - p.at_)+2)
  (K:Nat->Act->World->Prop) (hK:∀l m a w,m<n->LJ C l m a w->K l a w) (u0 u1 u2 u3 u5 u6 u7 u8 u9 qA qB qD qE qF qG u16 qH qI qJ u20 u21 u22 u23 u24 u25 u26 u27 u28 u29 u30 u31 u32 u33 u34 u35 u36 u37 u38 qK u40 qL u42 qM u44 u45 u46 qN u48 u49 qO u51 qP u53 qV u55 qW qX u58 u59 u60 qY qZ u63 u64 q9 u66 rq u68 u69 u70 ry u72 u73 sD u75 sF sG sH sI sJ sK sM sN sO sP sQ:Value):
  Code.wp prog (Ck 0) (jumps K (bodyPost prog Tryz.f107 (RE C))) {tmps:=#[u0,u1,u2,u3,.pointer (some ⟨C.rb,0,none⟩),u5,u6,u7,u8,u9,qA,qB,qD,qE,qF,qG,u16,qH,qI,qJ,u20,u21,u22,u23,u24,u25,u26,u27,u28,u29,u30,u31,u32,u33,u34,u35,u36,u37,u38,qK,u40,qL,u42,qM,u44,u45,u46,qN,u48,u49,qO,u51,qP,u53,qV,u55,qW,qX,u58,u59,u60,qY,qZ,u63,u64,q9,u66,rq,u68,u69,u70,ry,u72,u73,sD,u75,sF,sG,sH,sI,sJ,sK,sM,sN,sO,sP,sQ],defers:=[]} w:=by
 conv=>arg 2;whnf
 have HK:Hid (∀l m a w,m<n->LJ C l m a w->K l a w):=hK;have HN:Hid (n=2*(C.s.size - p.at_)+2):=hn;clear hK hn;have bZ:Hid (p.at_<C.s.size):=hlt;have HE:Hid (C.X=(pre++aW 0 0 p)++(aW 1 (qT C.s (p.at_+1)) (bB (bF 1 p false) (qR C.s (p.at_+1)).1)++aI C.s false (bq (qT C.s (p.at_+1)) (bB (bF 1 p false) (qR C.s (p.at_+1)).1)))):=by
  show _=_;rw [hX,aI,if_pos hlt,if_neg (by decide),if_pos e0,List.append_assoc]
 have HO:=h.open O 1 (by omega) (by omega) (fun _=>⟨_,HE.out.symm⟩);clear h hX hlt e0;go_wp2_with fail;refine HO.mono ?_;rintro ev W1 ⟨⟨v,rfl⟩,st1,_,h1⟩;have H1:Hid (RW C W1 (bF 1 p false) st1 (pre++aW 0 0 p)):=h1;clear HO h1;have HZ:Hid (C.s.size<=1000):=O.hz;obtain⟨Q,hQ⟩:∃Q,qR C.s (p.at_+1)=Q:=⟨_,rfl⟩
 have HQ:Hid (qR C.s (p.at_+1)=Q):=hQ;clear hQ;go_wp2;go_loopg [] (C.s.size - (p.at_+1)) (fun gh W=>∃a,gh=C.s.size - a/\RW C W (bB (bF 1 p false) a) st1 (pre++aW 0 0 p)/\(st1=false->qR C.s a=Q)/\p.at_<a);case atStart=>exact⟨p.at_+1,rfl,by have:=H1.out;rw [show bB (bF 1 p false) (p.at_+1)=bF 1 p false by rw [<-Ez (p:=p) (st:=false)];rfl];exact this,fun _=>HQ.out,by omega⟩
 case round=>
  obtain⟨a,rfl,hW,hq,hle⟩:=hrel;have HW:Hid (RW C wr (bB (bF 1 p false) a) st1 (pre++aW 0 0 p)):=hW;have Hq:Hid (st1=false->qR C.s a=Q):=hq;have mY:Hid (p.at_<a):=hle;have HA:Hid (a<=C.s.size):=hW.ok.e;clear hle;by_cases ho:rW C.s (bB (bF 1 p false) a) st1=true
  .have HO:=hW.Wv O;rw [ho]at HO;have HE2:Hid (st1=false->Q=(a,false)):=fun e=>by
    rw [<-hq e,qR,if_neg];subst e;rintro⟨h1,h2⟩;simp only [rW,jN,Bool.or_eq_true,bB]at ho;rcases ho with(h3|h3)|h3
    .cases h3
    .have:=of_decide_eq_true h3;omega
    .exact h2 (of_decide_eq_true h3)
   clear ho hW hq;go_wp2_with fail;refine HO.mono ?_;rintro ev W2 ⟨rfl,h2⟩;have HP:Hid (st1=false->C.X=(pre++aW 0 0 p)++(aW 1 0 (bB (bF 1 p false) a)++aI C.s false (bq 0 (bB (bF 1 p false) a)))):=fun e=>by
    have:=HE.out;rw [qT,HQ.out,HE2.out e]at this;exact this
   have HC:=h2.cut O 1 0 (by omega) (by omega) (by have:=HA.out;exact this) (fun e=>by rw [HP.out e,<-List.append_assoc];exact List.prefix_append _ _);clear HO h2;go_wp2_with fail;refine HC.mono ?_;rintro ev W3 ⟨⟨v,rfl⟩,iW,DJ,h3⟩;have H3:Hid (RW C W3 (dX 0 (bB (bF 1 p false) a) st1) iW ((pre++aW 0 0 p)++aW 1 0 (bB (bF 1 p false) a))):=h3;have Ji:Hid (st1=true->iW=true):=DJ;clear HC h3 DJ;go_wp2;refine wp_goto ?_;have hat:p.at_<(dX 0 (bB (bF 1 p false) a) st1).at_:=by
    rw [Dw];exact mY.out
   have hx:iW=false->C.X=((pre++aW 0 0 p)++aW 1 0 (bB (bF 1 p false) a))++aI C.s false (dX 0 (bB (bF 1 p false) a) st1):=fun e=>by
    have:st1=false:=by cases hs:st1 with
     |true=>rw [Ji.out hs]at e;cases e
     |false=>rfl
    subst this;rw [uZ,List.append_assoc];exact HP.out rfl
   exact HK.out 3 (if iW then 0 else 2*(C.s.size - (dX 0 (bB (bF 1 p false) a) st1).at_)+3) _ _ (by have h1:=HN.out;have h2:=hat;have h3:=bZ.out;split<;>omega) ⟨⟨_,_,_,_,_,_,_,_,_,_,_,_,_,_,_,_,_,_,_,_,_,_,_,_,_,_,_,_,_,_,_,_,_,_,_,_,_,_,_,_,_,_,_,_,_,_,_,_,_,_,_,_,_,_,_,_,_,_,_,_,_,_,_,_,_,_,_,_,_,_,_,_,_,_,_,_,_,_,_,_,_,_,_,_,_,_,rfl⟩,dX 0 (bB (bF 1 p false) a) st1,iW,_,H3.out,.inl ⟨rfl,hx,rfl⟩⟩
  .have ho:rW C.s (bB (bF 1 p false) a) st1=false:=by simpa using ho
   have HO:=hW.Wv O;rw [ho]at HO;simp only [rW,jN,Bool.or_eq_false_iff,decide_eq_false_iff_not]at ho;obtain⟨⟨rfl,h2⟩,h3⟩:=ho;have hlt:a<C.s.size:=by have:=HA.out;have h2:¬a=C.s.size:=h2;omega
   have h3:bt C.s a≠10:=h3;have jk:Hid (a<C.s.size/\bt C.s a≠10):=⟨hlt,h3⟩
   have oF:Hid (qR C.s a=Q):=Hq.out rfl;clear h2 h3 hW hq Hq;go_wp2_with fail;refine HO.mono ?_;rintro ev W2 ⟨rfl,h1⟩;have HS:=h1.sign O hlt;clear HO h1 hlt;go_wp2_with fail;refine HS.mono ?_;rintro ev W3 ⟨rfl,h2⟩;obtain⟨b0,hb0⟩:∃b0,bt C.s (bB (bF 1 p false) a).at_=b0:=⟨_,rfl⟩
   obtain⟨b1,hb1⟩:∃b1,bt C.s ((bB (bF 1 p false) a).at_+1)=b1:=⟨_,rfl⟩
   have HB:Hid (bt C.s a=b0/\bt C.s (a+1)=b1):=⟨hb0,hb1⟩
   rw [hb0,hb1];clear hb0 hb1 HS;have h3:RW C (W3.alloc (.cells #[.int .u8 b0,.int .u8 b1] 246)) (bB (bF 1 p false) a) false (pre++aW 0 0 p):=h2.al O _;have H3:Hid (RW C (W3.alloc (.cells #[.int .u8 b0,.int .u8 b1] 246)) (bB (bF 1 p false) a) false (pre++aW 0 0 p)):=h3;have c6:(W3.alloc (.cells #[.int .u8 b0,.int .u8 b1] 246)).cell? ⟨C.rb,6,none⟩=some (.int .i64 a):=h3.rs.rd.c6;have f6:=h3.rs.rd.fz 6;clear h2 h3;have hz1:(a:Int)<=1000:=by have:=jk.out.1;have:=HZ.out;omega
   by_cases o8:b0=34
   .subst o8;have zm:Hid (Q=(a,true)):=by show _=_;rw [<-oF.out,qR,if_pos jk.out,if_pos HB.out.1]
    have HP:Hid (C.X=(pre++aW 0 0 p)++(aW 1 1 (bB (bF 1 p false) a)++aI C.s false (bq 1 (bB (bF 1 p false) a)))):=by
     have:=HE.out;rw [qT,HQ.out,zm.out]at this;exact this
    have HC:=H3.out.cut O 1 1 (by omega) (by omega) (by have:=jk.out.1;show a+1<=_;omega) (fun _=>by rw [HP.out,<-List.append_assoc];exact List.prefix_append _ _);rw [uZ]at HC;clear c6 f6;go_wp2_with fail;refine HC.mono ?_;rintro ev W4 ⟨⟨v,rfl⟩,iW,_,h4⟩;have H4:Hid (RW C W4 (bq 1 (bB (bF 1 p false) a)) iW ((pre++aW 0 0 p)++aW 1 1 (bB (bF 1 p false) a))):=h4;clear HC h4;go_wp2;refine wp_goto ?_;have hat:p.at_<(bq 1 (bB (bF 1 p false) a)).at_:=by rw [gU];have:=mY.out;show _<a+1;omega
    exact HK.out 3 (if iW then 0 else 2*(C.s.size - (bq 1 (bB (bF 1 p false) a)).at_)+3) _ _ (by have h1:=HN.out;have h2:=hat;have h3:=bZ.out;split<;>omega) ⟨⟨_,_,_,_,_,_,_,_,_,_,_,_,_,_,_,_,_,_,_,_,_,_,_,_,_,_,_,_,_,_,_,_,_,_,_,_,_,_,_,_,_,_,_,_,_,_,_,_,_,_,_,_,_,_,_,_,_,_,_,_,_,_,_,_,_,_,_,_,_,_,_,_,_,_,_,_,_,_,_,_,_,_,_,_,_,_,rfl⟩,bq 1 (bB (bF 1 p false) a),iW,_,H4.out,.inl ⟨rfl,fun _=>by rw [List.append_assoc];exact HP.out,rfl⟩⟩
   .have EN:(b0==34)=false:=by simpa using o8
    by_cases IE:b0=92
    .subst IE;clear o8 EN;by_cases lU:b1=10
     .subst lU;have zm:Hid (qR C.s (a+1)=Q):=by show _=_;rw [<-oF.out];conv=>rhs;rw [qR,if_pos jk.out,if_neg (by rw [HB.out.1];decide),if_neg (by rw [HB.out.2];rintro⟨_,h⟩;exact h rfl)]
      go_wp2;go_roundg (C.s.size - (a+1));case measure=>have:=jk.out.1;omega
      case rel=>exact⟨a+1,rfl,H3.out.step O (j:=a+1) (by show a<=_;omega) (by have:=jk.out.1;omega),fun _=>zm.out,by have:=mY.out;omega⟩
     .have IJ:(b1==10)=false:=by simpa using lU
      have zm:Hid (qR C.s (a+2)=Q):=by show _=_;rw [<-oF.out];conv=>rhs;rw [qR,if_pos jk.out,if_neg (by rw [HB.out.1];decide),if_pos (by rw [HB.out.1,HB.out.2];exact⟨rfl,lU⟩)]
      have HL3:Hid (a+1<C.s.size):=l8 (by rw [HB.out.2];exact lU);clear lU;go_wp2;go_roundg (C.s.size - (a+2));case measure=>have:=jk.out.1;omega
      case rel=>exact⟨a+2,rfl,H3.out.step O (j:=a+2) (by show a<=_;omega) (by have:=HL3.out;omega),fun _=>zm.out,by have:=mY.out;omega⟩
    .have r92:(b0==92)=false:=by simpa using IE
     have zm:Hid (qR C.s (a+1)=Q):=by show _=_;rw [<-oF.out];conv=>rhs;rw [qR,if_pos jk.out,if_neg (by rw [HB.out.1];exact o8),if_neg (by rw [HB.out.1];rintro⟨h,_⟩;exact IE h)]
     clear o8 IE;go_wp2;go_roundg (C.s.size - (a+1));case measure=>have:=jk.out.1;omega
     case rel=>exact⟨a+1,rfl,H3.out.step O (j:=a+1) (by show a<=_;omega) (by have:=jk.out.1;omega),fun _=>zm.out,by have:=mY.out;omega⟩
