import Derived.Test.YtkbinfhclaafhaaGreatDoorP16
namespace Go.Proofs.YtkbinfhclaafhaaGreatDoor
open Go.RowKit
open Go.Proofs.Tryz
set_option maxRecDepth 100000
set_option maxHeartbeats 32000000
set_option linter.all false
section
attribute [local go_sem ↓] Go.wp_at_zero Go.wp_at_succ
def anZ(w:World)(y:Value)(e:TypeId):∀j u,[y][j]? =some u->(w.alloc (.cells #[y] e)).cell? ((⟨w.heap.size,0,none⟩:Addr).add j)=some u:=by
 intro j u a
 match j,a with
 |0,a=>simp at a;subst a;simp[Addr.add]
def aiq(w:World)(a:Obj)(r:Option Nat):w.grownBy (w.alloc a) r:=⟨rfl,rfl,rfl,by simp,λk b _=>dw w a k b⟩
def aev(s:ByteArray)(l:List Int)(d:Int)(w:World)(hs:s.size<=600)(hr:eZ s=some l)(hl:l≠[])(aE:∀(r:Int)(W:World),Below w.heap.size w W->Calls prog 66 #[.int .i32 r] W λe B=>e= .returned (.int .i64<|cls r)/\Below W.heap.size W B):
  Calls prog 84 #[.string s,.int .i64 d] w λe B=>∃L:LP,e= .returned (.pointer<|some ⟨L.lb,0,none⟩)/\LX B L L.cs (List.replicate L.n 0)/\L.cs=l.map cls/\L.rs=l/\L.n=l.length/\L.p=gX (l.map cls) d/\L.B=w.heap.size/\Below w.heap.size w B:=by
 obtain⟨a4,UI,a2,a3,D⟩:=gu Tryz.Oc;obtain⟨iC,UK,aU,aV,aX⟩:=gu Tryz.Iu;have HR:=ah hr;have pg:=ah aE;obtain⟨W0,G⟩:=ac<|w.alloc (.cells #[.slice none 0 0,.slice none 0 0,.slice none 0 0,.slice none 0 0,.slice none 0 0,.int .i64 0] 141);have ad:Below w.heap.size w W0:=by rw[G];exact(aA _ _).alloc (au _) _
 have KI:W0.heap[w.heap.size]? =some (.cells #[.slice none 0 0,.slice none 0 0,.slice none 0 0,.slice none 0 0,.slice none 0 0,.int .i64 0] 141 (0,0)):=by rw[G];exact oD
 have KJ:W0.heap.size=w.heap.size+1:=by rw[G];simp
 clear hr aE;go_enter func84,ntmps84;go_wp2;rw[<-G];obtain⟨W1,R⟩:=ac<|(W0.iter s 0);have oH:Hid (NL W1 w.heap.size w.heap.size (w.heap.size+1) s 0 (.slice none 0 0) (.slice none 0 0) [] []):=by
  rw[R];have H9:Below W0.heap.size W0 (W0.iter s 0):=(aA _ _).alloc (au _) _;exact⟨bq H9 KI,gQ _ _ _ _,gQ _ _ _ _,by rw[<-KJ];exact GZ _ _ _,au _⟩
 have aD:Hid (Below w.heap.size w W1):=by rw[R];exact ad.alloc ad.size _
 rw[<-R];clear R G ad KI KJ;obtain⟨a,af⟩:=ac w.heap.size;obtain⟨E,hit⟩:=ac<|w.heap.size+1;have qN:Hid (w.heap.size<=a/\w.heap.size<=E):=⟨by omega,by omega⟩
 have Jy:Hid (NL W1 w.heap.size a E s 0 (.slice none 0 0) (.slice none 0 0) [] []):=by rw[af,hit];exact oH.out
 rw[<-hit,<-af];clear oH af hit;go_loopg [7] s.size (λgk _ W=>∃(p:Nat)(q:List Int)(vr vt:Value),p<=s.size/\gk=s.size - p/\uQ s p q/\NL W w.heap.size a E s p vr vt q q/\Below w.heap.size w W);exact⟨0,[],_,_,by omega,rfl,uQ.start s,Jy.out,aD.out⟩;clear Jy aD;obtain⟨p,q,vr,vt,hp,rfl,hR,o,hB⟩:=hrel;have a0:q.length<=p:=by obtain⟨f,_,h,_⟩:=hR;exact h
 by_cases z:p<s.size
 .have hz:aW s p≠0:=by
   intro h0;have:=hR.bad z h0;rw[HR.out]at this;cases this
  have HS:=ah<|hR.step z hz;have aZ:p+aW s p<=s.size:=by
   rcases Ex s p z hz with⟨e1,_⟩|⟨e1,T,_⟩|⟨e1,T,_⟩|⟨e1,T,_⟩<;>omega
  have a7:0<aW s p:=by omega
  have hw:=I5 s p hz;have ai:∀ty,(Instr.next (.pointer<|some ⟨E,0,none⟩) true ty).run prog wr= .ok (.tuple #[.bool true,.int .i64 p,.int .i32<|iD s p]) (wr.iterAt E s<|p+aW s p):=λty=>by
   rw[Sd wr E s p ty o.iter z,hw];rfl
  have Dj:Hid (NL (wr.iterAt E s<|p+aW s p) w.heap.size a E s (p+aW s p) vr vt q q):=o.next _;have gZ:Hid (Below w.heap.size w<|wr.iterAt E s<|p+aW s p):=Sb hB qN.out.2 _ _;clear hR hz hw o hB;generalize aW s p=k at*;generalize iD s p=r at*;generalize wr.iterAt E s (p+k)=wi at*;obtain⟨ra,rc,rfl⟩:=eH Dj.out.rr;obtain⟨ta,tc,rfl⟩:=eH Dj.out.rt;have s0:wi.cell? ⟨a,0,none⟩=some (.slice ra q.length rc):=az Dj.out.cell 0;have ug:=Dj.out.rr;have aC:=gZ.out.size;go_wp2_with(at_builtin;refine qK _ rfl _ _ 138 rfl w.heap.size 21 a4 (.int .i32 0) 4 underlying138 UI a2 a3 D rfl (by decide) _ _ _ rfl ug _ _ rfl rfl (by omega) aC ?_);intro v5 w5 cK bU;obtain⟨a5,AU,rfl⟩:=eH cK;obtain⟨KT,c5,f5⟩:=Dj.out.MG cK bU;have bG:Hid (Below w.heap.size w w5):=gZ.out.grown bU aC (λx hx=>(ug.lt x hx).1);have dR:Hid (Below w.heap.size w<|w5.setCell ⟨a,0,none⟩ (.slice a5 (q.length+1) AU)):=bG.out.setCell (p:=⟨a,0,none⟩) qN.out.1 _;have uG:=ah KT;clear cK bU KT bG ug s0 ai;go_wp2;clear c5 f5;generalize w5.setCell ⟨a,0,none⟩ (.slice a5 (q.length+1) AU)=j at*;have s1:j.cell? ⟨a,1,none⟩=some (.slice ta q.length tc):=az uG.out.cell 1;have yc:=dR.out.size;have aa:=jE func66 (by kernel_rfl) (by kernel_rfl);have Au:=ah aa;clear aa;have Js:Hid (Calls prog 66 #[.int .i32 r] j.drew λe B=>∃u,e= .returned u/\(u= .int .i64 (cls r)/\Below j.drew.heap.size j.drew B)):=(pg.out r j.drew dR.out.drew).mono (λe B h=>⟨_,h.1,rfl,h.2⟩);have cN:Hid (q.length<=1000000):=by show _<=_;omega
  go_region_law (first
   |(refine agl (by rfl) 66 _ 21 (by rfl) Au.out (.int .i32 r) (by rfl) (λu B=>u= .int .i64 (cls r)/\Below j.drew.heap.size j.drew B) Js.out ?_;rintro u w7 ⟨rfl,mZ⟩;have BR:Hid (NL w7 w.heap.size a E s (p+k) (.slice a5 (q.length+1) AU) (.slice ta q.length tc) (q++[r]) q):=uG.out.below<|(aA _ _).drew.trans mZ;have lV:Hid (Below w.heap.size w w7):=dR.out.drew.trans<|mZ.mono yc;have t1:w7.cell? ⟨a,1,none⟩=some (.slice ta q.length tc):=az BR.out.cell 1;have a9:(w7.alloc (.cells #[.int .i64<|cls r] 108)).cell? ⟨a,1,none⟩=some (.slice ta q.length tc):=(kS _ _ ⟨a,1,none⟩ (cJ BR.out.cell)).trans t1;have H:=BR.out.rt;have Un:=lV.out.size;clear mZ Js Au)
   |(refine Gh (by rfl) _ _ 139 (by rfl) w.heap.size 108 iC (.int .i64 0) 1 8 underlying139 UK aU aV aX rfl (by decide) (by decide) (.slice ta q.length tc) q.length (iv (q.map cls)) (by rfl) (kT H (.cells #[.int .i64 (cls r)] 108)) w7.heap.size [.int .i64 (cls r)] (by rfl) (by rfl) (anZ w7 _ _) (by intro u hu;simp at hu;subst hu;rfl) cN.out (by simp;omega) ?_;intro v8 w8 yu M _;obtain⟨a8,aT,rfl⟩:=eH yu;obtain⟨aB,c8,f8⟩:=BR.out.WK yu ((aiq w7 _ _).trans M);have rO:Hid (Below w.heap.size w w8):=(lV.out.alloc Un _).grown M (by simp;omega) (λx hx=>(H.lt x hx).1);clear yu M))
  all_goals
   have aN:=ah aB;have QK:Hid (Below w.heap.size w<|w8.setCell ⟨a,1,none⟩ (.slice a8 (q.length+1) aT)):=rO.out.setCell (p:=⟨a,1,none⟩) qN.out.1 _;clear aB c8 f8 rO;go_wp2;go_roundg (s.size - (p+k));exact⟨p+k,q++[r],_,_,aZ,rfl,HS.out,aN.out,QK.out⟩;omega
 .have aS:q=l:=by
   have:=hR.stop z;rw[HR.out]at this;exact(aJ this).symm
  subst aS;have ag:0<q.length:=jK.2 hl;have Lt:q.length<=600:=by omega
  have ai:∀ty,(Instr.next (.pointer<|some ⟨E,0,none⟩) true ty).run prog wr= .ok (.tuple #[.bool false]) wr:=λty=>GK wr E s p ty o.iter z
  obtain⟨F,cr,rfl,_,aH,UF⟩:=gI o.rr ag;obtain⟨t,Y,rfl,_,aI,aj⟩:=gI o.rt ag;have aq:=jG o.rt o.cell (by decide);have ao:=jG o.rr o.cell (by decide);obtain⟨n,T⟩:=ac q.length;have a6:=run_make_row' (P:=prog) 139 108 (.int .i64 0) 8 underlying139 Tryz.Iu rfl .i64 .i64 n (by omega) (by omega);have UW:=run_make_row' (P:=prog) 31 3 (.int .i64 0) 8 underlying31 Tryz.rL rfl .i64 .i64 n (by omega) (by omega);rw[<-T]at o ag Lt;have zG:LB wr a (.slice (some ⟨F,0,none⟩) n cr) (.slice (some ⟨t,0,none⟩) n Y) (.slice none 0 0) (.slice none 0 0) (.slice none 0 0) (.int .i64 0):=o.cell;have ug:wr.ownsRow w.heap.size 21 1 (.slice (some ⟨F,0,none⟩) n cr) n (pT q):=by have:=o.rr;rw[<-T]at this;exact this
  have H:wr.ownsRow w.heap.size 108 1 (.slice (some ⟨t,0,none⟩) n Y) n (iv<|q.map cls):=by have:=o.rt;rw[<-T]at this;exact this
  have ak:a<wr.heap.size:=cJ o.cell;have PN:t≠a:=λe=>aq<|by rw[e];rfl
  have Ec:F≠a:=λe=>ao<|by rw[e];rfl
  have Ar:Hid ((q.map cls).length=n/\q.length=n/\w.heap.size<=F/\w.heap.size<=t/\w.heap.size<=a):=⟨by simp[T],T.symm,UF,aj,qN.out.1⟩
  clear o hR aq ao a0 z UF aj hl T
  -- the classes
  have A6:LB (wr.alloc (.cells (madeCells #[.int .i64 0] n) 108)) a _ _ _ _ _ _:=zG.grown (Dz wr _ none) (by simp);have c1:=zG.c1;obtain⟨d2,e2⟩:=A6.c2;have KU:aY (wr.alloc (.cells (madeCells #[.int .i64 0] n) 108)) w.heap.size 108 wr.heap.size n (List.replicate n (.int .i64 0)):=aY.made hB.size (by omega);have ae:wr.grownBy ((wr.alloc (.cells (madeCells #[.int .i64 0] n) 108)).setCell ⟨a,2,none⟩ (.slice (some ⟨wr.heap.size,0,none⟩) n n)) (some a):=(Dz wr _ _).trans (Gg _ a 2 _);have y:=A6.s2 (.slice (some ⟨wr.heap.size,0,none⟩) n n);have pN:aY ((wr.alloc (.cells (madeCells #[.int .i64 0] n) 108)).setCell ⟨a,2,none⟩ (.slice (some ⟨wr.heap.size,0,none⟩) n n)) w.heap.size 108 wr.heap.size n (List.replicate n (.int .i64 0)):=KU.setOther a 2 _ (by omega);have bw:Below w.heap.size w ((wr.alloc (.cells (madeCells #[.int .i64 0] n) 108)).setCell ⟨a,2,none⟩ (.slice (some ⟨wr.heap.size,0,none⟩) n n)):=(hB.alloc hB.size _).setCell (p:=⟨a,2,none⟩) qN.out.1 _;have zK:=iY ug ae Ec;have Ip:=iY H ae PN;have D:((wr.alloc (.cells (madeCells #[.int .i64 0] n) 108)).setCell ⟨a,2,none⟩ (.slice (some ⟨wr.heap.size,0,none⟩) n n)).heap.size=wr.heap.size+1:=by simp
  have h2:=And.intro y<|And.intro pN<|And.intro bw<|And.intro zK<|And.intro Ip D;have H2:=ah h2;have K:Hid (F<wr.heap.size/\t<wr.heap.size/\a<wr.heap.size):=⟨aH,aI,ak⟩
  clear zG A6 KU ae y pN bw zK Ip D ug H hB aH aI ak h2;obtain⟨c,kY⟩:=ac wr.heap.size;go_wp2;generalize((wr.alloc (.cells (madeCells #[.int .i64 0] n) 108)).setCell ⟨a,2,none⟩ (.slice (some ⟨wr.heap.size,0,none⟩) n n))=W2 at*;rw[<-kY]at H2 K ⊢;clear kY c1 d2 e2 ai;obtain⟨y,pN,bw,zK,Ip,D⟩:=H2.out;clear H2
  -- the copy
  obtain⟨b,kj,D4,aF⟩:=Ti (P:=prog) (w:=W2.drew) (sT:=139) (e:=108) (ty:=3) (g:=c) underlying139 Tryz.Xn (aY.heap pN) (by simp) (G0 Ip) (λv hv=>by simp only[iv,jM]at hv;obtain⟨x,_,rfl⟩:=hv;rfl);have i:W2.grownBy b (some c):=(show W2.grownBy W2.drew (some c)from⟨rfl,rfl,rfl,au _,λ_ _ _=>rfl⟩).trans aF;have aL:t≠c/\F≠c/\a≠c:=by have:=K.out;omega
  have C:LB b a _ _ _ _ _ _:=y.grown i (by simp;omega);have kE:aY b w.heap.size 108 c n (iv<|q.map cls):=aY.PT D4 (by have:=pN.lt c rfl;exact this.1) (by rw[nZ,Ar.out.1]) (by omega);have dm:Below w.heap.size w b:=bw.grown i bw.size (λk A=>by cases A;exact(pN.lt c rfl).1);have zL:=iY zK i aL.2.1;have LR:=iY Ip i aL.1;have I:c+1<=b.heap.size:=by have:=i.size;omega
  obtain⟨c2,_⟩:=y.c2;have c1:=y.c1;have h3:=And.intro C<|And.intro kE<|And.intro dm<|And.intro zL<|And.intro LR I;have H3:=ah h3;clear y pN bw zK Ip D D4 aF i C kE dm zL LR I h3;go_region;all_goals
   clear c1 c2 kj;obtain⟨C,kE,dm,zL,LR,I⟩:=H3.out;clear H3;have ab:LB (b.alloc (.cells (madeCells #[.int .i64 0] n) 3)) a _ _ _ _ _ _:=C.grown (Dz b _ none) (by simp);have c1:=C.c1;obtain⟨d3,e3⟩:=ab.c3;have rG:aY (b.alloc (.cells (madeCells #[.int .i64 0] n) 3)) w.heap.size 3 b.heap.size n (List.replicate n (.int .i64 0)):=aY.made dm.size (by omega);have S:b.grownBy ((b.alloc (.cells (madeCells #[.int .i64 0] n) 3)).setCell ⟨a,3,none⟩ (.slice (some ⟨b.heap.size,0,none⟩) n n)) (some a):=(Dz b _ _).trans (Gg _ a 3 _);have N:=ab.s3 (.slice (some ⟨b.heap.size,0,none⟩) n n);have ju:aY ((b.alloc (.cells (madeCells #[.int .i64 0] n) 3)).setCell ⟨a,3,none⟩ (.slice (some ⟨b.heap.size,0,none⟩) n n)) w.heap.size 3 b.heap.size n (List.replicate n (.int .i64 0)):=rG.setOther a 3 _ (by have:=K.out;omega);have U:Below w.heap.size w ((b.alloc (.cells (madeCells #[.int .i64 0] n) 3)).setCell ⟨a,3,none⟩ (.slice (some ⟨b.heap.size,0,none⟩) n n)):=(dm.alloc dm.size _).setCell (p:=⟨a,3,none⟩) qN.out.1 _;have X:=iY zL S Ec;have O:=iY LR S PN;have V:((b.alloc (.cells (madeCells #[.int .i64 0] n) 3)).setCell ⟨a,3,none⟩ (.slice (some ⟨b.heap.size,0,none⟩) n n)).ownsRow w.heap.size 108 1 (.slice (some ⟨c,0,none⟩) n n) n (iv<|q.map cls):=iY kE S (by have:=K.out;omega);have jg:((b.alloc (.cells (madeCells #[.int .i64 0] n) 3)).setCell ⟨a,3,none⟩ (.slice (some ⟨b.heap.size,0,none⟩) n n)).heap.size=b.heap.size+1:=(by simp);have h5:=And.intro N<|And.intro ju<|And.intro U<|And.intro X<|And.intro O<|And.intro V jg;have H5:=ah h5;have Ce:=ah I;have S6:=N.c1;clear C kE dm zL LR I ab rG S N ju U X O V jg h5;obtain⟨Q,aG⟩:=ac b.heap.size;go_wp2_with fail;generalize((b.alloc (.cells (madeCells #[.int .i64 0] n) 3)).setCell ⟨a,3,none⟩ (.slice (some ⟨b.heap.size,0,none⟩) n n))=W5 at*;rw[<-aG]at H5 Ce ⊢;clear aG c1 d3 e3 S6;obtain⟨N,ju,U,X,O,V,jg⟩:=H5.out;clear H5;have ay:Calls prog 140 #[.slice (some ⟨t,0,none⟩) n Y] W5 λe B=>∃g,e= .returned (.slice (some ⟨g,0,none⟩) n n)/\aY B W5.heap.size 3 g n (iv<|ny<|q.map cls)/\Below W5.heap.size W5 B:=anD (q.map cls) n t 0 Y W5 Ar.out.1 (by omega) (λk A=>by rw[fZ];exact jk O k A)<|by have:=K.out;have:=Ce.out;omega
   have BQ:=ah ay;have c1:=N.c1;have h5:=And.intro N<|And.intro ju<|And.intro U<|And.intro X<|And.intro O<|And.intro V jg;have H5:=ah h5;clear N ju U X O V jg h5 ay;refine BQ.out.mono ?_;rintro ev j ⟨m,rfl,UR,Z⟩;clear BQ;obtain⟨N,ju,U,X,O,V,jg⟩:=H5.out;clear H5;obtain⟨aQ,aR⟩:=UR.lt m rfl;have Fj:=N.below Z;obtain⟨d4,e4⟩:=Fj.c4;have x8:=Fj.s4 (.slice (some ⟨m,0,none⟩) n n);have gS:j.grownBy (j.setCell ⟨a,4,none⟩ (.slice (some ⟨m,0,none⟩) n n)) (some a):=Gg _ a 4 _;have DN:Below w.heap.size w (j.setCell ⟨a,4,none⟩ (.slice (some ⟨m,0,none⟩) n n)):=(U.trans<|Z.mono U.size).setCell (p:=⟨a,4,none⟩) qN.out.1 _;have LN:=iY (fu X Z) gS Ec;have Iq:=iY (fu O Z) gS PN;have LH:=iY (fu V Z) gS (by have:=K.out;omega);have LI:=iY (fu ju Z) gS (by have:=K.out;have:=Ce.out;omega);have FM:=iY UR gS (by have:=K.out;have:=Ce.out;omega);have J:Hid (Q≠a/\Q≠F/\Q≠t/\Q≠c/\Q≠m/\c≠a/\c≠F/\c≠t/\c≠m):=by
    have h1:=K.out;have h2:=Ce.out;refine⟨?_,?_,?_,?_,?_,?_,?_,?_,?_⟩<;>omega
   have L5:∀g,g=a∨g=F∨g=t∨g=c∨g=Q∨g=m->g<(j.setCell ⟨a,4,none⟩ (.slice (some ⟨m,0,none⟩) n n)).heap.size:=by
    have h1:=K.out;have h2:=Ce.out;have h3:=Z.size;intro g hg;rw[ail];omega
   have ax:Az (j.setCell ⟨a,4,none⟩ (.slice (some ⟨m,0,none⟩) n n)) a t m n Y n (.slice (some ⟨F,0,none⟩) n cr) (.slice (some ⟨c,0,none⟩) n n) (.slice (some ⟨Q,0,none⟩) n n) 0 (q.map cls):=
    ⟨x8,λk A=>by rw[fZ];exact jk Iq k A,λk A=>by rw[fZ];exact jk FM k A,Ar.out.1⟩
   have Nk:Hid (Calls prog 141 #[.pointer<|some ⟨a,0,none⟩,.int .i64 d] (j.setCell ⟨a,4,none⟩ (.slice (some ⟨m,0,none⟩) n n)) λe B=>e= .returned (.int .i64<|gX (q.map cls) d)/\B=(j.setCell ⟨a,4,none⟩ (.slice (some ⟨m,0,none⟩) n n))):=aoM _ a t m n Y n _ _ _ 0 (q.map cls) ax (by omega) d;have h7:=And.intro x8<|And.intro DN<|And.intro LN<|And.intro Iq<|And.intro LH<|And.intro LI<|And.intro FM L5;have H7:=ah h7;clear N ju U X O V jg Fj x8 gS DN LN Iq LH LI FM L5 ax h7 UR Z aQ aR c1;go_wp2_with fail;generalize(j.setCell ⟨a,4,none⟩ (.slice (some ⟨m,0,none⟩) n n))=W7 at*;refine Nk.out.mono ?_;rintro ev wx ⟨rfl,hx⟩;have a1:=hx.symm;subst a1;clear Nk d4 e4;obtain⟨x8,DN,LN,Iq,LH,LI,FM,L5⟩:=H7.out;clear H7;generalize aK:gX (q.map cls) d=pp at*;obtain⟨d5,e5⟩:=x8.c5;have aw:=x8.s5 (.int .i64 pp);have M:W7.grownBy (W7.setCell ⟨a,5,none⟩ (.int .i64 pp)) (some a):=Gg _ a 5 _;have av:Below w.heap.size w (W7.setCell ⟨a,5,none⟩ (.int .i64 pp)):=DN.setCell (p:=⟨a,5,none⟩) qN.out.1 _;have ap:=iY LN M Ec;have ar:=iY Iq M PN;have al:=iY LH M J.out.2.2.2.2.2.1;have am:=iY LI M J.out.1;have an:=iY FM M (by rintro rfl;exact jG FM x8 (by decide) rfl);have HX:Hid (LX (W7.setCell ⟨a,5,none⟩ (.int .i64 pp)) ⟨w.heap.size,a,F,t,c,Q,m,n,cr,Y,pp,q,q.map cls⟩ (q.map cls)<|List.replicate n 0):=by
    refine⟨aw,λk A=> ?_,λk A=>by rw[fZ];exact jk ar k A,λk A=>by rw[fZ];exact jk an k A,Ar.out.1,al,?_,?_,?_,?_⟩
    .rw[di ap k<|by simpa using A];have:k<q.length:=(by rw[Ar.out.2.1];exact A);simp[pT,aO,aM this]
    .show World.ownsRow _ _ _ _ _ _ _;rw[iv,List.map_replicate];exact am
    .intro g hg;rw[ail];apply L5;unfold LP.has at hg;omega
    .exact⟨J.out.1,J.out.2.1,J.out.2.2.1,J.out.2.2.2.1,J.out.2.2.2.2.1⟩
    .exact⟨J.out.2.2.2.2.2.1,J.out.2.2.2.2.2.2.1,J.out.2.2.2.2.2.2.2.1,J.out.2.2.2.2.2.2.2.2⟩
   have rO:=ah av;have aP:=ah aK;clear x8 DN LN Iq LH LI FM L5 aw M av ap ar al am an aK;go_wp2;go_ret;exact⟨⟨w.heap.size,a,F,t,c,Q,m,n,cr,Y,pp,q,q.map cls⟩,rfl,HX.out,rfl,rfl,Ar.out.2.1.symm,aP.out.symm,rfl,rO.out⟩
end
def aqN(w:World)(L:LP)(h:LX w L L.cs<|List.replicate L.n 0)(G:L.B<=w.heap.size)(T:0<=L.p/\L.p<=125)(S:L.n<=1000):
  Calls prog 85 #[.pointer<|some ⟨L.lb,0,none⟩] w λe n=>e= .returned (.tuple #[])/\LX n L (kP L.cs L.p) (bh L.cs L.p)/\Below L.B w n:=by
 obtain⟨s,r⟩:=ac w.heap.size;have d:Below w.heap.size w (w.alloc (.cells #[.pointer<|some ⟨L.lb,0,none⟩,.slice none 0 0,.int .i64 0,.int .i64 0,.int .i64 0] 212)):=(aA _ _).alloc (au _) _;have m:Hid (XP (w.alloc (.cells #[.pointer<|some ⟨L.lb,0,none⟩,.slice none 0 0,.int .i64 0,.int .i64 0,.int .i64 0] 212)) L s (.slice none 0 0) L.cs (List.replicate L.n 0) ⟨[],0,0,0⟩):=
  ⟨⟨by rw[r];exact oD,⟨rfl,.inl ⟨rfl,rfl⟩⟩,by rw[r];exact G⟩,h.below d,λg Q=>⟨by have:=h.lt g Q;omega,by simp[Value.ownBlock]⟩⟩
 have O:(w.alloc (.cells #[.pointer<|some ⟨L.lb,0,none⟩,.slice none 0 0,.int .i64 0,.int .i64 0,.int .i64 0] 212)).cell? ⟨L.lb,5,none⟩=some (.int .i64 L.p):=az m.out.ln.cell 5;have C:=ah<|d.mono G;have x:=ah h.len;clear h d;go_enter func85,ntmps85;go_wp2_with fail;rw[<-r];clear r;refine(F7 _ L.B s _ _ _ L.p (-1) false m.out.wk (by simp)).mono ?_;rintro y w2 ⟨rfl,Y,H,hF⟩;have z:=ah<|m.out.DK H hF;have D:=ah<|hF.Hf m.out.wk C.out;have M:w2.cell? ⟨L.lb,1,none⟩=some (.slice (some ⟨L.gt,0,none⟩) L.n L.ct):=az z.out.ln.cell 1;clear H hF m C O;go_wp2;clear M;go_loopg [18] L.n (λP V W=>∃(k:Nat)(v:Value)(a f:List Int),k<=L.n/\P=L.n - k/\V= .int .i64 k/\XP W L s v a f (eP L.cs L.p k)/\Below L.B w W/\nQ L.n k a (λj=>zW (L.cs.getD j 0) (iq L.cs L.p j).o) (λj=>L.cs.getD j 0)/\nQ L.n k f (λj=>(iq L.cs L.p j).l) (λ_=>0));case atStart=>
  refine⟨0,Y,L.cs,List.replicate L.n 0,by omega,rfl,rfl,z.out,D.out,⟨x.out,λj _=>by rw[ai<|by omega]⟩,⟨by simp,λj R=> ?_⟩⟩;rw[ai<|by omega,aO,Sm,aj R];rfl
 case round=>
  clear z D;obtain⟨k,v,a,f,hk,rfl,rfl,q,b,i,p⟩:=hrel;by_cases c:k<L.n
  .have I:(k:Int)<(L.n:Int):=(by omega);have F:a.getD k 0=L.cs.getD k 0:=(by have:=i.2 k c;rw[ai<|by omega]at this;exact this);have t:Hid (nQ L.n (k+1) (a.set k<|zW (a.getD k 0) (aS (dZ (eP L.cs L.p k)<|L.cs.getD k 0).st).o) (λj=>zW (L.cs.getD j 0) (iq L.cs L.p j).o) λj=>L.cs.getD j 0):=(by rw[F];exact i.step c);have u:=ah<|p.step c;have B:Hid (Calls prog 143 #[.pointer<|some ⟨s,0,none⟩,.int .i64 k] wr λy n=>y= .returned (.tuple #[])/\∃X,XP n L s X (a.set k<|zW (a.getD k 0) (aS (dZ (eP L.cs L.p k)<|L.cs.getD k 0).st).o) (f.set k (aS (dZ (eP L.cs L.p k)<|L.cs.getD k 0).st).l) (eP L.cs L.p<|k+1)/\Below L.B wr n):=ard wr L s v a f (eP L.cs L.p k) k q (yT L.cs L.p T k) (by omega) S k c;have A:=ah b;clear q b i p F;go_wp2_with fail;refine B.out.mono ?_;rintro y w3 ⟨rfl,Z,J,E⟩;have U:=ah J;have N:Hid _:=A.out.trans E;clear J E B;go_wp2;go_roundg (L.n - (k+1));exact⟨k+1,Z,_,_,by omega,rfl,by go_num,U.out,N.out,t.out,u.out⟩;omega
  .obtain rfl:k=L.n:=(by omega);have K:=ah q.ln;have A:=ah b;have t:Hid (a=kP L.cs L.p):=(by show _=_;rw[i.done,kP,x.out]);have u:Hid (f=bh L.cs L.p):=(by show _=_;rw[p.done,bh,x.out]);clear q b i p;go_wp2;go_end0;refine⟨rfl,?_,A.out⟩;rw[<-t.out,<-u.out];exact K.out
def Tryz.Ql:(prog.info? 3).map (·.size)=some 1:=by kernel_rfl
def BJ(a:Int)(b o c:List Int)(k:Nat):Prop:=c.length=b.length/\(∀j,j<b.length->bV (b.getD j 0)=true->c.getD j 0=o.getD j 0)/\(0<k->bV (b.getD 0 0)=false->c.getD 0 0=a)
def BJ.keep {a:Int}{b o e:List Int}{k:Nat}(h:BJ a b o e k)(f:bV (b.getD k 0)=true):BJ a b o e (k+1):=
 ⟨h.1,h.2.1,λ_ c=>by
  rcases GU k with d|d
  .subst d;rw[f]at c;cases c
  .exact h.2.2 d c⟩
def BJ.set {a v:Int}{c o e:List Int}{k:Nat}(h:BJ a c o e k)(i:k<c.length)(l:bV (c.getD k 0)=false)(m:k=0->v=a):BJ a c o (e.set k v) (k+1):=by
 refine⟨by simp[h.1],?_,?_⟩
 .intro j g b;rw[getD_set_ne<|by rintro rfl;rw[l]at b;cases b];exact h.2.1 j g b
 .intro _ f;rcases GU k with d|d
  .subst d;rw[zC<|by rw[h.1];exact i,m rfl]
  .rw[getD_set_ne<|by omega];exact h.2.2 d f
def aox {w:World}{B b g n c:Nat}{e:TypeId}{z:Nat}{f:List Value}(h:w.ownsRow B e z (.slice (some ⟨g,0,none⟩) n c) n f)(k:b<=g):w.ownsRow b e z (.slice (some ⟨g,0,none⟩) n c) n f:=by
 refine⟨h.1,?_⟩;rcases h.2 with⟨h,_⟩|⟨l,d,a,i,m,j⟩
 .cases h
 .cases i;exact .inr ⟨g,c,a,rfl,k,j⟩
def age:∀(c:List Value)(b:List Sq)(j:Nat),c.length=b.length->j<b.length->(vJ c b)[j*4]? =some (c.getD j .nilFunc)/\(vJ c b)[j*4+1]? =some (.int .i64 (b.getD j ⟨[],0,0,0⟩).level)/\(vJ c b)[j*4+2]? =some (.int .i64 (b.getD j ⟨[],0,0,0⟩).aq)/\(vJ c b)[j*4+3]? =some (.int .i64 (b.getD j ⟨[],0,0,0⟩).ay)
 |[],[],j,_,h=>by simp at h
 |a::c,s::b,0,_,_=>by simp[vJ]
 |a::c,s::b,j+1,h,hj=>by
  have ih:=age c b j (by simpa using h) (by simpa using hj);rw[vJ,show(j+1)*4=j*4+4 by omega];simpa using ih
def aqi(c:List Int)(d:List Bool):(cZ c d).length<=c.length:=by
 have h:=congrArg List.length (zY c d).1;have e:=Ay (lq d)<|List.range c.length;rw[NH]at e;have f:∀l:List<|List Nat,(∀r∈l,r≠[])->l.length<=l.flatten.length:=by
  intro l
  induction l with
  |nil=>intro _;simp
  |cons a l ih=>
   intro b;have:=ih (λr g=>b r<|by simp[g]);have:=jK.2 (b a<|by simp);simp only[eJ,Ax,bH];omega
 have i:=f _ (zY c d).2.1;omega
def anp(D:List Int)(d:Int)(n b x N:Nat)(w:World)(hl:D.length=n)(hn:n<=1000)(aX:0<n)(hc:bI w b x D)(hb:b<w.heap.size):
  Calls prog 48 #[.slice (some ⟨b,x,none⟩) n N,.int .i64 d] w λO K=>∃g c,O= .returned (.slice (some ⟨g,0,none⟩) n c)/\K.ownsRow w.heap.size 3 1 (.slice (some ⟨g,0,none⟩) n c) n (iv<|gV D (D.map cls) d)/\Below w.heap.size w K:=by
 have a':=run_make_row' (P:=prog) 31 3 (.int .i64 0) 8 underlying31 Tryz.rL rfl .i64 .i64 n (by omega) (by omega);obtain⟨f,ab⟩:=ac<|D.map cls;have pg:Hid (Calls prog 46 #[.slice (some ⟨b,x,none⟩) n N] w λe K=>∃v,e= .returned v/\K.ownsRow w.heap.size 3 1 v n (iv f)/\Below w.heap.size w K):=by rw[ab];exact rU D b x N n w hl hn hc
 rw[<-ab];have aE:f.length=n:=by rw[ab,ja,hl]
 obtain⟨a,Pm⟩:=ac<|gX f d;have aL:=ah Pm;have a8:a=0∨a=1:=by rw[Pm];exact aeY f d
 obtain⟨LV,T5⟩:=ac<|gV D f d;rw[<-T5];have HQ:Hid (LV=mV a a f (((ij f (bh f a) (aQ f) a).flatMap (qH D<|iN f a)).foldl lB (bh f a))):=by show _=_;rw[T5,Pm];rfl
 have I:Hid (D.length=n/\f.length=n):=⟨hl,aE⟩
 have HI:Hid (bI w b x D/\b<w.heap.size):=⟨hc,hb⟩
 clear hl hc hb ab aE Pm T5;go_enter func48,ntmps48;go_wp2_with fail;refine pg.out.mono ?_;rintro O L ⟨cv,rfl,O1,aB⟩;obtain⟨C,cc,rfl,ar,kY,UE⟩:=gI O1 aX;have EE:=ah O1;have aD:=ah aB;have lX:Hid (C<L.heap.size/\w.heap.size<=C/\n<=cc):=⟨kY,UE,ar⟩
 have pX:Hid (Calls prog 70 #[.slice (some ⟨C,0,none⟩) n cc] L λe K=>e= .returned (.int .i64<|found f)/\K=L):=TP f C 0 cc n L I.out.2 (by omega)<|IL O1;clear O1 aB ar kY UE pg;have h3:((d !=0)=false/\a=d)∨((d !=0)=true/\(d !=1)=false/\a=d)∨((d !=0)=true/\(d !=1)=true/\a=found f):=by
  rw[aL.out,gX];by_cases h0:d=0
  .exact .inl ⟨by simpa using h0,by rw[aj (.inl h0)]⟩
  .by_cases X:d=1
   .exact .inr (.inl ⟨by simpa using h0,by simpa using X,by rw[aj (.inr X)]⟩)
   .exact .inr (.inr ⟨by simpa using h0,by simpa using X,by rw[ai<|by omega]⟩)
 rcases h3 with⟨q0,hd⟩|⟨q0,q1,hd⟩|⟨q0,q1,hd⟩
 subst hd;clear pX;go_wp2_with fail
 rotate_left
 subst hd;clear pX;go_wp2_with fail
 rotate_left
 have HV:=ah hd.symm;clear hd;go_wp2_with fail;refine pX.out.mono ?_;rintro O wx ⟨rfl,hx⟩;have a2:=hx.symm;subst a2;rw[HV.out];clear pX HV;go_wp2_with fail;all_goals
  refine(akN f a C 0 cc n L I.out.2 (by omega) lX.out.2.2 (IL EE.out) lX.out.1<|by omega).mono ?_;rintro O m ⟨g1,g2,g3,rfl,aa,dW,eK,oQ⟩;have a3:L.heap.size<=m.heap.size:=aa.size;have al:=dW.ge;have aF:=eK.ge;have aG:=oQ.ge;obtain⟨W3,E⟩:=ac<|m.alloc (.cells (madeCells #[.int .i64 0] n) 3);have aC:Below m.heap.size m W3:=by rw[E];exact(aA _ _).alloc (au _) _
  have kE:aY W3 m.heap.size 3 m.heap.size n (List.replicate n (.int .i64 0)):=by rw[E];exact aY.made (au _)<|by omega
  have ap:=dW.keep aC al.2;have R:(bh f a).length=n:=by rw[ag8];exact I.out.2
  have Y:Hid (L.heap.size<=m.heap.size/\Below L.heap.size L m/\g1<m.heap.size/\g2<m.heap.size/\g3<m.heap.size/\Below m.heap.size m W3/\m.heap.size<W3.heap.size):=⟨a3,aa,al.2,aF.2,aG.2,aC,by rw[E];simp⟩
  have HR:Hid (aY m L.heap.size 3 g1 n (iv<|bh f a)/\aY m L.heap.size 3 g2 n (iv<|iN f a)/\aY m L.heap.size 4 g3 n (bv<|aQ f)):=⟨dW,eK,oQ⟩
  have D4:=kE.heap;have p5:Hid ((∀l∈bh f a,0<=l/\l<=125)/\(bh f a).length=n):=⟨asz f a<|by omega,R⟩
  have bF:Hid (∀s∈ij f (bh f a) (aQ f) a,0<s.at'.length/\s.at'.length<=f.length/\(∀p∈s.at',p<f.length)/\0<=s.level/\s.level<=125):=aqF (by rw[ag8]) p5.out.1;have Ut:∀j v,(iv<|bh f a)[j]? =some v->W3.cell? ⟨g1,j,none⟩=some v:=λj v hj=>by
   have aW:j<n:=(by have:=(r7.1 hj).1;rw[nZ,R]at this;exact this);rw[ap.cell j aW];exact hj
  have mN:=ah<|aD.out.trans<|aa.mono aD.out.size;obtain⟨t,UO⟩:=ac<|bh f a;have EN:=ah UO;rw[<-UO]at Ut R;clear dW eK oQ aa ap kE UO al aF aG;have UH:(m.alloc (.cells (madeCells #[.int .i64 0] n) 3)).heap[m.heap.size]? =some (.cells (List.replicate n (.int .i64 0)).toArray 3 (0,0)):=by rw[<-E];exact D4
  have ao:∀j v,(iv t)[j]? =some v->(m.alloc (.cells (madeCells #[.int .i64 0] n) 3)).cell? ((⟨g1,0,none⟩:Addr).add j)=some v:=λj v hj=>by
   have:=Ut j v hj;rw[<-E];simp only[Addr.add];split
   .rename_i h0;subst h0;exact this
   .simpa using this
  have Nt:=ah E;have EP:=ah R;clear D4 Ut R E;have Lc:=run_copy_row (P:=prog) (m.alloc (.cells (madeCells #[.int .i64 0] n) 3)) 31 31 3 3 m.heap.size 0 n n ⟨g1,0,none⟩ n n (List.replicate n (.int .i64 0)).toArray 3 (iv t) underlying31 Tryz.Ql UH (by rw[nZ,EP.out];exact(Nat.min_self n).symm) ao (by rw[nZ,EP.out];simp) (λv hv=>by simp only[iv,jM]at hv;obtain⟨q,_,rfl⟩:=hv;rfl);have Dd:Hid ((((m.alloc (.cells (madeCells #[.int .i64 0] n) 3)).setRow m.heap.size ((List.replicate n<|Value.int .i64 0).toArray.toList.take 0++iv t++(List.replicate n<|Value.int .i64 0).toArray.toList.drop (0+(iv t).length)).toArray)).heap[m.heap.size]? =some (.cells (iv t).toArray 3 (0,0))):=by
   show _=_;rw[setRow_heap _ _ _ _ _ _ UH];have:(List.replicate n<|Value.int .i64 0).toArray.toList.take 0++iv t++(List.replicate n<|Value.int .i64 0).toArray.toList.drop (0+(iv t).length)=iv t:=by
    rw[ZU,si,kr<|by rw[nZ,EP.out];simp,l5]
   rw[this]
  have Q:=below_setRow (aA m.heap.size<|m.alloc (.cells (madeCells #[.int .i64 0] n) 3)) (au _) ((List.replicate n<|Value.int .i64 0).toArray.toList.take 0++iv t++(List.replicate n<|Value.int .i64 0).toArray.toList.drop (0+(iv t).length)).toArray;rw[<-Nt.out]at Q;obtain⟨y,am⟩:=ac<|(m.alloc (.cells (madeCells #[.int .i64 0] n) 3)).setRow m.heap.size ((List.replicate n<|Value.int .i64 0).toArray.toList.take 0++iv t++(List.replicate n<|Value.int .i64 0).toArray.toList.drop (0+(iv t).length)).toArray;rw[Nt.out,<-am,<-Nt.out]at Q;rw[<-am]at Lc Dd;clear am;rw[nZ,EP.out]at Lc;have J:Below m.heap.size m y:=Y.out.2.2.2.2.2.1.trans Q;have uj:m.heap.size<y.heap.size:=kQ Y.out.2.2.2.2.2.2 Q.size;have rG:aY y m.heap.size 3 m.heap.size n (iv t):=aY.PT Dd.out (au _) (by rw[nZ,EP.out]) (by omega);obtain⟨r,ad⟩:=ac m.heap.size;have an:Below w.heap.size w y:=mN.out.trans<|J.mono mN.out.size;have dW:=HR.out.1.keep J Y.out.2.2.1;have eK:=HR.out.2.1.keep J Y.out.2.2.2.1;have oQ:=HR.out.2.2.keep J Y.out.2.2.2.2.1;have av:y.ownsRow w.heap.size 3 1 (.slice (some ⟨C,0,none⟩) n cc) n (iv f):=nB EE.out λk o hk ho=>by
   have:C=k:=(by simpa [Value.ownBlock]using hk);subst this;rw[J.block C<|by have:=lX.out.1;have:=Y.out.1;omega,Y.out.2.1.block C lX.out.1];exact ho
  have HX:Hid (bI y C 0 f/\bI y g1 0 t/\Aj y g3 0 (aQ f)/\bI y b x D/\bI y g2 0 (iN f a)):=⟨IL av,by rw[EN.out];exact dW.ints,oQ.bools,HI.out.1.stay an HI.out.2,eK.ints⟩
  have HY:Hid (C<y.heap.size/\g1<y.heap.size/\g3<y.heap.size/\b<y.heap.size/\g2<y.heap.size/\r<y.heap.size/\C≠r/\g3≠r/\Below w.heap.size w y/\w.heap.size<=r):=by
   have X:=lX.out.1;have Z:=Y.out;have h3:=HI.out.2;have h4:=mN.out.size;exact⟨by omega,by omega,by omega,by omega,by omega,by omega,by omega,by omega,an,by omega⟩
  have uH:Hid (bu y m.heap.size r n n t):=by rw[ad];exact rG
  have De:=ah ad;clear Q Dd J uj rG an dW eK oQ av UH ao;go_wp2_with fail;rw[<-ad];clear Lc ad Nt;refine(aqH f t (aQ f) a n C 0 cc g1 0 n g3 0 n y I.out.2 EP.out (by rw[ag6];exact I.out.2) (by omega) (λl hl=>by rw[EN.out]at hl;have:=p5.out.1 l hl;omega) (by omega) HX.out.1 HX.out.2.1 HX.out.2.2.1 HY.out.1 HY.out.2.1 HY.out.2.2.1).mono ?_;rintro O U ⟨sv,dB,rfl,bO,Pt,af,ak⟩;have zf:Hid (∃S,S=ij f t (aQ f) a):=⟨_,rfl⟩
  obtain⟨S,hS⟩:=zf.out;rw[<-hS]at Pt af ak;obtain⟨sa,sc,rfl⟩:=eH Pt;have aN:Hid (∀s∈S,0<s.at'.length/\s.at'.length<=n/\(∀p∈s.at',p<n)/\0<=s.level/\s.level<=1000):=by
   intro s hs;rw[hS,EN.out]at hs;have:=bF.out s hs;rw[I.out.2]at this;exact⟨this.1,this.2.1,this.2.2.1,this.2.2.2.1,by omega⟩
  have Zu:=ah hS;have JP:=ah Pt;have ae:Hid (dB.length=S.length/\∀i,i<S.length->U.ownsRow y.heap.size 3 1 (dB.getD i .nilFunc) (S.getD i ⟨[],0,0,0⟩).at'.length (iv<|nl (S.getD i ⟨[],0,0,0⟩).at')):=⟨af,ak⟩
  have bG:=ah bO;have kM:=ah<|fu uH.out bO;clear bO Pt af ak hS;have a9:S.length<=100000:=by
   have X:=agd f t (aQ f) a (cZ t<|aQ f) n (cZ t<|aQ f).length;have Z:S=uz f t (aQ f) a (cZ t<|aQ f) n (cZ t<|aQ f).length:=(by rw[Zu.out];unfold ij uz;rw[NQ,I.out.2]);have h3:=aqi t<|aQ f;rw[EP.out]at h3;rw[<-Z]at X;omega
  go_wp2;go_loopg [12] S.length (λgh gw W=>∃(j:Nat)(o:List Int),j<=S.length/\gh=S.length - j/\gw= .int .i64 j/\bu W m.heap.size r n n o/\U.grownBy W (some r)/\o=((S.take j).flatMap (qH D<|iN f a)).foldl lB t);exact⟨0,t,by omega,rfl,rfl,kM.out,jO _ _,rfl⟩;clear kM;obtain⟨j,o,hj,rfl,rfl,A,u,hE⟩:=hrel;have Gu:=ah A;have rP:=ah u;have HE:=ah hE;have jg:y.heap.size<=U.heap.size:=bG.out.size;have B:=HY.out;by_cases z:j<S.length
  .obtain⟨gs,aS,hv,a7,iw,a5⟩:=gI JP.out (by omega);obtain⟨a0,a1⟩:sa=some ⟨gs,0,none⟩/\sc=aS:=(by simpa using hv);clear hv;subst a0;subst a1;have aI:S.getD j ⟨[],0,0,0⟩∈S:=dG z;have T:=aN.out _ aI;obtain⟨ga,ca,Ui,a6,aR,a4⟩:=gI (ae.out.2 j z) T.1;have ag:=ae.out.2 j z;rw[Ui]at ag;have qC:=age dB S j ae.out.1 z;have e0:=di JP.out (j*4) (by omega);have e1:=di JP.out (j*4+1) (by omega);have e2:=di JP.out (j*4+2) (by omega);have e3:=di JP.out (j*4+3) (by omega);rw[qC.1,Ui,<-rD u iw (by omega)]at e0;rw[qC.2.1,<-rD u iw (by omega)]at e1;rw[qC.2.2.1,<-rD u iw (by omega)]at e2;rw[qC.2.2.2,<-rD u iw (by omega)]at e3;have HN:Hid (((S.take<|j+1).flatMap (qH D<|iN f a)).foldl lB t=(qH D (iN f a)<|S.getD j ⟨[],0,0,0⟩).foldl lB o):=by
    show _=_;rw[hE,pG z,Sk,Ci];simp[aO,aM z]
   have RJ:Hid (∀W,W.heap=wr.heap->Calls prog 73 #[.agg #[.slice (some ⟨ga,0,none⟩) (S.getD j ⟨[],0,0,0⟩).at'.length ca,.int .i64 (S.getD j ⟨[],0,0,0⟩).level,.int .i64 (S.getD j ⟨[],0,0,0⟩).aq,.int .i64 (S.getD j ⟨[],0,0,0⟩).ay],.slice (some ⟨b,x,none⟩) n N,.slice (some ⟨g2,0,none⟩) n n,.slice (some ⟨r,0,none⟩) n n] W λO K=>O= .returned (.tuple #[])/\bu K m.heap.size r n n ((qH D (iN f a)<|S.getD j ⟨[],0,0,0⟩).foldl lB o)/\W.grownBy K (some r)):=by
    intro W hW;have AV:∀(M k:Nat),M<U.heap.size->M≠r->W.cell? ⟨M,k,none⟩=U.cell? ⟨M,k,none⟩:=λM k X Z=>by
     rw[<-rD u X Z];simp only[World.cell?,hW]
    have aU:bu W m.heap.size r n n o:=nB A λk oo _ ho=>by rw[hW];exact ho
    refine aq1 D (iN f a) o (S.getD j ⟨[],0,0,0⟩) n (S.getD j ⟨[],0,0,0⟩).at'.length ga 0 ca b x N g2 0 n r n m.heap.size W rfl T.1 (by omega) T.2.2.1 T.2.2.2 ?_ ?_ ?_ ?_ ?_ ?_ I.out.1 (by rw[asy];exact I.out.2) aU (by omega)
    .intro k hk;rw[fZ,AV ga k aR<|by omega];exact jk ag k hk
    .rw[hW];have:=u.size;omega
    .intro k hk;rw[AV b (x+k) (by omega)<|by have:=De.out;have:=HI.out.2;have:=mN.out.size;omega];rw[bG.out.cell (p:=⟨b,x+k,none⟩) B.2.2.2.1];exact HX.out.2.2.2.1 k hk
    .rw[hW];have:=u.size;omega
    .intro k hk;rw[AV g2 (0+k) (by omega)<|by have:=De.out;have:=Y.out.2.2.2.1;omega];rw[bG.out.cell (p:=⟨g2,0+k,none⟩) B.2.2.2.2.1];exact HX.out.2.2.2.2 k hk
    .rw[hW];have:=u.size;omega
   generalize S.getD j ⟨[],0,0,0⟩=sj at*;obtain⟨ba,I1,I3,IZ⟩:=sj;simp only at e1 e2 e3 RJ;clear A u hE qC Ui ag aI T;go_wp2_with fail;refine(RJ.out wr rfl).mono ?_;rintro O w6 ⟨rfl,az,aw⟩;have aK:=ah az;have Jn:=ah<|rP.out.trans aw;clear az aw RJ e0 e1 e2 e3;go_wp2;go_roundg (S.length - (j+1));exact⟨j+1,_,by omega,rfl,by simp,aK.out,Jn.out,HN.out.symm⟩;omega
  .have HO:Hid (o=(S.flatMap<|qH D<|iN f a).foldl lB t):=by
    show _=_;rw[hE,show j=S.length by omega,NQ]
   have aH:o.length=n:=A.len;have HF:Hid (Aj U g3 0 (aQ f)/\bI U C 0 f):=⟨HX.out.2.2.1.stay bG.out B.2.2.1,HX.out.1.stay bG.out B.1⟩
   have p6:=ah aH;clear A u hE aH;go_wp2;go_loopg [13] n (λgh gw W=>∃(k:Nat)(H:List Int),k<=n/\gh=n - k/\gw= .int .i64 k/\bu W m.heap.size r n n H/\U.grownBy W (some r)/\BJ a f o H k);exact⟨0,o,by omega,rfl,rfl,Gu.out,rP.out,by rw[p6.out,I.out.2],λ_ _ _=>rfl,λh=>by omega⟩;clear Gu rP;obtain⟨k,H,hk,rfl,rfl,A,u,V⟩:=hrel;have Gu:=ah A;have rP:=ah u;by_cases z:k<n
   .have G:k<f.length:=(by rw[I.out.2];exact z);have cf:=HF.out.1 k (by rw[ag6];exact G);rw[ag5 f k G,fZ,<-rD u (by omega) B.2.2.2.2.2.2.2.1]at cf;have F:=A.cell k z;have aV:=A.frozen k;cases hlb:bV<|f.getD k 0
    .rw[hlb]at cf;cases k with
     |zero=>
      have HN:Hid (BJ a f o (H.set 0 a) 1):=V.set G hlb (λ_=>rfl);generalize H.getD 0 0=oc at F;clear A u V hlb G jg B;go_wp2;go_roundg (n - 1);exact⟨1,_,by omega,rfl,rfl,Gu.out.set 0 a,rP.out.trans<|Gu.out.grown 0 a,HN.out⟩;omega
     |succ q=>
      have dK:=A.cell q (by omega);have HN:Hid (BJ a f o (H.set (q+1)<|H.getD q 0)<|q+1+1):=V.set G hlb (λh=>by omega);generalize H.getD (q+1) 0=oc at F;generalize H.getD q 0=pv at dK HN;have B6:Hid (bu ((wr.setCell ⟨r,q+1,none⟩ (.int .i64 a)).setCell ⟨r,q+1,none⟩ (.int .i64 pv)) m.heap.size r n n (H.set (q+1) pv)/\U.grownBy ((wr.setCell ⟨r,q+1,none⟩ (.int .i64 a)).setCell ⟨r,q+1,none⟩ (.int .i64 pv)) (some r)):=by
       have Z:=(A.set (q+1) a).set (q+1) pv;rw[Sw]at Z;exact⟨Z,(u.trans<|A.grown (q+1) a).trans ((A.set (q+1) a).grown (q+1) pv)⟩
      clear A u V hlb G jg B;go_wp2;go_roundg (n - (q+1+1));exact⟨q+1+1,_,by omega,rfl,by simp,B6.out.1,B6.out.2,HN.out⟩;omega
    .rw[hlb]at cf;have HN:=ah<|V.keep hlb;clear A u V hlb G jg B F aV;go_wp2;go_roundg (n - (k+1));exact⟨k+1,H,by omega,rfl,by simp,Gu.out,rP.out,HN.out⟩;omega
   .obtain rfl:k=n:=(by omega);have aZ:=u.size;have AV:∀(M q:Nat),M<U.heap.size->M≠r->wr.cell? ⟨M,q,none⟩=U.cell? ⟨M,q,none⟩:=λM q X Z=>rD u X Z
    have aP:Hid (mV a a f H=LV):=by
     show _=_;rw[HQ.out,Em f o H a (by rw[p6.out,I.out.2]) V.1 V.2.1,HO.out,Zu.out,EN.out]
    have JT:Hid (Calls prog 74 #[.slice (some ⟨C,0,none⟩) k cc,.slice (some ⟨r,0,none⟩) k k,.slice (some ⟨g3,0,none⟩) k k,.int .i64 a] wr λO K=>O= .returned (.slice (some ⟨r,0,none⟩) k k)/\bu K m.heap.size r k k (mV a a f H)/\wr.grownBy K (some r)):=by
     refine arT f H a k C 0 cc g3 0 k m.heap.size r k wr I.out.2 (by omega) ?_ ?_ (by omega) (by omega) A B.2.2.2.2.2.2.1 B.2.2.2.2.2.2.2.1 λh h'=>V.2.2 h h'
     .intro q hq;rw[AV C (0+q) (by omega) B.2.2.2.2.2.2.1];exact HF.out.2 q hq
     .intro q hq;rw[AV g3 (0+q) (by omega) B.2.2.2.2.2.2.2.1];exact HF.out.1 q hq
    have kL:Hid (Below w.heap.size w wr):=(B.2.2.2.2.2.2.2.2.1.trans<|bG.out.mono<|by have:=B.2.2.2.2.2.2.2.2.1.size;omega).grown u (by have:=B.2.2.2.2.2.2.2.2.1.size;omega) (λq hq=>by have:=aJ hq;have:=B.2.2.2.2.2.2.2.2.2;omega);have aT:w.heap.size<=r:=B.2.2.2.2.2.2.2.2.2;clear A u V jg B aZ AV;go_wp2_with fail;refine JT.out.mono ?_;rintro O w7 ⟨rfl,T4,ax⟩;rw[aP.out]at T4;have Jp:=ah<|aox T4 aT;have lV:Hid (Below w.heap.size w w7):=kL.out.grown ax kL.out.size (λq hq=>by have:=aJ hq;omega);clear T4 ax JT;go_wp2;refine cI (v:= .slice (some ⟨r,0,none⟩) k k) (by simp[results,results48,go_sem]) rfl ⟨r,k,rfl,Jp.out,lV.out⟩
