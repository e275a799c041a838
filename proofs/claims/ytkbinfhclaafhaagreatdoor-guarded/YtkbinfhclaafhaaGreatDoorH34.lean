import Derived.Test.YtkbinfhclaafhaaGreatDoorH32
import Derived.Test.YtkbinfhclaafhaaGreatDoorH33
namespace Go.Proofs.YtkbinfhclaafhaaGreatDoor
open Go.RowKit
open Go.Proofs.Tryz
set_option maxRecDepth 100000
set_option maxHeartbeats 32000000
section
attribute [local go_sem] Oper.semAt_some
theorem X0 {w W:World}{B:Nat}{e:TypeId}{n c:Nat}{a:Option Addr}{xs:List Value}(h:w.ownsRow B e 1 (.slice a n c) n xs)(hk:∀(k:Nat)(cs:Array Value),w.heap[k]? =some (Obj.cells cs e (0,0))->W.heap[k]? =some (Obj.cells cs e (0,0)))(i:Nat)(hi:i<n):∃g,a=some ⟨g,0,none⟩/\n<=c/\W.cell? ⟨g,i,none⟩=xs[i]? :=by
 obtain⟨g,c',e1,e2,_,_⟩:=IK h (by omega);simp only [Value.slice.injEq,true_and]at e1;obtain⟨rfl,rfl⟩:=e1;obtain⟨_,cs,hg⟩:=iU h rfl;exact⟨g,rfl,e2,(au (hk g cs hg) i).trans ((au hg i).symm.trans (World.ownsRow.cellAt h i (by omega)))⟩
structure X3(n₀:Nat)(A:World)(x5:Value)(o:Option Obj)(W:World):Prop where
 ke:Ke n₀ A W
 c4:W.heap[n₀+1]? =some (.cells #[.slice none 0 0] 37 (0,0))
 c5:W.heap[n₀+2]? =some (.cells #[x5] 53 (0,0))
 sz:A.heap.size<=W.heap.size
 nw:o=none->W.heap.size=A.heap.size
 ob:∀q,o=some q->W.heap[A.heap.size]? =some q
theorem X3.s4 {n₀:Nat}{A W:World}{x5:Value}{o:Option Obj}(h:X3 n₀ A x5 o W)(hn:n₀+2<A.heap.size):X3 n₀ A x5 o (W.setCell ⟨n₀+1,0,none⟩ (.slice none 0 0)):=by
 have g:W.grownBy (W.setCell ⟨n₀+1,0,none⟩ (.slice none 0 0)) (some (n₀+1)):=su _ _ _ _;have hs:=h.sz;have hz:(W.setCell ⟨n₀+1,0,none⟩ (.slice none 0 0)).heap.size=W.heap.size:=by simp
 refine⟨h.ke.trans (Ke.grown g (by omega) fun k hk=> ?_),by rw [Joins.block_setCell h.c4];rfl,(g.block _ (by omega) (fun e=>by have:=Option.some.inj e;omega)).trans h.c5,by omega,fun e=>hz.trans (h.nw e),fun q e=>(g.block _ (bJ (h.ob q e)) (fun e=>by have:=Option.some.inj e;omega)).trans (h.ob q e)⟩;obtain rfl:=Option.some.inj hk;exact⟨by omega,_,_,_,h.c4,.inr (.inl rfl)⟩
theorem X3.s5 {n₀:Nat}{A W:World}{x5:Value}{o:Option Obj}(h:X3 n₀ A x5 o W)(hn:n₀+2<A.heap.size)(y:Value):X3 n₀ A y o (W.setCell ⟨n₀+2,0,none⟩ y):=by
 have g:W.grownBy (W.setCell ⟨n₀+2,0,none⟩ y) (some (n₀+2)):=su _ _ _ _;have hs:=h.sz;have hz:(W.setCell ⟨n₀+2,0,none⟩ y).heap.size=W.heap.size:=by simp
 refine⟨h.ke.trans (Ke.grown g (by omega) fun k hk=> ?_),(g.block _ (by omega) (fun e=>by have:=Option.some.inj e;omega)).trans h.c4,by rw [Joins.block_setCell h.c5];rfl,by omega,fun e=>hz.trans (h.nw e),fun q e=>(g.block _ (bJ (h.ob q e)) (fun e=>by have:=Option.some.inj e;omega)).trans (h.ob q e)⟩;obtain rfl:=Option.some.inj hk;exact⟨by omega,_,_,_,h.c5,.inr (.inr rfl)⟩
theorem X3.al {n₀:Nat}{A W:World}{x5:Value}(h:X3 n₀ A x5 none W)(hn:n₀+2<A.heap.size)(q:Obj):X3 n₀ A x5 (some q) (W.alloc q):=by
 have hs:=h.sz;have ez:=h.nw rfl;refine⟨h.ke.trans (Ke.of ((Below.refl _ _).alloc (Nat.le_refl _) _) (by omega)),(Below.heap_alloc W _ _ (bJ h.c4)).trans h.c4,(Below.heap_alloc W _ _ (bJ h.c5)).trans h.c5,by simp;omega,(fun e=>by cases e),fun q' e=> ?_⟩;obtain rfl:=Option.some.inj e;rw [<-ez];exact World.alloc_heap_new _ _
theorem X3.drew {n₀:Nat}{A W:World}{x5:Value}{o:Option Obj}(h:X3 n₀ A x5 o W):X3 n₀ A x5 o W.drew:=⟨⟨h.ke.below.drew,h.ke.keep⟩,h.c4,h.c5,h.sz,h.nw,h.ob⟩
def eu(s:ByteArray)(p:List PR):List Ed×Int×Int:=dY (dP s) (gW s) (nO s) p []
theorem ac6 {s:ByteArray}{p:List PR}(h:(eu s p).2.2= -1)(x:PR):eu s (p++[x])=if dP s x.line=true then((eu s p).1,(-1:Int),(-1:Int))else if nG (gW s x.line) x≠ -1 then([],(x.line:Int),nG (gW s x.line) x)else((eu s p).1++(lg (gW s x.line) x).map (lu (nO s x.line)), -1, -1):=by
 have h':(dY (dP s) (gW s) (nO s) p []).2.2= -1:=h;unfold eu;rw [Gf,if_pos h',dY,dY,dY]
theorem ac7 {s:ByteArray}{p:List PR}(h:(eu s p).2.2≠ -1)(hp:p<+:dw s):aQ s=eu s p:=by
 obtain⟨q,hq⟩:=hp;unfold aQ;rw [<-hq,Gf,if_neg (show¬(dY (dP s) (gW s) (nO s) p []).2.2= -1 from h)];rfl
theorem abr(l:List Bool)(i:Nat)(hi:i<l.length):(jo l)[i]? =some (.bool (l.getD i false)):=by
 rw [jo,List.getElem?_map,List.getElem?_eq_getElem hi,List.getD_eq_getElem?_getD,List.getElem?_eq_getElem hi];rfl
theorem agt(l:List Nat)(i:Nat)(hi:i<l.length):(qi l)[i]? =some (.int .i64 (l.getD i 0:Nat)):=by
 rw [qi,List.getElem?_map,List.getElem?_eq_getElem hi,List.getD_eq_getElem?_getD,List.getElem?_eq_getElem hi];rfl
theorem ais(s:ByteArray):(cB s).length=(az s 0 0).length:=by simp [cB]
theorem aiS:qz.size≠8:=by decide+kernel
theorem acK(s:ByteArray)(v:Value)(n1:Nat)(w:World)(aL aT aC:Addr)(hE:Env w aL aT aC)(hM:pQ w)(env:jl w)(h20:10<=w.heap.size)(hT:ny w)(h0:(aZ s).1=0)(hv:w.ownsRow n1 4 1 v (cB s).length (jo (cB s))):
  Calls prog 60 #[.string s,v] w fun e w'=>∃u ev,e= .returned (.tuple #[u,ev])/\((aQ s).2.2= -1->ev= .nilIface/\w'.ownsRow w.heap.size 66 3 u (aQ s).1.length (bS (aQ s).1))/\((aQ s).2.2≠ -1->u= .slice none 0 0/\∃b,ev= .iface 92 (.pointer (some ⟨b,0,none⟩))/\w'.heap[b]? =some (.cells #[.int .i64 (aQ s).2.1,.int .i64 (aQ s).2.2,tQ 3 aL aT aC] 96 (0,0))/\w.heap.size<=b)/\Below w.heap.size w w':=by
 refine(callsIn_wide (n:=0)).1 (callsIn_of_wp_marks func60 rfl trivial ?_ rfl);simp only [ntmps60,List.size_toArray,List.length_cons,List.length_nil,Nat.reduceAdd,Nat.reduceSub,Array.replicate_succ,Array.replicate_zero,List.push_toArray,List.append_toArray,List.nil_append,List.cons_append];refine(wpIn_wide (n:=0)).2 ?_;have hs6:=(look_ok h0).1;have hlen:=Ep s 0 0 (by omega);have hsl:=ais s;obtain⟨N,hN⟩:∃N,N=(az s 0 0).length:=⟨_,rfl⟩
 rw [hsl,<-hN]at hv;rw [<-hN]at hlen hsl;obtain⟨va,vc,rfl⟩:=xH hv;have HN:Hid (N=(az s 0 0).length):=hN;have HV:Hid (w.ownsRow n1 4 1 (.slice va N vc) N (jo (cB s))):=hv;have H0:Hid ((aZ s).1=0):=h0;have HE:Hid (Env w aL aT aC/\jl w/\ny w/\pQ w):=⟨hE,env,hT,hM⟩
 obtain⟨W1,hW1⟩:∃W,W=((w.alloc (.cells #[.slice va N vc] 36)).alloc (.cells #[.slice none 0 0] 37)).alloc (.cells #[.nilIface] 53):=⟨_,rfl⟩
 have hb1:Below w.heap.size w W1:=by
  rw [hW1];exact(((Below.refl _ _).alloc (Nat.le_refl _) _).alloc (by simp) _).alloc (by simp;omega) _
 have HSl:Hid ((cB s).length=N):=hsl;have CW:Hid (pQ W1):=HE.out.2.2.2.below hb1;have hz1:W1.heap.size=w.heap.size+3:=by rw [hW1];simp
 have k3:W1.heap[w.heap.size]? =some (.cells #[.slice va N vc] 36 (0,0))/\W1.heap[w.heap.size+1]? =some (.cells #[.slice none 0 0] 37 (0,0))/\W1.heap[w.heap.size+2]? =some (.cells #[.nilIface] 53 (0,0)):=by
  rw [hW1];exact Ra _ _ _ _
 have zl:Hid _:=k3;have HW1:Hid (W1=((w.alloc (.cells #[.slice va N vc] 36)).alloc (.cells #[.slice none 0 0] 37)).alloc (.cells #[.nilIface] 53)):=hW1;have HB1:Hid (Below w.heap.size w W1):=hb1;clear hN hv h0 hE env hT hM hsl hW1 k3 hb1;go_wp2_with fail;rw [<-HW1.out];obtain⟨m,hm⟩:=CW.out;refine Calls.mono (OU s m W1 (by omega) hm) ?_;rintro ev W2 ⟨rfl,rfl⟩;rw [<-HN.out,hz1];clear hm CW HW1;obtain⟨W2,hW2⟩:∃W,W=(W1.alloc (.cells (dN (az s 0 0)).toArray 9)).alloc (.cells #[.slice (some ⟨w.heap.size+3,0,none⟩) N N] 42):=⟨_,rfl⟩
 have hz2:W2.heap.size=w.heap.size+5:=by rw [hW2];simp;omega
 have k2:W2.heap[w.heap.size+3]? =some (.cells (dN (az s 0 0)).toArray 9 (0,0))/\W2.heap[w.heap.size+4]? =some (.cells #[.slice (some ⟨w.heap.size+3,0,none⟩) N N] 42 (0,0)):=by
  have e1:(W1.alloc (.cells (dN (az s 0 0)).toArray 9)).heap.size=w.heap.size+4:=by simp;omega
  have a:=World.alloc_heap_new W1 (.cells (dN (az s 0 0)).toArray 9);have b:=World.alloc_heap_new (W1.alloc (.cells (dN (az s 0 0)).toArray 9)) (.cells #[.slice (some ⟨w.heap.size+3,0,none⟩) N N] 42);rw [hz1]at a;rw [e1]at b;rw [hW2];exact⟨(Below.heap_alloc _ _ _ (by omega)).trans a,b⟩
 have HB2:Hid (Below W1.heap.size W1 W2):=by show Below _ _ _;rw [hW2];exact((Below.refl _ _).alloc (Nat.le_refl _) _).alloc (by simp) _
 have oz:Hid _:=k2;have Qj:Hid _:=afD (az s 0 0) (w.heap.size+3) N W2 HN.out (by omega) (Nat.le_trans (ZI hs6) (by omega)) k2.1;have HW2:Hid (W2=(W1.alloc (.cells (dN (az s 0 0)).toArray 9)).alloc (.cells #[.slice (some ⟨w.heap.size+3,0,none⟩) N N] 42)):=hW2;clear k2 hW2;go_wp2_with fail;rw [<-HW2.out];refine Calls.mono Qj.out ?_;rintro ev W3 ⟨q,rfl,hq,hb3⟩;have HQ:Hid (aK W3 W2.heap.size 3 q N (qi (ku (az s 0 0) 0))):=hq;have HB3:Hid (Below W2.heap.size W2 W3):=hb3;have hz3:=hb3.size;clear hq hb3 Qj HW2;go_wp2_with fail;refine(LD _ s).mono ?_;rintro ev W4 ⟨rfl,rfl⟩;go_wp2;obtain⟨f7,f8,f9⟩:=Ra W3 (.cells #[.slice (some ⟨q,0,none⟩) N N] 31) (.cells #[.slice none 0 0] 37) (.cells #[.string s] 9);have hz0:(((W3.alloc (.cells #[.slice (some ⟨q,0,none⟩) N N] 31)).alloc (.cells #[.slice none 0 0] 37)).alloc (.cells #[.string s] 9)).heap.size=W3.heap.size+3:=by simp
 have hb0:Below W3.heap.size W3 (((W3.alloc (.cells #[.slice (some ⟨q,0,none⟩) N N] 31)).alloc (.cells #[.slice none 0 0] 37)).alloc (.cells #[.string s] 9)):=(((Below.refl _ _).alloc (Nat.le_refl _) _).alloc (by simp) _).alloc (by simp;omega) _;generalize(((W3.alloc (.cells #[.slice (some ⟨q,0,none⟩) N N] 31)).alloc (.cells #[.slice none 0 0] 37)).alloc (.cells #[.string s] 9))=W0 at*;have b2:Below W2.heap.size W2 W0:=HB3.out.trans (hb0.mono hz3);have b1:Below W1.heap.size W1 W0:=HB2.out.trans (b2.mono (by omega));have b0:Below w.heap.size w W0:=HB1.out.trans (b1.mono (by omega));have f3:=aR b1 zl.out.1;have f4:=aR b1 zl.out.2.1;have f5:=aR b1 zl.out.2.2;have fl:=aR b2 oz.out.1;have f6:=aR b2 oz.out.2;have fq:aK W0 W2.heap.size 3 q N (qi (ku (az s 0 0) 0)):=qw HQ.out hb0;have fv:=qw HV.out b0;have DR:jl W0:=HE.out.2.1.below h20 b0;have vw:W0.cell? ⟨W3.heap.size+2,0,none⟩=some (.string s):=au f9 0;have hI0:EI w.heap.size W0 (W3.heap.size+1) [] W0:=⟨fun _ _ _ _ h _ _=>h,f4,f5,⟨_,f8,World.ownsRow_nil _ _ _ _⟩,Nat.le_refl _⟩
 have HF:Hid (W0.heap[w.heap.size]? =some (.cells #[.slice va N vc] 36 (0,0))/\W0.heap[w.heap.size+3]? =some (.cells (dN (az s 0 0)).toArray 9 (0,0))/\W0.heap[w.heap.size+4]? =some (.cells #[.slice (some ⟨w.heap.size+3,0,none⟩) N N] 42 (0,0))/\W0.heap[W3.heap.size]? =some (.cells #[.slice (some ⟨q,0,none⟩) N N] 31 (0,0))/\aK W0 W2.heap.size 3 q N (qi (ku (az s 0 0) 0))/\W0.ownsRow n1 4 1 (.slice va N vc) N (jo (cB s))/\Below w.heap.size w W0):=⟨f3,fl,f6,f7,fq,fv,b0⟩
 have Hg:W3.heap.size+1<W0.heap.size:=by omega
 have iR:w.heap.size+2<W0.heap.size:=by omega
 have aeB:w.heap.size+2<W3.heap.size+1:=by omega
 clear f3 f4 f5 fl f6 fq fv f7 f8 f9 b0 b1 b2 hb0 zl oz HQ HV HB1 HB2 HB3;rw [show w.heap.size+1+1=w.heap.size+2 from rfl,show w.heap.size+3+1=w.heap.size+4 from rfl];refine Ol (gf:=106) (lb:=#[.pointer (some ⟨W3.heap.size+2,0,none⟩)]) ?_ (Go.Proofs.enters_of func106 (by kernel_rfl) rfl) (n₀:=w.heap.size) (by omega) (NW W0 w.heap.size (W3.heap.size+2) s vw DR h20 (by omega)) (fun x=>rfl)
  M3 (fun W l o o' hl ho hc=>M0 (by omega) ho hc o') (fun A B h=>OD h)
  (fun pre W=>(eu s pre).2.2= -1/\EI w.heap.size W0 (W3.heap.size+1) (eu s pre).1 W) (fun c pre W=>c= .ret/\(eu s pre).2.2≠ -1/\EX w.heap.size W0.heap.size (eu s pre).2.1 (eu s pre).2.2 (tQ 3 aL aT aC) W)
  (fun pre A B h ha=>⟨h.1,h.2.jS ha⟩) (fun c pre A B h ha=>⟨h.1,h.2.1,h.2.2.jS ha⟩)
  (fun pre W l o o' hl ho hc h=>⟨h.1,h.2.put Hg iR hl ho hc o'⟩) (fun c pre W l o o' hl ho hc h=>⟨h.1,h.2.1,h.2.2.put iR hl ho hc o'⟩)
  ?h0 ?round ?done ?stop
 .rfl
 case h0=>exact fun o1 o2=>⟨rfl,(hI0.jS (rM W0 o1)).jS (rM _ o2)⟩
 case stop=>
  rintro D c pre W hD hbW hp ⟨rfl,hne,hX⟩ hK;have hbw:Below w.heap.size w W:=HF.out.2.2.2.2.2.2.trans hbW;obtain⟨b,x1,x2,x3⟩:=hX.c5;have HS:Hid (aQ s=eu s pre):=ac7 hne hp;have k4:∀o',(W.putObj D o').cell? ⟨w.heap.size+1,0,none⟩=some (.slice none 0 0):=fun o'=>au ((fC (by omega)).trans hX.c4) 0
  have k5:∀o',(W.putObj D o').cell? ⟨w.heap.size+2,0,none⟩=some (.iface 92 (.pointer (some ⟨b,0,none⟩))):=fun o'=>au ((fC (by omega)).trans x1) 0
  simp only;go_wp2;refine⟨by simp,.inl ⟨_,_,rfl,run_takeDeferred hK,?_⟩⟩;refine⟨.tuple #[.slice none 0 0,.iface 92 (.pointer (some ⟨b,0,none⟩))],by simp [results,results60,go_sem,k4,k5],_,_,rfl,fun h=>absurd h (by rw [HS.out];exact hne),fun _=>⟨rfl,b,rfl,?_,by omega⟩,Bo hbw (by omega) _⟩;rw [fC,HS.out]
  .exact x2
  .rintro rfl;rw [x2]at hK;cases hK
 case done=>
  rintro D W hD hbW ⟨hne,hI⟩ hK;have hbw:Below w.heap.size w W:=HF.out.2.2.2.2.2.2.trans hbW;obtain⟨u,x1,x2⟩:=hI.box;obtain⟨ua,uc,rfl⟩:=xH x2;have hsz:=hI.sz;have HS:Hid (aQ s=eu s (dw s)):=rfl;have HX:Hid (W.ownsRow W0.heap.size 66 3 (.slice ua (eu s (dw s)).1.length uc) (eu s (dw s)).1.length (bS (eu s (dw s)).1)):=x2;have pJ:Hid ((eu s (dw s)).2.2= -1):=hne;have vW:Hid (Below w.heap.size w W):=hbw;have HK:Hid (W.heap[D]? =some (.deferred (some []))/\W0.heap.size<=D):=⟨hK,hD⟩
  have c8:=au x1 0;have c4:=au hI.c4 0;have c5:=au hI.c5 0;have g4:=bX hI.c4 0;have g5:=bX hI.c5 0;simp only [List.getElem?_toArray,List.getElem?_cons_zero]at c8 c4 c5;have iZ:Hid ((aQ s).1.length=(eu s (dw s)).1.length):=rfl;generalize(eu s (dw s)).1.length=n at*;obtain⟨W9,iq⟩:∃W9,W9=(W.setCell ⟨w.heap.size+1,0,none⟩ (.slice ua n uc)).setCell ⟨w.heap.size+2,0,none⟩ .nilIface:=⟨_,rfl⟩
  have t4:W9.heap[w.heap.size+1]? =some (.cells #[.slice ua n uc] 37 (0,0)):=by
   rw [iq];refine((su _ _ _ _).block _ (by simp;omega) (fun e=>by have:=Option.some.inj e;omega)).trans ?_;rw [Joins.block_setCell hI.c4];rfl
  have t5:W9.heap[w.heap.size+2]? =some (.cells #[.nilIface] 53 (0,0)):=by
   rw [iq];have:=((su W (w.heap.size+1) 0 (.slice ua n uc)).block _ (by omega) (fun e=>by have:=Option.some.inj e;omega)).trans hI.c5;rw [Joins.block_setCell this];rfl
  have t8:W9.heap[D]? =some (.deferred (some [])):=by
   rw [iq];exact((su _ _ _ _).block _ (by simp;exact bJ hK) (fun e=>by have:=Option.some.inj e;omega)).trans (((su _ _ _ _).block _ (bJ hK) (fun e=>by have:=Option.some.inj e;omega)).trans hK)
  have t9:W9.ownsRow W0.heap.size 66 3 (.slice ua n uc) n (bS (eu s (dw s)).1):=by
   rw [iq];exact ownsRow_setCell_below (ownsRow_setCell_below HX.out (by simp;omega) _) (by simp;omega) _
  have t0:Below w.heap.size w W9:=by rw [iq];exact(hbw.setCell (Nat.le_add_right _ _) _).setCell (Nat.le_add_right _ _) _
  have HT:Hid (W9.heap[w.heap.size+1]? =some (.cells #[.slice ua n uc] 37 (0,0))/\W9.heap[w.heap.size+2]? =some (.cells #[.nilIface] 53 (0,0))/\W9.heap[D]? =some (.deferred (some []))/\W9.ownsRow W0.heap.size 66 3 (.slice ua n uc) n (bS (eu s (dw s)).1)/\Below w.heap.size w W9):=⟨t4,t5,t8,t9,t0⟩
  have wB:Hid (W9=(W.setCell ⟨w.heap.size+1,0,none⟩ (.slice ua n uc)).setCell ⟨w.heap.size+2,0,none⟩ .nilIface):=iq;clear t0 t4 t5 t8 t9 iq x1 x2 hI hne hbw hK hbW;simp only;go_wp2;rw [<-wB.out];obtain⟨t4,t5,t8,t9,t0⟩:=HT.out;have k4:∀o',(W9.putObj D o').cell? ⟨w.heap.size+1,0,none⟩=some (.slice ua n uc):=fun o'=>au ((fC (by omega)).trans t4) 0
  have k5:∀o',(W9.putObj D o').cell? ⟨w.heap.size+2,0,none⟩=some .nilIface:=fun o'=>au ((fC (by omega)).trans t5) 0
  refine⟨by simp,.inl ⟨_,_,rfl,run_takeDeferred t8,?_⟩⟩;refine⟨.tuple #[.slice ua n uc,.nilIface],by simp [results,results60,go_sem,k4,k5],_,_,rfl,fun _=>⟨rfl,?_⟩,fun h=>absurd pJ.out h,Bo t0 (by omega) _⟩;have hl:(aQ s).1.length=n:=iZ.out;rw [hl];exact rZ (EG t9 (by omega)) t8 rfl _
 case round=>
  rintro l pre ⟨xl,xk,xf,xt,xb,xe⟩ W hl ⟨hne,hI⟩ hx;simp only [Dy]
  gi_wp2
  refine⟨fun k o hk _=>(Below.heap_alloc W _ k (bJ hk)).trans hk,⟨(Below.refl _ _).alloc (by have:=hI.sz;omega) _,fun k _ _ hk=>(Below.heap_alloc W _ k (bJ hk)).trans hk⟩,?_⟩;intro o o' ho hoc;have hxm:(⟨xl,xk,xf,xt,xb,xe⟩:PR)∈dw s:=hx.subset (by simp);obtain⟨hxl,_,hok,hlz⟩:=Yc H0.out hxm;simp only at hxl hok hlz;rw [<-HN.out]at hxl;obtain⟨hEl,hEb⟩:=Sz H0.out ((List.prefix_append pre _).trans hx);have a1:=rM W (.cells #[.int .i64 xk,.int .i64 xf,.int .i64 xt,.int .i64 xb,.int .i64 xe] 75);have BG:=(hI.jS a1).put Hg iR hl ho hoc o';have hpt:((W.alloc (.cells #[.int .i64 xk,.int .i64 xf,.int .i64 xt,.int .i64 xb,.int .i64 xe] 75)).putObj l o').heap[W.heap.size]? =some (.cells #[.int .i64 xk,.int .i64 xf,.int .i64 xt,.int .i64 xb,.int .i64 xe] 75 (0,0)):=by
   rw [fC]
   .exact World.alloc_heap_new W _
   .rintro rfl;rw [World.alloc_heap_new]at ho;obtain rfl:=Option.some.inj ho;cases hoc
  clear hI a1 ho hoc vw hI0 DR;generalize(W.alloc (.cells #[.int .i64 xk,.int .i64 xf,.int .i64 xt,.int .i64 xb,.int .i64 xe] 75)).putObj l o'=W4 at*;generalize W.heap.size=pb at*;obtain⟨f3,fl,f6,f7,fq,fv,fb⟩:=HF.out;have nE:∀t:TypeId,t=36∨t=9∨t=42∨t=31∨t=3∨t=4->¬yU t/\∀c,¬uT t c:=fun t ht=>by
   unfold yU uT;rcases ht with rfl|rfl|rfl|rfl|rfl|rfl<;>simp
  have kp:∀(k:Nat)(c:Array Value)(t:TypeId),t=36∨t=9∨t=42∨t=31∨t=3∨t=4->W0.heap[k]? =some (Obj.cells c t (0,0))->W4.heap[k]? =some (Obj.cells c t (0,0)):=fun k c t ht h=>BG.kept k c t _ h (.inr (nE t ht).1) ((nE t ht).2 c)
  have lw:∀(k i:Nat)(x:Value),k<w.heap.size->w.cell? ⟨k,i,none⟩=some x->(∀c:Array Value,c[i]? =some x->¬(c.size=8/\∃t,c[0]? =some (.string t)))->W4.cell? ⟨k,i,none⟩=some x:=fun k i x hk h hn=>by
   obtain⟨c,t,fr,h1,h2⟩:=KF h;have h3:=(fb.block k hk).trans h1;exact(au (BG.kept k c t fr h3 (.inl hk) (fun h=>hn c h2 h.2)) i).trans h2
  have hSp:Sp W4:=by
   obtain⟨t,fr,h⟩:=HE.out.1.spans;have hk:=bJ h;exact⟨t,fr,BG.kept _ _ t fr ((fb.block _ hk).trans h) (.inl hk) (fun h=>aiS h.2.1)⟩
  have UD:ny W4:=by
   obtain⟨c,t,fr,h1,h2⟩:=KF HE.out.2.2.1;exact lw _ _ _ (bJ h1) HE.out.2.2.1 (fun c h hc=>by
    have:15<c.size:=by
     rcases Nat.lt_or_ge 15 c.size with q|q
     .exact q
     .rw [Array.getElem?_eq_none q]at h;cases h
    omega)
  have hCo:W4.cell? ⟨2,0,none⟩=some (.iface 354 (.pointer (some aC))):=by
   obtain⟨c,t,fr,h1,h2⟩:=KF HE.out.1.code;exact lw _ _ _ (bJ h1) HE.out.1.code (fun c h hc=>by
    obtain⟨_,t,ht⟩:=hc;rw [h]at ht;cases ht)
  obtain⟨gs,rfl,hgs,hcs⟩:=X0 fv (W:=W4) (fun k c h=>kp k c _ (by simp) h) xl hxl;obtain⟨gq,Ti,_,hcq⟩:=X0 fq (W:=W4) (fun k c h=>kp k c _ (by simp) h) xl hxl;simp only [Option.some.injEq,Addr.mk.injEq,and_true]at Ti;subst Ti;rw [abr _ _ (by rw [HSl.out];exact hxl)]at hcs;rw [agt _ _ (by rw [Zw,<-HN.out];exact hxl)]at hcq;have c3:=au (kp _ _ _ (by simp) f3) 0;have cl:=au (kp _ _ _ (by simp) fl) xl;have c6:=au (kp _ _ _ (by simp) f6) 0;have c7:=au (kp _ _ _ (by simp) f7) 0;have hcl:(dN (az s 0 0)).toArray[xl]? =some (.string (gW s xl)):=by
   have hil:xl<(az s 0 0).length:=by rw [<-HN.out];exact hxl
   simp [dN,hil,gW]
  rw [hcl]at cl;have zh:Hid (W4.heap[W3.heap.size]? =some (.cells #[.slice (some ⟨q,0,none⟩) N N] 31 (0,0))/\∃cq:Array Value,W4.heap[q]? =some (.cells cq 3 (0,0))/\cq[xl]? =some (.int .i64 (nO s xl:Nat))):=by
   obtain⟨_,cq,h⟩:=iU fq rfl;have h2:=kp _ _ _ (by simp) h;exact⟨kp _ _ _ (by simp) f7,cq,h2,(au h2 xl).symm.trans hcq⟩
  clear hcl f3 fl f6 f7 fq fv kp nE lw;simp only [List.getElem?_toArray,List.getElem?_cons_zero]at c3 c6 c7;have p0:=au hpt 0;have p1:=au hpt 1;have p2:=au hpt 2;have p3:=au hpt 3;have p4:=au hpt 4;simp only [List.getElem?_toArray,List.getElem?_cons_zero,List.getElem?_cons_succ]at p0 p1 p2 p3 p4;have hst:=ac6 hne ⟨xl,xk,xf,xt,xb,xe⟩;replace hcs:W4.cell? ⟨gs,xl,none⟩=some (.bool (dP s xl)):=hcs;replace hcq:W4.cell? ⟨q,xl,none⟩=some (.int .i64 (nO s xl:Nat)):=hcq;have hso:=Zr hs6 xl;replace hEl:(eu s pre).1.length<=602*600:=hEl;obtain⟨hpl,hpe⟩:=X9 hlz hok;have Jn:Hid _:=adn (gW s xl) ⟨xl,xk,xf,xt,xb,xe⟩ W4 (by omega) hSp hok;have P6:Hid (∀W,Below W4.heap.size W4 W->Calls prog 103 #[.string (gW s xl),om ⟨xl,xk,xf,xt,xb,xe⟩] W fun e w'=>∃v,e= .returned v/\w'.ownsRow W.heap.size 66 3 v (lg (gW s xl) ⟨xl,xk,xf,xt,xb,xe⟩).length (bS (lg (gW s xl) ⟨xl,xk,xf,xt,xb,xe⟩))/\Below W.heap.size W w'):=fun W hW=>acJ _ _ W (by omega) (hSp.below hW) (cO hW UD) hok
  simp only [om]at Jn P6;simp only at hst;generalize gW s xl=ln at*;generalize nO s xl=st at*;generalize nG ln ⟨xl,xk,xf,xt,xb,xe⟩=fx at*;generalize lg ln ⟨xl,xk,xf,xt,xb,xe⟩=ks at*;generalize dP s xl=sf at*;have oG:Hid _:=hst;have HI4:Hid (EI w.heap.size W0 (W3.heap.size+1) (eu s pre).1 W4):=BG;have HPt:Hid _:=hpt;have HEl:Hid ((eu s pre).1.length<=602*600):=hEl;have Jr:Hid (ks.length<=602/\∀e∈ks,0<=e.a/\e.a<=3000/\e.n.size<=12):=⟨hpl,hpe⟩
  have akn:=BG.sz;have HHE:Hid (Env w aL aT aC):=HE.out.1;have hv1:=fb.size;clear hst BG hpt hEl hEb hpl hpe hSp UD hok fb hne hx hxm HE HF;cases sf
  .by_cases hf:fx= -1
   .subst hf;have HS2:Hid (eu s (pre++[⟨xl,xk,xf,xt,xb,xe⟩])=((eu s pre).1++ks.map (lu st), -1, -1)):=by
     have:=oG.out;simp only [Bool.false_eq_true,↓reduceIte,ne_eq,not_true_eq_false]at this;exact this
    obtain⟨iE,yJ,hy0,hy1,hy2⟩:=info_parts Tryz.MM;generalize(eu s pre).1=es at*;clear oG
    gi_wp2_with fail
    refine⟨trivial,rfl,(CallsIn.inRound l (callsIn_wide.2 Jn.out)).mono ?_⟩;rintro ev W5 ⟨rfl,hb5⟩;have bW:Hid (Below W4.heap.size W4 W5):=hb5;have o0:=aR hb5 HPt.out;have p0:=au o0 0;have p1:=au o0 1;have p2:=au o0 2;have p3:=au o0 3;have p4:=au o0 4;simp only [List.getElem?_toArray,List.getElem?_cons_zero,List.getElem?_cons_succ]at p0 p1 p2 p3 p4;clear hb5 o0
    gi_wp2_with fail
    refine⟨trivial,rfl,(CallsIn.inRound l (callsIn_wide.2 (P6.out W5 bW.out))).mono ?_⟩;rintro ev W6 ⟨v,rfl,jw,hb6⟩;obtain⟨va,I7,rfl⟩:=xH jw;have yH:Below W4.heap.size W4 W6:=bW.out.trans (hb6.mono bW.out.size);obtain⟨u0,u1,u2⟩:=HI4.out.box;have akw:=bW.out.size;have akx:=hb6.size;have Ug:EL w.heap.size W0.heap.size (W3.heap.size+1) W6 (.slice va ks.length I7) u0 es W6:=by
     refine⟨⟨Below.refl _ _,fun _ _ h _=>h⟩,aR yH HI4.out.c4,aR yH HI4.out.c5,aR yH u1,qw u2 yH,fun k hk=> ?_,by omega⟩;obtain⟨e1,c,e2⟩:=iU jw hk;refine⟨fun e=> ?_,rfl,by omega,bJ e2⟩;obtain⟨_,c',e3⟩:=iU u2 e;have:=bJ e3;omega
    have P5:Hid _:=Ug;have JX:Hid (W6.ownsRow W5.heap.size 66 3 (.slice va ks.length I7) ks.length (bS ks)):=jw;have bO:Hid (Below W4.heap.size W4 W6):=yH;have H7:Hid (W6.heap[W3.heap.size]? =some (.cells #[.slice (some ⟨q,0,none⟩) N N] 31 (0,0))/\∃cq:Array Value,W6.heap[q]? =some (.cells cq 3 (0,0))/\cq[xl]? =some (.int .i64 (st:Nat))):=by
     obtain⟨h1,cq,h2,h3⟩:=zh.out;exact⟨aR yH h1,cq,aR yH h2,h3⟩
    clear Ug jw yH hb6 u1 u2;obtain⟨n,hn⟩:∃n,n=ks.length:=⟨_,rfl⟩
    rw [<-hn]at P5 JX ⊢;have iZ:Hid (n=ks.length):=hn;have hnn:n<=602:=by rw [hn];exact Jr.out.1
    clear hn
    gi_wp2
    gi_loopg [46] n (fun gk iv Wx=>∃(i:Nat)(u:Value),i<=n/\gk=n - i/\iv= .int .i64 i/\EL w.heap.size W0.heap.size (W3.heap.size+1) W6 (.slice va n I7) u (es++(ks.take i).map (lu st)) Wx)
    case atStart=>exact⟨0,u0,by omega,rfl,rfl,by simpa using P5.out⟩
    case round=>
     rename World=>wx
     obtain⟨i,u,hi,rfl,rfl,hL⟩:=hrel;have HL:Hid (EL w.heap.size W0.heap.size (W3.heap.size+1) W6 (.slice va n I7) u (es++(ks.take i).map (lu st)) wx):=hL;by_cases hlt:i<n
     .have hik:i<ks.length:=by rw [<-iZ.out];exact hlt
      have hin:(i:Int)<(n:Int):=by omega
      obtain⟨vg,c2,e1,Ec,_,_⟩:=IK JX.out (by omega);simp only [Value.slice.injEq,true_and]at e1;obtain⟨rfl,rfl⟩:=e1;obtain⟨r1,r2,r3,r4⟩:=hL.row vg rfl;obtain⟨x0,x1,x2⟩:=SK JX.out i hik;simp only [Nat.zero_add]at x0 x1 x2;rw [<-abH r2]at x0 x1 x2;obtain⟨h1,cq,h2,h3⟩:=H7.out;have y7:=hL.ke.keep _ _ h1 (fun c t fr e=>by injection e with _ e2 _;subst e2;unfold yU;decide);have yq:=hL.ke.keep _ _ h2 (fun c t fr e=>by injection e with _ e2 _;subst e2;unfold yU;decide);have htk:ks.take (i+1)=ks.take i++[ks[i]]:=List.take_succ_eq_append_getElem hik;obtain⟨GV,heb,_⟩:=Jr.out.2 _ (List.getElem_mem hik);have wz:Hid (ks.take (i+1)=ks.take i++[ks[i]]):=htk;generalize ks[i]=e at*;obtain⟨ea,ec,en⟩:=e;simp only at x0 x1 x2 GV heb;have hll:(es++(ks.take i).map (lu st)).length<=400000:=by
       have:=HEl.out;have:=Jr.out.1;simp only [List.length_append,List.length_map,List.length_take];omega
      have xW:Hid (es++(ks.take (i+1)).map (lu st)=(es++(ks.take i).map (lu st))++[⟨ea+(st:Int),ec,en⟩]):=by
       show _=_;rw [wz.out,List.map_append,<-List.append_assoc];rfl
      generalize es++(ks.take i).map (lu st)=lx at*;have Qh:Hid (lx.length<=400000):=hll;have ako:=hL.sz;obtain⟨W7,vo⟩:∃W7,W7=wx.alloc (.cells #[.int .i64 ea,.int .i64 ec,.string en] 66):=⟨_,rfl⟩
      have k7:W7.heap[wx.heap.size]? =some (.cells #[.int .i64 ea,.int .i64 ec,.string en] 66 (0,0)):=by rw [vo];exact World.alloc_heap_new _ _
      have b7:Below wx.heap.size wx W7:=by rw [vo];exact(Below.refl _ _).alloc (Nat.le_refl _) _
      have d7:=au (aR b7 y7) 0;have dq:=(au (aR b7 yq) xl).trans h3;have d0:=au k7 0;have g0:=bX k7 0;simp only [List.getElem?_toArray,List.getElem?_cons_zero]at d7 d0;have CS:Hid (W7.heap[wx.heap.size]? =some (.cells #[.int .i64 ea,.int .i64 ec,.string en] 66 (0,0))/\Below wx.heap.size wx W7):=⟨k7,b7⟩
      have HW7:Hid (W7=wx.alloc (.cells #[.int .i64 ea,.int .i64 ec,.string en] 66)):=vo;clear vo k7 b7 y7 yq h1 h2 h3 hll htk r1 r2 r3 r4 hL hz0 wz
      gi_wp2
      rw [<-HW7.out];refine wpIn_region_any (by kernel_rfl) ?_;change wpAnyIn _ _ _ _ _ _ _ _ _ (World.drew _);refine Ki (Xu (by kernel_rfl)) _ _ _ _ ?_;have aks:(xl:Int)<(N:Int):=by omega
      refine wpAnyIn_take (i:=0) (v:= .pointer (some ⟨wx.heap.size,0,none⟩)) rfl rfl (by kernel_rfl) (by kernel_rfl) (by kernel_rfl) (fun _ _ _ h=>h) ⟨Or.inl ⟨by rfl,fun w=>by go_simp⟩,fun _=>rfl⟩ ?_;refine wpAnyIn_take (i:=3) (v:= .int .i64 xl) rfl rfl (by kernel_rfl) (by kernel_rfl) (by kernel_rfl) (fun _ _ _ h=>h) ⟨Or.inl ⟨by rfl,fun w=>by go_simp⟩,fun _=>rfl⟩ ?_
      focus (refine wpAnyIn_ready (rs:=[1,2]) (by kernel_rfl) (by simp) (AllReadyIn.cons rfl (fun K hK=> ?_) (AllReadyIn.cons rfl (fun K hK=> ?_) AllReadyIn.nil));all_goals(go_simp;refine hK _ _ ?_;clear hK K))
      focus (refine wpAnyIn_ready (rs:=[2]) (by kernel_rfl) (by simp) (AllReadyIn.cons rfl (fun K hK=> ?_) AllReadyIn.nil);all_goals(go_simp;refine hK _ _ ?_;clear hK K))
      refine wpAnyIn_take (i:=4) (v:= .pointer (some ⟨q,xl,none⟩)) rfl rfl (by kernel_rfl) (by kernel_rfl) (by kernel_rfl) (fun _ _ _ h=>h) ⟨Or.inl ⟨by rfl,fun w=>by go_simp⟩,fun _=>rfl⟩ ?_
      focus (refine wpAnyIn_ready (rs:=[5]) (by kernel_rfl) (by simp) (AllReadyIn.cons rfl (fun K hK=> ?_) AllReadyIn.nil);all_goals(go_simp;refine hK _ _ ?_;clear hK K))
      rotate_left
      refine wpAnyIn_take (i:=4) (v:= .pointer (some ⟨q,xl,none⟩)) rfl rfl (by kernel_rfl) (by kernel_rfl) (by kernel_rfl) (fun _ _ _ h=>h) ⟨Or.inl ⟨by rfl,fun w=>by go_simp⟩,fun _=>rfl⟩ ?_
      focus (refine wpAnyIn_ready (rs:=[1,5]) (by kernel_rfl) (by simp) (AllReadyIn.cons rfl (fun K hK=> ?_) (AllReadyIn.cons rfl (fun K hK=> ?_) AllReadyIn.nil));all_goals(go_simp;refine hK _ _ ?_;clear hK K))
      focus (refine wpAnyIn_ready (rs:=[5]) (by kernel_rfl) (by simp) (AllReadyIn.cons rfl (fun K hK=> ?_) AllReadyIn.nil);all_goals(go_simp;refine hK _ _ ?_;clear hK K))
      rotate_left
      focus (refine wpAnyIn_ready (rs:=[1]) (by kernel_rfl) (by simp) (AllReadyIn.cons rfl (fun K hK=> ?_) AllReadyIn.nil);all_goals(go_simp;refine hK _ _ ?_;clear hK K))
      all_goals
       refine wpAnyIn_take (i:=6) (v:= .int .i64 (ea+st)) rfl rfl (by kernel_rfl) (by kernel_rfl) (by kernel_rfl) (fun _ _ _ h=>h) ⟨Or.inl ⟨by rfl,fun w=>by go_simp;exact IntWalk.i64_in _ ⟨by omega,by omega⟩⟩,fun _=>rfl⟩ ?_;refine wpAnyIn_take (i:=7) (v:= .pointer (some ⟨wx.heap.size,0,none⟩)) rfl rfl (by kernel_rfl) (by kernel_rfl) (by kernel_rfl) (fun _ _ _ h=>h) ⟨Or.inl ⟨by rfl,fun w=>by go_simp⟩,fun _=>rfl⟩ ?_
       focus (refine wpAnyIn_ready (rs:=[8]) (by kernel_rfl) (by simp) (AllReadyIn.cons rfl (fun K hK=> ?_) AllReadyIn.nil);all_goals(go_simp;refine hK _ _ ?_;clear hK K))
       refine wpAnyIn_done (by kernel_rfl) ?_ _;obtain⟨W8,DU⟩:∃W8,W8=W7.setCell ⟨wx.heap.size,0,none⟩ (.int .i64 (ea+(st:Int))):=⟨_,rfl⟩
       have k8:W8.heap[wx.heap.size]? =some (.cells #[.int .i64 (ea+(st:Int)),.int .i64 ec,.string en] 66 (0,0)):=by rw [DU,Joins.block_setCell CS.out.1];rfl
       have b8:Below wx.heap.size wx W8:=by rw [DU];exact CS.out.2.setCell (Nat.le_refl _) _
       have HW8:Hid (W8=W7.setCell ⟨wx.heap.size,0,none⟩ (.int .i64 (ea+(st:Int)))):=DU;have z8:=b8.size;have XY:=qw HL.out.own b8;have t8:=aR b8 HL.out.bx;have e0:=au k8 0;have e1:=au k8 1;have e2:=au k8 2;have e8:=au t8 0;simp only [List.getElem?_toArray,List.getElem?_cons_zero,List.getElem?_cons_succ]at e0 e1 e2 e8;have gX:Hid (Below wx.heap.size wx W8):=b8;have HT8:Hid _:=t8;have Qh:=Qh.out;rw [<-DU];clear DU k8 b8 t8
       gi_wp2_with (gi_at_builtin;refine wpListIn_append_own_at _ rfl _ _ 37 rfl W0.heap.size 66 iE _ 3 32 underlying37 yJ hy0 hy1 hy2 rfl (by decide) u _ _ rfl (XY.alloc _) ⟨W8.heap.size,0,none⟩ 1 1 [.int .i64 (ea+(st:Int)),.int .i64 ec,.string en] rfl rfl (Xk _ _ _ _ _) (by simp [Value.oneCell']) (by unfold maxLen;omega) (by omega) (by simp;omega) ?_)
       intro u' W9 ho hg _ hat;obtain⟨ua,uc,rfl⟩:=xH ho;have b9:Below wx.heap.size wx (W8.alloc (.cells #[.int .i64 (ea+(st:Int)),.int .i64 ec,.string en] 66)).drew:=(gX.out.alloc gX.out.size _).drew;have t9:=HL.out.bx9 Hg b9 hg;have HE9:Hid _:=HL.out.step (l':=lx++[⟨ea+(st:Int),ec,en⟩]) Hg aeB b9 hg (by rw [List.length_append,acL];exact ho) (by simpa using hat);have e9:=au t9 0;have g9:=bX t9 0;simp only [List.getElem?_toArray,List.getElem?_cons_zero]at e9;clear ho hg hat b9 t9 XY
       gi_wp2
       gi_roundg (n - (i+1))
       case measure=>omega
       case rel=>exact⟨i+1,_,by omega,rfl,by simp,by rw [xW.out];exact HE9.out⟩
     .obtain rfl:i=n:=by omega
      have hin:¬(i:Int)<(i:Int):=by omega
      have HI9:Hid (Same W4 wx/\tq w.heap.size W4 wx/\EI w.heap.size W0 (W3.heap.size+1) (es++ks.map (lu st)) wx):=by
       have hk:Ke w.heap.size W4 wx:=(Ke.of bO.out (by omega)).trans hL.ke;refine⟨hk.same,hk.Ad,fun k c t fr h1 h2 h3=> ?_,hL.c4,hL.c5,⟨u,hL.bx,?_⟩,hL.sz⟩
       .have h4:=HI4.out.kept k c t fr h1 h2 h3;rcases h2 with h2|h2
        .exact(hk.below.block k h2).trans h4
        .exact hk.keep k _ h4 (fun c' t' fr' e=>by injection e with _ e2 _;subst e2;exact h2)
       .have:=hL.own;rw [List.take_of_length_le (by rw [<-iZ.out];exact Nat.le_refl _)]at this;exact this
      clear hL
      gi_wp2
      obtain⟨q1,q2,q3⟩:=HI9.out;exact⟨q1,q2,by rw [HS2.out],by rw [HS2.out];exact q3⟩
   .have hq:(fx != -1)=true:=by simpa using hf
    have HS2:Hid (eu s (pre++[⟨xl,xk,xf,xt,xb,xe⟩])=([],(xl:Int),fx)):=by
     have:=oG.out;simp only [Bool.false_eq_true,↓reduceIte]at this;show _=_;rw [this,if_pos hf]
    clear oG
    gi_wp2_with fail
    refine⟨trivial,rfl,(CallsIn.inRound l (callsIn_wide.2 Jn.out)).mono ?_⟩;rintro ev W5 ⟨rfl,hb5⟩;have hz9:=hb5.size;have rV:w.heap.size+2<W5.heap.size:=by omega
    have hX:X3 w.heap.size W5 .nilIface none W5:=⟨⟨Below.refl _ _,fun _ _ h _=>h⟩,aR hb5 HI4.out.c4,aR hb5 HI4.out.c5,Nat.le_refl _,fun _=>rfl,fun _ e=>by cases e⟩
    have hA:=hX.al rV (.cells #[.int .i64 xl,.int .i64 fx,.iface 354 (.pointer (some aC))] 96);have hB:=(hX.s4 rV).al rV (.cells #[.int .i64 xl,.int .i64 fx,.iface 354 (.pointer (some aC))] 96);have HX:Hid (X3 w.heap.size W5 .nilIface none W5):=hX;have aj7:=cO hb5 hCo;have k1:W5.cell? ⟨w.heap.size+1,0,none⟩=some (.slice none 0 0):=au hX.c4 0;have k2:W5.frozen? ⟨w.heap.size+1,0,none⟩=false:=bX hX.c4 0;have k3:=au hA.c4 0;have k4:=au hA.c5 0;have k5:=au hB.c5 0;have k6:=bX hA.c4 0;have k7:=bX hA.c5 0;have k8:=bX hB.c5 0;simp only [List.getElem?_toArray,List.getElem?_cons_zero]at k3 k4 k5;have key:∀(c:Code)(W':World),c=Code.ret->X3 w.heap.size W5 (.iface 92 (.pointer (some ⟨W5.heap.size,0,none⟩))) (some (.cells #[.int .i64 xl,.int .i64 fx,.iface 354 (.pointer (some aC))] 96)) W'->Same W4 W'/\tq w.heap.size W4 W'/\c=Code.ret/\(eu s (pre++[⟨xl,xk,xf,xt,xb,xe⟩])).2.2≠ -1/\EX w.heap.size W0.heap.size (eu s (pre++[⟨xl,xk,xf,xt,xb,xe⟩])).2.1 (eu s (pre++[⟨xl,xk,xf,xt,xb,xe⟩])).2.2 (tQ 3 aL aT aC) W':=fun c W' hc h=>by
     have hk:Ke w.heap.size W4 W':=(Ke.of hb5 (by omega)).trans h.ke;rw [HS2.out];exact⟨hk.same,hk.Ad,hc,hf,h.c4,_,h.c5,h.ob _ rfl,by omega⟩
    have Jq:Hid _:=key;clear hX hA hB hb5 key
    gi_wp2
    refine wpIn_region_any (by kernel_rfl) ?_;change wpAnyIn _ _ _ _ _ _ _ _ _ (World.drew _);refine Ki (Xu (by kernel_rfl)) _ _ _ _ ?_;refine wpAnyIn_take (i:=0) (v:= .int .i64 xl) rfl rfl (by kernel_rfl) (by kernel_rfl) (by kernel_rfl) (fun _ _ _ h=>h) ⟨Or.inl ⟨by rfl,fun w=>by go_simp⟩,fun _=>rfl⟩ ?_;refine wpAnyIn_take (i:=1) (v:= .int .i64 fx) rfl rfl (by kernel_rfl) (by kernel_rfl) (by kernel_rfl) (fun _ _ _ h=>h) ⟨Or.inl ⟨by rfl,fun w=>by go_simp⟩,fun _=>rfl⟩ ?_
    focus (refine wpAnyIn_ready (rs:=[2,6]) (by kernel_rfl) (by simp) (AllReadyIn.cons rfl (fun K hK=> ?_) (AllReadyIn.cons rfl (fun K hK=> ?_) AllReadyIn.nil));all_goals(go_simp;refine hK _ _ ?_;clear hK K))
    refine wpAnyIn_take (i:=3) (v:= .agg #[.int .i64 xl,.int .i64 fx,.iface 354 (.pointer (some aC))]) rfl rfl (by kernel_rfl) (by kernel_rfl) (by kernel_rfl) (fun _ _ _ h=>h) ⟨Or.inl ⟨by rfl,fun w=>by go_simp⟩,fun _=>rfl⟩ ?_
    focus (refine wpAnyIn_ready (rs:=[4,6]) (by kernel_rfl) (by simp) (AllReadyIn.cons rfl (fun K hK=> ?_) (AllReadyIn.cons rfl (fun K hK=> ?_) AllReadyIn.nil));all_goals(go_simp;refine hK _ _ ?_;clear hK K))
    refine wpAnyIn_take (i:=5) (v:= .iface 92 (.pointer (some ⟨W5.heap.size,0,none⟩))) rfl rfl (by kernel_rfl) (by kernel_rfl) (by kernel_rfl) (fun _ _ _ h=>h) ⟨Or.inl ⟨by rfl,fun w=>by go_simp⟩,fun _=>rfl⟩ ?_
    focus (refine wpAnyIn_ready (rs:=[6]) (by kernel_rfl) (by simp) (AllReadyIn.cons rfl (fun K hK=> ?_) AllReadyIn.nil);all_goals(go_simp;refine hK _ _ ?_;clear hK K))
    rotate_left
    focus (refine wpAnyIn_ready (rs:=[4]) (by kernel_rfl) (by simp) (AllReadyIn.cons rfl (fun K hK=> ?_) AllReadyIn.nil);all_goals(go_simp;refine hK _ _ ?_;clear hK K))
    refine wpAnyIn_take (i:=5) (v:= .iface 92 (.pointer (some ⟨W5.heap.size,0,none⟩))) rfl rfl (by kernel_rfl) (by kernel_rfl) (by kernel_rfl) (fun _ _ _ h=>h) ⟨Or.inl ⟨by rfl,fun w=>by go_simp⟩,fun _=>rfl⟩ ?_
    rotate_left
    focus (refine wpAnyIn_ready (rs:=[2]) (by kernel_rfl) (by simp) (AllReadyIn.cons rfl (fun K hK=> ?_) AllReadyIn.nil);all_goals(go_simp;refine hK _ _ ?_;clear hK K))
    refine wpAnyIn_take (i:=3) (v:= .agg #[.int .i64 xl,.int .i64 fx,.iface 354 (.pointer (some aC))]) rfl rfl (by kernel_rfl) (by kernel_rfl) (by kernel_rfl) (fun _ _ _ h=>h) ⟨Or.inl ⟨by rfl,fun w=>by go_simp⟩,fun _=>rfl⟩ ?_
    focus (refine wpAnyIn_ready (rs:=[4]) (by kernel_rfl) (by simp) (AllReadyIn.cons rfl (fun K hK=> ?_) AllReadyIn.nil);all_goals(go_simp;refine hK _ _ ?_;clear hK K))
    refine wpAnyIn_take (i:=5) (v:= .iface 92 (.pointer (some ⟨W5.heap.size,0,none⟩))) rfl rfl (by kernel_rfl) (by kernel_rfl) (by kernel_rfl) (fun _ _ _ h=>h) ⟨Or.inl ⟨by rfl,fun w=>by go_simp⟩,fun _=>rfl⟩ ?_;all_goals
     focus (refine wpAnyIn_ready (rs:=[7]) (by kernel_rfl) (by simp) (AllReadyIn.cons rfl (fun K hK=> ?_) AllReadyIn.nil);all_goals(go_simp;refine hK _ _ ?_;clear hK K))
     refine wpAnyIn_done (by kernel_rfl) ?_ _
     gi_wp2
     first
      |exact Jq.out _ _ rfl (((HX.out.al rV _).s4 rV).s5 rV _).drew
      |exact Jq.out _ _ rfl (((HX.out.s4 rV).s5 rV _).al rV _).drew
      |exact Jq.out _ _ rfl (((HX.out.s4 rV).al rV _).s5 rV _).drew
  .have HS2:Hid (eu s (pre++[⟨xl,xk,xf,xt,xb,xe⟩])=((eu s pre).1, -1, -1)):=by
    have:=oG.out;simp only [↓reduceIte]at this;exact this
   gi_wp2
   exact⟨fun _ _ h _=>h,⟨Below.refl _ _,fun _ _ _ h=>h⟩,by rw [HS2.out],by rw [HS2.out];exact HI4.out⟩
end
