import Derived.Test.YtkbinfhclaafhaaGreatDoorP30
namespace Go.Proofs.YtkbinfhclaafhaaGreatDoor
open Go.RowKit
open Go.Proofs.Tryz
set_option maxRecDepth 100000
set_option maxHeartbeats 32000000
set_option linter.all false
section
attribute [local go_sem] Oper.semAt_some
def aeQ {w W:World}{B:Nat}{e:TypeId}{n c:Nat}{a:Option Addr}{j:List Value}(h:w.ownsRow B e 1 (.slice a n c) n j)(m:∀(k:Nat)(b:Array Value),w.heap[k]? =some (Obj.cells b e (0,0))->W.heap[k]? =some (Obj.cells b e (0,0)))(i:Nat)(p:i<n):∃g,a=some ⟨g,0,none⟩/\n<=c/\W.cell? ⟨g,i,none⟩=j[i]? :=by
 obtain⟨g,o,d,l,_,_⟩:=nC h (by omega);simp only[pJ,oC]at d;obtain⟨rfl,rfl⟩:=d;obtain⟨_,b,f⟩:=pQ h rfl;exact⟨g,rfl,l,(az (m g b f) i).trans ((az f i).symm.trans (di h i<|by omega))⟩
structure X3(n₀:Nat)(A:World)(x5:Value)(o:Option Obj)(W:World):Prop where
 ke:Ke n₀ A W
 c4:W.heap[n₀+1]? =some (.cells #[.slice none 0 0] 37 (0,0))
 c5:W.heap[n₀+2]? =some (.cells #[x5] 53 (0,0))
 sz:A.heap.size<=W.heap.size
 nw:o=none->W.heap.size=A.heap.size
 ob:∀q,o=some q->W.heap[A.heap.size]? =some q
def X3.s4 {a:Nat}{A W:World}{b:Value}{o:Option Obj}(h:X3 a A b o W)(f:a+2<A.heap.size):X3 a A b o (W.setCell ⟨a+1,0,none⟩ (.slice none 0 0)):=by
 have g:W.grownBy (W.setCell ⟨a+1,0,none⟩ (.slice none 0 0)) (some (a+1)):=vI _ _ _ _;have i:=h.sz;have d:(W.setCell ⟨a+1,0,none⟩ (.slice none 0 0)).heap.size=W.heap.size:=by simp
 refine⟨h.ke.trans<|Ke.grown g (by omega) λk c=> ?_,by rw[eW h.c4];rfl,(g.block _ (by omega) (λe=>by have:=aJ e;omega)).trans h.c5,by omega,λe=>d.trans<|h.nw e,λq e=>(g.block _ (bS<|h.ob q e) (λe=>by have:=aJ e;omega)).trans (h.ob q e)⟩;obtain rfl:=aJ c;exact⟨by omega,_,_,_,h.c4,.inr (.inl rfl)⟩
def X3.s5 {a:Nat}{A W:World}{d:Value}{o:Option Obj}(h:X3 a A d o W)(f:a+2<A.heap.size)(y:Value):X3 a A y o (W.setCell ⟨a+2,0,none⟩ y):=by
 have g:W.grownBy (W.setCell ⟨a+2,0,none⟩ y) (some (a+2)):=vI _ _ _ _;have i:=h.sz;have c:(W.setCell ⟨a+2,0,none⟩ y).heap.size=W.heap.size:=by simp
 refine⟨h.ke.trans<|Ke.grown g (by omega) λk b=> ?_,(g.block _ (by omega) (λe=>by have:=aJ e;omega)).trans h.c4,by rw[eW h.c5];rfl,by omega,λe=>c.trans<|h.nw e,λq e=>(g.block _ (bS<|h.ob q e) (λe=>by have:=aJ e;omega)).trans (h.ob q e)⟩;obtain rfl:=aJ b;exact⟨by omega,_,_,_,h.c5,.inr (.inr rfl)⟩
def X3.al {a:Nat}{A W:World}{b:Value}(h:X3 a A b none W)(d:a+2<A.heap.size)(q:Obj):X3 a A b (some q) (W.alloc q):=by
 have f:=h.sz;have c:=h.nw rfl;refine⟨h.ke.trans<|Ke.of ((aA _ _).alloc (au _) _)<|by omega,(dw W _ _ (bS h.c4)).trans h.c4,(dw W _ _ (bS h.c5)).trans h.c5,by simp;omega,(λe=>by cases e),λg e=> ?_⟩;obtain rfl:=aJ e;rw[<-c];exact World.alloc_heap_new _ _
def X3.drew {a:Nat}{A W:World}{b:Value}{o:Option Obj}(h:X3 a A b o W):X3 a A b o W.drew:=⟨⟨h.ke.below.drew,h.ke.keep⟩,h.c4,h.c5,h.sz,h.nw,h.ob⟩
def jT(s:ByteArray)(p:List PR):List Ed×Int×Int:=js (nH s) (eN s) (nI s) p []
def akJ {s:ByteArray}{p:List PR}(h:(jT s p).2.2= -1)(x:PR):jT s (p++[x])=if nH s x.line=true then((jT s p).1,(-1:Int),(-1:Int))else if mW (eN s x.line) x≠ -1 then([],(x.line:Int),mW (eN s x.line) x)else((jT s p).1++(kH (eN s x.line) x).map (pU<|nI s x.line), -1, -1):=by
 have a:(js (nH s) (eN s) (nI s) p []).2.2= -1:=h;unfold jT;rw[Ou,aj a,js,js,js]
def akK {s:ByteArray}{p:List PR}(h:(jT s p).2.2≠ -1)(a:p<+:fD s):eV s=jT s p:=by
 obtain⟨q,b⟩:=a;unfold eV;rw[<-b,Ou,ai (show¬(js (nH s) (eN s) (nI s) p []).2.2= -1 from h)];rfl
def ai4(l:List Bool)(i:Nat)(a:i<l.length):(rz l)[i]? =some (.bool<|l.getD i false):=by
 rw[rz,jq,aM a,aO,aM a];rfl
def an6(l:List Nat)(i:Nat)(a:i<l.length):(yB l)[i]? =some (.int .i64 (l.getD i 0:Nat)):=by
 rw[yB,jq,aM a,aO,aM a];rfl
def aqp(s:ByteArray):(kI s).length=(aR s 0 0).length:=by simp[kI]
def aq7:Aa.size≠8:=by decide+kernel
theorem akd(s:ByteArray)(v:Value)(n1:Nat)(w:World)(aL aT aC:Addr)(hE:Env w aL aT aC)(hM:zk w)(env:mR w)(h20:10<=w.heap.size)(hT:qf w)(h0:(gy s).1=0)(hv:w.ownsRow n1 4 1 v (kI s).length (rz (kI s))):
  Calls prog 60 #[.string s,v] w fun e w'=>∃u ev,e= .returned (.tuple #[u,ev])/\((eV s).2.2= -1->ev= .nilIface/\w'.ownsRow w.heap.size 66 3 u (eV s).1.length (bY (eV s).1))/\((eV s).2.2≠ -1->u= .slice none 0 0/\∃b,ev= .iface 92 (.pointer (some ⟨b,0,none⟩))/\w'.heap[b]? =some (.cells #[.int .i64 (eV s).2.1,.int .i64 (eV s).2.2,AX 3 aL aT aC] 96 (0,0))/\w.heap.size<=b)/\Below w.heap.size w w':=by
 refine(Kr (n:=0)).1 (callsIn_of_wp_marks func60 rfl trivial ?_ rfl);simp only[ntmps60,aif,eJ,jZ,Nat.reduceAdd,Nat.reduceSub,ahh,ahi,aia,ahT,si,uL];refine(Qz (n:=0)).2 ?_;have zM:=(look_ok h0).1;have hlen:=ID s 0 0 (by omega);have hsl:=aqp s;obtain⟨N,hN⟩:∃N,N=(aR s 0 0).length:=⟨_,rfl⟩
 rw[hsl,<-hN]at hv;rw[<-hN]at hlen hsl;obtain⟨va,vc,rfl⟩:=iA hv;have HN:=ah hN;have HV:=ah hv;have H0:=ah h0;have HE:Hid (Env w aL aT aC/\mR w/\qf w/\zk w):=⟨hE,env,hT,hM⟩
 obtain⟨W1,hW1⟩:∃W,W=((w.alloc (.cells #[.slice va N vc] 36)).alloc (.cells #[.slice none 0 0] 37)).alloc (.cells #[.nilIface] 53):=⟨_,rfl⟩
 have hb1:Below w.heap.size w W1:=by
  rw[hW1];exact(((aA _ _).alloc (au _) _).alloc (by simp) _).alloc (by simp;omega) _
 have HSl:=ah hsl;have Jw:=ah (HE.out.2.2.2.below hb1);have hz1:W1.heap.size=w.heap.size+3:=by rw[hW1];simp
 have k3:W1.heap[w.heap.size]? =some (.cells #[.slice va N vc] 36 (0,0))/\W1.heap[w.heap.size+1]? =some (.cells #[.slice none 0 0] 37 (0,0))/\W1.heap[w.heap.size+2]? =some (.cells #[.nilIface] 53 (0,0)):=by
  rw[hW1];exact uE _ _ _ _
 have EK:=ah k3;have tN:=ah hW1;have aD:=ah hb1;clear hN hv h0 hE env hT hM hsl hW1 k3 hb1;go_wp2_with fail;rw[<-tN.out];obtain⟨m,hm⟩:=Jw.out;refine mM (Xp s m W1 (by omega) hm) ?_;rintro ev W2 ⟨rfl,rfl⟩;rw[<-HN.out,hz1];clear hm Jw tN;obtain⟨W2,hW2⟩:∃W,W=(W1.alloc (.cells (iX (aR s 0 0)).toArray 9)).alloc (.cells #[.slice (some ⟨w.heap.size+3,0,none⟩) N N] 42):=⟨_,rfl⟩
 have hz2:W2.heap.size=w.heap.size+5:=by rw[hW2];simp;omega
 have k2:W2.heap[w.heap.size+3]? =some (.cells (iX (aR s 0 0)).toArray 9 (0,0))/\W2.heap[w.heap.size+4]? =some (.cells #[.slice (some ⟨w.heap.size+3,0,none⟩) N N] 42 (0,0)):=by
  have e1:(W1.alloc (.cells (iX (aR s 0 0)).toArray 9)).heap.size=w.heap.size+4:=by simp;omega
  have a:=World.alloc_heap_new W1 (.cells (iX (aR s 0 0)).toArray 9);have b:=World.alloc_heap_new (W1.alloc (.cells (iX (aR s 0 0)).toArray 9)) (.cells #[.slice (some ⟨w.heap.size+3,0,none⟩) N N] 42);rw[hz1]at a;rw[e1]at b;rw[hW2];exact⟨(dw _ _ _ (by omega)).trans a,b⟩
 have aI:Hid (Below W1.heap.size W1 W2):=by show Below _ _ _;rw[hW2];exact((aA _ _).alloc (au _) _).alloc (by simp) _
 have pZ:=ah k2;have YV:Hid _:=anu (aR s 0 0) (w.heap.size+3) N W2 HN.out (by omega) (bP (Xt zM) (by omega)) k2.1;have JU:=ah hW2;clear k2 hW2;go_wp2_with fail;rw[<-JU.out];refine mM YV.out ?_;rintro ev W3 ⟨q,rfl,hq,hb3⟩;have HQ:=ah hq;have aG:=ah hb3;have hz3:=hb3.size;clear hq hb3 YV JU;go_wp2_with fail;refine(Il _ s).mono ?_;rintro ev W4 ⟨rfl,rfl⟩;go_wp2;obtain⟨f7,f8,f9⟩:=uE W3 (.cells #[.slice (some ⟨q,0,none⟩) N N] 31) (.cells #[.slice none 0 0] 37) (.cells #[.string s] 9);have hz0:(((W3.alloc (.cells #[.slice (some ⟨q,0,none⟩) N N] 31)).alloc (.cells #[.slice none 0 0] 37)).alloc (.cells #[.string s] 9)).heap.size=W3.heap.size+3:=by simp
 have hb0:Below W3.heap.size W3 (((W3.alloc (.cells #[.slice (some ⟨q,0,none⟩) N N] 31)).alloc (.cells #[.slice none 0 0] 37)).alloc (.cells #[.string s] 9)):=(((aA _ _).alloc (au _) _).alloc (by simp) _).alloc (by simp;omega) _;generalize(((W3.alloc (.cells #[.slice (some ⟨q,0,none⟩) N N] 31)).alloc (.cells #[.slice none 0 0] 37)).alloc (.cells #[.string s] 9))=W0 at*;have b2:Below W2.heap.size W2 W0:=aG.out.trans (hb0.mono hz3);have b1:Below W1.heap.size W1 W0:=aI.out.trans (b2.mono (by omega));have b0:Below w.heap.size w W0:=aD.out.trans (b1.mono (by omega));have f3:=bq b1 EK.out.1;have f4:=bq b1 EK.out.2.1;have f5:=bq b1 EK.out.2.2;have fl:=bq b2 pZ.out.1;have f6:=bq b2 pZ.out.2;have fq:aY W0 W2.heap.size 3 q N (yB (nJ (aR s 0 0) 0)):=iZ HQ.out hb0;have fv:=iZ HV.out b0;have KV:mR W0:=HE.out.2.1.below h20 b0;have K5:W0.cell? ⟨W3.heap.size+2,0,none⟩=some (.string s):=az f9 0;have KQ:EI w.heap.size W0 (W3.heap.size+1) [] W0:=⟨fun _ _ _ _ h _ _=>h,f4,f5,⟨_,f8,gQ _ _ _ _⟩,au _⟩
 have HF:Hid (W0.heap[w.heap.size]? =some (.cells #[.slice va N vc] 36 (0,0))/\W0.heap[w.heap.size+3]? =some (.cells (iX (aR s 0 0)).toArray 9 (0,0))/\W0.heap[w.heap.size+4]? =some (.cells #[.slice (some ⟨w.heap.size+3,0,none⟩) N N] 42 (0,0))/\W0.heap[W3.heap.size]? =some (.cells #[.slice (some ⟨q,0,none⟩) N N] 31 (0,0))/\aY W0 W2.heap.size 3 q N (yB (nJ (aR s 0 0) 0))/\W0.ownsRow n1 4 1 (.slice va N vc) N (rz (kI s))/\Below w.heap.size w W0):=⟨f3,fl,f6,f7,fq,fv,b0⟩
 have Py:W3.heap.size+1<W0.heap.size:=by omega
 have jg:w.heap.size+2<W0.heap.size:=by omega
 have amq:w.heap.size+2<W3.heap.size+1:=by omega
 clear f3 f4 f5 fl f6 fq fv f7 f8 f9 b0 b1 b2 hb0 EK pZ HQ HV aD aI aG;rw[show w.heap.size+1+1=w.heap.size+2 from rfl,show w.heap.size+3+1=w.heap.size+4 from rfl];refine afs (gf:=106) (lb:=#[.pointer (some ⟨W3.heap.size+2,0,none⟩)]) ?_ (Go.Proofs.enters_of func106 (by kernel_rfl) rfl) (n₀:=w.heap.size) (by omega) (Tt W0 w.heap.size (W3.heap.size+2) s K5 KV h20 (by omega)) (fun x=>rfl)
  R3 (fun W l o o' hl ho hc=>Q5 (by omega) ho hc o') (fun A B h=>afY h)
  (fun pre W=>(jT s pre).2.2= -1/\EI w.heap.size W0 (W3.heap.size+1) (jT s pre).1 W) (fun c pre W=>c= .ret/\(jT s pre).2.2≠ -1/\EX w.heap.size W0.heap.size (jT s pre).2.1 (jT s pre).2.2 (AX 3 aL aT aC) W)
  (fun pre A B h ha=>⟨h.1,h.2.ry ha⟩) (fun c pre A B h ha=>⟨h.1,h.2.1,h.2.2.ry ha⟩)
  (fun pre W l o o' hl ho hc h=>⟨h.1,h.2.put Py jg hl ho hc o'⟩) (fun c pre W l o o' hl ho hc h=>⟨h.1,h.2.1,h.2.2.put jg hl ho hc o'⟩)
  ?h0 ?round ?done ?stop
 .rfl
 case h0=>exact fun o1 o2=>⟨rfl,(KQ.ry (Dy W0 o1)).ry (Dy _ o2)⟩
 case stop=>
  rintro D c pre W hD hbW hp ⟨rfl,hne,hX⟩ hK;have jw:Below w.heap.size w W:=HF.out.2.2.2.2.2.2.trans hbW;obtain⟨b,x1,x2,x3⟩:=hX.c5;have HS:=ah (akK hne hp);have k4:∀o',(W.putObj D o').cell? ⟨w.heap.size+1,0,none⟩=some (.slice none 0 0):=fun o'=>az ((jy (by omega)).trans hX.c4) 0
  have k5:∀o',(W.putObj D o').cell? ⟨w.heap.size+2,0,none⟩=some (.iface 92 (.pointer (some ⟨b,0,none⟩))):=fun o'=>az ((jy (by omega)).trans x1) 0
  simp only;go_wp2;refine⟨by simp,.inl ⟨_,_,rfl,run_takeDeferred hK,?_⟩⟩;refine⟨.tuple #[.slice none 0 0,.iface 92 (.pointer (some ⟨b,0,none⟩))],by simp[results,results60,go_sem,k4,k5],_,_,rfl,fun h=>absurd h (by rw[HS.out];exact hne),fun _=>⟨rfl,b,rfl,?_,by omega⟩,N1 jw (by omega) _⟩;rw[jy,HS.out]
  .exact x2
  .rintro rfl;rw[x2]at hK;cases hK
 case done=>
  rintro D W hD hbW ⟨hne,hI⟩ hK;have jw:Below w.heap.size w W:=HF.out.2.2.2.2.2.2.trans hbW;obtain⟨u,x1,x2⟩:=hI.box;obtain⟨ua,uc,rfl⟩:=iA x2;have hsz:=hI.sz;have HS:Hid (eV s=jT s (fD s)):=rfl;have HX:=ah x2;have rQ:=ah hne;have kL:=ah jw;have HK:Hid (W.heap[D]? =some (.deferred (some []))/\W0.heap.size<=D):=⟨hK,hD⟩
  have c8:=az x1 0;have c4:=az hI.c4 0;have c5:=az hI.c5 0;have g4:=cB hI.c4 0;have g5:=cB hI.c5 0;simp only[lI,l6]at c8 c4 c5;have cN:Hid ((eV s).1.length=(jT s (fD s)).1.length):=rfl;generalize(jT s (fD s)).1.length=n at*;obtain⟨W9,Fw⟩:∃W9,W9=(W.setCell ⟨w.heap.size+1,0,none⟩ (.slice ua n uc)).setCell ⟨w.heap.size+2,0,none⟩ .nilIface:=⟨_,rfl⟩
  have t4:W9.heap[w.heap.size+1]? =some (.cells #[.slice ua n uc] 37 (0,0)):=by
   rw[Fw];refine((vI _ _ _ _).block _ (by simp;omega) (fun e=>by have:=aJ e;omega)).trans ?_;rw[eW hI.c4];rfl
  have t5:W9.heap[w.heap.size+2]? =some (.cells #[.nilIface] 53 (0,0)):=by
   rw[Fw];have:=((vI W (w.heap.size+1) 0 (.slice ua n uc)).block _ (by omega) (fun e=>by have:=aJ e;omega)).trans hI.c5;rw[eW this];rfl
  have t8:W9.heap[D]? =some (.deferred (some [])):=by
   rw[Fw];exact((vI _ _ _ _).block _ (by simp;exact bS hK) (fun e=>by have:=aJ e;omega)).trans (((vI _ _ _ _).block _ (bS hK) (fun e=>by have:=aJ e;omega)).trans hK)
  have t9:W9.ownsRow W0.heap.size 66 3 (.slice ua n uc) n (bY (jT s (fD s)).1):=by
   rw[Fw];exact vD (vD HX.out (by simp;omega) _) (by simp;omega) _
  have t0:Below w.heap.size w W9:=by rw[Fw];exact(jw.setCell (aii _ _) _).setCell (aii _ _) _
  have HT:Hid (W9.heap[w.heap.size+1]? =some (.cells #[.slice ua n uc] 37 (0,0))/\W9.heap[w.heap.size+2]? =some (.cells #[.nilIface] 53 (0,0))/\W9.heap[D]? =some (.deferred (some []))/\W9.ownsRow W0.heap.size 66 3 (.slice ua n uc) n (bY (jT s (fD s)).1)/\Below w.heap.size w W9):=⟨t4,t5,t8,t9,t0⟩
  have HW9:=ah Fw;clear t0 t4 t5 t8 t9 Fw x1 x2 hI hne jw hK hbW;simp only;go_wp2;rw[<-HW9.out];obtain⟨t4,t5,t8,t9,t0⟩:=HT.out;have k4:∀o',(W9.putObj D o').cell? ⟨w.heap.size+1,0,none⟩=some (.slice ua n uc):=fun o'=>az ((jy (by omega)).trans t4) 0
  have k5:∀o',(W9.putObj D o').cell? ⟨w.heap.size+2,0,none⟩=some .nilIface:=fun o'=>az ((jy (by omega)).trans t5) 0
  refine⟨by simp,.inl ⟨_,_,rfl,run_takeDeferred t8,?_⟩⟩;refine⟨.tuple #[.slice ua n uc,.nilIface],by simp[results,results60,go_sem,k4,k5],_,_,rfl,fun _=>⟨rfl,?_⟩,fun h=>absurd rQ.out h,N1 t0 (by omega) _⟩;have hl:(eV s).1.length=n:=cN.out;rw[hl];exact IM (Ej t9 (by omega)) t8 rfl _
 case round=>
  rintro l pre ⟨xl,xk,xf,xt,xb,xe⟩ W hl ⟨hne,hI⟩ hx;simp only[Ow]
  gi_wp2
  refine⟨fun k o hk _=>(dw W _ k (bS hk)).trans hk,⟨(aA _ _).alloc (by have:=hI.sz;omega) _,fun k _ _ hk=>(dw W _ k (bS hk)).trans hk⟩,?_⟩;intro o o' ho yo;have vp:(⟨xl,xk,xf,xt,xb,xe⟩:PR)∈fD s:=hx.subset (by simp);obtain⟨hxl,_,hok,hlz⟩:=Ww H0.out vp;simp only at hxl hok hlz;rw[<-HN.out]at hxl;obtain⟨OQ,hEb⟩:=FA H0.out ((Sv pre _).trans hx);have a1:=Dy W (.cells #[.int .i64 xk,.int .i64 xf,.int .i64 xt,.int .i64 xb,.int .i64 xe] 75);have ue:=(hI.ry a1).put Py jg hl ho yo o';have hpt:((W.alloc (.cells #[.int .i64 xk,.int .i64 xf,.int .i64 xt,.int .i64 xb,.int .i64 xe] 75)).putObj l o').heap[W.heap.size]? =some (.cells #[.int .i64 xk,.int .i64 xf,.int .i64 xt,.int .i64 xb,.int .i64 xe] 75 (0,0)):=by
   rw[jy]
   .exact World.alloc_heap_new W _
   .rintro rfl;rw[World.alloc_heap_new]at ho;obtain rfl:=aJ ho;cases yo
  clear hI a1 ho yo K5 KQ KV;generalize(W.alloc (.cells #[.int .i64 xk,.int .i64 xf,.int .i64 xt,.int .i64 xb,.int .i64 xe] 75)).putObj l o'=W4 at*;generalize W.heap.size=pb at*;obtain⟨f3,fl,f6,f7,fq,fv,fb⟩:=HF.out;have nE:∀t:TypeId,t=36∨t=9∨t=42∨t=31∨t=3∨t=4->¬Ei t/\∀c,¬AE t c:=fun t ht=>by
   unfold Ei AE;rcases ht with rfl|rfl|rfl|rfl|rfl|rfl<;>simp
  have kp:∀(k:Nat)(c:Array Value)(t:TypeId),t=36∨t=9∨t=42∨t=31∨t=3∨t=4->W0.heap[k]? =some (Obj.cells c t (0,0))->W4.heap[k]? =some (Obj.cells c t (0,0)):=fun k c t ht h=>ue.kept k c t _ h (.inr (nE t ht).1) ((nE t ht).2 c)
  have lw:∀(k i:Nat)(x:Value),k<w.heap.size->w.cell? ⟨k,i,none⟩=some x->(∀c:Array Value,c[i]? =some x->¬(c.size=8/\∃t,c[0]? =some (.string t)))->W4.cell? ⟨k,i,none⟩=some x:=fun k i x hk h hn=>by
   obtain⟨c,t,fr,h1,h2⟩:=Td h;have h3:=(fb.block k hk).trans h1;exact(az (ue.kept k c t fr h3 (.inl hk) (fun h=>hn c h2 h.2)) i).trans h2
  have Uc:Sp W4:=by
   obtain⟨t,fr,h⟩:=HE.out.1.I2;have hk:=bS h;exact⟨t,fr,ue.kept _ _ t fr ((fb.block _ hk).trans h) (.inl hk) (fun h=>aq7 h.2.1)⟩
  have hTz:qf W4:=by
   obtain⟨c,t,fr,h1,h2⟩:=Td HE.out.2.2.1;exact lw _ _ _ (bS h1) HE.out.2.2.1 (fun c h hc=>by
    have:15<c.size:=by
     rcases cP 15 c.size with q|q
     .exact q
     .rw[tD q]at h;cases h
    omega)
  have hCo:W4.cell? ⟨2,0,none⟩=some (.iface 354 (.pointer (some aC))):=by
   obtain⟨c,t,fr,h1,h2⟩:=Td HE.out.1.code;exact lw _ _ _ (bS h1) HE.out.1.code (fun c h hc=>by
    obtain⟨_,t,ht⟩:=hc;rw[h]at ht;cases ht)
  obtain⟨gs,rfl,iw,hcs⟩:=aeQ fv (W:=W4) (fun k c h=>kp k c _ (by simp) h) xl hxl;obtain⟨gq,eq1,_,dK⟩:=aeQ fq (W:=W4) (fun k c h=>kp k c _ (by simp) h) xl hxl;simp only[Cj,Addr.mk.injEq,and_true]at eq1;subst eq1;rw[ai4 _ _ (by rw[HSl.out];exact hxl)]at hcs;rw[an6 _ _ (by rw[agj,<-HN.out];exact hxl)]at dK;have c3:=az (kp _ _ _ (by simp) f3) 0;have cl:=az (kp _ _ _ (by simp) fl) xl;have c6:=az (kp _ _ _ (by simp) f6) 0;have c7:=az (kp _ _ _ (by simp) f7) 0;have hcl:(iX (aR s 0 0)).toArray[xl]? =some (.string (eN s xl)):=by
   have hil:xl<(aR s 0 0).length:=by rw[<-HN.out];exact hxl
   simp[iX,hil,eN]
  rw[hcl]at cl;have EH:Hid (W4.heap[W3.heap.size]? =some (.cells #[.slice (some ⟨q,0,none⟩) N N] 31 (0,0))/\∃cq:Array Value,W4.heap[q]? =some (.cells cq 3 (0,0))/\cq[xl]? =some (.int .i64 (nI s xl:Nat))):=by
   obtain⟨_,cq,h⟩:=pQ fq rfl;have h2:=kp _ _ _ (by simp) h;exact⟨kp _ _ _ (by simp) f7,cq,h2,(az h2 xl).symm.trans dK⟩
  clear hcl f3 fl f6 f7 fq fv kp nE lw;simp only[lI,l6]at c3 c6 c7;have p0:=az hpt 0;have p1:=az hpt 1;have p2:=az hpt 2;have p3:=az hpt 3;have p4:=az hpt 4;simp only[lI,l6,p8]at p0 p1 p2 p3 p4;have hst:=akJ hne ⟨xl,xk,xf,xt,xb,xe⟩;replace hcs:W4.cell? ⟨gs,xl,none⟩=some (.bool (nH s xl)):=hcs;replace dK:W4.cell? ⟨q,xl,none⟩=some (.int .i64 (nI s xl:Nat)):=dK;have vk:=agh zM xl;replace OQ:(jT s pre).1.length<=602*600:=OQ;obtain⟨hpl,hpe⟩:=Wv hlz hok;have QZ:Hid _:=ak1 (eN s xl) ⟨xl,xk,xf,xt,xb,xe⟩ W4 (by omega) Uc hok;have YC:Hid (∀W,Below W4.heap.size W4 W->Calls prog 103 #[.string (eN s xl),tj ⟨xl,xk,xf,xt,xb,xe⟩] W fun e w'=>∃v,e= .returned v/\w'.ownsRow W.heap.size 66 3 v (kH (eN s xl) ⟨xl,xk,xf,xt,xb,xe⟩).length (bY (kH (eN s xl) ⟨xl,xk,xf,xt,xb,xe⟩))/\Below W.heap.size W w'):=fun W hW=>akc _ _ W (by omega) (Uc.below hW) (eu hW hTz) hok
  simp only[tj]at QZ YC;simp only at hst;generalize eN s xl=ln at*;generalize nI s xl=st at*;generalize mW ln ⟨xl,xk,xf,xt,xb,xe⟩=fx at*;generalize kH ln ⟨xl,xk,xf,xt,xb,xe⟩=ks at*;generalize nH s xl=sf at*;have qV:=ah hst;have pq:=ah ue;have HPt:=ah hpt;have HEl:=ah OQ;have Dg:Hid (ks.length<=602/\∀e∈ks,0<=e.a/\e.a<=3000/\e.n.size<=12):=⟨hpl,hpe⟩
  have aty:=ue.sz;have HHE:=ah HE.out.1;have hv1:=fb.size;clear hst ue hpt OQ hEb hpl hpe Uc hTz hok fb hne hx vp HE HF;cases sf
  .by_cases hf:fx= -1
   .subst hf;have bW:Hid (jT s (pre++[⟨xl,xk,xf,xt,xb,xe⟩])=((jT s pre).1++ks.map (pU st), -1, -1)):=by
     have:=qV.out;simp only[M5,↓reduceIte,ne_eq,not_true_eq_false]at this;exact this
    obtain⟨iE,sU,hy0,hy1,hy2⟩:=gu Tryz.Vp;generalize(jT s pre).1=es at*;clear qV
    gi_wp2_with fail
    refine⟨trivial,rfl,(CallsIn.inRound l (Kr.2 QZ.out)).mono ?_⟩;rintro ev W5 ⟨rfl,bO⟩;have bG:=ah bO;have o0:=bq bO HPt.out;have p0:=az o0 0;have p1:=az o0 1;have p2:=az o0 2;have p3:=az o0 3;have p4:=az o0 4;simp only[lI,l6,p8]at p0 p1 p2 p3 p4;clear bO o0
    gi_wp2_with fail
    refine⟨trivial,rfl,(CallsIn.inRound l (Kr.2 (YC.out W5 bG.out))).mono ?_⟩;rintro ev W6 ⟨v,rfl,kZ,fC⟩;obtain⟨va,vc',rfl⟩:=iA kZ;have DW:Below W4.heap.size W4 W6:=bG.out.trans (fC.mono bG.out.size);obtain⟨u0,u1,u2⟩:=pq.out.box;have atK:=bG.out.size;have atL:=fC.size;have hEL:EL w.heap.size W0.heap.size (W3.heap.size+1) W6 (.slice va ks.length vc') u0 es W6:=by
     refine⟨⟨aA _ _,fun _ _ h _=>h⟩,bq DW pq.out.c4,bq DW pq.out.c5,bq DW u1,iZ u2 DW,fun k hk=> ?_,by omega⟩;obtain⟨e1,c,e2⟩:=pQ kZ hk;refine⟨fun e=> ?_,rfl,by omega,bS e2⟩;obtain⟨_,c',e3⟩:=pQ u2 e;have:=bS e3;omega
    have YB:=ah hEL;have Dm:=ah kZ;have dR:=ah DW;have H7:Hid (W6.heap[W3.heap.size]? =some (.cells #[.slice (some ⟨q,0,none⟩) N N] 31 (0,0))/\∃cq:Array Value,W6.heap[q]? =some (.cells cq 3 (0,0))/\cq[xl]? =some (.int .i64 (st:Nat))):=by
     obtain⟨h1,cq,h2,h3⟩:=EH.out;exact⟨bq DW h1,cq,bq DW h2,h3⟩
    clear hEL kZ DW fC u1 u2;obtain⟨n,hn⟩:∃n,n=ks.length:=⟨_,rfl⟩
    rw[<-hn]at YB Dm ⊢;have cN:=ah hn;have hnn:n<=602:=by rw[hn];exact Dg.out.1
    clear hn
    gi_wp2
    gi_loopg [46] n (fun gk iv Wx=>∃(i:Nat)(u:Value),i<=n/\gk=n - i/\iv= .int .i64 i/\EL w.heap.size W0.heap.size (W3.heap.size+1) W6 (.slice va n vc') u (es++(ks.take i).map (pU st)) Wx)
    case atStart=>exact⟨0,u0,by omega,rfl,rfl,by simpa using YB.out⟩
    case round=>
     rename World=>wx
     obtain⟨i,u,hi,rfl,rfl,hL⟩:=hrel;have HL:=ah hL;by_cases hlt:i<n
     .have hik:i<ks.length:=by rw[<-cN.out];exact hlt
      have hin:(i:Int)<(n:Int):=by omega
      obtain⟨vg,c2,e1,Pw,_,_⟩:=nC Dm.out (by omega);simp only[pJ,oC]at e1;obtain⟨rfl,rfl⟩:=e1;obtain⟨r1,r2,r3,r4⟩:=hL.row vg rfl;obtain⟨x0,x1,x2⟩:=KE Dm.out i hik;simp only[fZ]at x0 x1 x2;rw[<-AV r2]at x0 x1 x2;obtain⟨h1,cq,h2,h3⟩:=H7.out;have y7:=hL.ke.keep _ _ h1 (fun c t fr e=>by injection e with _ e2 _;subst e2;unfold Ei;decide);have yq:=hL.ke.keep _ _ h2 (fun c t fr e=>by injection e with _ e2 _;subst e2;unfold Ei;decide);have htk:ks.take (i+1)=ks.take i++[ks[i]]:=pG hik;obtain⟨Ic,UB,_⟩:=Dg.out.2 _ (pF hik);have p7:=ah htk;generalize ks[i]=e at*;obtain⟨ea,ec,en⟩:=e;simp only at x0 x1 x2 Ic UB;have hll:(es++(ks.take i).map (pU st)).length<=400000:=by
       have:=HEl.out;have:=Dg.out.1;simp only[bH,ja,r9];omega
      have tJ:Hid (es++(ks.take (i+1)).map (pU st)=(es++(ks.take i).map (pU st))++[⟨ea+(st:Int),ec,en⟩]):=by
       show _=_;rw[p7.out,fB,<-dO];rfl
      generalize es++(ks.take i).map (pU st)=lx at*;have YT:=ah hll;have amj:=hL.sz;obtain⟨W7,A7⟩:∃W7,W7=wx.alloc (.cells #[.int .i64 ea,.int .i64 ec,.string en] 66):=⟨_,rfl⟩
      have k7:W7.heap[wx.heap.size]? =some (.cells #[.int .i64 ea,.int .i64 ec,.string en] 66 (0,0)):=by rw[A7];exact World.alloc_heap_new _ _
      have b7:Below wx.heap.size wx W7:=by rw[A7];exact(aA _ _).alloc (au _) _
      have d7:=az (bq b7 y7) 0;have dq:=(az (bq b7 yq) xl).trans h3;have d0:=az k7 0;have g0:=cB k7 0;simp only[lI,l6]at d7 d0;have Js:Hid (W7.heap[wx.heap.size]? =some (.cells #[.int .i64 ea,.int .i64 ec,.string en] 66 (0,0))/\Below wx.heap.size wx W7):=⟨k7,b7⟩
      have HW7:=ah A7;clear A7 k7 b7 y7 yq h1 h2 h3 hll htk r1 r2 r3 r4 hL hz0 p7
      gi_wp2
      rw[<-HW7.out];refine wpIn_region_any (by kernel_rfl) ?_;change wpAnyIn _ _ _ _ _ _ _ _ _ (World.drew _);refine SM (U1 (by kernel_rfl)) _ _ _ _ ?_;have atF:(xl:Int)<(N:Int):=by omega
      refine wpAnyIn_take (i:=0) (v:= .pointer (some ⟨wx.heap.size,0,none⟩)) rfl rfl (by kernel_rfl) (by kernel_rfl) (by kernel_rfl) (fun _ _ _ h=>h) ⟨Or.inl ⟨by rfl,fun w=>by go_simp⟩,fun _=>rfl⟩ ?_;refine wpAnyIn_take (i:=3) (v:= .int .i64 xl) rfl rfl (by kernel_rfl) (by kernel_rfl) (by kernel_rfl) (fun _ _ _ h=>h) ⟨Or.inl ⟨by rfl,fun w=>by go_simp⟩,fun _=>rfl⟩ ?_
      focus (refine wpAnyIn_ready (rs:=[1,2]) (by kernel_rfl) (by simp) (AllReadyIn.cons rfl (fun K hK=> ?_) (AllReadyIn.cons rfl (fun K hK=> ?_) AllReadyIn.nil));all_goals(go_simp;refine hK _ _ ?_;clear hK K))
      focus (refine wpAnyIn_ready (rs:=[2]) (by kernel_rfl) (by simp) (AllReadyIn.cons rfl (fun K hK=> ?_) AllReadyIn.nil);all_goals(go_simp;refine hK _ _ ?_;clear hK K))
      refine wpAnyIn_take (i:=4) (v:= .pointer (some ⟨q,xl,none⟩)) rfl rfl (by kernel_rfl) (by kernel_rfl) (by kernel_rfl) (fun _ _ _ h=>h) ⟨Or.inl ⟨by rfl,fun w=>by go_simp⟩,fun _=>rfl⟩ ?_
      focus (refine wpAnyIn_ready (rs:=[5]) (by kernel_rfl) (by simp) (AllReadyIn.cons rfl (fun K hK=> ?_) AllReadyIn.nil);all_goals(go_simp;refine hK _ _ ?_;clear hK K))
      rotate_left
      refine wpAnyIn_take (i:=4) (v:= .pointer (some ⟨q,xl,none⟩)) rfl rfl (by kernel_rfl) (by kernel_rfl) (by kernel_rfl) (fun _ _ _ h=>h) ⟨Or.inl ⟨by rfl,fun w=>by go_simp⟩,fun _=>rfl⟩ ?_
      focus (refine wpAnyIn_ready (rs:=[1,5]) (by kernel_rfl) (by simp) (AllReadyIn.cons rfl (fun K hK=> ?_) (AllReadyIn.cons rfl (fun K hK=> ?_) AllReadyIn.nil));all_goals(go_simp;refine hK _ _ ?_;clear hK K))
      focus (refine wpAnyIn_ready (rs:=[5]) (by kernel_rfl) (by simp) (AllReadyIn.cons rfl (fun K hK=> ?_) AllReadyIn.nil);all_goals(go_simp;refine hK _ _ ?_;clear hK K))
      rotate_left
      focus (refine wpAnyIn_ready (rs:=[1]) (by kernel_rfl) (by simp) (AllReadyIn.cons rfl (fun K hK=> ?_) AllReadyIn.nil);all_goals(go_simp;refine hK _ _ ?_;clear hK K))
      all_goals
       refine wpAnyIn_take (i:=6) (v:= .int .i64 (ea+st)) rfl rfl (by kernel_rfl) (by kernel_rfl) (by kernel_rfl) (fun _ _ _ h=>h) ⟨Or.inl ⟨by rfl,fun w=>by go_simp;exact Ny _ ⟨by omega,by omega⟩⟩,fun _=>rfl⟩ ?_;refine wpAnyIn_take (i:=7) (v:= .pointer (some ⟨wx.heap.size,0,none⟩)) rfl rfl (by kernel_rfl) (by kernel_rfl) (by kernel_rfl) (fun _ _ _ h=>h) ⟨Or.inl ⟨by rfl,fun w=>by go_simp⟩,fun _=>rfl⟩ ?_
       focus (refine wpAnyIn_ready (rs:=[8]) (by kernel_rfl) (by simp) (AllReadyIn.cons rfl (fun K hK=> ?_) AllReadyIn.nil);all_goals(go_simp;refine hK _ _ ?_;clear hK K))
       refine wpAnyIn_done (by kernel_rfl) ?_ _;obtain⟨W8,KZ⟩:∃W8,W8=W7.setCell ⟨wx.heap.size,0,none⟩ (.int .i64 (ea+(st:Int))):=⟨_,rfl⟩
       have k8:W8.heap[wx.heap.size]? =some (.cells #[.int .i64 (ea+(st:Int)),.int .i64 ec,.string en] 66 (0,0)):=by rw[KZ,eW Js.out.1];rfl
       have b8:Below wx.heap.size wx W8:=by rw[KZ];exact Js.out.2.setCell (au _) _
       have HW8:=ah KZ;have z8:=b8.size;have aeP:=iZ HL.out.own b8;have t8:=bq b8 HL.out.bx;have e0:=az k8 0;have e1:=az k8 1;have e2:=az k8 2;have e8:=az t8 0;simp only[lI,l6,p8]at e0 e1 e2 e8;have rO:=ah b8;have HT8:=ah t8;have YT:=YT.out;rw[<-KZ];clear KZ k8 b8 t8
       gi_wp2_with (gi_at_builtin;refine wpListIn_append_own_at _ rfl _ _ 37 rfl W0.heap.size 66 iE _ 3 32 underlying37 sU hy0 hy1 hy2 rfl (by decide) u _ _ rfl (aeP.alloc _) ⟨W8.heap.size,0,none⟩ 1 1 [.int .i64 (ea+(st:Int)),.int .i64 ec,.string en] rfl rfl (Mr _ _ _ _ _) (by simp[Value.oneCell']) (by unfold maxLen;omega) (by omega) (by simp;omega) ?_)
       intro u' W9 ho hg _ hat;obtain⟨ua,uc,rfl⟩:=iA ho;have b9:Below wx.heap.size wx (W8.alloc (.cells #[.int .i64 (ea+(st:Int)),.int .i64 ec,.string en] 66)).drew:=(rO.out.alloc rO.out.size _).drew;have t9:=HL.out.bx9 Py b9 hg;have QV:Hid _:=HL.out.step (l':=lx++[⟨ea+(st:Int),ec,en⟩]) Py amq b9 hg (by rw[bH,ake];exact ho) (by simpa using hat);have e9:=az t9 0;have g9:=cB t9 0;simp only[lI,l6]at e9;clear ho hg hat b9 t9 aeP
       gi_wp2
       gi_roundg (n - (i+1))
       case measure=>omega
       case rel=>exact⟨i+1,_,by omega,rfl,by simp,by rw[tJ.out];exact QV.out⟩
     .obtain rfl:i=n:=by omega
      have hin:¬(i:Int)<(i:Int):=by omega
      have HI9:Hid (Same W4 wx/\zh w.heap.size W4 wx/\EI w.heap.size W0 (W3.heap.size+1) (es++ks.map (pU st)) wx):=by
       have hk:Ke w.heap.size W4 wx:=(Ke.of dR.out (by omega)).trans hL.ke;refine⟨hk.same,hk.PC,fun k c t fr h1 h2 h3=> ?_,hL.c4,hL.c5,⟨u,hL.bx,?_⟩,hL.sz⟩
       .have h4:=pq.out.kept k c t fr h1 h2 h3;rcases h2 with h2|h2
        .exact(hk.below.block k h2).trans h4
        .exact hk.keep k _ h4 (fun c' t' fr' e=>by injection e with _ e2 _;subst e2;exact h2)
       .have:=hL.own;rw[ku (by rw[<-cN.out];exact au _)]at this;exact this
      clear hL
      gi_wp2
      obtain⟨q1,q2,q3⟩:=HI9.out;exact⟨q1,q2,by rw[bW.out],by rw[bW.out];exact q3⟩
   .have hq:(fx != -1)=true:=by simpa using hf
    have bW:Hid (jT s (pre++[⟨xl,xk,xf,xt,xb,xe⟩])=([],(xl:Int),fx)):=by
     have:=qV.out;simp only[M5,↓reduceIte]at this;show _=_;rw[this,aj hf]
    clear qV
    gi_wp2_with fail
    refine⟨trivial,rfl,(CallsIn.inRound l (Kr.2 QZ.out)).mono ?_⟩;rintro ev W5 ⟨rfl,bO⟩;have hz9:=bO.size;have ym:w.heap.size+2<W5.heap.size:=by omega
    have hX:X3 w.heap.size W5 .nilIface none W5:=⟨⟨aA _ _,fun _ _ h _=>h⟩,bq bO pq.out.c4,bq bO pq.out.c5,au _,fun _=>rfl,fun _ e=>by cases e⟩
    have hA:=hX.al ym (.cells #[.int .i64 xl,.int .i64 fx,.iface 354 (.pointer (some aC))] 96);have hB:=(hX.s4 ym).al ym (.cells #[.int .i64 xl,.int .i64 fx,.iface 354 (.pointer (some aC))] 96);have HX:=ah hX;have asS:=eu bO hCo;have k1:W5.cell? ⟨w.heap.size+1,0,none⟩=some (.slice none 0 0):=az hX.c4 0;have k2:W5.frozen? ⟨w.heap.size+1,0,none⟩=false:=cB hX.c4 0;have k3:=az hA.c4 0;have k4:=az hA.c5 0;have k5:=az hB.c5 0;have k6:=cB hA.c4 0;have k7:=cB hA.c5 0;have k8:=cB hB.c5 0;simp only[lI,l6]at k3 k4 k5;have key:∀(c:Code)(W':World),c=Code.ret->X3 w.heap.size W5 (.iface 92 (.pointer (some ⟨W5.heap.size,0,none⟩))) (some (.cells #[.int .i64 xl,.int .i64 fx,.iface 354 (.pointer (some aC))] 96)) W'->Same W4 W'/\zh w.heap.size W4 W'/\c=Code.ret/\(jT s (pre++[⟨xl,xk,xf,xt,xb,xe⟩])).2.2≠ -1/\EX w.heap.size W0.heap.size (jT s (pre++[⟨xl,xk,xf,xt,xb,xe⟩])).2.1 (jT s (pre++[⟨xl,xk,xf,xt,xb,xe⟩])).2.2 (AX 3 aL aT aC) W':=fun c W' hc h=>by
     have hk:Ke w.heap.size W4 W':=(Ke.of bO (by omega)).trans h.ke;rw[bW.out];exact⟨hk.same,hk.PC,hc,hf,h.c4,_,h.c5,h.ob _ rfl,by omega⟩
    have Q4:=ah key;clear hX hA hB bO key
    gi_wp2
    refine wpIn_region_any (by kernel_rfl) ?_;change wpAnyIn _ _ _ _ _ _ _ _ _ (World.drew _);refine SM (U1 (by kernel_rfl)) _ _ _ _ ?_;refine wpAnyIn_take (i:=0) (v:= .int .i64 xl) rfl rfl (by kernel_rfl) (by kernel_rfl) (by kernel_rfl) (fun _ _ _ h=>h) ⟨Or.inl ⟨by rfl,fun w=>by go_simp⟩,fun _=>rfl⟩ ?_;refine wpAnyIn_take (i:=1) (v:= .int .i64 fx) rfl rfl (by kernel_rfl) (by kernel_rfl) (by kernel_rfl) (fun _ _ _ h=>h) ⟨Or.inl ⟨by rfl,fun w=>by go_simp⟩,fun _=>rfl⟩ ?_
    focus (refine wpAnyIn_ready (rs:=[2,6]) (by kernel_rfl) (by simp) (AllReadyIn.cons rfl (fun K hK=> ?_) (AllReadyIn.cons rfl (fun K hK=> ?_) AllReadyIn.nil));all_goals(go_simp;refine hK _ _ ?_;clear hK K))
    refine wpAnyIn_take (i:=3) (v:= .agg #[.int .i64 xl,.int .i64 fx,.iface 354 (.pointer (some aC))]) rfl rfl (by kernel_rfl) (by kernel_rfl) (by kernel_rfl) (fun _ _ _ h=>h) ⟨Or.inl ⟨by rfl,fun w=>by go_simp⟩,fun _=>rfl⟩ ?_
    focus (refine wpAnyIn_ready (rs:=[4,6]) (by kernel_rfl) (by simp) (AllReadyIn.cons rfl (fun K hK=> ?_) (AllReadyIn.cons rfl (fun K hK=> ?_) AllReadyIn.nil));all_goals(go_simp;refine hK _ _ ?_;clear hK K))
    refine wpAnyIn_take (i:=5) (v:= .iface 92 (.pointer (some ⟨W5.heap.size,0,none⟩))) rfl rfl (by kernel_rfl) (by kernel_rfl) (by kernel_rfl) (fun _ _ _ h=>h) ⟨Or.inl ⟨by rfl,fun w=>by go_simp⟩,fun _=>rfl⟩ ?_
    focus (refine wpAnyIn_ready (rs:=[6]) (by kernel_rfl) (by simp) (AllReadyIn.cons rfl (fun K hK=> ?_) AllReadyIn.nil);all_goals(go_simp;refine hK _ _ ?_;clear hK K))
    rotate_left
    focus (refine wpAnyIn_ready (rs:=[4]) (by kernel_rfl) (by simp) (AllReadyIn.cons rfl (fun K hK=> ?_) AllReadyIn.nil);all_goals(go_simp;refine hK _ _ ?_;clear hK K))
    refine wpAnyIn_take (i:=5) (v:= .iface 92 (.pointer (some ⟨W5.heap.size,0,none⟩))) rfl rfl (by kernel_rfl) (by kernel_rfl) (by kernel_rfl) (fun _ _ _ h=>h) ⟨Or.inl ⟨by rfl,fun w=>by go_simp⟩,fun _=>rfl⟩ ?_
    rotate_left
    focus (refine wpAnyIn_ready (rs:=[2]) (by kernel_rfl) (by simp) (AllReadyIn.cons rfl (fun K hK=> ?_) AllReadyIn.nil);all_goals(go_simp;refine hK _ _ ?_;clear hK K))
    refine wpAnyIn_take (i:=3) (v:= .agg #[.int .i64 xl,.int .i64 fx,.iface 354 (.pointer (some aC))]) rfl rfl (by kernel_rfl) (by kernel_rfl) (by kernel_rfl) (fun _ _ _ h=>h) ⟨Or.inl ⟨by rfl,fun w=>by go_simp⟩,fun _=>rfl⟩ ?_
    focus (refine wpAnyIn_ready (rs:=[4]) (by kernel_rfl) (by simp) (AllReadyIn.cons rfl (fun K hK=> ?_) AllReadyIn.nil);all_goals(go_simp;refine hK _ _ ?_;clear hK K))
    refine wpAnyIn_take (i:=5) (v:= .iface 92 (.pointer (some ⟨W5.heap.size,0,none⟩))) rfl rfl (by kernel_rfl) (by kernel_rfl) (by kernel_rfl) (fun _ _ _ h=>h) ⟨Or.inl ⟨by rfl,fun w=>by go_simp⟩,fun _=>rfl⟩ ?_;all_goals
     focus (refine wpAnyIn_ready (rs:=[7]) (by kernel_rfl) (by simp) (AllReadyIn.cons rfl (fun K hK=> ?_) AllReadyIn.nil);all_goals(go_simp;refine hK _ _ ?_;clear hK K))
     refine wpAnyIn_done (by kernel_rfl) ?_ _
     gi_wp2
     first
      |exact Q4.out _ _ rfl (((HX.out.al ym _).s4 ym).s5 ym _).drew
      |exact Q4.out _ _ rfl (((HX.out.s4 ym).s5 ym _).al ym _).drew
      |exact Q4.out _ _ rfl (((HX.out.s4 ym).al ym _).s5 ym _).drew
  .have bW:Hid (jT s (pre++[⟨xl,xk,xf,xt,xb,xe⟩])=((jT s pre).1, -1, -1)):=by
    have:=qV.out;simp only[↓reduceIte]at this;exact this
   gi_wp2
   exact⟨fun _ _ h _=>h,⟨aA _ _,fun _ _ _ h=>h⟩,by rw[bW.out],by rw[bW.out];exact pq.out⟩
end
def Tryz.Nl:(prog.info? 88).map (λi=>(i.zero,i.size,i.bytes))=some (some (.agg #[.int .i64 0,.int .i64 0,.string ⟨#[]⟩]),3,32):=by kernel_rfl
def DA {B:Nat}{a w:World}(h:Below B a w)(n:Nat):Below B a (w.drewN n):=h.trans ⟨rfl,rfl,rfl,au _,λ_ _=>rfl⟩
def E2(r:Nat)(h:r<65536):(iK oZ r).size=4/\(iK tC r).size=4:=by
 refine⟨by rw[Ht r h];rfl,?_⟩;have h:=λk (a:k<16)=>(KA ⟨k,a⟩).1
 simp only at h;rw[iK,h _ (qZ _ (by omega)),h _ (qZ _ (by omega)),h _ (qZ _ (by omega)),h _ (qZ _ (by omega))];rfl
def anF(s:ByteArray)(d:List Int)(S:List PR)(v1 v2:Value)(w:World)(hs:s.size<=100000)(hn:d.length<=1000)(aP:S.length<=600)(am:jB w v1 d)(aR:qL w v2 S)(al:∀i,i<d.length->(dA 0 d).getD i 0<=s.size):
  Calls prog 80 #[.string s,v1,v2] w λe J=>∃v,e= .returned (.tuple #[v,.int .i64 (vA s d S []).2])/\J.ownsRow w.heap.size 88 3 v (vA s d S []).1.length (bY (vA s d S []).1)/\Below w.heap.size w J:=by
 obtain⟨iE,sU,N,O,P⟩:=gu Tryz.Nl;have oJ:=WG d v1 w hn am;have aF:=ah al;obtain⟨x1,c1,rfl,aB⟩:=am.form;have lY:=ah aB;obtain⟨x2,c2,rfl,aC⟩:=aR;have iO:=ah aC;obtain⟨n,hN⟩:=ac d.length;have HN:=ah hN;rw[<-hN]at hn oJ lY ⊢;obtain⟨m,hM⟩:=ac S.length;have HM:=ah hM;rw[<-hM]at aP iO ⊢;obtain⟨R,hR⟩:=ac<|vA s d S [];have HR:=ah hR.symm;rw[<-hR];clear aB aC hN hM hR am al;go_enter func80,ntmps80;go_wp2_with fail;refine oJ.mono ?_;clear oJ;rintro ev y ⟨va,rfl,dx,ad⟩;obtain⟨ga,ca,rfl,a4,_,aW⟩:=nC dx (by omega);have HA:=ah dx;have aD:=ah ad;have M:=ad.size;clear dx ad;go_wp2;go_loopg [9,10,11,12,13,14,15,16,17] m (λgk lv kv _ _ _ _ _ _ _ W=>∃(k:Nat)(l:List Ed),k<=m/\gk=m - k/\kv= .int .i64 k/\vA s d (S.drop k) l=R/\l.length<=k*1002/\W.ownsRow y.heap.size 88 3 lv l.length (bY l)/\Below y.heap.size y W);exact⟨0,[],by omega,rfl,rfl,HR.out,by simp,gQ _ _ _ _,aA _ _⟩
 rename World=>wa
 obtain⟨k,l,hk,rfl,rfl,A,a6,F,hb⟩:=hrel;obtain⟨la,lc,rfl⟩:=eH F;by_cases aN:k<m
 .have ag:k<S.length:=by rw[<-HM.out];exact aN
  have aK:(k:Int)<(m:Int):=by omega
  obtain⟨g2,rfl,a3,KO⟩:=iO.out (by omega);have jw:Below w.heap.size w wa:=aD.out.trans<|hb.mono M;obtain⟨d0,d1,d2,d3,d4,d5⟩:=(KO.below jw) k ag;rw[kO ag,vA]at A;generalize S[k]'ag=x at*;have HJ:=ah A;have p6:=ah F;have oF:=ah hb;have ab:=hb.size;obtain⟨K,D,C,E,z,G⟩:=x;simp only at d0 d1 d2 d3 d4 d5;clear A F hb jw KO;go_wp2;have R4:Hid ((wa.alloc (.cells #[.int .i64 K,.int .i64 D,.int .i64 C,.int .i64 E,.int .i64 z,.int .i64 G] 83)).heap[wa.heap.size]? =some (.cells #[.int .i64 K,.int .i64 D,.int .i64 C,.int .i64 E,.int .i64 z,.int .i64 G] 83 (0,0))):=World.alloc_heap_new _ _;have tG:Hid (Below wa.heap.size wa<|wa.alloc (.cells #[.int .i64 K,.int .i64 D,.int .i64 C,.int .i64 E,.int .i64 z,.int .i64 G] 83)):=(aA _ _).alloc (au _) _;have aE:Hid (wa.heap.size<(wa.alloc (.cells #[.int .i64 K,.int .i64 D,.int .i64 C,.int .i64 E,.int .i64 z,.int .i64 G] 83)).heap.size):=by show _<_;simp
  obtain⟨Q,hQ⟩:=ac<|gU s ⟨K,D,C,E,z,G⟩ d 0 false [];rw[<-hQ]at HJ;have HQ:=ah hQ.symm;clear hQ d0 d1 d2 d3 d4 d5;generalize wa.alloc (.cells #[.int .i64 K,.int .i64 D,.int .i64 C,.int .i64 E,.int .i64 z,.int .i64 G] 83)=t at*;obtain⟨bx,uf⟩:=ac wa.heap.size;have aV:=ah uf;rw[<-uf]at R4 aE ⊢;clear uf;go_loopg [12,13,14,15,16,17] n (λgk sv ov iv _ _ _ W=>∃(i:Nat)(sm:Bool)(own:List Ed),i<=n/\gk=n - i/\sv= .bool sm/\iv= .int .i64 i/\gU s ⟨K,D,C,E,z,G⟩ (d.drop i) ((dA 0 d).getD i 0) sm own=Q/\own.length<=i/\W.ownsRow t.heap.size 88 3 ov own.length (bY own)/\Below t.heap.size t W);exact⟨0,false,[],by omega,rfl,rfl,rfl,by rw[<-HQ.out];cases d<;>rfl,by simp,gQ _ _ _ _,aA _ _⟩
  rename World=>wi
  obtain⟨i,sm,own,hi,rfl,rfl,rfl,A,a7,U3,hb⟩:=hrel;obtain⟨oa,oc,rfl⟩:=eH U3;have gZ:=ah hb;have Y6:=ah U3;by_cases aJ:i<n
  .have I:i<d.length:=(by rw[<-HN.out];exact aJ);have ax:(i:Int)<(n:Int):=(by omega);have aX:i<n+1:=(by omega);have Ie:(i:Int)<(n:Int)+1:=(by omega);obtain⟨b,aU,rfl,hD⟩:=lY.out (by omega);have aH:=ah<|aD.out.trans<|(oF.out.trans<|(tG.out.trans<|gZ.out.mono tG.out.size).mono ab).mono M;have av:=(hD.below aH.out) i I;have aw:d.drop i=d.getD i 0::d.drop (i+1):=(by rw[kO I];congr 1;rw[aO,aM I];rfl);have rT:=ah<|WD d 0 i I;rw[aw,gU]at A;have ak:(nv<|dA 0 d)[i]? =some (.int .i64 ((dA 0 d).getD i 0:Nat)):=by
    have al:=WC 0 d;rw[nv,jq,aM<|by omega,GX,aO,aM<|by omega];rfl
   have an:=aF.out i I;obtain⟨p,hp⟩:=ac<|(dA 0 d).getD i 0;rw[<-hp]at A ak rT an;obtain⟨r,hr⟩:=ac<|d.getD i 0;rw[<-hr]at A av rT;have xK:=ah ak;have HF:Hid (∀W,Below t.heap.size t W->W.cell? ⟨b,aU+i,none⟩=some (.int .i64 r)/\W.cell? ⟨ga,i,none⟩=some (.int .i64 (p:Nat))/\W.cell? ⟨bx,1,none⟩=some (.int .i64 D)/\W.cell? ⟨bx,2,none⟩=some (.int .i64 C)/\W.cell? ⟨bx,3,none⟩=some (.int .i64 E)/\W.cell? ⟨bx,4,none⟩=some (.int .i64 z)/\bx<W.heap.size):=λW hW=>by
    have hX:=bq hW R4.out;have ar:Below y.heap.size y W:=oF.out.trans<|(tG.out.trans<|hW.mono tG.out.size).mono ab;refine⟨?_,?_,az hX 1,az hX 2,az hX 3,az hX 4,bS hX⟩
    .have:=(hD.below<|aD.out.trans<|ar.mono M) i I;rw[<-hr]at this;exact this
    .rw[di (iZ HA.out ar) i<|by omega];exact xK.out
   have YH:=alq r wi;simp only at A;clear aw ak hp hr hD I hb U3;go_wp2_with fail;refine YH.mono ?_;rintro ev wr ⟨rfl,af⟩;have HB:=ah<|gZ.out.trans<|af.mono gZ.out.size;have HO:=ah<|iZ Y6.out af;obtain⟨Y,Z,q2,q3,q4,q5,q6⟩:=HF.out wr HB.out;clear af YH av;by_cases L:eX r=false∨eX r=true/\p<C∨eX r=true/\¬p<C/\E<=p
   .have ay:¬(eX r=true/\C<=p/\p<E):=by
     rcases L with h|h|h
     .exact λa=>by rw[a.1]at h;cases h
     .exact λa=>by omega
     .exact λa=>by omega
    rw[ai ay]at A;clear ay;have V:Hid (gU s ⟨K,D,C,E,z,G⟩ (d.drop<|i+1) ((dA 0 d).getD (i+1) 0) sm own=Q):=(by show _=_;rw[rT.out];exact A);clear A;rcases L with h|⟨h,h2⟩|⟨h,h2,h3⟩
    all_goals
     try have aa:(p:Int)<(C:Int):=by omega
     try have aa:¬(p:Int)<(C:Int):=by omega
     try have aq:(p:Int) ≥ (E:Int):=by omega
     rw[h];go_wp2_with fail;go_quiet(fail);go_wp2;go_roundg (n - (i+1));exact⟨i+1,sm,own,by omega,rfl,rfl,by go_num,V.out,by omega,Bo HO.out _,DA HB.out _⟩;omega
   .have hz:eX r=true:=by
     cases h:eX r
     .exact absurd (.inl h) L
     .rfl
    have h2:¬p<C:=λh=>L (.inr (.inl ⟨hz,h⟩))
    have h3:¬E<=p:=λh=>L (.inr (.inr ⟨hz,h2,h⟩))
    have aa:¬(p:Int)<(C:Int):=(by omega);have aq:¬(p:Int) ≥ (E:Int):=(by omega);rw[aj ⟨hz,by omega,by omega⟩]at A;rw[hz];have a2:=K4 r hz;obtain⟨q,rfl⟩:∃k:Nat,r=k:=⟨r.toNat,by omega⟩
    clear L hz;go_wp2_with fail;go_quiet(fail);have aG:Hid (Below t.heap.size t<|wr.drewN nq):=DA HB.out _;have mO:Hid ((wr.drewN nq).ownsRow t.heap.size 88 3 (.slice oa own.length oc) own.length (bY own)):=Bo HO.out _;clear Y Z q2 q3 q4 q5 q6 HB HO aa aq h2 h3;generalize wr.drewN nq=w3 at*;obtain⟨Y,Z,q2,q3,q4,q5,q6⟩:=HF.out w3 aG.out;have Yv:=Oa q w3;go_wp2_with fail;refine Yv.mono ?_;rintro ev w4 ⟨rfl,ae⟩;have cT:=ah<|aG.out.trans<|ae.mono aG.out.size;have uH:=ah<|iZ mO.out ae;clear Y Z q2 q3 q4 q5 q6 Yv ae aG mO;obtain⟨Y,Z,q2,q3,q4,q5,q6⟩:=HF.out w4 cT.out;go_wp2_with fail;refine(agU q w4).mono ?_;rintro ev wx ⟨rfl,hx⟩;have aS:=hx.symm;subst aS;clear hx;have YD:Hid (∀W,Calls prog 136 #[.string s,.int .i64 z,.int .i64 p] W λe J=>e= .returned (.bool<|oN s p z)/\J=W):=λW=>akH s z p an hs W
    generalize oN s p z=ee at*;by_cases FE:D=0∨D=1/\ee=true
    .rw[aj FE]at A;have gD:Hid (R=([],(p:Int))):=(by show _=_;rw[<-HJ.out,<-A];simp);clear A;rcases FE with h|⟨h,h'⟩
     all_goals
      subst h;try subst h'
      go_wp2_with fail;go_quiet(first|(go_at_call 136;refine BH<|YD.out _)|fail);have H:Hid (Below t.heap.size t<|w4.drewN nq):=DA cT.out _;clear Y Z q2 q3 q4 q5 q6;generalize w4.drewN nq=B at*;obtain⟨Y,Z,q2,q3,q4,q5,q6⟩:=HF.out B H.out;go_wp2_with fail;go_quiet(fail);have dR:Hid (Below w.heap.size w<|B.drewN nq):=aD.out.trans<|(oF.out.trans<|(tG.out.trans<|(DA H.out _).mono tG.out.size).mono ab).mono M;go_wp2;go_ret2;exact⟨_,by rw[gD.out];rfl,by rw[gD.out];exact gQ _ _ _ _,dR.out⟩
    .rw[ai FE]at A;have f:gU s ⟨K,D,C,E,z,G⟩ (d.drop<|i+1) ((dA 0 d).getD (i+1) 0) true (own++IK D p q)=Q:=(by rw[rT.out];exact A);clear A;by_cases h1:D=1
     .subst h1;have aI:ee=false:=(by cases ee;rfl;exact absurd (.inr ⟨rfl,rfl⟩) FE);subst aI;have V:Hid (gU s ⟨K,1,C,E,z,G⟩ (d.drop<|i+1) ((dA 0 d).getD (i+1) 0) true (own++[⟨(p:Nat),(wd q:Nat),⟨#[92,117]⟩++iK oZ q⟩])=Q):=by
       show _=_;rw[<-f,IK,aj rfl,Cg];rfl
      clear f FE;go_wp2_with fail;go_quiet(first|(go_at_call 136;refine BH<|YD.out _));have H:Hid (Below t.heap.size t<|w4.drewN nq):=DA cT.out _;have kM:Hid ((w4.drewN nq).ownsRow t.heap.size 88 3 (.slice oa own.length oc) own.length (bY own)):=Bo uH.out _;clear Y Z q2 q3 q4 q5 q6 cT uH;generalize w4.drewN nq=B at*;obtain⟨Y,Z,q2,q3,q4,q5,q6⟩:=HF.out B H.out;go_wp2_with fail;have Au:Hid (∀args w,(callFunc 137 args).run prog w= .ok (.enter 137 args) w):=jE func137 (by kernel_rfl) (by kernel_rfl);have HK:Hid (Calls prog 137 #[.int .i64 q,.string oZ] B.drew λe J=>∃u,e= .returned u/\(u= .string (iK oZ q)/\J=B.drew)):=(BL q oZ (by omega) rfl _).mono (λe J h=>⟨_,h.1,rfl,h.2⟩);have uj:=(E2 q<|by omega).1;have T:=kM.out;have Fz:=H.out.size;have cN:Hid (own.length<=1000000):=(by show _<=_;omega);generalize iK oZ q=X at*
      go_region_law (first
       |(refine agm (by rfl) 137 _ (.string oZ) 3 9 (by rfl) Au.out (.int .i64 q) (by rfl) (λu J=>u= .string X/\J=B.drew) HK.out ?_;rintro u w6 ⟨rfl,h6⟩;subst h6)
       |(refine Gh (by rfl) _ _ 27 (by rfl) t.heap.size 88 iE (.agg #[.int .i64 0,.int .i64 0,.string ⟨#[]⟩]) 3 32 underlying27 sU N O P rfl (by decide) (by decide) (.slice oa own.length oc) own.length (bY own) (by rfl) (G0 (kT T (.cells #[.int .i64 (p:Nat),.int .i64 (wd q:Nat),.string ((⟨#[92,117]⟩:ByteArray)++X)] 88))) B.heap.size [.int .i64 (p:Nat),.int .i64 (wd q:Nat),.string ((⟨#[92,117]⟩:ByteArray)++X)] (by rfl) (by rfl) (λj u h=>Mr B _ _ _ _ j u h) (by intro u hu;simp at hu;rcases hu with rfl|rfl|rfl<;>rfl) cN.out (by simp;omega) ?_;intro v8 w8 yu jf _;have rO:Hid (Below t.heap.size t w8):=(H.out.alloc Fz _).drew.grown jf (by simp;omega) (λx hx=>(T.lt x hx).1);have JC:Hid (w8.ownsRow t.heap.size 88 3 v8 (own.length+1)<|bY own++[.int .i64 (p:Nat),.int .i64 (wd q:Nat),.string<|(⟨#[92,117]⟩:ByteArray)++X]):=yu;clear yu jf))
      all_goals
       go_wp2;go_roundg (n - (i+1));exact⟨i+1,true,own++[⟨(p:Nat),(wd q:Nat),(⟨#[92,117]⟩++X)⟩],by omega,rfl,rfl,by go_num,V.out,by simp;omega,by rw[Co,bH];exact JC.out,rO.out⟩;omega
     .have h0:¬D=0:=λh=>FE (.inl h)
      have a0:((D:Int)==0)=false:=(by simpa using h0);have a1:((D:Int)==1)=false:=(by simp;omega);rw[IK,ai h1]at f;clear FE h1 h0;go_wp2_with fail;go_quiet(fail);have H:Hid (Below t.heap.size t<|w4.drewN nq):=DA cT.out _;have kM:Hid ((w4.drewN nq).ownsRow t.heap.size 88 3 (.slice oa own.length oc) own.length (bY own)):=Bo uH.out _;clear Y Z q2 q3 q4 q5 q6 cT uH;generalize w4.drewN nq=B at*;obtain⟨Y,Z,q2,q3,q4,q5,q6⟩:=HF.out B H.out;cases hc:decide (cls q ≥ 13)
      .have U:¬13<=cls q:=(by simpa using hc);rw[ai U,l5]at f;have V:=ah f;clear f U;generalize cls q=c at*;go_wp2;go_roundg (n - (i+1));exact⟨i+1,true,own,by omega,rfl,rfl,by go_num,V.out,by omega,kM.out,H.out⟩;omega
      .have U:13<=cls q:=(by simpa using hc);rw[aj U,Cg]at f;have V:Hid (gU s ⟨K,D,C,E,z,G⟩ (d.drop<|i+1) ((dA 0 d).getD (i+1) 0) true (own++[⟨(p:Nat),(wd q:Nat),⟨#[60,85,43]⟩++iK tC q++⟨#[62]⟩⟩])=Q):=f;clear f U;generalize cls q=c at*;go_wp2_with fail;have Au:Hid (∀args w,(callFunc 137 args).run prog w= .ok (.enter 137 args) w):=jE func137 (by kernel_rfl) (by kernel_rfl);have HK:Hid (Calls prog 137 #[.int .i64 q,.string tC] B.drew λe J=>∃u,e= .returned u/\(u= .string (iK tC q)/\J=B.drew)):=(BL q tC (by omega) rfl _).mono (λe J h=>⟨_,h.1,rfl,h.2⟩);have uj:=(E2 q<|by omega).2;have T:=kM.out;have Fz:=H.out.size;have cN:Hid (own.length<=1000000):=(by show _<=_;omega);generalize iK tC q=X at*
       go_region_law (first
        |(refine agm (by rfl) 137 _ (.string tC) 3 9 (by rfl) Au.out (.int .i64 q) (by rfl) (λu J=>u= .string X/\J=B.drew) HK.out ?_;rintro u w6 ⟨rfl,h6⟩;subst h6)
        |(refine Gh (by rfl) _ _ 27 (by rfl) t.heap.size 88 iE (.agg #[.int .i64 0,.int .i64 0,.string ⟨#[]⟩]) 3 32 underlying27 sU N O P rfl (by decide) (by decide) (.slice oa own.length oc) own.length (bY own) (by rfl) (G0 (kT T (.cells #[.int .i64 (p:Nat),.int .i64 (wd q:Nat),.string ((⟨#[60,85,43]⟩:ByteArray)++X++⟨#[62]⟩)] 88))) B.heap.size [.int .i64 (p:Nat),.int .i64 (wd q:Nat),.string ((⟨#[60,85,43]⟩:ByteArray)++X++⟨#[62]⟩)] (by rfl) (by rfl) (λj u h=>Mr B _ _ _ _ j u h) (by intro u hu;simp at hu;rcases hu with rfl|rfl|rfl<;>rfl) cN.out (by simp;omega) ?_;intro v8 w8 yu jf _;have rO:Hid (Below t.heap.size t w8):=(H.out.alloc Fz _).drew.grown jf (by simp;omega) (λx hx=>(T.lt x hx).1);have JC:Hid (w8.ownsRow t.heap.size 88 3 v8 (own.length+1)<|bY own++[.int .i64 (p:Nat),.int .i64 (wd q:Nat),.string<|(⟨#[60,85,43]⟩:ByteArray)++X++⟨#[62]⟩]):=yu;clear yu jf))
       all_goals
        go_wp2;go_roundg (n - (i+1));exact⟨i+1,true,own++[⟨(p:Nat),(wd q:Nat),(⟨#[60,85,43]⟩++X++⟨#[62]⟩)⟩],by omega,rfl,rfl,by go_num,V.out,by simp;omega,by rw[Co,bH];exact JC.out,rO.out⟩;omega
  .obtain rfl:i=n:=(by omega);have ax:¬(i:Int)<(i:Int):=(by omega);rw[rV<|by rw[<-HN.out];exact au _,gU]at A;have f:vA s d (S.drop<|k+1) (l++F5 ⟨K,D,C,E,z,G⟩ (sm,own))=R:=by
    have:=HJ.out;rw[<-A,ai<|by simp]at this;exact this
   have aY:=gZ.out.size;have ap:=tG.out.size;have Fl:wi.ownsRow y.heap.size 88 3 (.slice la l.length lc) l.length (bY l):=iZ (iZ p6.out tG.out) gZ.out;have Hv:=Y6.out;have aL:∀g,Value.ownBlock (.slice la l.length lc)=some g->g<t.heap.size:=λg hg=>kQ (p6.out.lt g hg).2 ap
   have kL:=ah<|oF.out.trans<|(tG.out.trans<|gZ.out.mono ap).mono ab;have Ur:=kL.out.size;have HX:=ah<|bq gZ.out R4.out;have a9:=bS HX.out;have e1:=az HX.out 1;have e4:=az HX.out 4;have a5:k*1002<=600*1002:=aij _ (by omega);have aZ:l.length<=700000:=(by omega);clear A HJ;by_cases hA:D=2/\sm=true
   .obtain⟨rfl,rfl⟩:=hA;rw[F5,aj ⟨rfl,rfl⟩]at f;have V:Hid (vA s d (S.drop<|k+1) (((l++[⟨(z:Nat),0,⟨#[226,129,168]⟩⟩])++own)++[⟨(G:Nat),0,⟨#[226,129,169]⟩⟩])=R):=(by show _=_;rw[<-f];simp only[dO]);clear f;go_wp2_with(at_builtin;refine Jc _ rfl _ _ 27 rfl y.heap.size y.heap.size 88 iE (.agg #[.int .i64 0,.int .i64 0,.string ⟨#[]⟩]) 3 32 underlying27 sU N O P rfl (by decide) (by decide) _ _ _ _ _ _ rfl rfl (kT Fl _) (PW wi y.heap.size 88 _ _ _ Ur) (Hp [⟨z,0,⟨#[226,129,168]⟩⟩]) (by omega) (by omega) (by first|omega|(simp;omega)) ?_);intro v5 B T bU _;have QL:Hid (Below wi.heap.size wi<|wi.alloc (.cells #[.int .i64 z,.int .i64 0,.string ⟨#[226,129,168]⟩] 88)):=(aA _ _).alloc (au _) _;have OX:B.ownsRow y.heap.size 88 3 v5 (l.length+1) (bY<|l++[⟨(z:Nat),0,⟨#[226,129,168]⟩⟩]):=(by rw[Co];exact T);have ao:B.ownsRow t.heap.size 88 3 (.slice oa own.length oc) own.length (bY own):=nB Hv λk o hk ho=>by
     rw[bU.block k (by have:=(Hv.lt k hk).2;simp;omega) λh=>by have:=aL k h.symm;have:=(Hv.lt k hk).1;omega];exact bq QL.out ho
    have GH:Hid (B.heap[bx]? =some (.cells #[.int .i64 K,.int .i64 (2:Nat),.int .i64 C,.int .i64 E,.int .i64 z,.int .i64 G] 83 (0,0))):=by
     show _=_;rw[bU.block bx (by simp;omega)<|NR<|jG Fl HX.out<|by decide];exact bq QL.out HX.out
    have H:Hid (Below y.heap.size y B):=(kL.out.alloc Ur _).grown bU (by simp;omega) (λx hx=>(Fl.lt x hx).1);have Fz:=H.out.size;have aT:=bS GH.out;clear T bU Fl Hv QL e1 e4;go_wp2_with(at_builtin;refine Jc _ rfl _ _ 27 rfl y.heap.size t.heap.size 88 iE (.agg #[.int .i64 0,.int .i64 0,.string ⟨#[]⟩]) 3 32 underlying27 sU N O P rfl (by decide) (by decide) _ _ _ _ _ _ rfl rfl OX ao (Hp _) (by omega) (by omega) (by first|omega|(simp;omega)) ?_);intro v6 w6 rH iL _;rw[<-Co]at rH;have ZA:Hid (w6.heap[bx]? =some (.cells #[.int .i64 K,.int .i64 (2:Nat),.int .i64 C,.int .i64 E,.int .i64 z,.int .i64 G] 83 (0,0))):=by
     show _=_;rw[iL.block bx aT<|NR<|jG OX GH.out<|by decide];exact GH.out
    have dR:Hid (Below y.heap.size y w6):=H.out.grown iL Fz (λx hx=>(OX.lt x hx).1);have yc:=dR.out.size;have a8:=bS ZA.out;have e5:=az ZA.out 5;clear iL OX ao;go_wp2_with(at_builtin;refine Jc _ rfl _ _ 27 rfl y.heap.size y.heap.size 88 iE (.agg #[.int .i64 0,.int .i64 0,.string ⟨#[]⟩]) 3 32 underlying27 sU N O P rfl (by decide) (by decide) _ _ _ _ _ _ rfl rfl (kT rH _) (PW w6 y.heap.size 88 _ _ _ yc) (Hp [⟨G,0,⟨#[226,129,169]⟩⟩]) (by omega) (by omega) (by first|omega|(simp;omega)) ?_);intro v7 w7 Fk gS _;have Rf:Hid (w7.ownsRow y.heap.size 88 3 v7 (l.length+1+own.length+1)<|bY ((l++[⟨(z:Nat),0,⟨#[226,129,168]⟩⟩])++own)++bY [⟨(G:Nat),0,⟨#[226,129,169]⟩⟩]):=(by show World.ownsRow _ _ _ _ _ _ _;rw[dO];exact Fk);have lV:Hid (Below y.heap.size y w7):=(dR.out.alloc yc _).grown gS (by simp;omega) (λx hx=>(rH.lt x hx).1);clear Fk gS rH;go_wp2;go_roundg (m - (k+1));exact⟨k+1,_,by omega,rfl,by go_num,V.out,by simp;omega,by rw[Co,bH,bH,bH];exact Rf.out,lV.out⟩;omega
   .rw[F5,ai hA]at f;have V:Hid (vA s d (S.drop<|k+1) (l++own)=R):=f;clear f;have cN:Hid ((l++own).length<=(k+1)*1002):=(by show _<=_;rw[bH];omega);by_cases h2:D=2;all_goals
     first
     |(have aQ:sm=false:=by{cases sm;rfl;exact absurd ⟨h2,rfl⟩ hA})
      subst aQ;subst h2
     |have aa:((D:Int)==2)=false:=by simp;omega
     clear hA;go_wp2_with(at_builtin;refine Jc _ rfl _ _ 27 rfl y.heap.size t.heap.size 88 iE (.agg #[.int .i64 0,.int .i64 0,.string ⟨#[]⟩]) 3 32 underlying27 sU N O P rfl (by decide) (by decide) _ _ _ _ _ _ rfl rfl Fl Hv (Hp _) (by omega) (by omega) (by first|omega|(simp;omega)) ?_);intro v5 B T bU _;rw[<-Co]at T;have kM:=ah T;have H:Hid (Below y.heap.size y B):=kL.out.grown bU Ur (λx hx=>(Fl.lt x hx).1);clear T bU Fl Hv;go_wp2;go_roundg (m - (k+1));exact⟨k+1,l++own,by omega,rfl,by go_num,V.out,cN.out,by rw[bH];exact kM.out,H.out⟩;omega
 .obtain rfl:k=m:=by omega
  have aK:¬(k:Int)<(k:Int):=by omega
  rw[rV<|by rw[<-HM.out];exact au _,vA]at A;subst A;have HO:=ah<|Ej F M;have HB:=ah<|aD.out.trans<|hb.mono M;clear F hb;go_wp2;go_ret2;exact⟨_,rfl,HO.out,HB.out⟩
