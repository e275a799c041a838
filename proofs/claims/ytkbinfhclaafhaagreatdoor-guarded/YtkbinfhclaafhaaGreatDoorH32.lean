import Derived.Test.YtkbinfhclaafhaaGreatDoorH31
import Derived.Test.YtkbinfhclaafhaaGreatDoorH28
import Derived.Test.YtkbinfhclaafhaaGreatDoorH27
import Derived.Test.YtkbinfhclaafhaaGreatDoorH30
import Derived.Maps.OwnIn
import Derived.Sort.LoopGhostIn
import Derived.RangeFuncCalls
namespace Go.Proofs.YtkbinfhclaafhaaGreatDoor
open Go.RowKit
open Go.Proofs.Tryz
set_option maxRecDepth 100000
set_option maxHeartbeats 32000000
section
attribute [local go_sem] Oper.semAt_some
def vk(n:Nat):Code->Option Code
 | .region id ops d=>if id=n then some (.region id ops d)else none
 |.seq a b=>match vk n a with
  |some c=>some c
  |none=>vk n b
 | .block _ c=>vk n c
 | .scope c=>vk n c
 | .loop c=>vk n c
 |.cond _ a b=>match vk n a with
  |some c=>some c
  |none=>vk n b
 |.rangeFunc _ _ a b=>match vk n a with
  |some c=>some c
  |none=>vk n b
 |_=>none
noncomputable def aip:Code:=((Tryz.f39.body.bind (vk 9)).getD .skip)
theorem aio(l:Nat)(W:World)(bx rb pb n i base k:Nat)(rows:Array Value)(rv:Value)(xs:List Value)(x:PR)(a:Act)(Q:Exit->Act->World->Prop)
  (hbx:W.heap[bx]? =some (.cells #[.slice (some ⟨rb,0,none⟩) n n] 103 (0,0)))
  (hrb:W.heap[rb]? =some (.cells rows 71 (0,0))) (hi:i<n) (jh:rows[i]? =some rv)
  (hpb:W.heap[pb]? =some (.cells (lS x).toArray 75 (0,0)))
  (hown:W.ownsRow base 75 5 rv k xs) (hk:k<=1000000) (hbs:base<=W.heap.size)
  (ht:36<=a.tmps.size) (e6:a.eval (.tmp 6)= .pointer (some ⟨bx,0,none⟩)) (e7:a.eval (.tmp 7)= .int .i64 i) (e8:a.eval (.tmp 8)= .pointer (some ⟨pb,0,none⟩))
  (hQ:∀a' w8 v,AP W.drew base k rv xs x w8 v->Q .normal a' (w8.setCell ⟨rb,i,none⟩ v)):
  aip.wpIn (Fence.wide.inRound l) 0 prog Q a W:=by
 conv=>arg 4;whnf
 refine wpIn_region_any (by kernel_rfl) ?_;change wpAnyIn _ _ _ _ _ _ _ _ _ (World.drew _);have zS:W.drew.heap[bx]? =some (.cells #[.slice (some ⟨rb,0,none⟩) n n] 103 (0,0)):=hbx;have zV:W.drew.heap[rb]? =some (.cells rows 71 (0,0)):=hrb;have DW:W.drew.heap[pb]? =some (.cells (lS x).toArray 75 (0,0)):=hpb;have hown':W.drew.ownsRow base 75 5 rv k xs:=hown;have aj8:base<=W.drew.heap.size:=hbs;clear hbx hrb hpb hown hbs;generalize W.drew=D at*;have nb:∀j,rv.ownBlock=some j->j≠bx/\j≠rb:=fun j hj=>by
  obtain⟨_,c,h1⟩:=iU hown' hj;exact⟨(fun e=>by subst e;rw [zS]at h1;cases h1),fun e=>by subst e;rw [zV]at h1;cases h1⟩
 have kp:∀w8 v,AP D base k rv xs x w8 v->w8.heap[bx]? =some (.cells #[.slice (some ⟨rb,0,none⟩) n n] 103 (0,0))/\w8.heap[rb]? =some (.cells rows 71 (0,0)):=fun w8 v hA=>
  ⟨(hA.gr.block bx (by have:=bJ zS;simp;omega) (fun e=>(nb _ e.symm).1 rfl)).trans ((Below.heap_alloc D _ bx (bJ zS)).trans zS),
   (hA.gr.block rb (by have:=bJ zV;simp;omega) (fun e=>(nb _ e.symm).2 rfl)).trans ((Below.heap_alloc D _ rb (bJ zV)).trans zV)⟩
 have rd:∀L a w,I9 D bx rb pb n i base k rv xs x L a w->L.getD 10 false=false->w.cell? ⟨bx,0,none⟩=some (.slice (some ⟨rb,0,none⟩) n n)/\w.cell? ⟨rb,i,none⟩=some rv/\w.frozen? ⟨rb,i,none⟩=false:=by
  intro L a w h h10;have fin:∀w:World,w.heap[bx]? =some (.cells #[.slice (some ⟨rb,0,none⟩) n n] 103 (0,0))->w.heap[rb]? =some (.cells rows 71 (0,0))->w.cell? ⟨bx,0,none⟩=some (.slice (some ⟨rb,0,none⟩) n n)/\w.cell? ⟨rb,i,none⟩=some rv/\w.frozen? ⟨rb,i,none⟩=false:=fun w h1 h2=>⟨au h1 0,(au h2 i).trans jh,bX h2 i⟩
  by_cases h7:L.getD 7 false=true
  .by_cases h8:L.getD 8 false=true
   .obtain⟨q1,q2⟩:=kp _ _ (h.w8 h8 h10);exact fin w q1 q2
   .rw [h.w7 h7 (by simpa using h8)];exact fin _ ((Below.heap_alloc D _ bx (bJ zS)).trans zS) ((Below.heap_alloc D _ rb (bJ zV)).trans zV)
  .rw [h.w0 (by simpa using h7)];exact fin _ zS zV
 refine aaU (I9 D bx rb pb n i base k rv xs x) ?_ ?_ _ _ _ _ (by simp) ?_
 .intro L a w h hr;have nr:∀j o,(_:Array Oper)[j]? =some o->(∀e∈o.after,Region.binds .any e=true->L.getD e.on false=true)->j<11->L.getD j false=true:=fun j o ho hall hj=>by
   by_cases hL:L.getD j false=true
   .exact hL
   .exfalso;have:j∈Region.ready _ _ L:=mem_ready.2 ⟨by
     have hz:=h.lz;simp only [Array.getD_eq_getD_getElem?]at hL ⊢;rw [Array.getElem?_eq_getElem (by omega)]at hL ⊢;simpa using hL,o,ho,hall⟩
    rw [hr]at this;cases this
  have g0:=nr 0 _ rfl (by simp) (by omega);have g1:=nr 1 _ rfl (by simp) (by omega);have g2:=nr 2 _ rfl (by simp) (by omega);have g3:=nr 3 _ rfl (by simp) (by omega);have g4:=nr 4 _ rfl (by intro e he _;simp at he;(repeat' (rcases he with rfl|he));all_goals(first|assumption|(subst he;assumption))) (by omega);have g5:=nr 5 _ rfl (by intro e he _;simp at he;(repeat' (rcases he with rfl|he));all_goals(first|assumption|(subst he;assumption))) (by omega);have g6:=nr 6 _ rfl (by simp) (by omega);have g7:=nr 7 _ rfl (by intro e he _;simp at he;(repeat' (rcases he with rfl|he));all_goals(first|assumption|(subst he;assumption))) (by omega);have g8:=nr 8 _ rfl (by intro e he _;simp at he;(repeat' (rcases he with rfl|he));all_goals(first|assumption|(subst he;assumption))) (by omega);have g9:=nr 9 _ rfl (by intro e he _;simp at he;(repeat' (rcases he with rfl|he));all_goals(first|assumption|(subst he;assumption))) (by omega);have g10:=nr 10 _ rfl (by intro e he _;simp at he;(repeat' (rcases he with rfl|he));all_goals(first|assumption|(subst he;assumption))) (by omega);obtain⟨w8,v,hA,rfl⟩:=h.AJ g10;exact hQ _ _ _ hA
 .intro L a w j h hj;obtain⟨hu,o,ho,hall⟩:=mem_ready.1 hj;have hz:=h.lz;have un:∀m,m<11->L.getD m true=false->L.getD m false=false:=fun m hm hh=>by
   simp only [Array.getD_eq_getD_getElem?]at hh ⊢;rw [Array.getElem?_eq_getElem (by omega)]at hh ⊢;simpa using hh
  have hF:(Fence.wide.inRound l).round=some l:=rfl;have n10:∀m,m<10->L.getD m false=false->L.getD 10 false=false:=fun m hm hh=>by
   by_cases e:L.getD 10 false=true
   .rw [h.oA e m hm]at hh;cases hh
   .simpa using e
  have n76:L.getD 6 false=false->L.getD 7 false=false:=fun hh=>by
   by_cases e:L.getD 7 false=true
   .rw [h.xy e]at hh;cases hh
   .simpa using e
  match j,hu,ho,hall with
  |0,hu,ho,hall=>
   have ho':some _=some o:=ho;obtain rfl:=Option.some.inj ho';clear ho ho';obtain⟨r1,r2,r3⟩:=rd L a w h (n10 0 (by omega) (un 0 (by omega) hu));refine vQ hF _ rfl rfl (by intro c hc;cases hc) rfl (aaw _ w bx rb n _ r1 h.e6) ?_;exact h.put (j:=0) (by omega) (by omega) (by omega)
  |1,hu,ho,hall=>
   have ho':some _=some o:=ho;obtain rfl:=Option.some.inj ho';clear ho ho';refine vQ hF _ rfl rfl (by intro c hc;cases hc) rfl (aax _ w i _ h.e7) ?_;exact h.put (j:=1) (by omega) (by omega) (by omega)
  |2,hu,ho,hall=>
   have ho':some _=some o:=ho;obtain rfl:=Option.some.inj ho';clear ho ho';obtain⟨r1,r2,r3⟩:=rd L a w h (n10 2 (by omega) (un 2 (by omega) hu));refine vQ hF _ rfl rfl (by intro c hc;cases hc) rfl (aaw _ w bx rb n _ r1 h.e6) ?_;exact h.put (j:=2) (by omega) (by omega) (by omega)
  |3,hu,ho,hall=>
   have ho':some _=some o:=ho;obtain rfl:=Option.some.inj ho';clear ho ho';refine vQ hF _ rfl rfl (by intro c hc;cases hc) rfl (aax _ w i _ h.e7) ?_;exact h.put (j:=3) (by omega) (by omega) (by omega)
  |4,hu,ho,hall=>
   have ho':some _=some o:=ho;obtain rfl:=Option.some.inj ho';clear ho ho';have k2:=hall ⟨2,.data⟩ (by simp) rfl;have k3:=hall ⟨3,.data⟩ (by simp) rfl;refine vQ hF _ rfl rfl (by intro c hc;cases hc) rfl (aav _ w rb n i _ 28 29 _ (h.vs 2 (by omega) (by omega) k2) (h.vs 3 (by omega) (by omega) k3) hi) ?_;exact h.put (j:=4) (by omega) (by omega) (by omega)
  |5,hu,ho,hall=>
   have ho':some _=some o:=ho;obtain rfl:=Option.some.inj ho';clear ho ho';have k4:=hall ⟨4,.data⟩ (by simp) rfl;obtain⟨r1,r2,r3⟩:=rd L a w h (n10 5 (by omega) (un 5 (by omega) hu));refine vQ hF _ rfl rfl (by intro c hc;cases hc) rfl (aj0 _ w rb i _ rv _ (h.vs 4 (by omega) (by omega) k4) r2) ?_;exact h.put (j:=5) (by omega) (by omega) (by omega)
  |6,hu,ho,hall=>
   have ho':some _=some o:=ho;obtain rfl:=Option.some.inj ho';clear ho ho';have e7:L.getD 7 false=false:=n76 (un 6 (by omega) hu);have ew:=h.w0 e7;subst ew;refine vQ hF _ rfl rfl (by intro c hc;cases hc) rfl (ajZ _ w pb _ _ _ _ _ _ h.e8 (au DW 0) (au DW 1) (au DW 2) (au DW 3) (au DW 4)) ?_;exact h.put (j:=6) (by omega) (by omega) (by omega)
  |7,hu,ho,hall=>
   have ho':some _=some o:=ho;obtain rfl:=Option.some.inj ho';clear ho ho';have k6:=hall ⟨6,.data⟩ (by simp) rfl;have e7:=un 7 (by omega) hu;have ew:=h.w0 e7;subst ew;refine vQ hF _ rfl rfl (by intro c hc;cases hc) rfl (ajY _ w _ _ _ _ _ _ _ (h.vs 6 (by omega) (by omega) k6)) ?_;exact h.ahG e7 k6
  |8,hu,ho,hall=>
   have ho':some _=some o:=ho;obtain rfl:=Option.some.inj ho';clear ho ho';have k5:=hall ⟨5,.data⟩ (by simp) rfl;have k7:=hall ⟨7,.data⟩ (by simp) rfl;have e8:=un 8 (by omega) hu;have ew:=h.w7 k7 e8;subst ew;obtain⟨v',w',q1,q2,q3,q4⟩:=ajX a.eval (some 34) (D.alloc (.cells (lS x).toArray 75)) base k rv xs (lS x) #[⟨5,.data⟩,⟨7,.data⟩] D.heap.size (h.vs 5 (by omega) (by omega) k5) (h.vs 7 (by omega) (by omega) k7) (hown'.alloc _) rfl (Yb _ _ _ _ _ _ _) (by simp [lS,Value.oneCell']) hk (by simp;omega);refine vQ hF _ rfl rfl (by intro c hc;cases hc) rfl q1 ?_;exact h.ahH e8 k7 ⟨q2,q3,by simpa using q4⟩
  |9,hu,ho,hall=>
   have ho':some _=some o:=ho;obtain rfl:=Option.some.inj ho';clear ho ho';have k0:=hall ⟨0,.data⟩ (by simp) rfl;have k1:=hall ⟨1,.data⟩ (by simp) rfl;refine vQ hF _ rfl rfl (by intro c hc;cases hc) rfl (aav _ w rb n i _ 26 27 _ (h.vs 0 (by omega) (by omega) k0) (h.vs 1 (by omega) (by omega) k1) hi) ?_;exact h.put (j:=9) (by omega) (by omega) (by omega)
  |10,hu,ho,hall=>
   have ho':some _=some o:=ho;obtain rfl:=Option.some.inj ho';clear ho ho';have k9:=hall ⟨9,.data⟩ (by simp) rfl;have k8:=hall ⟨8,.data⟩ (by simp) rfl;have k7:=hall ⟨7,.phase⟩ (by simp) rfl;have e10:=un 10 (by omega) hu;obtain⟨r1,r2,r3⟩:=rd L a w h e10;have hA:=h.w8 k8 e10;obtain⟨ga,ca,ev⟩:=ownsRow_succ hA.own;have hp:=h.ahF k7 k8 e10 (fun m hm=>by
    match m,hm with
    |0,_=>exact hall ⟨0,.phase⟩ (by simp) rfl
    |1,_=>exact hall ⟨1,.phase⟩ (by simp) rfl
    |2,_=>exact hall ⟨2,.phase⟩ (by simp) rfl
    |3,_=>exact hall ⟨3,.phase⟩ (by simp) rfl
    |4,_=>exact hall ⟨4,.phase⟩ (by simp) rfl
    |5,_=>exact hall ⟨5,.phase⟩ (by simp) rfl
    |6,_=>exact hall ⟨6,.phase⟩ (by simp) rfl
    |7,_=>exact k7
    |8,_=>exact k8
    |9,_=>exact k9
    |m+10,hm=>omega)
   rw [ev]at hp;exact step_skip hF _ rfl rfl (by intro c hc;cases hc) rfl (aj1 _ w rb i rv _ _ _ _ (h.vs 9 (by omega) (by omega) k9) ev r2 r3) hp
  |j+11,hu,ho,hall=>simp at ho
 .exact
  {lz:=(by simp),tz:=ht,e6:=e6,e7:=e7,e8:=e8,
   vs:=fun j hj _ hL=>(by exfalso;revert hL;simp [Array.getD]),
   w0:=fun _=>rfl,
   w7:=fun hL=>(by exfalso;revert hL;simp [Array.getD]),
   w8:=fun hL=>(by exfalso;revert hL;simp [Array.getD]),
   AJ:=fun hL=>(by exfalso;revert hL;simp [Array.getD]),
   xA:=fun hL=>(by exfalso;revert hL;simp [Array.getD]),
   xx:=fun hL=>(by exfalso;revert hL;simp [Array.getD]),
   oA:=fun hL=>(by exfalso;revert hL;simp [Array.getD]),
   xy:=fun hL=>(by exfalso;revert hL;simp [Array.getD])}
end
theorem XA(s:ByteArray):∀(f p:Nat),p<=s.size->s.size<=p+f->(runesFrom s f p=none↔jH s p<s.size)
 |0,p,hp,hf=>by
  have hn:¬p<s.size:=by omega
  rw [runesFrom_end s 0 p hn,K9 hn];simp;omega
 |f+1,p,hp,hf=>by
  by_cases hlt:p<s.size
  .by_cases hz:aJ s p=0
   .rw [Oy s (f+1) p hf hlt hz,Ta hlt hz];simp [hlt]
   .have he:runesFrom s (f+1) p=(runesFrom s f (p+aJ s p)).map (gJ s p::·):=by simp [runesFrom,hlt,hz]
    rw [he,Gn hlt hz,Option.map_eq_none_iff];exact XA s f (p+aJ s p) (OZ s p hlt hz) (by omega)
  .rw [runesFrom_end s (f+1) p hlt,K9 hlt];simp;omega
theorem aii(s:ByteArray):dh s=none↔jH s 0<s.size:=XA s s.size 0 (by omega) (by omega)
def uL(w':World)(B:Nat)(ev:Value)(f:Int×Int×Int)(aL aT aC:Addr):Prop:=
 (f=(0,0,0)/\ev= .nilIface)∨(f=(1, -1, -1)/\ev=tQ 1 aL aT aC)∨
 ∃b e ln at',ev= .iface 92 (.pointer (some ⟨b,0,none⟩))/\w'.heap[b]? =some (.cells #[.int .i64 ln,.int .i64 at',tQ e aL aT aC] 96 (0,0))/\B<=b/\f=(e,ln,at')/\(e=1∨e=2∨e=3)
def pQ(w:World):Prop:=∃m:Int,w.cell? ⟨10,0,none⟩=some (.int .i64 m)
theorem pQ.below {w w':World}(h:pQ w)(hb:Below w.heap.size w w'):pQ w':=h.imp fun _ h=>cO hb h
theorem ajd {w:World}{aL aT aC:Addr}(h:Env w aL aT aC):Lib.Utf8Tabs (Tryz.lays197_ren.g 3) (Tryz.lays197_ren.g 4) w:=h.tabs
theorem abT(s:ByteArray)(w:World)(aL aT aC:Addr)(hE:Env w aL aT aC)(hM:pQ w):
  Calls prog 61 #[.string s] w fun e w'=>∃ev,e= .returned ev/\uL w' w.heap.size ev (aZ s) aL aT aC/\Below w.heap.size w w':=by
 by_cases hz:600<s.size
 .have hz':(s.size:Int)>600:=by omega
  have hL:aZ s=(1, -1, -1):=if_pos hz;have hc:=hE.long;have HL:Hid (aZ s=(1, -1, -1)):=hL;clear hE hM hL;go_enter func61,ntmps61;go_wp2;go_ret;exact⟨_,rfl,.inr (.inl ⟨HL.out,rfl⟩),Below.refl _ _⟩
 .have hz':¬(s.size:Int)>600:=by omega
  obtain⟨m,hm⟩:=hM;have hle:=Ep s 0 0 (by omega);have mY:Hid (∀x∈az s 0 0,x.size<=600):=fun x hx=>by have:=Nb s 0 0 x hx;omega
  have Bb:=OU s m w (by omega) hm;have HF:Hid (aZ s=match nA (az s 0 0) 0 with
   |some (i,p)=>(2,((i:Nat):Int),((p:Nat):Int))
   |none=>match nY (fK (az s 0 0)) 0 with
    |some i=>(1,((i:Nat):Int),0)
    |none=>(0,0,0)):=if_neg hz
  obtain⟨F,hF⟩:∃F,F=aZ s:=⟨_,rfl⟩
  rw [<-hF]at HF ⊢;have HE:Hid (Env w aL aT aC):=hE;clear hF hE hm hz;generalize az s 0 0=LS at*;obtain⟨N,hN⟩:∃N,N=LS.length:=⟨_,rfl⟩
  have HN:Hid (N=LS.length):=hN;rw [<-hN]at hle Bb;clear hN;go_enter func61,ntmps61;go_wp2_with fail;refine Bb.mono ?_;clear Bb;rintro ev W1 ⟨rfl,hW1⟩;have hb1:Below w.heap.size w W1:=by rw [hW1];exact(Below.refl _ _).alloc (Nat.le_refl _) _
  have hk1:W1.heap[w.heap.size]? =some (.cells (dN LS).toArray 9 (0,0)):=by rw [hW1];exact World.alloc_heap_new _ _
  have HB1:Hid (Below w.heap.size w W1):=hb1;have uP:Hid (∀W,Below W1.heap.size W1 W->∀i x,LS[i]? =some x->W.cell? ⟨w.heap.size,i,none⟩=some (.string x)):=fun W hW i x hx=>by
   rw [cell_of (aR hW hk1) i];simp [dN,hx]
  have hz1:w.heap.size<W1.heap.size:=bJ hk1;clear hW1 hb1 hk1;go_wp2;go_loopg [17,4,5,6] N (fun gk uo _ _ _ W=>∃(i:Nat),i<=N/\gk=N - i/\uo= .int .i64 i/\nA (LS.drop i) i=nA LS 0/\Below W1.heap.size W1 W);case atStart=>exact⟨0,by omega,rfl,rfl,rfl,Below.refl _ _⟩
  case round=>
   rename World=>wa
   obtain⟨i,hi,rfl,rfl,hbad,hb⟩:=hrel;have HB:Hid (Below W1.heap.size W1 wa):=hb;have hbz:=hb.size;by_cases hlt:i<N
   .have hil:i<LS.length:=by rw [<-HN.out];exact hlt
    obtain⟨x,hx⟩:∃x,x=LS[i]'hil:=⟨_,rfl⟩
    have hcx:=uP.out wa hb i x (by rw [List.getElem?_eq_getElem hil,hx]);have hsz:x.size<=600:=by rw [hx];exact mY.out _ (List.getElem_mem hil)
    have hEa:Env wa aL aT aC:=HE.out.below (HB1.out.trans (hb.mono (by omega)));have QE:Hid (Calls prog 104 #[.string x] wa fun e w'=>e= .returned (.int .i64 (jH x 0:Nat))/\Below wa.heap.size wa w'):=aif x wa (by omega) (fun W hW=>ajd (hEa.below hW));have Fs:Hid (Env wa aL aT aC):=hEa;rw [List.drop_eq_getElem_cons hil,<-hx,nA]at hbad;have Qn:Hid (dh x=none↔jH x 0<x.size):=aii x;have hin:(i:Int)<(N:Int):=by omega
    clear hx hil hb hEa;go_wp2_with fail;refine QE.out.mono ?_;clear QE;rintro ev wr ⟨rfl,hbr⟩;have lG:Hid (Below W1.heap.size W1 wr):=HB.out.trans (hbr.mono hbz);have hEr:=Fs.out.below hbr;have hct:=hEr.text;generalize jH x 0=p at*;by_cases hp:p<x.size
    .have hp':(p:Int)<(x.size:Int):=by omega
     rw [Qn.out.2 hp]at hbad;have CP:Hid (F=(2,(i:Int),(p:Int))):=by show _=_;rw [HF.out,<-hbad]
     clear hbad hbr hEr;go_wp2;go_ret;refine⟨_,rfl,.inr (.inr ⟨wr.heap.size,2,i,p,rfl,World.alloc_heap_new _ _,?_,CP.out,by omega⟩),?_⟩
     .have:=lG.out.size;omega
     .exact(HB1.out.trans (lG.out.mono (by omega))).alloc (by have:=lG.out.size;omega) _
    .have hp':¬(p:Int)<(x.size:Int):=by omega
     obtain⟨rs,hrs⟩:∃rs,dh x=some rs:=by
      cases h:dh x with
      |none=>exact absurd (Qn.out.1 h) hp
      |some rs=>exact⟨rs,rfl⟩
     rw [hrs]at hbad;simp only at hbad;have aaD:Hid (nA (LS.drop (i+1)) (i+1)=nA LS 0):=hbad;clear hbad hbr hEr hct hrs;go_wp2;go_roundg (N - (i+1));case measure=>omega
     case rel=>exact⟨i+1,by omega,rfl,by go_num,aaD.out,lG.out⟩
   .obtain rfl:i=N:=by omega
    have hin:¬(i:Int)<(i:Int):=by omega
    rw [List.drop_of_length_le (by rw [HN.out];exact Nat.le_refl _),nA]at hbad;have aaz:Hid (∀x∈LS,∃rs,dh x=some rs):=Km hbad.symm;have gP:Hid (F=match nY (fK LS) 0 with
     |some i=>(1,((i:Nat):Int),0)
     |none=>(0,0,0)):=by show _=_;rw [HF.out,<-hbad]
    clear hbad hb;go_wp2;go_loopg [37,7,8] i (fun gk kv _ _ W=>∃(k:Nat),k<=i/\gk=i - k/\kv= .int .i64 k/\nY ((fK LS).drop k) k=nY (fK LS) 0/\Below W1.heap.size W1 W);case atStart=>exact⟨0,by omega,rfl,rfl,rfl,HB.out⟩
    case round=>
     rename World=>wk
     obtain⟨k,hk,rfl,rfl,hlong,hbk⟩:=hrel;have xQ:Hid (Below W1.heap.size W1 wk):=hbk;have hbkz:=hbk.size;by_cases hkl:k<i
     .have hil:k<LS.length:=by rw [<-HN.out];exact hkl
      obtain⟨x,hx⟩:∃x,x=LS[k]'hil:=⟨_,rfl⟩
      have hcx:=uP.out wk hbk k x (by rw [List.getElem?_eq_getElem hil,hx]);have hsz:x.size<=600:=by rw [hx];exact mY.out _ (List.getElem_mem hil)
      obtain⟨rs,hrs⟩:=aaz.out x (by rw [hx];exact List.getElem_mem hil);have Jj:=acp x wk (by omega);rw [runeCount_eq hrs]at Jj;have PY:Hid _:=Jj;have hEa:Env wk aL aT aC:=HE.out.below (HB1.out.trans (hbk.mono (by omega)));have Fs:Hid (Env wk aL aT aC):=hEa;have hrl:k<(fK LS).length:=by simpa [fK]using hil
      have GY:(fK LS)[k]'hrl=rs:=by simp [fK,<-hx,hrs]
      rw [List.drop_eq_getElem_cons hrl,GY,nY]at hlong;have hki:(k:Int)<(i:Int):=by omega
      generalize rs.length=q at*;clear hx hil hbk hEa Jj hrs hrl GY;go_wp2_with fail;refine Calls.mono PY.out ?_;clear PY;rintro ev wr ⟨rfl,hbr⟩;have lG:Hid (Below W1.heap.size W1 wr):=xQ.out.trans (hbr.mono hbkz);have hcl:=(Fs.out.below hbr).long;clear hbr;by_cases hq:300<q
      .rw [if_pos hq]at hlong;have hq':(q:Int)>300:=by omega
       have CP:Hid (F=(1,(k:Int),0)):=by show _=_;rw [gP.out,<-hlong]
       clear hlong;go_wp2;go_ret;refine⟨_,rfl,.inr (.inr ⟨wr.heap.size,1,k,0,rfl,World.alloc_heap_new _ _,?_,CP.out,by omega⟩),?_⟩
       .have:=lG.out.size;omega
       .exact(HB1.out.trans (lG.out.mono (by omega))).alloc (by have:=lG.out.size;omega) _
      .rw [if_neg hq]at hlong;have hq':¬(q:Int)>300:=by omega
       have CU:Hid (nY ((fK LS).drop (k+1)) (k+1)=nY (fK LS) 0):=hlong;clear hlong hcl;go_wp2;go_roundg (i - (k+1));case measure=>omega
       case rel=>exact⟨k+1,by omega,rfl,by go_num,CU.out,lG.out⟩
     .obtain rfl:k=i:=by omega
      have hki:¬(k:Int)<(k:Int):=by omega
      rw [List.drop_of_length_le (by simp [fK,HN.out]),nY]at hlong;have CP:Hid (F=(0,0,0)):=by show _=_;rw [gP.out,<-hlong]
      clear hlong hbk;go_wp2;go_ret;exact⟨_,rfl,.inl ⟨CP.out,rfl⟩,HB1.out.trans (xQ.out.mono (by omega))⟩
structure SI(B bx rb n:Nat)(pre:List PR)(W:World):Prop where
 box:W.heap[bx]? =some (.cells #[.slice (some ⟨rb,0,none⟩) n n] 103 (0,0))
 rows:∃rows:Array Value,W.heap[rb]? =some (.cells rows 71 (0,0))/\rows.size=n/\(∀i rv,rows[i]? =some rv->W.ownsRow B 75 5 rv (gG pre i).length (gH (gG pre i)))/\(∀(i j:Nat)(rv rv':Value),i≠j->rows[i]? =some rv->rows[j]? =some rv'->∀k,rv.ownBlock=some k->rv'.ownBlock≠some k)
 sz:B<=W.heap.size
 lb:bx<B
 lr:rb<B
theorem SI.jS {B bx rb n:Nat}{pre:List PR}{A C:World}(h:SI B bx rb n pre A)(ha:iY A C):SI B bx rb n pre C:=by
 obtain⟨rows,h1,h2,h3,h4⟩:=h.rows;exact⟨ha.block _ _ h.box (fun c fr e=>by cases e),⟨rows,ha.block _ _ h1 (fun c fr e=>by cases e),h2,fun i rv hi=>Cg (h3 i rv hi) ha (by decide),h4⟩,Nat.le_trans h.sz ha.size,h.lb,h.lr⟩
theorem SI.put {B bx rb n:Nat}{pre:List PR}{W:World}(h:SI B bx rb n pre W){l:Nat}{o:Obj}(hl:B<=l)(ho:W.heap[l]? =some o)(hc:o.isCells=false)(o':Obj):SI B bx rb n pre (W.putObj l o'):=by
 obtain⟨rows,h1,h2,h3,h4⟩:=h.rows;have:=h.lb;have:=h.lr;exact⟨(fC (by omega)).trans h.box,⟨rows,(fC (by omega)).trans h1,h2,fun i rv hi=>rZ (h3 i rv hi) ho hc o',h4⟩,by simp [World.putObj];exact h.sz,h.lb,h.lr⟩
theorem XK(l:List PR)(x:PR)(i:Nat):gG (l++[x]) i=if x.line=i then gG l i++[x]else gG l i:=by
 unfold gG;rw [List.filter_append];by_cases h:x.line=i<;>simp [h]
theorem SI.step {B B0 bx rb n:Nat}{pre:List PR}{W w8:World}{x:PR}{rows:Array Value}{rv v:Value}(h:SI B bx rb n pre W)(hrb:W.heap[rb]? =some (.cells rows 71 (0,0)))(jh:rows[x.line]? =some rv)
  (hA:AP W B (gG pre x.line).length rv (gH (gG pre x.line)) x w8 v) (h0:B0<=rb):SI B bx rb n (pre++[x]) (w8.setCell ⟨rb,x.line,none⟩ v)/\Kb B0 W (w8.setCell ⟨rb,x.line,none⟩ v):=by
 obtain⟨rows',h1,h2,h3,h4⟩:=h.rows;rw [hrb]at h1;obtain rfl:rows=rows':=by injection h1 with h1;injection h1
 have hB:=h.sz;have hlb:=h.lb;have hlr:=h.lr;have Vx:=h3 _ _ jh;have Vw:∀j,rv.ownBlock=some j->B<=j/\j<W.heap.size:=fun j hj=>by
  obtain⟨q1,c,q2⟩:=iU Vx hj;exact⟨q1,bJ q2⟩
 have Ma:w8.heap[bx]? =some (.cells #[.slice (some ⟨rb,0,none⟩) n n] 103 (0,0)):=
  (hA.gr.block bx (by simp;omega) (fun e=>by have:=(Vw _ e.symm).1;omega)).trans ((Below.heap_alloc W _ bx (by omega)).trans h.box)
 have He:w8.heap[rb]? =some (.cells rows 71 (0,0)):=
  (hA.gr.block rb (by simp;omega) (fun e=>by have:=(Vw _ e.symm).1;omega)).trans ((Below.heap_alloc W _ rb (by omega)).trans hrb)
 have g6:w8.grownBy (w8.setCell ⟨rb,x.line,none⟩ v) (some rb):=su _ _ _ _;have Vy:=hA.gr.size;have hsn:=g6.size;have hxl:x.line<rows.size:=by
  rcases Nat.lt_or_ge x.line rows.size with q|q
  .exact q
  .rw [Array.getElem?_eq_none q]at jh;cases jh
 refine⟨⟨(g6.block bx (bJ Ma) (fun e=> ?_)).trans Ma,⟨rows.setIfInBounds x.line v,by rw [Joins.block_setCell He],by simpa using h2,?_,?_⟩,by simp at Vy;omega,hlb,hlr⟩,?_⟩
 .obtain rfl:=Option.some.inj e;rw [Ma]at He;cases He
 .intro i Cr hi;by_cases e:x.line=i
  .subst e;rw [Array.getElem?_setIfInBounds_self_of_lt hxl]at hi;obtain rfl:=Option.some.inj hi;rw [XK,if_pos rfl,Ya,List.length_append];exact vI hA.own g6 (fun k hk e=>by have:=(iU hA.own hk).1;have:=Option.some.inj e;omega)
  .rw [Array.getElem?_setIfInBounds_ne e]at hi;rw [XK,if_neg e];have o1:=(h3 i Cr hi).alloc (.cells (lS x).toArray 75);have o2:=vI o1 hA.gr (fun k hk e'=>h4 i x.line Cr rv (fun q=>e q.symm) hi jh k hk e'.symm);exact vI o2 g6 (fun k hk e=>by have:=(iU o2 hk).1;have:=Option.some.inj e;omega)
 .intro i j Cr Oz hij hi hj k hk;have lt:∀(m:Nat)(rm:Value),rows[m]? =some rm->∀k,rm.ownBlock=some k->k<W.heap.size:=fun m rm hm k hk=>by
   obtain⟨_,c,q2⟩:=iU (h3 m rm hm) hk;exact bJ q2
  by_cases e:x.line=i
  .subst e;rw [Array.getElem?_setIfInBounds_self_of_lt hxl]at hi;obtain rfl:=Option.some.inj hi;rw [Array.getElem?_setIfInBounds_ne hij]at hj;intro hk2;rcases hA.blk with q|q
   .exact h4 x.line j rv Oz hij jh hj k (by rw [<-q];exact hk) hk2
   .have:=lt j Oz hj k hk2;rw [q]at hk;have:=Option.some.inj hk;omega
  .rw [Array.getElem?_setIfInBounds_ne e]at hi;by_cases e2:x.line=j
   .subst e2;rw [Array.getElem?_setIfInBounds_self_of_lt hxl]at hj;obtain rfl:=Option.some.inj hj;intro hk2;rcases hA.blk with q|q
    .exact h4 i x.line Cr rv hij hi jh k hk (by rw [<-q];exact hk2)
    .have:=lt i Cr hi k hk;rw [q]at hk2;have:=Option.some.inj hk2;omega
   .rw [Array.getElem?_setIfInBounds_ne e2]at hj;exact h4 i j Cr Oz hij hi hj k hk
 .have K1:Kb B0 W (W.alloc (.cells (lS x).toArray 75)):=(Kb.refl B0 W).al (by omega) _;have K2:Kb B0 W w8:=K1.grown hA.gr (by simp;omega) (fun k hk=>by
   obtain⟨q1,c,q2⟩:=iU (Vx.alloc (.cells (lS x).toArray 75)) hk;exact⟨by omega,c,_,_,q2,.inr (.inr (.inl rfl))⟩)
  exact K2.grown g6 (by simp at Vy;omega) (fun k hk=>by obtain rfl:=Option.some.inj hk;exact⟨h0,_,_,_,He,.inr (.inr (.inr rfl))⟩)
theorem ahc {s:ByteArray}(hz:s.size<=600){x:PR}(hx:x∈dw s):x.line<(az s 0 0).length:=by
 rw [NY s hz]at hx;obtain⟨y,h4,_⟩:=NZ s x hx;exact(List.getElem?_eq_some_iff.1 h4).1
section
attribute [local go_sem] Oper.semAt_some
def yU(t:TypeId):Prop:=t=66∨t=37∨t=53
def uT(t:TypeId)(c:Array Value):Prop:=t=244/\c.size=8/\∃s,c[0]? =some (.string s)
structure Ke(B:Nat)(A C:World):Prop where
 below:Below B A C
 keep:∀(k:Nat)(o:Obj),A.heap[k]? =some o->(∀c t fr,o=Obj.cells c t fr->¬yU t)->C.heap[k]? =some o
theorem Ke.trans {B:Nat}{A C D:World}(h:Ke B A C)(k:Ke B C D):Ke B A D:=⟨h.below.trans k.below,fun i o hi ho=>k.keep i o (h.keep i o hi ho) ho⟩
theorem Ke.of {B:Nat}{A C:World}(h:Below A.heap.size A C)(hB:B<=A.heap.size):Ke B A C:=⟨h.mono hB,fun _ _ hk _=>aR h hk⟩
theorem Ke.grown {B:Nat}{A C:World}{r:Option Nat}(hg:A.grownBy C r)(hB:B<=A.heap.size)(hr:∀k,r=some k->B<=k/\∃c t fr,A.heap[k]? =some (Obj.cells c t fr)/\yU t):Ke B A C:=by
 refine⟨(Below.refl _ _).grown hg hB (fun k e=>(hr k e).1),fun k o hk ho=>(hg.block k (bJ hk) fun e=> ?_).trans hk⟩;obtain⟨_,c,t,fr,h1,h2⟩:=hr k e.symm;rw [h1]at hk;exact ho c t fr (Option.some.inj hk).symm h2
theorem Ke.same {B:Nat}{A C:World}(h:Ke B A C):Same A C:=fun k o hk hc=>h.keep k o hk (fun c t fr e=>by subst e;cases hc)
theorem Ke.Ad {B:Nat}{A C:World}(h:Ke B A C):tq B A C:=⟨h.below,fun k c fr hk=>h.keep k _ hk (fun c' t fr' e=>by injection e with _ e2 _;subst e2;unfold yU;decide)⟩
structure EI(n₀:Nat)(W0:World)(z:Nat)(es:List Ed)(W:World):Prop where
 kept:∀k c t fr,W0.heap[k]? =some (.cells c t fr)->(k<n₀∨¬yU t)->¬uT t c->W.heap[k]? =some (.cells c t fr)
 c4:W.heap[n₀+1]? =some (.cells #[.slice none 0 0] 37 (0,0))
 c5:W.heap[n₀+2]? =some (.cells #[.nilIface] 53 (0,0))
 box:∃u,W.heap[z]? =some (.cells #[u] 37 (0,0))/\W.ownsRow W0.heap.size 66 3 u es.length (bS es)
 sz:W0.heap.size<=W.heap.size
theorem zD {A C:World}(h:iY A C){k:Nat}{c:Array Value}{t:TypeId}{fr:Nat×Nat}(hk:A.heap[k]? =some (.cells c t fr))(hr:¬uT t c):C.heap[k]? =some (.cells c t fr):=
 h.block _ _ hk (fun c' fr' e hc=>by injection e with e1 e2 e3;subst e1;exact hr ⟨e2,hc⟩)
theorem EI.jS {n₀ z:Nat}{W0 A C:World}{es:List Ed}(h:EI n₀ W0 z es A)(ha:iY A C):EI n₀ W0 z es C:=by
 obtain⟨u,h1,h2⟩:=h.box;exact⟨fun k c t fr hk ho hr=>zD ha (h.kept k c t fr hk ho hr) hr,zD ha h.c4 (by unfold uT;simp),zD ha h.c5 (by unfold uT;simp),⟨u,zD ha h1 (by unfold uT;simp),Cg h2 ha (by decide)⟩,Nat.le_trans h.sz ha.size⟩
theorem EI.put {n₀ z:Nat}{W0 W:World}{es:List Ed}(h:EI n₀ W0 z es W)(hz:z<W0.heap.size)(hn:n₀+2<W0.heap.size){l:Nat}{o:Obj}(hl:W0.heap.size<=l)(ho:W.heap[l]? =some o)(hc:o.isCells=false)(o':Obj):EI n₀ W0 z es (W.putObj l o'):=by
 obtain⟨u,h1,h2⟩:=h.box;exact⟨fun k c t fr hk hq hr=>(fC (by have:=bJ hk;omega)).trans (h.kept k c t fr hk hq hr),(fC (by omega)).trans h.c4,(fC (by omega)).trans h.c5,⟨u,(fC (by omega)).trans h1,rZ h2 ho hc o'⟩,by simp [World.putObj];exact h.sz⟩
structure EX(n₀ B:Nat)(ln at':Int)(ev:Value)(W:World):Prop where
 c4:W.heap[n₀+1]? =some (.cells #[.slice none 0 0] 37 (0,0))
 c5:∃b,W.heap[n₀+2]? =some (.cells #[.iface 92 (.pointer (some ⟨b,0,none⟩))] 53 (0,0))/\W.heap[b]? =some (.cells #[.int .i64 ln,.int .i64 at',ev] 96 (0,0))/\B<=b
theorem EX.jS {n₀ B:Nat}{ln at':Int}{ev:Value}{A C:World}(h:EX n₀ B ln at' ev A)(ha:iY A C):EX n₀ B ln at' ev C:=by
 obtain⟨b,h1,h2,h3⟩:=h.c5;exact⟨zD ha h.c4 (by unfold uT;simp),b,zD ha h1 (by unfold uT;simp),zD ha h2 (by unfold uT;simp),h3⟩
theorem EX.put {n₀ B:Nat}{ln at':Int}{ev:Value}{W:World}(h:EX n₀ B ln at' ev W)(hn:n₀+2<B){l:Nat}{o:Obj}(hl:B<=l)(ho:W.heap[l]? =some o)(hc:o.isCells=false)(o':Obj):EX n₀ B ln at' ev (W.putObj l o'):=by
 obtain⟨b,h1,h2,h3⟩:=h.c5;exact⟨(fC (by omega)).trans h.c4,b,(fC (by omega)).trans h1,(fC (by rintro rfl;rw [h2]at ho;obtain rfl:=Option.some.inj ho;cases hc)).trans h2,h3⟩
structure EL(n₀ B z:Nat)(W5:World)(v u:Value)(l:List Ed)(Wx:World):Prop where
 ke:Ke n₀ W5 Wx
 c4:Wx.heap[n₀+1]? =some (.cells #[.slice none 0 0] 37 (0,0))
 c5:Wx.heap[n₀+2]? =some (.cells #[.nilIface] 53 (0,0))
 bx:Wx.heap[z]? =some (.cells #[u] 37 (0,0))
 own:Wx.ownsRow B 66 3 u l.length (bS l)
 row:∀k,v.ownBlock=some k->u.ownBlock≠some k/\Wx.heap[k]? =W5.heap[k]? /\B<=k/\k<Wx.heap.size
 sz:B<=Wx.heap.size
theorem EL.step {n₀ B z:Nat}{W5 wx W3 w':World}{v u u':Value}{l l':List Ed}(h:EL n₀ B z W5 v u l wx)(hz:z<B)(hz2:n₀+2<z)(hb:Below wx.heap.size wx W3)(hg:W3.grownBy w' u.ownBlock)(ho:w'.ownsRow B 66 3 u' l'.length (bS l'))(hat:u'.ownBlock=u.ownBlock∨u'.ownBlock=some W3.heap.size):
  EL n₀ B z W5 v u' l' (w'.setCell ⟨z,0,none⟩ u'):=by
 have hub:∀k,u.ownBlock=some k->B<=k/\∃c,wx.heap[k]? =some (.cells c 66 (0,0)):=fun k hk=>iU h.own hk
 have hs:=h.sz;have hs3:=hb.size;have hs4:=hg.size;have k1:∀k o,wx.heap[k]? =some o->u.ownBlock≠some k->w'.heap[k]? =some o:=fun k o hk hn=>(hg.block k (by have:=bJ hk;omega) (fun e=>hn e.symm)).trans (aR hb hk)
 have g6:w'.grownBy (w'.setCell ⟨z,0,none⟩ u') (some z):=su _ _ _ _;have k2:∀k o,wx.heap[k]? =some o->u.ownBlock≠some k->k≠z->(w'.setCell ⟨z,0,none⟩ u').heap[k]? =some o:=fun k o hk hn hne=>(g6.block k (bJ (k1 k o hk hn)) (fun e=>hne (Option.some.inj e))).trans (k1 k o hk hn)
 have nb:∀k,k<B->u.ownBlock≠some k:=fun k hk e=>by have:=(hub k e).1;omega
 have hbz:=k1 z _ h.bx (nb z hz);have jI:=g6.size;refine⟨h.ke.trans ((Ke.of hb (by omega)).trans ((Ke.grown hg (by omega) fun k hk=> ?_).trans (Ke.grown g6 (by omega) fun k hk=> ?_))),k2 _ _ h.c4 (nb _ (by omega)) (by omega),k2 _ _ h.c5 (nb _ (by omega)) (by omega),?_,?_,?_,by omega⟩
 .obtain⟨q1,c,q2⟩:=hub k hk;exact⟨by omega,c,_,_,aR hb q2,.inl rfl⟩
 .obtain rfl:=Option.some.inj hk;exact⟨by omega,_,_,_,hbz,.inr (.inl rfl)⟩
 .rw [Joins.block_setCell hbz];rfl
 .exact vI ho g6 (fun k hk e=>by have:=(iU ho hk).1;have:=Option.some.inj e;omega)
 .intro k hk;obtain⟨r1,r2,r3,r4⟩:=h.row k hk;obtain⟨o,hok⟩:∃o,wx.heap[k]? =some o:=⟨_,Array.getElem?_eq_getElem r4⟩
  have q:=k2 k o hok r1 (by omega);refine⟨?_,by rw [q,<-hok,r2],r3,bJ q⟩;rcases hat with e|e
  .rw [e];exact r1
  .rw [e];intro e2;have:=Option.some.inj e2;omega
theorem EL.bx9 {n₀ B z:Nat}{W5 wx W3 w':World}{v u:Value}{l:List Ed}(h:EL n₀ B z W5 v u l wx)(hz:z<B)(hb:Below wx.heap.size wx W3)(hg:W3.grownBy w' u.ownBlock):w'.heap[z]? =some (.cells #[u] 37 (0,0)):=by
 have:=hb.size;exact(hg.block z (by have:=bJ h.bx;omega) (fun e=>by have:=(iU h.own e.symm).1;omega)).trans (aR hb h.bx)
theorem agF {F:Fence}{n l:Nat}{P:Program}{ops:Array Oper}{Q:Exit->Act->World->Prop}{K:Act->World->Prop}{i:Nat}{a:Act}{w:World}(hd:∀(i:Nat)(o:Oper),ops[i]? =some o->∀c,o.op≠.defer c)(h:wpOpIn F n P ops Q i K a w):wpOpIn (F.inRound l) n P ops Q i K a w:=by
 cases ho:ops[i]? with
 |none=>simpa [wpOpIn,ho]using h
 |some o=>
  simp only [wpOpIn,ho]at h ⊢;by_cases hw:Region.wanted o (yielded ops a.tmps)=true
  .simp only [hw,if_true]at h ⊢;unfold Oper.wpIn at h ⊢;rw [Oper.semAt_eq _ _ _ (hd i o ho)]at h ⊢;exact h
  .simp only [hw]at h ⊢;exact h
theorem Ki {F:Fence}{n l:Nat}{P:Program}{md:Region.Mode}{ops:Array Oper}{Q:Exit->Act->World->Prop}(hd:∀(i:Nat)(o:Oper),ops[i]? =some o->∀c,o.op≠.defer c):∀(fuel:Nat)(L:Array Bool)(a:Act)(w:World),wpAnyIn F n P md ops Q fuel L a w->wpAnyIn (F.inRound l) n P md ops Q fuel L a w
 |0,_,_,_,h=>h
 |fuel+1,_,_,_,h=>⟨h.1,fun i hi=>wpOpIn_mono (fun a w=>Ki hd fuel _ a w) (agF hd (h.2 i hi))⟩
theorem Xu {ops:Array Oper}(h:ops.all (fun o=>match o.op with| .defer _=>false|_=>true)=true)(i:Nat)(o:Oper)(ho:ops[i]? =some o):∀c,o.op≠.defer c:=by
 intro c e;obtain⟨hi,rfl⟩:=Array.getElem?_eq_some_iff.1 ho;have:=Array.all_eq_true.1 h i hi;rw [e]at this;cases this
theorem KF {w:World}{k i:Nat}{x:Value}(h:w.cell? ⟨k,i,none⟩=some x):∃c t fr,w.heap[k]? =some (.cells c t fr)/\c[i]? =some x:=by
 unfold World.cell? at h;cases ho:w.heap[k]? with
 |none=>simp [ho]at h
 |some o=>
  cases o with
  |cells c t fr=>exact⟨c,t,fr,rfl,by simpa [ho]using h⟩
  |_=>simp [ho]at h
theorem Ra(w:World)(a b c:Obj):(((w.alloc a).alloc b).alloc c).heap[w.heap.size]? =some a/\(((w.alloc a).alloc b).alloc c).heap[w.heap.size+1]? =some b/\(((w.alloc a).alloc b).alloc c).heap[w.heap.size+2]? =some c:=by
 obtain⟨h1,h2,h3,_⟩:=Bg w a b c c;have e:∀(k:Nat)(o:Obj),k<w.heap.size+3->((((w.alloc a).alloc b).alloc c).alloc c).heap[k]? =some o->(((w.alloc a).alloc b).alloc c).heap[k]? =some o:=fun k o hk h=>(Below.heap_alloc (((w.alloc a).alloc b).alloc c) c k (by simp;omega)).symm.trans h
 exact⟨e _ _ (by omega) h1,e _ _ (by omega) h2,e _ _ (by omega) h3⟩
theorem acL(es:List Ed)(e:Ed):bS (es++[e])=bS es++[.int .i64 e.a,.int .i64 e.c,.string e.n]:=by simp [bS,Gh]
end
