import Derived.Test.YtkbinfhclaafhaaGreatDoorH25
import Derived.Shelf.Abstract
import Derived.Test.YtkbinfhclaafhaaGreatDoorH23
import Derived.Test.YtkbinfhclaafhaaGreatDoorH22
import Derived.Test.YtkbinfhclaafhaaGreatDoorH01
import Derived.Deep.LoopGhost
import Derived.Test.YtkbinfhclaafhaaGreatDoorH17
import Derived.Test.YtkbinfhclaafhaaGreatDoorH03
namespace Go.Proofs.YtkbinfhclaafhaaGreatDoor
open Go.RowKit
open Go.Proofs.Tryz
set_option maxRecDepth 100000
set_option maxHeartbeats 32000000
section
attribute [local go_sem] Oper.semAt_some
def AU(n:Int)(pre:List PR):Prop:=¬(1<=n/\n<=pre.length)/\pre.length<1000
def Stops(n:Int)(pre:List PR):Prop:=((pre.length:Int)=n∨pre.length=1000)/\0<pre.length
theorem Bg(w:World)(a b c d:Obj):((((w.alloc a).alloc b).alloc c).alloc d).heap[w.heap.size]? =some a/\((((w.alloc a).alloc b).alloc c).alloc d).heap[w.heap.size+1]? =some b/\((((w.alloc a).alloc b).alloc c).alloc d).heap[w.heap.size+2]? =some c/\((((w.alloc a).alloc b).alloc c).alloc d).heap[w.heap.size+3]? =some d:=by
 have s1:(w.alloc a).heap.size=w.heap.size+1:=by simp
 have s2:((w.alloc a).alloc b).heap.size=w.heap.size+2:=by simp
 have s3:(((w.alloc a).alloc b).alloc c).heap.size=w.heap.size+3:=by simp
 have n1:(w.alloc a).heap[w.heap.size]? =some a:=World.alloc_heap_new w a;have n2:((w.alloc a).alloc b).heap[w.heap.size+1]? =some b:=by have:=World.alloc_heap_new (w.alloc a) b;rw [s1]at this;exact this
 have n3:(((w.alloc a).alloc b).alloc c).heap[w.heap.size+2]? =some c:=by have:=World.alloc_heap_new ((w.alloc a).alloc b) c;rw [s2]at this;exact this
 have n4:((((w.alloc a).alloc b).alloc c).alloc d).heap[w.heap.size+3]? =some d:=by have:=World.alloc_heap_new (((w.alloc a).alloc b).alloc c) d;rw [s3]at this;exact this
 exact⟨(Below.heap_alloc _ _ _ (by omega)).trans ((Below.heap_alloc _ _ _ (by omega)).trans ((Below.heap_alloc _ _ _ (by omega)).trans n1)),(Below.heap_alloc _ _ _ (by omega)).trans ((Below.heap_alloc _ _ _ (by omega)).trans n2),(Below.heap_alloc _ _ _ (by omega)).trans n3,n4⟩
theorem rM(w:World)(o:Obj):iY w (w.alloc o):=⟨rfl,rfl,rfl,by simp,fun k _ hk _=>(Below.heap_alloc w o k (bJ hk)).trans hk⟩
theorem EH {w:World}{base base':Nat}{e:TypeId}{size:Nat}{v:Value}{n:Nat}{xs:List Value}(h:w.ownsRow base e size v n xs)(hb:base'<=base):w.ownsRow base' e size v n xs:=by
 refine⟨h.1,?_⟩;rcases h.2 with h|⟨g,cap,cur,rfl,h2,h3,h4⟩
 .exact .inl h
 .exact .inr ⟨g,cap,cur,rfl,by omega,h3,h4⟩
theorem M3 {n:Nat}{A B C:World}(h:tq n A B)(k:tq n B C):tq n A C:=⟨h.below.trans k.below,fun _ _ _ e=>k.rd _ _ _ (h.rd _ _ _ e)⟩
theorem M0 {n:Nat}{W:World}{l:Nat}{o:Obj}(hl:n<=l)(ho:W.heap[l]? =some o)(hc:o.isCells=false)(o':Obj):tq n W (W.putObj l o'):=
 ⟨Bo (Below.refl _ _) hl o',fun i c fr e=>by
  rw [fC]
  .exact e
  .rintro rfl;rw [ho]at e;obtain rfl:=Option.some.inj e;cases hc⟩
theorem OD {A B:World}(h:iY A B):Same A B:=fun k o hk hc=>h.block k o hk (fun c fr e=>by subst e;cases hc)
theorem Tryz.aeR:(prog.info? 3).map (fun i=>(i.zero,i.size,i.bytes))=some (some (.int .i64 0),1,8):=by kernel_rfl
theorem Tryz.VU:(prog.info? 75).map (fun i=>(i.zero,i.size,i.bytes))=some (some (.agg #[.int .i64 0,.int .i64 0,.int .i64 0,.int .i64 0,.int .i64 0]),5,40):=by kernel_rfl
theorem aho(w:World)(s:ByteArray)(n:Int)(env:jl w)(h20:10<=w.heap.size):
  Calls prog 43 #[.string s,.int .i64 n] w fun e w'=>∃v1 v2 l,e= .returned (.tuple #[v1,v2])/\w'.ownsRow w.heap.size 3 1 v1 l.length (vE l)/\w'.ownsRow w.heap.size 75 5 v2 l.length (gH l)/\Below w.heap.size w w'/\((l=dw s/\AU n l)∨(l<+:dw s/\Stops n l)):=by
 refine(callsIn_wide (n:=0)).1 (callsIn_of_wp_marks func43 rfl trivial ?_ rfl);simp only [ntmps43,List.size_toArray,List.length_cons,List.length_nil,Nat.reduceAdd,Nat.reduceSub,Array.replicate_succ,Array.replicate_zero,List.push_toArray,List.append_toArray,List.nil_append,List.cons_append];refine(wpIn_wide (n:=0)).2 ?_;go_wp2_with fail;refine(LD _ s).mono ?_;rintro ev W1 ⟨rfl,rfl⟩;go_wp2;have hsz:(((((w.alloc (.cells #[.int .i64 n] 3)).alloc (.cells #[.slice none 0 0] 31)).alloc (.cells #[.slice none 0 0] 71)).alloc (.cells #[.string s] 9)).heap.size)=w.heap.size+4:=by simp
 obtain⟨W0,hW0⟩:∃W0,W0=((((w.alloc (.cells #[.int .i64 n] 3)).alloc (.cells #[.slice none 0 0] 31)).alloc (.cells #[.slice none 0 0] 71)).alloc (.cells #[.string s] 9)):=⟨_,rfl⟩
 rw [<-hW0]at hsz ⊢;have hb0:Below w.heap.size w W0:=by rw [hW0];exact((((Below.refl _ _).alloc (Nat.le_refl _) _).alloc (by simp) _).alloc (by simp;omega) _).alloc (by simp;omega) _
 have vw:W0.cell? ⟨w.heap.size+3,0,none⟩=some (.string s):=by rw [hW0];exact au (Bg w _ _ _ _).2.2.2 0
 have hI0:PI w n [] W0:=by
  refine⟨?_,⟨.slice none 0 0,.slice none 0 0,?_,?_,World.ownsRow_nil _ _ _ _,World.ownsRow_nil _ _ _ _⟩,by omega⟩
  .rw [hW0];exact(Bg w _ _ _ _).1
  .rw [hW0];exact(Bg w _ _ _ _).2.1
  .rw [hW0];exact(Bg w _ _ _ _).2.2.1
 clear hW0;refine Ol (gf:=106) (lb:=#[.pointer (some ⟨w.heap.size+3,0,none⟩)]) ?_ (Go.Proofs.enters_of func106 (by kernel_rfl) rfl) (n₀:=w.heap.size) (by omega) (NW W0 w.heap.size (w.heap.size+3) s vw (env.below h20 hb0) h20 (by omega)) (fun x=>rfl)
  M3 (fun W l o o' hl ho hc=>M0 (by omega) ho hc o') (fun A B h=>OD h)
  (fun pre W=>PI w n pre W/\AU n pre) (fun c pre W=>c= .exit 0/\PI w n pre W/\Stops n pre)
  (fun pre A B h ha=>⟨h.1.jS ha,h.2⟩) (fun c pre A B h ha=>⟨h.1,h.2.1.jS ha,h.2.2⟩)
  (fun pre W l o o' hl ho hc h=>⟨h.1.put (by omega) ho hc o',h.2⟩) (fun c pre W l o o' hl ho hc h=>⟨h.1,h.2.1.put (by omega) ho hc o',h.2.2⟩)
  ?h0 ?round ?done ?stop
 .rfl
 case h0=>exact fun o1 o2=>⟨(hI0.jS (rM W0 o1)).jS (rM _ o2),by simp [AU];omega⟩
 case round=>
  rintro l pre ⟨xl,xk,xf,xt,xb,xe⟩ W hl ⟨DT,hgo⟩ hx;simp only [Dy]
  gi_wp2
  refine⟨fun k o hk _=>(Below.heap_alloc W _ k (bJ hk)).trans hk,⟨(Below.refl _ _).alloc (by have:=DT.sz;omega) _,fun k _ _ hk=>(Below.heap_alloc W _ k (bJ hk)).trans hk⟩,?_⟩;intro o o' ho hoc;have hP2:=(DT.jS (rM W (.cells #[.int .i64 xk,.int .i64 xf,.int .i64 xt,.int .i64 xb,.int .i64 xe] 75))).put (by omega) ho hoc o';have hpt:((W.alloc (.cells #[.int .i64 xk,.int .i64 xf,.int .i64 xt,.int .i64 xb,.int .i64 xe] 75)).putObj l o').heap[W.heap.size]? =some (.cells #[.int .i64 xk,.int .i64 xf,.int .i64 xt,.int .i64 xb,.int .i64 xe] 75 (0,0)):=by
   rw [fC]
   .exact World.alloc_heap_new W _
   .rintro rfl;rw [World.alloc_heap_new]at ho;obtain rfl:=Option.some.inj ho;cases hoc
  have hpv:∀lv pv:Value,W.heap[w.heap.size+2]? =some (.cells #[pv] 71 (0,0))->True:=fun _ _ _=>trivial
  have aeu:=DT.sz;obtain⟨lv,pv,k1,k2,k3,k4⟩:=DT.rows;have aev:∀k,pv.ownBlock=some k->k<W.heap.size:=fun k hk=>by obtain⟨_,c,h1⟩:=iU k4 hk;exact bJ h1
  have a1:=rM W (.cells #[.int .i64 xk,.int .i64 xf,.int .i64 xt,.int .i64 xb,.int .i64 xe] 75);have p1:((W.alloc (.cells #[.int .i64 xk,.int .i64 xf,.int .i64 xt,.int .i64 xb,.int .i64 xe] 75)).putObj l o').heap[w.heap.size+1]? =some (.cells #[lv] 31 (0,0)):=(fC (by omega)).trans (a1.block _ _ k1 (fun c fr e=>by cases e));have p2:((W.alloc (.cells #[.int .i64 xk,.int .i64 xf,.int .i64 xt,.int .i64 xb,.int .i64 xe] 75)).putObj l o').heap[w.heap.size+1+1]? =some (.cells #[pv] 71 (0,0)):=(fC (by omega)).trans (a1.block _ _ k2 (fun c fr e=>by cases e));have p3:=rZ (Cg k3 a1 (by decide)) ho hoc o';have p4:=rZ (Cg k4 a1 (by decide)) ho hoc o';have hbn:=hP2.bn;have hsz2:=hP2.sz;have Vk:W.heap.size<((W.alloc (.cells #[.int .i64 xk,.int .i64 xf,.int .i64 xt,.int .i64 xb,.int .i64 xe] 75)).putObj l o').heap.size:=bJ hpt;clear k1 k2 k3 k4 a1 hP2 DT hpv ho hoc;generalize(W.alloc (.cells #[.int .i64 xk,.int .i64 xf,.int .i64 xt,.int .i64 xb,.int .i64 xe] 75)).putObj l o'=W2 at*;generalize W.heap.size=pb at*;have hlen:=hgo.2;obtain⟨i0,hi0,hz0,hz1,hz2⟩:=info_parts Tryz.aeR;obtain⟨i5,hi5,hy0,hy1,hy2⟩:=info_parts Tryz.VU;have c6:W2.cell? ⟨w.heap.size+1,0,none⟩=some lv:=au p1 0;have HX:Hid ((pre++[(⟨xl,xk,xf,xt,xb,xe⟩:PR)])<+:dw s):=hx;have zk:Hid (AU n pre):=hgo;clear hx hgo vw hb0 hI0 env hsz hl
  gi_wp2_with (gi_at_builtin;refine wpListIn_append_own _ rfl _ _ 31 rfl (w.heap.size+4) 3 i0 _ 1 8 underlying31 hi0 hz0 hz1 hz2 rfl (by decide) lv pre.length (vE pre) rfl (p3.alloc _) ⟨W2.heap.size,0,none⟩ 1 1 [.int .i64 xl] rfl rfl (cell_one_new _ _ _) (by simp [Value.oneCell']) (by unfold maxLen;omega) (by omega) (by simp;omega) ?_)
  intro v1 W3 o3 g3 _;obtain⟨ga,ca,rfl⟩:=ownsRow_succ o3;have q3:∀k o,k<W2.heap.size->W2.heap[k]? =some o->(∀j,lv.ownBlock=some j->k≠j)->W3.heap[k]? =some o:=fun k o hk ho hne=>(g3.block k (by simp;omega) (fun e=>hne k e.symm rfl)).trans ((Below.heap_alloc W2 _ k hk).trans ho)
  have Ic:∀j,lv.ownBlock=some j->w.heap.size+4<=j:=fun j hj=>(iU p3 hj).1
  have b1:W3.heap[w.heap.size+1]? =some (.cells #[lv] 31 (0,0)):=q3 _ _ (by omega) p1 (fun j hj=>by have:=Ic j hj;omega);have b2:W3.heap[w.heap.size+1+1]? =some (.cells #[pv] 71 (0,0)):=q3 _ _ (by omega) p2 (fun j hj=>by have:=Ic j hj;omega);have b0:W3.heap[w.heap.size]? =some (.cells #[.int .i64 n] 3 (0,0)):=q3 _ _ (by omega) hbn (fun j hj=>by have:=Ic j hj;omega);have bp:W3.heap[pb]? =some (.cells #[.int .i64 xk,.int .i64 xf,.int .i64 xt,.int .i64 xb,.int .i64 xe] 75 (0,0)):=q3 _ _ Vk hpt (fun j hj e=>by
   subst e;obtain⟨_,c,h1⟩:=iU p3 hj;rw [hpt]at h1;cases h1)
  have o4:=vI (p4.alloc (.cells #[.int .i64 xl] 3)) g3 (XZ p4 p3 (by decide));have K3:Kb w.heap.size W2 W3:=((Kb.refl _ _).al (by omega) _).grown g3 (by simp;omega) (fun k hk=>by
   obtain⟨h1,c,h2⟩:=iU (p3.alloc (.cells #[.int .i64 xl] 3)) hk;exact⟨by omega,c,_,_,h2,.inl rfl⟩)
  have hs3:w.heap.size+4<=W3.heap.size:=by have:=g3.size;simp at this;omega
  have Dr:W3.cell? ⟨w.heap.size+1,0,none⟩=some lv:=au b1 0;have f6':W3.frozen? ⟨w.heap.size+1,0,none⟩=false:=bX b1 0;have g4:W3.grownBy (W3.setCell ⟨w.heap.size+1,0,none⟩ (.slice (some ⟨ga,0,none⟩) (pre.length+1) ca)) (some (w.heap.size+1)):=su _ _ _ _;have K4:Kb w.heap.size W2 (W3.setCell ⟨w.heap.size+1,0,none⟩ (.slice (some ⟨ga,0,none⟩) (pre.length+1) ca)):=K3.grown g4 (by omega) (fun k hk=>by obtain rfl:=Option.some.inj hk;exact⟨by omega,_,_,_,b1,.inr (.inl rfl)⟩);have e1:(W3.setCell ⟨w.heap.size+1,0,none⟩ (.slice (some ⟨ga,0,none⟩) (pre.length+1) ca)).heap[w.heap.size+1]? =some (.cells #[.slice (some ⟨ga,0,none⟩) (pre.length+1) ca] 31 (0,0)):=by rw [Joins.block_setCell b1];rfl
  have e2:(W3.setCell ⟨w.heap.size+1,0,none⟩ (.slice (some ⟨ga,0,none⟩) (pre.length+1) ca)).heap[w.heap.size+1+1]? =some (.cells #[pv] 71 (0,0)):=(g4.block _ (by omega) (fun e=>by have:=Option.some.inj e;omega)).trans b2;have e0:(W3.setCell ⟨w.heap.size+1,0,none⟩ (.slice (some ⟨ga,0,none⟩) (pre.length+1) ca)).heap[w.heap.size]? =some (.cells #[.int .i64 n] 3 (0,0)):=(g4.block _ (by omega) (fun e=>by have:=Option.some.inj e;omega)).trans b0;have ep:(W3.setCell ⟨w.heap.size+1,0,none⟩ (.slice (some ⟨ga,0,none⟩) (pre.length+1) ca)).heap[pb]? =some (.cells #[.int .i64 xk,.int .i64 xf,.int .i64 xt,.int .i64 xb,.int .i64 xe] 75 (0,0)):=(g4.block _ (bJ bp) (fun e=>by have:=Option.some.inj e;omega)).trans bp;have r3:=vI o3 g4 (fun k hk e=>by have:=(iU o3 hk).1;have:=Option.some.inj e;omega);have r4:=vI o4 g4 (fun k hk e=>by have:=(iU o4 hk).1;have:=Option.some.inj e;omega);have s4:(W3.setCell ⟨w.heap.size+1,0,none⟩ (.slice (some ⟨ga,0,none⟩) (pre.length+1) ca)).heap.size=W3.heap.size:=by simp
  have c7:(W3.setCell ⟨w.heap.size+1,0,none⟩ (.slice (some ⟨ga,0,none⟩) (pre.length+1) ca)).cell? ⟨w.heap.size+1+1,0,none⟩=some pv:=au e2 0;have d0:(W3.setCell ⟨w.heap.size+1,0,none⟩ (.slice (some ⟨ga,0,none⟩) (pre.length+1) ca)).cell? ⟨pb,0,none⟩=some (.int .i64 xk):=au ep 0;have d1:(W3.setCell ⟨w.heap.size+1,0,none⟩ (.slice (some ⟨ga,0,none⟩) (pre.length+1) ca)).cell? ⟨pb,1,none⟩=some (.int .i64 xf):=au ep 1;have d2:(W3.setCell ⟨w.heap.size+1,0,none⟩ (.slice (some ⟨ga,0,none⟩) (pre.length+1) ca)).cell? ⟨pb,2,none⟩=some (.int .i64 xt):=au ep 2;have d3:(W3.setCell ⟨w.heap.size+1,0,none⟩ (.slice (some ⟨ga,0,none⟩) (pre.length+1) ca)).cell? ⟨pb,3,none⟩=some (.int .i64 xb):=au ep 3;have d4:(W3.setCell ⟨w.heap.size+1,0,none⟩ (.slice (some ⟨ga,0,none⟩) (pre.length+1) ca)).cell? ⟨pb,4,none⟩=some (.int .i64 xe):=au ep 4;have nw:=Yb (W3.setCell ⟨w.heap.size+1,0,none⟩ (.slice (some ⟨ga,0,none⟩) (pre.length+1) ca)) (.int .i64 xk) (.int .i64 xf) (.int .i64 xt) (.int .i64 xb) (.int .i64 xe) 75;rw [s4]at nw
  gi_wp2_with (gi_at_builtin;refine wpListIn_append_own _ rfl _ _ 71 rfl (w.heap.size+4) 75 i5 _ 5 40 underlying71 hi5 hy0 hy1 hy2 rfl (by decide) pv pre.length (gH pre) rfl (r4.alloc _) ⟨W3.heap.size,0,none⟩ 1 1 (lS ⟨xl,xk,xf,xt,xb,xe⟩) rfl rfl nw (by simp [lS,Value.oneCell']) (by unfold maxLen;omega) (by omega) (by simp;omega) ?_)
  intro v2 W5 o5 g5 _;obtain⟨gb,cb,rfl⟩:=ownsRow_succ o5;have YD:∀j,pv.ownBlock=some j->w.heap.size+4<=j:=fun j hj=>(iU r4 hj).1
  have q5:∀k o,k<w.heap.size+4->(W3.setCell ⟨w.heap.size+1,0,none⟩ (.slice (some ⟨ga,0,none⟩) (pre.length+1) ca)).heap[k]? =some o->W5.heap[k]? =some o:=fun k o hk ho=>(g5.block k (by simp;omega) (fun e=>by have:=YD k e.symm;omega)).trans ((Below.heap_alloc _ _ k (by rw [s4];omega)).trans ho)
  have t1:=q5 _ _ (by omega) e1;have t2:=q5 _ _ (by omega) e2;have t0:=q5 _ _ (by omega) e0;have u3:=vI (r3.alloc (.cells #[.int .i64 xk,.int .i64 xf,.int .i64 xt,.int .i64 xb,.int .i64 xe] 75)) g5 (XZ r3 r4 (by decide));have K5:Kb w.heap.size W2 W5:=(K4.al (by rw [s4];omega) (.cells #[.int .i64 xk,.int .i64 xf,.int .i64 xt,.int .i64 xb,.int .i64 xe] 75)).grown g5 (by simp;omega) (fun k hk=>by
   obtain⟨h1,c,h2⟩:=iU (r4.alloc (.cells #[.int .i64 xk,.int .i64 xf,.int .i64 xt,.int .i64 xb,.int .i64 xe] 75)) hk;exact⟨by omega,c,_,_,h2,.inr (.inr (.inl rfl))⟩)
  have hs5:w.heap.size+4<=W5.heap.size:=by have:=g5.size;simp at this;omega
  have FR:W5.cell? ⟨w.heap.size+1+1,0,none⟩=some pv:=au t2 0;have f7':W5.frozen? ⟨w.heap.size+1+1,0,none⟩=false:=bX t2 0;have g6:W5.grownBy (W5.setCell ⟨w.heap.size+1+1,0,none⟩ (.slice (some ⟨gb,0,none⟩) (pre.length+1) cb)) (some (w.heap.size+1+1)):=su _ _ _ _;have K6:Kb w.heap.size W2 (W5.setCell ⟨w.heap.size+1+1,0,none⟩ (.slice (some ⟨gb,0,none⟩) (pre.length+1) cb)):=K5.grown g6 (by omega) (fun k hk=>by obtain rfl:=Option.some.inj hk;exact⟨by omega,_,_,_,t2,.inr (.inr (.inr rfl))⟩);have x1:(W5.setCell ⟨w.heap.size+1+1,0,none⟩ (.slice (some ⟨gb,0,none⟩) (pre.length+1) cb)).heap[w.heap.size+1]? =some (.cells #[.slice (some ⟨ga,0,none⟩) (pre.length+1) ca] 31 (0,0)):=(g6.block _ (by omega) (fun e=>by have:=Option.some.inj e;omega)).trans t1;have x2:(W5.setCell ⟨w.heap.size+1+1,0,none⟩ (.slice (some ⟨gb,0,none⟩) (pre.length+1) cb)).heap[w.heap.size+1+1]? =some (.cells #[.slice (some ⟨gb,0,none⟩) (pre.length+1) cb] 71 (0,0)):=by rw [Joins.block_setCell t2];rfl
  have x0:(W5.setCell ⟨w.heap.size+1+1,0,none⟩ (.slice (some ⟨gb,0,none⟩) (pre.length+1) cb)).heap[w.heap.size]? =some (.cells #[.int .i64 n] 3 (0,0)):=(g6.block _ (by omega) (fun e=>by have:=Option.some.inj e;omega)).trans t0;have z3:=vI u3 g6 (fun k hk e=>by have:=(iU u3 hk).1;have:=Option.some.inj e;omega);have z5:=vI o5 g6 (fun k hk e=>by have:=(iU o5 hk).1;have:=Option.some.inj e;omega);have Uv:PI w n (pre++[⟨xl,xk,xf,xt,xb,xe⟩]) (W5.setCell ⟨w.heap.size+1+1,0,none⟩ (.slice (some ⟨gb,0,none⟩) (pre.length+1) cb)):=by
   refine⟨x0,⟨_,_,x1,x2,?_,?_⟩,by have:=g6.size;omega⟩
   .rw [afE,List.length_append];exact z3
   .rw [Ya,List.length_append];exact z5
  have HF:Hid (Kb w.heap.size W2 (W5.setCell ⟨w.heap.size+1+1,0,none⟩ (.slice (some ⟨gb,0,none⟩) (pre.length+1) cb))/\PI w n (pre++[⟨xl,xk,xf,xt,xb,xe⟩]) (W5.setCell ⟨w.heap.size+1+1,0,none⟩ (.slice (some ⟨gb,0,none⟩) (pre.length+1) cb))):=⟨K6,Uv⟩
  have k7:(W5.setCell ⟨w.heap.size+1+1,0,none⟩ (.slice (some ⟨gb,0,none⟩) (pre.length+1) cb)).cell? ⟨w.heap.size+1+1,0,none⟩=some (.slice (some ⟨gb,0,none⟩) (pre.length+1) cb):=au x2 0;have k0:(W5.setCell ⟨w.heap.size+1+1,0,none⟩ (.slice (some ⟨gb,0,none⟩) (pre.length+1) cb)).cell? ⟨w.heap.size,0,none⟩=some (.int .i64 n):=au x0 0;clear K6 Uv z3 z5 x0 x1 x2 u3 K5 t0 t1 t2 q5 YD o5 g5 r3 r4 e0 e1 e2 ep g4 K4 nw s4 d0 d1 d2 d3 d4 c7 Dr f6' K3 o4 o3 g3 b0 b1 b2 bp Ic q3 c6 p1 p2 p3 p4 hbn hpt aev hsz2 Vk hs3 hs5 aeu g6;by_cases hst:((pre.length:Int)+1=n∨pre.length+1=1000)
  .have HS:Hid (Stops n (pre++[⟨xl,xk,xf,xt,xb,xe⟩])):=by
    refine⟨?_,by simp⟩;rw [List.length_append];rcases hst with h|h
    .left;simp;omega
    .right;simp;omega
   by_cases h1:(pre.length:Int)+1=n
   .have r1:((pre.length:Int)+1==n)=true:=by simpa using h1
    clear h1 hst
    gi_wp2
    exact⟨HF.out.1.same,HF.out.1.Ad,rfl,HF.out.2,HS.out⟩
   .have r1:((pre.length:Int)+1==n)=false:=by simpa using h1
    have r2:((pre.length:Int)+1==1000)=true:=by rw [beq_iff_eq];rcases hst with h|h<;>omega
    clear h1 hst
    gi_wp2
    exact⟨HF.out.1.same,HF.out.1.Ad,rfl,HF.out.2,HS.out⟩
  .have HS:Hid (AU n (pre++[⟨xl,xk,xf,xt,xb,xe⟩])):=by
    obtain⟨h1,h2⟩:=zk.out;refine⟨?_,?_⟩
    .rintro⟨h3,h4⟩;rw [List.length_append]at h4;simp at h4;exact h1 ⟨h3,by omega⟩
    .rw [List.length_append];simp;omega
   have r1:((pre.length:Int)+1==n)=false:=by simp;omega
   have r2:((pre.length:Int)+1==1000)=false:=by simp;omega
   clear hst
   gi_wp2
   exact⟨HF.out.1.same,HF.out.1.Ad,HF.out.2,HS.out⟩
 case done=>
  rintro D W hD hbW ⟨hP,hgo⟩ hK;obtain⟨lv,pv,k1,k2,k3,k4⟩:=hP.rows;have c6:W.cell? ⟨w.heap.size+1,0,none⟩=some lv:=au k1 0;have c7:W.cell? ⟨w.heap.size+1+1,0,none⟩=some pv:=au k2 0;have HF:Hid (Below w.heap.size w W/\W.ownsRow (w.heap.size+4) 3 1 lv (dw s).length (vE (dw s))/\W.ownsRow (w.heap.size+4) 75 5 pv (dw s).length (gH (dw s))/\AU n (dw s)):=⟨hb0.trans hbW,k3,k4,hgo⟩
  have HK:Hid (W.heap[D]? =some (.deferred (some []))):=hK;have HD:Hid (w.heap.size<=D):=by show _<=_;omega
  clear k1 k2 k3 k4 hP hgo hbW hK hD hb0 vw hI0 env hsz;simp only;go_wp2;go_region;all_goals
   go_wp2;have hK:W.drew.heap[D]? =some (.deferred (some [])):=HK.out;obtain⟨h1,h2,h3,h4⟩:=HF.out;refine⟨by simp,.inl ⟨_,_,rfl,run_takeDeferred hK,?_⟩⟩;refine⟨.tuple #[lv,pv],by simp [results,results43,go_sem],lv,pv,dw s,rfl,?_,?_,?_,.inl ⟨rfl,h4⟩⟩
   .exact rZ (w:=W.drew) (EH h2 (by omega)) hK rfl _
   .exact rZ (w:=W.drew) (EH h3 (by omega)) hK rfl _
   .exact Bo (W:=W.drew) h1.drew HD.out _
 case stop=>
  rintro D c pre W hD hbW hp ⟨rfl,hP,hst⟩ hK;obtain⟨lv,pv,k1,k2,k3,k4⟩:=hP.rows;have c6:W.cell? ⟨w.heap.size+1,0,none⟩=some lv:=au k1 0;have c7:W.cell? ⟨w.heap.size+1+1,0,none⟩=some pv:=au k2 0;have HF:Hid (Below w.heap.size w W/\W.ownsRow (w.heap.size+4) 3 1 lv pre.length (vE pre)/\W.ownsRow (w.heap.size+4) 75 5 pv pre.length (gH pre)/\pre<+:dw s/\Stops n pre):=⟨hb0.trans hbW,k3,k4,hp,hst⟩
  have HK:Hid (W.heap[D]? =some (.deferred (some []))):=hK;have HD:Hid (w.heap.size<=D):=by show _<=_;omega
  clear k1 k2 k3 k4 hP hst hbW hK hD hb0 vw hI0 env hsz hp;go_wp2;go_region;all_goals
   go_wp2;have hK:W.drew.heap[D]? =some (.deferred (some [])):=HK.out;obtain⟨h1,h2,h3,h4⟩:=HF.out;refine⟨by simp,.inl ⟨_,_,rfl,run_takeDeferred hK,?_⟩⟩;refine⟨.tuple #[lv,pv],by simp [results,results43,go_sem],lv,pv,pre,rfl,?_,?_,?_,.inr h4⟩
   .exact rZ (w:=W.drew) (EH h2 (by omega)) hK rfl _
   .exact rZ (w:=W.drew) (EH h3 (by omega)) hK rfl _
   .exact Bo (W:=W.drew) h1.drew HD.out _
end
theorem wM(k t:Nat)(p:RP)(hb:p.from_<=p.at_):(aW k t p).length<=(bq t p).from_ - p.from_/\p.from_<=(bq t p).from_/\(bq t p).from_<=(bq t p).at_:=by
 unfold aW bq;split
 .simp only [List.length_nil];omega
 .simp only [List.length_cons,List.length_nil];omega
theorem NQ(hd:Nat)(p:RP):(bF hd p false).from_=(bq 0 p).from_:=by unfold bF;rw [uZ]
theorem ah5(s:ByteArray)(blk:Bool)(p:RP)(hb:p.from_<=p.at_)(he:p.at_<=s.size):(aI s blk p).length<=s.size - p.from_:=by
 fun_induction aI s blk p with
 |case1 p h1 h2 ih=>
  have e:=wM 2 2 p hb;have hc:=gU (t:=2) (p:=p);have h3:=l8 (s:=s) (i:=p.at_+1) (by rw [h2.2];decide);have:=ih e.2.2 (by rw [gU];omega);rw [List.length_append];omega
 |case2 p h1 h2 h3 ih=>
  have e:=wM 2 0 p hb;have hc:=gU (t:=0) (p:=p);have hf:(jq (bq 0 p)).from_=(bq 0 p).at_+1:=rfl;have hg:(jq (bq 0 p)).at_=(bq 0 p).at_+1:=rfl;have:=ih (by omega) (by rw [hg,gU];omega);rw [List.length_append];omega
 |case3 p h1 h2 h3 ih=>
  have hf:(bB p (p.at_+1)).from_=p.from_:=rfl;have hg:(bB p (p.at_+1)).at_=p.at_+1:=rfl;have:=ih (by omega) (by omega);omega
 |case4 blk p h1 h2 h3 ih=>
  have e:=wM 0 0 p hb;have hf:(bB (bF 1 p false) (qR s (p.at_+1)).1).from_=(bq 0 p).from_:=NQ 1 p;have hg:(bB (bF 1 p false) (qR s (p.at_+1)).1).at_=(qR s (p.at_+1)).1:=rfl;have hq:=Eo s (p.at_+1);have hc:=gU (t:=0) (p:=p);have e2:=wM 1 (qT s (p.at_+1)) (bB (bF 1 p false) (qR s (p.at_+1)).1) (by omega);have hc2:=gU (t:=qT s (p.at_+1)) (p:=bB (bF 1 p false) (qR s (p.at_+1)).1);have ht:=Oi (s:=s) (i:=p.at_+1) (by omega);have:=ih e2.2.2 (by rw [gU,hg];exact ht);rw [List.length_append,List.length_append];omega
 |case5 blk p h1 h2 h3 h4 ih=>
  have e:=wM 0 0 p hb;have hf:(bB (bF 2 p false) (bf s (p.at_+2))).from_=(bq 0 p).from_:=NQ 2 p;have hg:(bB (bF 2 p false) (bf s (p.at_+2))).at_=bf s (p.at_+2):=rfl;have hq:=Ae s (p.at_+2);have hc:=gU (t:=0) (p:=p);have h5:=l8 (s:=s) (i:=p.at_+1) (by rw [h4.2];decide);have e2:=wM 2 0 (bB (bF 2 p false) (bf s (p.at_+2))) (by omega);have hc2:=gU (t:=0) (p:=bB (bF 2 p false) (bf s (p.at_+2)));have hl:=Hy (s:=s) (i:=p.at_+2) (by omega);have:=ih e2.2.2 (by rw [gU,hg];omega);rw [List.length_append,List.length_append];omega
 |case6 blk p h1 h2 h3 h4 h5 ih=>
  have e:=wM 0 0 p hb;have hf:=NQ 2 p;have hg:=Ez (hd:=2) (p:=p) (st:=false);have hc:=gU (t:=0) (p:=p);have h6:=l8 (s:=s) (i:=p.at_+1) (by rw [h5.2];decide);have:=ih (by omega) (by omega);rw [List.length_append];omega
 |case7 blk p h1 h2 h3 h4 h5 h6 ih=>
  have e:=wM 0 0 p hb;have hc:=gU (t:=0) (p:=p);have hf:(jq (bq 0 p)).from_=(bq 0 p).at_+1:=rfl;have hg:(jq (bq 0 p)).at_=(bq 0 p).at_+1:=rfl;have:=ih (by omega) (by rw [hg,gU];omega);rw [List.length_append];omega
 |case8 blk p h1 h2 h3 h4 h5 h6 ih=>
  have hf:(bB p (p.at_+1)).from_=p.from_:=rfl;have hg:(bB p (p.at_+1)).at_=p.at_+1:=rfl;have:=ih (by omega) (by omega);omega
 |case9 blk p h1=>
  have e:=wM (if blk=true then 2 else 0) 0 p hb;have hc:=gU (t:=0) (p:=p);omega
theorem EK(s:ByteArray):(dw s).length<=600:=by
 unfold dw;split
 .have:=ah5 s false uG (Nat.le_refl _) (Nat.zero_le _);omega
 .simp
theorem NY(s:ByteArray)(hz:s.size<=600):dw s=fG s (fD s 0) 0 0:=by
 unfold dw;rw [if_pos hz];exact Ye s
theorem TC.drop {s:ByteArray}:∀{l:List Tk}{p:Nat}(i:Nat),TC s p l->∃q,p<=q/\TC s q (l.drop i)
 |l,p,0,h=>⟨p,Nat.le_refl _,h⟩
 |[],p,i+1,_=>⟨p,Nat.le_refl _,by simp [TC]⟩
 |t::ts,p,i+1,h=>by
  obtain⟨h1,h2,h3,h4,h5,h6⟩:=h;obtain⟨q,hq,hc⟩:=TC.drop i h6;exact⟨q,by omega,hc⟩
structure pR(s:ByteArray)(all:List PR)(o:List PR)(t:Tk)(ts:List Tk)(ln bg fr p:Nat):Prop where
 Ry:bg<=t.T
 Nn:ln<=bg
 go:p<=t.T->bg<=fr/\fr<=p/\o++(ko s t.k t.T t.B t.E ln bg fr p++fG s ts (gu s t.T ln bg p).1 (gu s t.T ln bg p).2)=all
 done:¬p<=t.T->o++fG s ts ln bg=all
section
variable{s:ByteArray}{all o:List PR}{t:Tk}{ts:List Tk}{ln bg fr p:Nat}
theorem pR.start(h:o++fG s (t::ts) ln bg=all)(hb:bg<=t.F)(hF:t.F<t.T)(hl:ln<=bg):pR s all o t ts ln bg t.F t.F:=
 ⟨by omega,hl,fun _=>⟨hb,Nat.le_refl _,h⟩,fun hn=>absurd (Nat.le_of_lt hF) hn⟩
theorem pR.step(h:pR s all o t ts ln bg fr p)(hp:p<t.T)(hb:¬bt s p=10):pR s all o t ts ln bg fr (p+1):=by
 obtain⟨h1,h2,h3⟩:=h.go (by omega);rw [vN hp hb,wO hp hb]at h3;exact⟨h.Ry,h.Nn,fun _=>⟨h1,by omega,h3⟩,fun hn=>absurd hp hn⟩
theorem pR.feed(h:pR s all o t ts ln bg fr p)(hp:p<t.T)(hb:bt s p=10):pR s all (o++kG ln t.k bg fr p t.B t.E) t ts (ln+1) (p+1) (p+1) (p+1):=by
 obtain⟨h1,h2,h3⟩:=h.go (by omega);rw [Av hp hb,BD hp hb]at h3;have:=h.Nn;exact⟨hp,by omega,fun _=>⟨Nat.le_refl _,Nat.le_refl _,by rw [<-h3];simp only [List.append_assoc]⟩,fun hn=>absurd hp hn⟩
theorem pR.stop(h:pR s all o t ts ln bg fr p)(hp:p=t.T):pR s all (o++kG ln t.k bg fr p t.B t.E) t ts ln bg fr (p+1):=by
 obtain⟨h1,h2,h3⟩:=h.go (by omega);rw [vM (by omega),BC (by omega)]at h3;exact⟨h.Ry,h.Nn,fun hn=>by omega,fun _=>by rw [<-h3];simp only [List.append_assoc]⟩
theorem pR.len(h:pR s all o t ts ln bg fr p):o.length<=all.length:=by
 by_cases hp:p<=t.T
 .rw [<-(h.go hp).2.2];simp
 .rw [<-h.done hp];simp
end
theorem ag9:∀(l:List PR)(i:Nat)(hi:i<l.length),(gH l)[i*5]? =some (.int .i64 l[i].kind)/\(gH l)[i*5+1]? =some (.int .i64 l[i].from_)/\(gH l)[i*5+2]? =some (.int .i64 l[i].di)/\(gH l)[i*5+3]? =some (.int .i64 l[i].body)/\(gH l)[i*5+4]? =some (.int .i64 l[i].end_):=by
 intro l
 induction l with
 |nil=>intro i hi;simp at hi
 |cons a l ih=>
  intro i hi;have e:gH (a::l)=[.int .i64 a.kind,.int .i64 a.from_,.int .i64 a.di,.int .i64 a.body,.int .i64 a.end_]++gH l:=by simp [gH,lS]
  cases i with
  |zero=>rw [e];simp
  |succ i=>
   have:=ih i (by simpa using hi);rw [e,show(i+1)*5=i*5+5 by omega];simpa using this
def zg(w:World)(g:Nat)(l:List PR):Prop:=∀i (hi:i<l.length),w.cell? ⟨g,i*6,none⟩=some (.int .i64 l[i].line)/\w.cell? ⟨g,i*6+1,none⟩=some (.int .i64 l[i].kind)/\w.cell? ⟨g,i*6+2,none⟩=some (.int .i64 l[i].from_)/\w.cell? ⟨g,i*6+3,none⟩=some (.int .i64 l[i].di)/\w.cell? ⟨g,i*6+4,none⟩=some (.int .i64 l[i].body)/\w.cell? ⟨g,i*6+5,none⟩=some (.int .i64 l[i].end_)
def zB(w:World)(g:Nat)(l:List PR):Prop:=∀i (hi:i<l.length),w.cell? ⟨g,i*5,none⟩=some (.int .i64 l[i].kind)/\w.cell? ⟨g,i*5+1,none⟩=some (.int .i64 l[i].from_)/\w.cell? ⟨g,i*5+2,none⟩=some (.int .i64 l[i].di)/\w.cell? ⟨g,i*5+3,none⟩=some (.int .i64 l[i].body)/\w.cell? ⟨g,i*5+4,none⟩=some (.int .i64 l[i].end_)
def J8(w:World)(g:Nat)(l:List PR):Prop:=∀i (hi:i<l.length),w.cell? ⟨g,i,none⟩=some (.int .i64 l[i].line)
theorem ag5 {w:World}{B g cap n:Nat}{l:List PR}{e:TypeId}(h:w.ownsRow B e 5 (.slice (some ⟨g,0,none⟩) n cap) n (gH l))(hn:n=l.length):zB w g l:=by
 intro i hi;obtain⟨k0,k1,k2,k3,k4⟩:=ag9 l i hi;exact⟨by rw [World.ownsRow.cellAt h (i*5) (by omega)];exact k0,by rw [World.ownsRow.cellAt h (i*5+1) (by omega)];exact k1,by rw [World.ownsRow.cellAt h (i*5+2) (by omega)];exact k2,by rw [World.ownsRow.cellAt h (i*5+3) (by omega)];exact k3,by rw [World.ownsRow.cellAt h (i*5+4) (by omega)];exact k4⟩
theorem zg.take {w:World}{g:Nat}{l:List PR}(h:zg w g l)(m:Nat):zg w g (l.take m):=by
 intro i hi;have hi':i<l.length:=by simp at hi;omega
 have:=h i hi';simpa using this
theorem zg.below {w w':World}{g:Nat}{l:List PR}(h:zg w g l)(hb:Below w.heap.size w w'):zg w' g l:=by
 intro i hi;obtain⟨k0,k1,k2,k3,k4,k5⟩:=h i hi;exact⟨cO hb k0,cO hb k1,cO hb k2,cO hb k3,cO hb k4,cO hb k5⟩
theorem zB.below {w w':World}{g:Nat}{l:List PR}(h:zB w g l)(hb:Below w.heap.size w w'):zB w' g l:=by
 intro i hi;obtain⟨k0,k1,k2,k3,k4⟩:=h i hi;exact⟨cO hb k0,cO hb k1,cO hb k2,cO hb k3,cO hb k4⟩
theorem J8.below {w w':World}{g:Nat}{l:List PR}(h:J8 w g l)(hb:Below w.heap.size w w'):J8 w' g l:=fun i hi=>cO hb (h i hi)
def az(s:ByteArray)(bg i:Nat):List ByteArray:=
 if i<s.size then if bt s i=10 then s.extract bg i::az s (i+1) (i+1)else az s bg (i+1)else [s.extract bg i]
termination_by s.size - i
theorem H8 {s:ByteArray}{bg i:Nat}(h:i<s.size)(hb:bt s i=10):az s bg i=s.extract bg i::az s (i+1) (i+1):=by rw [az,if_pos h,if_pos hb]
theorem Hz {s:ByteArray}{bg i:Nat}(h:i<s.size)(hb:¬bt s i=10):az s bg i=az s bg (i+1):=by rw [az,if_pos h,if_neg hb]
theorem Ng {s:ByteArray}{bg i:Nat}(h:¬i<s.size):az s bg i=[s.extract bg i]:=by rw [az,if_neg h]
theorem Ep(s:ByteArray)(bg i:Nat)(h:i<=s.size):(az s bg i).length<=s.size+1 - i:=by
 fun_induction az s bg i with
 |case1 bg i h1 h2 ih=>have:=ih (by omega);simp only [List.length_cons];omega
 |case2 bg i h1 h2 ih=>have:=ih (by omega);omega
 |case3 bg i h1=>simp only [List.length_cons,List.length_nil];omega
def dN(l:List ByteArray):List Value:=l.map fun x=> .string x
theorem WE(l:List ByteArray)(x:ByteArray):dN (l++[x])=dN l++[.string x]:=by simp [dN]
theorem Tryz.aeV:(prog.info? 9).map (fun i=>(i.zero,i.size,i.bytes))=some (some (.string ⟨#[]⟩),1,16):=by kernel_rfl
theorem afK {w:World}{B:Nat}{e:TypeId}{z n:Nat}{v:Value}{xs:List Value}(h:w.ownsRow B e z v n xs):∃a cap,v= .slice a n cap:=by
 rcases h.2 with⟨rfl,rfl⟩|⟨g,cap,cur,rfl,_⟩
 .exact⟨none,0,rfl⟩
 .exact⟨_,cap,rfl⟩
theorem Om(s:ByteArray)(w:World)(hz:s.size<=900000):Calls prog 23 #[.string s] w fun e w'=>∃v,e= .returned v/\w'.ownsRow w.heap.size 9 1 v (az s 0 0).length (dN (az s 0 0))/\Below w.heap.size w w':=by
 obtain⟨iT,U3,VK⟩:∃i,prog.info? 9=some i/\(i.zero,i.size,i.bytes)=(some (.string ⟨#[]⟩),1,16):=by simpa using Tryz.aeV
 simp only [Prod.mk.injEq]at VK;obtain⟨VL,VM,VN⟩:=VK;obtain⟨R,hR⟩:∃R,R=az s 0 0:=⟨_,rfl⟩
 rw [<-hR];have HR:Hid (R=az s 0 0):=hR;clear hR;go_enter func23,ntmps23;go_wp2;go_loopg [3,4,5] (s.size+1) (fun gk lv fv pv W=>∃(l:List ByteArray)(fr p:Nat),p<=s.size+1/\gk=s.size+1 - p/\l.length<=p/\fr<=p/\fv= .int .i64 fr/\pv= .int .i64 p/\(p<=s.size->l++az s fr p=R)/\(p=s.size+1->l=R)/\W.ownsRow w.heap.size 9 1 lv l.length (dN l)/\Below w.heap.size w W);case atStart=>exact⟨[],0,0,by omega,rfl,by simp,by omega,rfl,rfl,fun _=>HR.out.symm,fun h=>by omega,World.ownsRow_nil _ _ _ _,Below.refl _ _⟩
 case round=>
  obtain⟨l,fr,p,hp,rfl,hlp,hfp,rfl,rfl,hj,hd,hown,hb⟩:=hrel;obtain⟨qa,qc,rfl⟩:=afK hown;have HB:Hid (Below w.heap.size w wr):=hb;have hbz:=hb.size;clear hb;by_cases hle:p<=s.size
  .have hpi:(p:Int)<=(s.size:Int):=by omega
   have HJ:Hid (l++az s fr p=R):=hj hle;clear hj hd;by_cases hlt:p<s.size
   .have hne:((p:Int)==(s.size:Int))=false:=by simp;omega
    have hpl':(p:Int)<(s.size:Int):=by omega
    have hbp:=uX hlt;obtain⟨c,hc⟩:∃c,s[p]'hlt=c:=⟨_,rfl⟩
    rw [hc]at hbp;by_cases h10:bt s p=10
    .have IJ:(c.toNat:Int)=10:=by rw [<-hbp,h10]
     have Jh:Hid (bt s p=10):=h10;clear hbp h10;go_wp2_with(at_builtin;refine zf _ rfl _ _ 42 rfl w.heap.size 9 iT (.string ⟨#[]⟩) 16 underlying42 U3 VL VM VN rfl (by decide) _ _ _ rfl hown _ _ rfl rfl (by omega) hbz ?_);intro v2 w2 hown2 hg2;have HB2:Hid (Below w.heap.size w w2):=HB.out.grown hg2 hbz (fun y hy=>(hown.lt y hy).1);have iL:Hid (w2.ownsRow w.heap.size 9 1 v2 (l.length+1) (dN (l++[s.extract fr p]))):=by
      show World.ownsRow _ _ _ _ _ _ _;rw [WE];exact hown2
     clear hown hown2 hg2;go_wp2;go_roundg (s.size+1 - (p+1));case measure=>omega
     case rel=>exact⟨l++[s.extract fr p],p+1,p+1,by omega,rfl,by simp;omega,by omega,by go_num,by go_num,fun _=>by rw [<-HJ.out,H8 hlt Jh.out,List.append_assoc];rfl,fun h=>by omega,by simpa using iL.out,HB2.out⟩
    .have IJ:((c.toNat:Int)==10)=false:=by rw [hbp]at h10;simpa using h10
     have Jh:Hid (¬bt s p=10):=h10;have HO:Hid (wr.ownsRow w.heap.size 9 1 (.slice qa l.length qc) l.length (dN l)):=hown;clear hbp h10 hown;go_wp2;go_roundg (s.size+1 - (p+1));case measure=>omega
     case rel=>exact⟨l,fr,p+1,by omega,rfl,by omega,by omega,rfl,by go_num,fun _=>by rw [<-Hz hlt Jh.out];exact HJ.out,fun h=>by omega,HO.out,HB.out⟩
   .have hpe:p=s.size:=by omega
    subst hpe;go_wp2_with(at_builtin;refine zf _ rfl _ _ 42 rfl w.heap.size 9 iT (.string ⟨#[]⟩) 16 underlying42 U3 VL VM VN rfl (by decide) _ _ _ rfl hown _ _ rfl rfl (by omega) hbz ?_);intro v2 w2 hown2 hg2;have HB2:Hid (Below w.heap.size w w2):=HB.out.grown hg2 hbz (fun y hy=>(hown.lt y hy).1);have iL:Hid (w2.ownsRow w.heap.size 9 1 v2 (l.length+1) (dN (l++[s.extract fr s.size]))):=by
     show World.ownsRow _ _ _ _ _ _ _;rw [WE];exact hown2
    clear hown hown2 hg2;go_wp2;go_roundg (s.size+1 - (s.size+1));case measure=>omega
    case rel=>exact⟨l++[s.extract fr s.size],s.size+1,s.size+1,by omega,rfl,by simp;omega,by omega,by go_num,by go_num,fun h=>by omega,fun _=>by rw [<-HJ.out,Ng hlt],by simpa using iL.out,HB2.out⟩
  .have hpi:¬(p:Int)<=(s.size:Int):=by omega
   have hlR:l=R:=hd (by omega);subst hlR;have HO:Hid (wr.ownsRow w.heap.size 9 1 (.slice qa l.length qc) l.length (dN l)):=hown;clear hown hj hd HR;go_wp2;go_ret;exact⟨_,rfl,HO.out,HB.out⟩
def Jg(w:World)(v:Value)(l:List PR):Prop:=∃x c,v= .slice x l.length c/\(0<l.length->∃g,x=some ⟨g,0,none⟩/\l.length<=c/\zg w g l)
theorem Jg.below {w w':World}{v:Value}{l:List PR}(h:Jg w v l)(hb:Below w.heap.size w w'):Jg w' v l:=by
 obtain⟨x,c,rfl,h⟩:=h;exact⟨x,c,rfl,fun h0=>let⟨g,h1,h2,h3⟩:=h h0;⟨g,h1,h2,h3.below hb⟩⟩
theorem tH.form {w:World}{v:Value}{l:List Int}(h:tH w v l):∃x c,v= .slice x l.length c/\(0<l.length->∃b off,x=some ⟨b,off,none⟩/\dz w b off l):=by
 rcases h with⟨rfl,rfl⟩|⟨b,off,cap,rfl,hc⟩
 .exact⟨none,0,rfl,fun h=>absurd h (by simp)⟩
 .exact⟨_,cap,rfl,fun _=>⟨b,off,rfl,hc⟩⟩
def gG(l:List PR)(line:Nat):List PR:=l.filter (fun x=>x.line==line)
theorem XI(l:List PR)(line:Nat):(gG l line).length<=l.length:=List.length_filter_le _ _
def wd(r:Int):Nat:=if r<128 then 1 else if r<2048 then 2 else if r<65536 then 3 else 4
theorem AL(r:Int):wd r<=4/\1<=wd r:=by
 unfold wd;split
 .omega
 .split
  .omega
  .split<;>omega
def o7:Nat->List Int->List Nat
 |p,[]=>[p]
 |p,r::rs=>p::o7 (p+wd r) rs
def nv(l:List Nat):List Value:=l.map fun x=> .int .i64 (x:Nat)
def pI(q:Nat):List PR->Nat->Int
 |[],_=> -1
 |x::xs,k=>if x.from_<=q/\q<x.di then(k:Int)else pI q xs (k+1)
def jH(s:ByteArray)(p:Nat):Nat:=if p<s.size then if _h:aJ s p=0 then p else jH s (p+aJ s p)else p
termination_by s.size - p
theorem Ta {s:ByteArray}{p:Nat}(h:p<s.size)(hz:aJ s p=0):jH s p=p:=by rw [jH,if_pos h,dif_pos hz]
theorem Gn {s:ByteArray}{p:Nat}(h:p<s.size)(hz:aJ s p≠0):jH s p=jH s (p+aJ s p):=by
 conv=>lhs;rw [jH,if_pos h,dif_neg hz]
theorem K9 {s:ByteArray}{p:Nat}(h:¬p<s.size):jH s p=p:=by rw [jH,if_neg h]
def wD(s:ByteArray)(p:Nat)(l:List Int):Prop:=oK s p l/\jH s p=jH s 0
theorem wD.start(s:ByteArray):wD s 0 []:=⟨oK.start s,rfl⟩
theorem wD.stop {s:ByteArray}{p:Nat}{l:List Int}(h:wD s p l)(hp:¬p<s.size):dh s=some l:=h.1.stop hp
theorem wD.bad {s:ByteArray}{p:Nat}{l:List Int}(h:wD s p l)(hp:p<s.size)(hz:aJ s p=0):dh s=none:=h.1.bad hp hz
theorem wD.step {s:ByteArray}{p:Nat}{l:List Int}(h:wD s p l)(hp:p<s.size)(hz:aJ s p≠0):wD s (p+aJ s p) (l++[gJ s p]):=⟨h.1.step hp hz,by rw [<-h.2,Gn hp hz]⟩
def nA:List ByteArray->Nat->Option (Nat×Nat)
 |[],_=>none
 |x::xs,i=>match dh x with
  |none=>some (i,jH x 0)
  |some _=>nA xs (i+1)
def nY:List (List Int)->Nat->Option Nat
 |[],_=>none
 |x::xs,i=>if 300<x.length then some i else nY xs (i+1)
def fK(l:List ByteArray):List (List Int):=l.map fun x=>(dh x).getD []
def aZ(s:ByteArray):Int×Int×Int:=
 if 600<s.size then(1, -1, -1)else match nA (az s 0 0) 0 with
  |some (i,p)=>(2,(i:Nat),(p:Nat))
  |none=>match nY (fK (az s 0 0)) 0 with
   |some i=>(1,(i:Nat),0)
   |none=>(0,0,0)
def BV(s:ByteArray):Value:= .agg #[.int .i64 (aZ s).1,.int .i64 (aZ s).2.1,.int .i64 (aZ s).2.2]
def Df(w:World)(B:Nat)(v:Value)(ls:List (List Int)):Prop:=∃vs,w.ownsRow B 31 1 v ls.length vs/\∀j,j<ls.length->w.ownsRow B 3 1 (vs.getD j undef) (ls.getD j []).length ((ls.getD j []).map (Value.int .i64))
theorem Df.nil(w:World)(B:Nat):Df w B (.slice none 0 0) []:=⟨[],World.ownsRow_nil _ _ _ _,fun j h=>absurd h (by simp)⟩
theorem Df.below {w w':World}{B:Nat}{v:Value}{ls:List (List Int)}(h:Df w B v ls)(hb:Below w.heap.size w w'):Df w' B v ls:=by
 obtain⟨vs,h1,h2⟩:=h;exact⟨vs,qw h1 hb,fun j hj=>qw (h2 j hj) hb⟩
theorem Nb(s:ByteArray)(bg i:Nat):∀x∈az s bg i,x.size<=s.size:=by
 fun_induction az s bg i with
 |case1 bg i h1 h2 ih=>
  intro x hx;rcases List.mem_cons.1 hx with rfl|hx
  .simp;omega
  .exact ih x hx
 |case2 bg i h1 h2 ih=>exact ih
 |case3 bg i h1=>intro x hx;simp at hx;subst hx;simp;omega
