import Derived.Test.YtkbinfhclaafhaaGreatDoorH32
import Derived.Test.YtkbinfhclaafhaaGreatDoorH30
import Derived.Shelf.Strings.BuilderK
import Derived.Test.YtkbinfhclaafhaaGreatDoorProg
import Derived.Test.YtkbinfhclaafhaaGreatDoorH31
namespace Go.Proofs.YtkbinfhclaafhaaGreatDoor
open Go.RowKit
open Go.Proofs.Tryz
set_option maxRecDepth 100000
set_option maxHeartbeats 32000000
section
attribute [local go_sem] Oper.semAt_some
theorem Tryz.aeS:(prog.info? 71).map (fun i=>(i.zero,i.size,i.bytes))=some (some (.slice none 0 0),1,24):=by kernel_rfl
theorem Rz(l:List Bool)(i:Nat)(h:i<=l.length):(jo (l.take i)).length=i:=by
 unfold jo;rw [List.length_map,List.length_take];omega
theorem abu(l:List Bool)(N:Nat):jo (l.take 0)++List.replicate (N - 0) (Value.bool false)=List.replicate N (Value.bool false):=by
 rw [List.take_zero,Nat.sub_zero];rfl
theorem abq(l:List Bool)(N i:Nat)(hl:l.length=N)(hi:i<N):(jo (l.take i)++List.replicate (N - i) (Value.bool false))[i]? =some (.bool false):=by
 have e1:=Rz l i (by omega);rw [List.getElem?_append_right (by omega),e1,Nat.sub_self,List.getElem?_replicate,if_pos (by omega)]
theorem abt(l:List Bool)(N i:Nat)(hl:l.length=N)(hi:i<N):(jo (l.take i)++List.replicate (N - i) (Value.bool false)).set i (.bool (l.getD i false))=jo (l.take (i+1))++List.replicate (N - (i+1)) (Value.bool false):=by
 have e1:=Rz l i (by omega);have e3:N - i=(N - (i+1))+1:=by omega
 have e4:l.take (i+1)=l.take i++[l.getD i false]:=by
  rw [List.take_add_one,List.getD_eq_getElem?_getD,List.getElem?_eq_getElem (by omega)];rfl
 rw [List.set_append_right _ _ (by omega),e1,Nat.sub_self,e3,List.replicate_succ,List.set_cons_zero,e4];unfold jo;rw [List.map_append,List.append_assoc];rfl
theorem Ub(s:ByteArray)(w:World)(aL aT aC:Addr)(hE:Env w aL aT aC)(hB:Br w)(hM:pQ w)(env:jl w)(h20:10<=w.heap.size):
  Calls prog 39 #[.string s] w fun e w'=>∃v ev,e= .returned (.tuple #[v,ev])/\uL w' w.heap.size ev (aZ s) aL aT aC/\((aZ s).1≠0->v= .slice none 0 0)/\((aZ s).1=0->w'.ownsRow w.heap.size 4 1 v (cB s).length (jo (cB s)))/\Below w.heap.size w w':=by
 refine(callsIn_wide (n:=0)).1 (callsIn_of_wp_marks func39 rfl trivial ?_ rfl);simp only [ntmps39,List.size_toArray,List.length_cons,List.length_nil,Nat.reduceAdd,Nat.reduceSub,Array.replicate_succ,Array.replicate_zero,List.push_toArray,List.append_toArray,List.nil_append,List.cons_append];refine(wpIn_wide (n:=0)).2 ?_;have HC:Hid _:=abT s w aL aT aC hE hM;have HE:Hid (Env w aL aT aC):=hE;have lG:Hid (Br w):=hB;have HM:Hid (pQ w):=hM;have HP:Hid (jl w):=env;clear hE hB hM env;go_wp2_with fail;refine Calls.mono HC.out ?_;clear HC;rintro ev W1 ⟨er,rfl,jV,hb1⟩;by_cases h0:(aZ s).1=0
 .obtain⟨hs6,hL0,_⟩:=look_ok h0;have he:er= .nilIface:=by
   rw [hL0]at jV;rcases jV with⟨_,h⟩|⟨h,_⟩|⟨b,e,ln,at',_,_,_,h,h'⟩
   .exact h
   .simp at h
   .simp at h;omega
  subst he;obtain⟨m,hm⟩:=HM.out.below hb1;have Bb:Hid _:=OU s m W1 (by omega) hm;have jQ:Hid ((aZ s).1=0):=h0;have Fu:Hid (uL W1 w.heap.size .nilIface (aZ s) aL aT aC):=jV;have HB1:Hid (Below w.heap.size w W1):=hb1;have hlen:=Ep s 0 0 (by omega);have hmk:=run_make_row' (P:=prog) 103 71 (.slice none 0 0) 24 underlying103 Tryz.aeS rfl .i64 .i64 (az s 0 0).length (by omega) (by omega);clear jV hb1 hm h0 hL0;go_wp2_with fail;refine Calls.mono Bb.out ?_;clear Bb;rintro ev W2 ⟨rfl,rfl⟩;go_wp2_with fail;refine(LD _ s).mono ?_;rintro ev W3 ⟨rfl,rfl⟩;go_wp2;obtain⟨N,hN⟩:∃N,N=(az s 0 0).length:=⟨_,rfl⟩
  rw [<-hN]at hlen ⊢;have HN:Hid (N=(az s 0 0).length):=hN;clear hmk hN;obtain⟨q0,q1,q2,q3⟩:=Bg W1 (.cells (dN (az s 0 0)).toArray 9) (.cells (madeCells #[.slice none 0 0] N) 71) (.cells #[.slice (some ⟨W1.heap.size+1,0,none⟩) N N] 103) (.cells #[.string s] 9);have hsz:((((W1.alloc (.cells (dN (az s 0 0)).toArray 9)).alloc (.cells (madeCells #[.slice none 0 0] N) 71)).alloc (.cells #[.slice (some ⟨W1.heap.size+1,0,none⟩) N N] 103)).alloc (.cells #[.string s] 9)).heap.size=W1.heap.size+4:=by simp
  have yI:Below w.heap.size w ((((W1.alloc (.cells (dN (az s 0 0)).toArray 9)).alloc (.cells (madeCells #[.slice none 0 0] N) 71)).alloc (.cells #[.slice (some ⟨W1.heap.size+1,0,none⟩) N N] 103)).alloc (.cells #[.string s] 9)):=by
   have h1:=HB1.out.size;exact(((HB1.out.alloc h1 _).alloc (by simp;omega) _).alloc (by simp;omega) _).alloc (by simp;omega) _
  have hz1:=HB1.out.size;generalize((((W1.alloc (.cells (dN (az s 0 0)).toArray 9)).alloc (.cells (madeCells #[.slice none 0 0] N) 71)).alloc (.cells #[.slice (some ⟨W1.heap.size+1,0,none⟩) N N] 103)).alloc (.cells #[.string s] 9))=W0 at*;generalize W1.heap.size=z at*;have vw:W0.cell? ⟨z+3,0,none⟩=some (.string s):=au q3 0;have hI0:SI (z+4) (z+2) (z+1) N [] W0:=by
   refine⟨q2,⟨_,q1,size_madeCells _ _,?_,?_⟩,by omega,by omega,by omega⟩
   .intro i rv hi;rw [<-Array.getElem?_toList,toList_madeCells_one]at hi;rw [List.getElem?_replicate]at hi;split at hi
    .obtain rfl:=Option.some.inj hi;exact World.ownsRow_nil _ _ _ _
    .cases hi
   .intro i j rv rv' _ hi _ k hk;rw [<-Array.getElem?_toList,toList_madeCells_one]at hi;rw [List.getElem?_replicate]at hi;split at hi
    .obtain rfl:=Option.some.inj hi;cases hk
    .cases hi
  have HW0:Hid (Below w.heap.size w W0):=yI;have DR:jl W0:=HP.out.below h20 yI;clear q1 q2 q3 yI;refine Ol (gf:=106) (lb:=#[.pointer (some ⟨z+3,0,none⟩)]) ?_ (Go.Proofs.enters_of func106 (by kernel_rfl) rfl) (n₀:=w.heap.size) (by omega) (NW W0 w.heap.size (z+3) s vw DR h20 (by omega)) (fun x=>rfl)
   M3 (fun W l o o' hl ho hc=>M0 (by omega) ho hc o') (fun A B h=>OD h)
   (fun pre W=>SI (z+4) (z+2) (z+1) N pre W/\W.heap[z]? =some (.cells (dN (az s 0 0)).toArray 9 (0,0))) (fun c pre W=>False)
   (fun pre A B h ha=>⟨h.1.jS ha,ha.block _ _ h.2 (fun c fr e=>by cases e)⟩) (fun c pre A B h ha=>h)
   (fun pre W l o o' hl ho hc h=>⟨h.1.put (by omega) ho hc o',(fC (by omega)).trans h.2⟩) (fun c pre W l o o' hl ho hc h=>h)
   ?h0 ?round ?done ?stop
  .rfl
  case h0=>exact fun o1 o2=>⟨(hI0.jS (rM W0 o1)).jS (rM _ o2),(rM _ o2).block _ _ ((rM W0 o1).block _ _ q0 (fun c fr e=>by cases e)) (fun c fr e=>by cases e)⟩
  case stop=>
   rintro D c pre W hD hbW hp h;exact h.elim
  case round=>
   rintro l pre ⟨xl,xk,xf,xt,xb,xe⟩ W hl ⟨LM,hln⟩ hx;simp only [Dy]
   gi_wp2
   refine⟨fun k o hk _=>(Below.heap_alloc W _ k (bJ hk)).trans hk,⟨(Below.refl _ _).alloc (by have:=LM.sz;omega) _,fun k _ _ hk=>(Below.heap_alloc W _ k (bJ hk)).trans hk⟩,?_⟩;intro o o' ho hoc;have hxm:(⟨xl,xk,xf,xt,xb,xe⟩:PR)∈dw s:=hx.subset (by simp);have hxl:xl<N:=by rw [HN.out];exact ahc hs6 hxm
   have hpl:pre.length<=600:=by
    have h1:=hx.length_le;have h2:=EK s;rw [List.length_append]at h1;omega
   have a1:=rM W (.cells #[.int .i64 xk,.int .i64 xf,.int .i64 xt,.int .i64 xb,.int .i64 xe] 75);have hS2:=(LM.jS a1).put (by omega) ho hoc o';have aeo:=(fC (o:=o') (show z≠l by omega)).trans (a1.block _ _ hln (fun c fr e=>by cases e));have hpt:((W.alloc (.cells #[.int .i64 xk,.int .i64 xf,.int .i64 xt,.int .i64 xb,.int .i64 xe] 75)).putObj l o').heap[W.heap.size]? =some (.cells #[.int .i64 xk,.int .i64 xf,.int .i64 xt,.int .i64 xb,.int .i64 xe] 75 (0,0)):=by
    rw [fC]
    .exact World.alloc_heap_new W _
    .rintro rfl;rw [World.alloc_heap_new]at ho;obtain rfl:=Option.some.inj ho;cases hoc
   clear LM hln a1 ho hoc;generalize(W.alloc (.cells #[.int .i64 xk,.int .i64 xf,.int .i64 xt,.int .i64 xb,.int .i64 xe] 75)).putObj l o'=W4 at*;generalize W.heap.size=pb at*;obtain⟨rows,r1,r2,r3,r4⟩:=hS2.rows;have jh:rows[xl]? =some rows[xl]:=Array.getElem?_eq_getElem (by omega);have hol:(gG pre xl).length<=600:=Nat.le_trans (XI _ _) hpl;refine wpIn_block ?_;refine aio l W4 (z+2) (z+1) pb N xl (z+4) _ rows _ _ ⟨xl,xk,xf,xt,xb,xe⟩ _ _ hS2.box r1 hxl jh hpt (r3 _ _ jh) (by omega) hS2.sz ?_ ?_ ?_ ?_ ?_
   .simp
   .rfl
   .rfl
   .rfl
   intro a' w8 v hA;have iQ:SI (z+4) (z+2) (z+1) N pre W4.drew:=⟨hS2.box,hS2.rows,hS2.sz,hS2.lb,hS2.lr⟩
   obtain⟨k1,k2⟩:=iQ.step (x:=⟨xl,xk,xf,xt,xb,xe⟩) (B0:=w.heap.size) r1 jh hA (by omega);have k3:Kb w.heap.size W4 W4.drew:=⟨(Below.refl _ _).drew,fun _ _ h _=>h⟩
   have k4:=k3.trans k2;exact⟨k4.same,k4.Ad,k1,k4.keep _ _ aeo (fun c t fr e=>by injection e with _ e2 _;subst e2;unfold Iq;decide)⟩
  case done=>
   rintro D W hD hbW ⟨hS,hln⟩ hK;have akj:=run_make_row' (P:=prog) 36 4 (.bool false) 1 underlying36 Tryz.aeN rfl .i64 .i64 N (by omega) (by omega);have HF:Hid (Below w.heap.size w W/\SI (z+4) (z+2) (z+1) N (dw s) W/\W.heap[z]? =some (.cells (dN (az s 0 0)).toArray 9 (0,0))/\W.heap[D]? =some (.deferred (some []))/\z+4<=D):=⟨HW0.out.trans hbW,hS,hln,hK,by omega⟩
   have HA:Hid ((W.alloc (.cells (madeCells #[.bool false] N) 4)).ownsRow W.heap.size 4 1 (.slice (some ⟨W.heap.size,0,none⟩) N N) N (jo ((cB s).take 0)++List.replicate (N - 0) (.bool false))):=by
    show World.ownsRow _ _ _ _ _ _ _;rw [abu];exact aK.made (Nat.le_refl _) (by omega)
   clear hbW hS hln hK vw hI0 DR q0 hsz;simp only;go_wp2;go_loopg [41] N (fun gk uo Wx=>∃i:Nat,i<=N/\gk=N - i/\uo= .int .i64 i/\Below W.heap.size W Wx/\Wx.ownsRow W.heap.size 4 1 (.slice (some ⟨W.heap.size,0,none⟩) N N) N (jo ((cB s).take i)++List.replicate (N - i) (.bool false)));case atStart=>exact⟨0,by omega,rfl,rfl,(Below.refl _ _).alloc (Nat.le_refl _) _,HA.out⟩
   case round=>
    rename World=>wa
    obtain⟨i,hi,rfl,rfl,hb,hown⟩:=hrel;have hbz:=hb.size;by_cases hlt:i<N
    .have hlt':(i:Int)<(N:Int):=by omega
     obtain⟨f1,f2,f3,f4,f5⟩:=HF.out;obtain⟨rows,r1,r2,r3,r4⟩:=f2.rows;have jh:rows[i]? =some rows[i]:=Array.getElem?_eq_getElem (by omega);have Vj:uS wa rows[i] (r9 s i):=(ag7 (r3 i _ jh)).below hb;have hcl:wa.cell? ⟨z,i,none⟩=some (.string ((az s 0 0).getD i ⟨#[]⟩)):=by
      rw [au (aR hb f3) i];have hil:i<(az s 0 0).length:=by rw [<-HN.out];exact hlt
      simp [dN,hil]
     have hcb:wa.cell? ⟨z+2,0,none⟩=some (.slice (some ⟨z+1,0,none⟩) N N):=au (aR hb f2.box) 0;have hcr:wa.cell? ⟨z+1,i,none⟩=some rows[i]:=(au (aR hb r1) i).trans jh;have hbw:Below w.heap.size w wa:=f1.trans (hb.mono f1.size);have HI:Hid _:=ae2 s jQ.out i (by rw [<-HN.out];exact hlt) rows[i] wa aL aT aC (HE.out.below hbw) (lG.out.below hbw) Vj;have vV:Hid (Below W.heap.size W wa):=hb;have HO:Hid _:=hown;clear f1 f2 f3 f4 f5 r1 r3 r4 Vj hbw hb hown jh;generalize rows[i]=rv at*;generalize(az s 0 0).getD i ⟨#[]⟩=ln at*;clear r2;go_wp2_with fail;refine Calls.mono HI.out ?_;clear HI;rintro ev W5 ⟨rfl,hb5⟩;have Ip:=own_below HO.out hb5;have hsl:(cB s).length=N:=by rw [HN.out];simp [cB]
     have c9:W5.cell? ⟨W.heap.size,i,none⟩=some (.bool false):=by
      rw [Ip.cellAt i (by omega)];exact abq _ _ _ hsl hlt
     have f9:W5.frozen? ⟨W.heap.size,i,none⟩=false:=Ip.frozenAt i;have HN5:Hid ((W5.setCell ⟨W.heap.size,i,none⟩ (.bool ((cB s).getD i false))).ownsRow W.heap.size 4 1 (.slice (some ⟨W.heap.size,0,none⟩) N N) N (jo ((cB s).take (i+1))++List.replicate (N - (i+1)) (.bool false))):=by
      have q:=(Ip.stored i (.bool ((cB s).getD i false))).1;rw [abt _ _ _ hsl hlt]at q;exact q
     have bW:Hid (Below W.heap.size W (W5.setCell ⟨W.heap.size,i,none⟩ (.bool ((cB s).getD i false)))):=(vV.out.trans (hb5.mono hbz)).setCell (Nat.le_refl _) _;clear Ip hb5 HO vV;generalize(cB s).getD i false=bo at*;go_wp2;go_roundg (N - (i+1));case measure=>omega
     case rel=>exact⟨i+1,by omega,rfl,by simp,bW.out,HN5.out⟩
    .have he:i=N:=by omega
     subst he;have hlt':¬(i:Int)<(i:Int):=by omega
     have vV:Hid (Below W.heap.size W wa):=hb;have HO:Hid _:=hown;clear hb hown;go_wp2;have hb:=vV.out;obtain⟨f1,f2,f3,f4,f5⟩:=HF.out;have hK:wa.heap[D]? =some (.deferred (some [])):=aR hb f4;refine⟨by simp,.inl ⟨_,_,rfl,run_takeDeferred hK,?_⟩⟩;refine⟨.tuple #[.slice (some ⟨W.heap.size,0,none⟩) i i,.nilIface],by simp [results,results39,go_sem],_,_,rfl,.inl ⟨(look_ok jQ.out).2.1,rfl⟩,fun h=>absurd jQ.out h,fun _=> ?_,?_⟩
     .have hsl:(cB s).length=i:=by rw [HN.out];simp [cB]
      have q:=HO.out;rw [Nat.sub_self,List.take_of_length_le (by omega)]at q;simp only [List.replicate_zero,List.append_nil]at q;rw [hsl];exact rZ (EH q f1.size) hK rfl _
     .exact Bo (f1.trans (hb.mono f1.size)) (by omega) _
 .have hne:er≠.nilIface:=by
   intro e;rcases jV with⟨h,_⟩|⟨h,h'⟩|⟨b,e',ln,at',h,_,_,h',_⟩
   .exact h0 (by rw [h])
   .rw [e]at h';unfold tQ at h';simp at h'
   .rw [e]at h;cases h
  obtain⟨T,u,rfl⟩:∃T u,er= .iface T u:=by
   rcases jV with⟨_,h⟩|⟨h,h'⟩|⟨b,e',ln,at',h,_,_,h',_⟩
   .exact absurd h hne
   .exact⟨_,_,h'⟩
   .exact⟨_,_,h⟩
  have Fu:Hid (uL W1 w.heap.size (.iface T u) (aZ s) aL aT aC):=jV;have HB1:Hid (Below w.heap.size w W1):=hb1;have HO:Hid (¬(aZ s).1=0):=h0;clear jV hb1 h0 hne;go_wp2;refine⟨.tuple #[.slice none 0 0,.iface T u],by simp [results,results39,go_sem],_,_,rfl,Fu.out,fun _=>rfl,fun h=>absurd h HO.out,HB1.out⟩
end
theorem agB(s:ByteArray)(p:Nat)(e:Ed):vH s p e=(decide ((p:Int)<=e.a)&&(decide (0<=e.c)&&decide (e.c<=(s.size:Int) - e.a))):=by
 unfold vH;rw [Bool.eq_iff_iff];simp only [Bool.and_eq_true,decide_eq_true_eq];omega
theorem afA(s:ByteArray)(p:Nat)(e:Ed)(w:World)(hs:s.size<=1000000000000000)(ha:e.a<=9223372036854775807):
  Calls prog 40 #[.agg #[.int .i64 e.a,.int .i64 e.c,.string e.n],.int .i64 p,.int .i64 s.size] w fun ev w'=>ev= .returned (.bool (vH s p e))/\Below w.heap.size w w':=by
 rw [agB];obtain⟨a,c,n⟩:=e;simp only at ha ⊢;generalize s.size=z at*;by_cases h1:(p:Int)<=a
 .have hw:wrap64 ((z:Int) - a)=(z:Int) - a:=IntWalk.wrap64_in _ (by omega);by_cases h2:0<=c
  .by_cases h3:c<=(z:Int) - a
   .have e1:(decide ((p:Int)<=a)&&(decide (0<=c)&&decide (c<=(z:Int) - a)))=true:=by simp [h1,h2,h3]
    rw [e1];clear e1;go_enter func40,ntmps40;go_wp2;go_ret;exact⟨rfl,(Below.refl _ _).alloc (Nat.le_refl _) _⟩
   .have e1:(decide ((p:Int)<=a)&&(decide (0<=c)&&decide (c<=(z:Int) - a)))=false:=by simp [h1,h2];omega
    have h3':decide (c<=(z:Int) - a)=false:=by simpa using h3
    rw [e1];clear e1;go_enter func40,ntmps40;go_wp2;go_ret;exact⟨rfl,(Below.refl _ _).alloc (Nat.le_refl _) _⟩
  .have e1:(decide ((p:Int)<=a)&&(decide (0<=c)&&decide (c<=(z:Int) - a)))=false:=by simp;omega
   have h2':decide (0<=c)=false:=by simpa using h2
   rw [e1];clear e1;go_enter func40,ntmps40;go_wp2;go_ret;exact⟨rfl,(Below.refl _ _).alloc (Nat.le_refl _) _⟩
 .have e1:(decide ((p:Int)<=a)&&(decide (0<=c)&&decide (c<=(z:Int) - a)))=false:=by simp [h1]
  have h1':decide ((p:Int)<=a)=false:=by simpa using h1
  rw [e1];clear e1;go_enter func40,ntmps40;go_wp2;go_ret;exact⟨rfl,(Below.refl _ _).alloc (Nat.le_refl _) _⟩
section
open Go.Shelf
def Tryz.M6:Go.Shelf.Ren:=⟨fun|166=>41|169=>42|240=>65|276=>111|n=>n,fun|70=>61|72=>64|37=>62|127=>107|75=>53|80=>70|164=>149|n=>n,fun|n=>n⟩
theorem Tryz.afl:Go.Proofs.Lays.n166 prog Tryz.M6:={
 mixed:=by kernel_rfl
 f166:=func41.trans (congrArg some (by kernel_rfl))
 f240:=func65.trans (congrArg some (by kernel_rfl))
 f276:=func111.trans (congrArg some (by kernel_rfl))
 t0:=underlying0,a0:=Tryz.isAgg0,z0:=Tryz.sizeOf0,v0:=Tryz.zeroValue0
 t3:=underlying3,a3:=Tryz.isAgg3,z3:=Tryz.sizeOf3,v3:=Tryz.zeroValue3
 t4:=underlying4,a4:=Tryz.isAgg4,z4:=Tryz.sizeOf4,v4:=Tryz.zeroValue4
 t9:=underlying9,a9:=Tryz.isAgg9,z9:=Tryz.sizeOf9,v9:=Tryz.zeroValue9
 t20:=underlying20,a20:=Tryz.isAgg20,z20:=Tryz.sizeOf20,v20:=Tryz.zeroValue20
 t37:=underlying62,a37:=Tryz.isAgg62,z37:=Tryz.sizeOf62,v37:=Tryz.zeroValue62
 t70:=underlying61,a70:=Tryz.isAgg61,z70:=Tryz.sizeOf61,v70:=Tryz.zeroValue61
 t72:=underlying64,a72:=Tryz.isAgg64,z72:=Tryz.sizeOf64,v72:=Tryz.zeroValue64
 t75:=underlying53,a75:=Tryz.isAgg53,z75:=Tryz.sizeOf53,v75:=Tryz.zeroValue53
 t164:=underlying149,a164:=Tryz.isAgg149,z164:=Tryz.sizeOf149,v164:=Tryz.zeroValue149}
theorem Tryz.afm:Go.Proofs.Lays.n169 prog Tryz.M6:={
 mixed:=by kernel_rfl
 f169:=func42.trans (congrArg some (by kernel_rfl))
 t0:=underlying0,a0:=Tryz.isAgg0,z0:=Tryz.sizeOf0,v0:=Tryz.zeroValue0
 t3:=underlying3,a3:=Tryz.isAgg3,z3:=Tryz.sizeOf3,v3:=Tryz.zeroValue3
 t9:=underlying9,a9:=Tryz.isAgg9,z9:=Tryz.sizeOf9,v9:=Tryz.zeroValue9
 t37:=underlying62,a37:=Tryz.isAgg62,z37:=Tryz.sizeOf62,v37:=Tryz.zeroValue62
 t70:=underlying61,a70:=Tryz.isAgg61,z70:=Tryz.sizeOf61,v70:=Tryz.zeroValue61
 t72:=underlying64,a72:=Tryz.isAgg64,z72:=Tryz.sizeOf64,v72:=Tryz.zeroValue64
 t127:=underlying107,a127:=Tryz.isAgg107,z127:=Tryz.sizeOf107,v127:=Tryz.zeroValue107}
end
section
open Go.RowKit Go.Shelf
theorem Tryz.afz:liesAt prog prog.depth 64 (2 / prog.cellsOf 64) 0 64 1=true:=by kernel_rfl
theorem Tryz.bx:Builder.Extra prog Tryz.M6 where
 sizeBuilder:=by kernel_rfl
 liesBuilder:=Tryz.afz
 t5:=underlying5
 a5:=Tryz.isAgg5
 z5:=Tryz.sizeOf5
 v5:=Tryz.zeroValue5
 infoByte:=by kernel_rfl
 cellsByte:=by kernel_rfl
 sizeByte:=by kernel_rfl
 neB5:=by decide
def mV(w:World)(B b:Nat)(l:List UInt8):Prop:=Lib.IsBuilderF 64 5 B b (Lib.byteCells l) w
theorem Ja(B b:Nat)(l:List UInt8)(s:ByteArray)(w:World)(h:mV w B b l)(hlen:l.length+s.size<=140737488355328)(hBw:B<=w.heap.size):
  Calls prog 41 #[.pointer (some ⟨b,0,none⟩),.string s] w fun e w'=>e= .returned (.tuple #[.int .i64 s.size,.nilIface])/\mV w' B b (l++s.data.toList)/\Below B w w'/\Lib.OthersKept 5 (some b) w w':=by
 have:=Any.Builder_WriteString_k Tryz.afl Tryz.bx B b (Lib.byteCells l) s w h (by rw [Lib.byteCells_length];exact hlen) hBw;refine Calls.mono this ?_;rintro e w' ⟨rfl,h1,h2,h3⟩;refine⟨rfl,?_,h2,h3⟩;have e:Lib.byteCells (l++s.data.toList)=Lib.byteCells l++Lib.strCells s:=by simp [Lib.byteCells,Lib.strCells]
 unfold mV;rw [e];exact .inr h1
theorem ZB(B b:Nat)(l:List UInt8)(w:World)(h:mV w B b l)(hBw:B<=w.heap.size):
  Calls prog 42 #[.pointer (some ⟨b,0,none⟩)] w fun e w'=>e= .returned (.string ⟨l.toArray⟩)/\Below B w w':=by
 have:=Any.Builder_String_any_k Tryz.afm Tryz.bx B b l w h hBw;refine Calls.mono this ?_;rintro e w' ⟨rfl,_,h2,_⟩;exact⟨rfl,h2⟩
end
section
open Go.RowKit Go.Shelf
theorem mV.below {w w':World}{B b:Nat}{l:List UInt8}(h:mV w B b l)(hb:Below w.heap.size w w'):mV w' B b l:=by
 have key:∀p,Lib.BuilderAtF 64 5 B b p (Lib.byteCells l) w->Lib.BuilderAtF 64 5 B b p (Lib.byteCells l) w':=by
  intro p h;have hlt:=h.lt;obtain⟨hB,v,hv,hown,hne⟩:=h;exact⟨hB,v,(hb.block b hlt).trans hv,hown.kept (row:=none) ⟨hb.os,hb.tape,hb.output,hb.size,fun k hk _=>hb.block k hk⟩ (Classical.em _),hne⟩
 exact h.elim (fun x=> .inl (key _ x)) (fun x=> .inr (key _ x))
theorem Rn(w:World):mV (w.alloc (.cells #[.pointer none,.slice none 0 0] 64)) w.heap.size w.heap.size []:=
 .inl ⟨Nat.le_refl _,.slice none 0 0,by show(w.heap.push _)[w.heap.size]? =_;simp,Go.World.ownsRowF_nil _ _ _ _,by simp [Value.ownBlock]⟩
theorem SG {w w':World}{b k:Nat}{a c:Int}{n:ByteArray}(h:w.heap[k]? =some (.cells #[.int .i64 a,.int .i64 c,.string n] 66 (0,0)))(hk:k≠b)(ho:Lib.OthersKept 5 (some b) w w'):w'.heap[k]? =some (.cells #[.int .i64 a,.int .i64 c,.string n] 66 (0,0)):=
 ho k _ h (fun e=>hk (Option.some.inj e)) (fun c fz e=>by simp at e)
theorem Gi {w:World}{k:Nat}{a c:Int}{n:ByteArray}(h:w.heap[k]? =some (.cells #[.int .i64 a,.int .i64 c,.string n] 66 (0,0))):w.cell? ⟨k,0,none⟩=some (.int .i64 a)/\w.cell? ⟨k,1,none⟩=some (.int .i64 c)/\w.cell? ⟨k,2,none⟩=some (.string n):=
 ⟨by rw [Lib.cell_of_heap h];rfl,by rw [Lib.cell_of_heap h];rfl,by rw [Lib.cell_of_heap h];rfl⟩
theorem FL(a b:ByteArray):(a++b).data.toList=a.data.toList++b.data.toList:=by simp
end
section
open Go.RowKit Go.Shelf
theorem adH(s:ByteArray)(es:List Ed)(b off m cap:Nat)(w:World)(hl:es.length=m)(hm:m<=1000000000000000)(hc:AQ w b off es)(hN:s.size+jB es<=140737488355328)(hA:∀e∈es,e.a<=9223372036854775807):
  Calls prog 24 #[.string s,.slice (some ⟨b,off,none⟩) m cap] w fun e w'=>e= .returned (.string ((es.foldl (kE s) (⟨#[]⟩,0)).1++s.extract (es.foldl (kE s) (⟨#[]⟩,0)).2 s.size))/\Below w.heap.size w w':=by
 have HC:Hid (AQ w b off es):=hc;have HL:Hid (es.length=m):=hl;have HA:Hid (∀e∈es,e.a<=9223372036854775807):=hA;have wu:Hid (mV (w.alloc (.cells #[.pointer none,.slice none 0 0] 64)) w.heap.size w.heap.size []):=Rn w;have HB1:Hid (Below w.heap.size w (w.alloc (.cells #[.pointer none,.slice none 0 0] 64))):=(Below.refl _ _).alloc (Nat.le_refl _) _;have hs:s.size<=1000000000000000:=by omega
 clear hc hl hA;go_enter func24,ntmps24;go_wp2;obtain⟨z,hz⟩:∃z,z=w.heap.size:=⟨_,rfl⟩
 go_loopg [6,11] m (fun gk pv iv W=>∃(k p:Nat)(t:ByteArray),k<=m/\gk=m - k/\pv= .int .i64 p/\iv= .int .i64 k/\p<=s.size/\t.size<=p+jB (es.take k)/\Below w.heap.size w W/\mV W w.heap.size w.heap.size t.data.toList/\w.heap.size<W.heap.size/\(es.take k).foldl (kE s) (⟨#[]⟩,0)=(t,p));case atStart=>exact⟨0,0,⟨#[]⟩,by omega,rfl,rfl,rfl,by omega,Nat.zero_le _,HB1.out,wu.out,by simp,rfl⟩
 case round=>
  obtain⟨k,p,t,hk,rfl,rfl,rfl,hp,ht,hB,hT,hzw,hE⟩:=hrel;have hsk:=ZH es k;by_cases hlt:k<m
  .have hke:k<es.length:=by rw [HL.out];exact hlt
   obtain⟨c0,c1,c2⟩:=(HC.out.below hB) k hke;have hE2:(es.take (k+1)).foldl (kE s) (⟨#[]⟩,0)=kE s (t,p) es[k]:=by
    rw [List.take_add_one,List.getElem?_eq_getElem hke,List.foldl_append,hE];rfl
   have hkm:(k:Int)<(m:Int):=by omega
   have hs2:jB (es.take (k+1))=jB (es.take k)+es[k].n.size:=by rw [List.take_add_one,List.getElem?_eq_getElem hke,ZF];simp [jB]
   have hs3:=ZH es (k+1);have GV:=HA.out es[k] (List.getElem_mem hke);generalize es[k]=e at*;have HE2:Hid (List.foldl (kE s) (⟨#[]⟩,0) (es.take (k+1))=kE s (t,p) e):=hE2;have Qg:Hid (∀W,Calls prog 40 #[.agg #[.int .i64 e.a,.int .i64 e.c,.string e.n],.int .i64 p,.int .i64 s.size] W fun ev w'=>ev= .returned (.bool (vH s p e))/\Below W.heap.size W w'):=fun W=>afA s p e W hs GV
   have HB:Hid (Below w.heap.size w wr):=hB;have HT:Hid (mV wr w.heap.size w.heap.size t.data.toList):=hT;have zl:Hid ((wr.alloc (.cells #[.int .i64 e.a,.int .i64 e.c,.string e.n] 66)).heap[wr.heap.size]? =some (.cells #[.int .i64 e.a,.int .i64 e.c,.string e.n] 66 (0,0))):=by show(wr.heap.push _)[wr.heap.size]? =_;simp
   obtain⟨k0,k1,k2⟩:=Gi zl.out;clear hE2 GV hE hB hT;have HB3:Hid (Below w.heap.size w (wr.alloc (.cells #[.int .i64 e.a,.int .i64 e.c,.string e.n] 66))):=HB.out.alloc HB.out.size _;have HT3:Hid (mV (wr.alloc (.cells #[.int .i64 e.a,.int .i64 e.c,.string e.n] 66)) w.heap.size w.heap.size t.data.toList):=HT.out.below ((Below.refl _ _).alloc (Nat.le_refl _) _);have VD:(wr.alloc (.cells #[.int .i64 e.a,.int .i64 e.c,.string e.n] 66)).heap.size=wr.heap.size+1:=by simp
   have C8:Hid ((wr.alloc (.cells #[.int .i64 e.a,.int .i64 e.c,.string e.n] 66)).heap.size=wr.heap.size+1):=VD;clear VD;by_cases hok:vH s p e=true
   .have vU:Hid (kE s (t,p) e=(t++s.extract p e.a.toNat++e.n,(e.a+e.c).toNat)):=by show kE s (t,p) e=_;unfold kE;rw [if_pos hok]
    have hok':=hok;unfold vH at hok';simp only [Bool.and_eq_true,decide_eq_true_eq]at hok';obtain⟨g1,g2,g3,g4⟩:=hok';obtain⟨ea,ec,en⟩:=e;simp only at*;obtain⟨na,rfl⟩:∃na:Nat,ea=na:=⟨ea.toNat,by omega⟩
    obtain⟨nc,rfl⟩:∃nc:Nat,ec=nc:=⟨ec.toNat,by omega⟩
    have e1:((na:Int)).toNat=na:=by omega
    have e2:((na:Int)+(nc:Int)).toNat=na+nc:=by omega
    rw [e1,e2]at vU;have hx:(s.extract p na).size=na - p:=by rw [ByteArray.size_extract];omega
    have HX:Hid ((s.extract p na).size=na - p):=hx;clear hx;go_wp2_with fail;refine(Qg.out _).mono ?_;rintro ev w4 ⟨rfl,hb4⟩;rw [hok];have JU:Hid (mV w4 w.heap.size w.heap.size t.data.toList):=HT3.out.below hb4;have Qb:Hid (w4.heap[wr.heap.size]? =some (.cells #[.int .i64 (na:Int),.int .i64 (nc:Int),.string en] 66 (0,0))):=(hb4.block _ (by rw [C8.out];omega)).trans zl.out;have dL:Hid (Below w.heap.size w w4):=HB3.out.trans (hb4.mono (by rw [C8.out];omega));obtain⟨k0,k1,k2⟩:=Gi Qb.out;have yO:=hb4.size;rw [C8.out]at yO;clear hb4;go_wp2_with fail;refine(Ja w.heap.size w.heap.size t.data.toList (s.extract p na) w4 JU.out ?_ ?_).mono ?_
    .show t.size+_<=_;rw [HX.out];omega
    .omega
    rintro ev w5 ⟨rfl,yG,jf,nI⟩;have C9:Hid _:=yG;have bW:Hid _:=dL.out.trans jf;have Qc:Hid (w5.heap[wr.heap.size]? =some (.cells #[.int .i64 (na:Int),.int .i64 (nc:Int),.string en] 66 (0,0))):=SG Qb.out (by omega) nI;obtain⟨k0,k1,k2⟩:=Gi Qc.out;have iR:w.heap.size<=w5.heap.size:=bW.out.size;clear yG jf nI;go_wp2_with fail;refine(Ja w.heap.size w.heap.size _ en w5 C9.out ?_ iR).mono ?_
    .rw [List.length_append];show t.size+(s.extract p na).size+_<=_;rw [HX.out];omega
    rintro ev w6 ⟨rfl,UC,nX,tZ⟩;have HT6:Hid _:=UC;have bO:Hid _:=bW.out.trans nX;have Qd:Hid (w6.heap[wr.heap.size]? =some (.cells #[.int .i64 (na:Int),.int .i64 (nc:Int),.string en] 66 (0,0))):=SG Qc.out (by omega) tZ;obtain⟨k0,k1,k2⟩:=Gi Qd.out;have akh:wr.heap.size<w6.heap.size:=by
     rcases Nat.lt_or_ge wr.heap.size w6.heap.size with h'|h'
     .exact h'
     .have:=Qd.out;simp [Array.getElem?_eq_none h']at this
    clear UC nX tZ;go_wp2;go_roundg (m - (k+1));case measure=>omega
    case rel=>
     refine⟨k+1,na+nc,t++s.extract p na++en,by omega,rfl,by go_num,by go_num,by omega,?_,bO.out,?_,by omega,HE2.out.trans vU.out⟩
     .rw [ByteArray.size_append,ByteArray.size_append,HX.out];omega
     .rw [FL,FL];exact HT6.out
   .have vU:Hid (kE s (t,p) e=(t,p)):=by show kE s (t,p) e=_;unfold kE;rw [if_neg hok]
    have hok':vH s p e=false:=by simpa using hok
    go_wp2_with fail;refine(Qg.out _).mono ?_;rintro ev w4 ⟨rfl,hb4⟩;rw [hok'];have JU:Hid (mV w4 w.heap.size w.heap.size t.data.toList):=HT3.out.below hb4;have dL:Hid (Below w.heap.size w w4):=HB3.out.trans (hb4.mono (by rw [C8.out];omega));have yO:=hb4.size;rw [C8.out]at yO;clear hb4;go_wp2;go_roundg (m - (k+1));case measure=>omega
    case rel=>exact⟨k+1,p,t,by omega,rfl,rfl,by go_num,hp,by omega,dL.out,JU.out,by omega,HE2.out.trans vU.out⟩
  .have e:es.take k=es:=List.take_of_length_le (by rw [HL.out];omega);rw [e]at hE ht;have HE:Hid (es.foldl (kE s) (⟨#[]⟩,0)=(t,p)):=hE;have HB:Hid (Below w.heap.size w wr):=hB;have HT:Hid (mV wr w.heap.size w.heap.size t.data.toList):=hT;have hkm:¬(k:Int)<(m:Int):=by omega
   have hpz:(p:Int)<=(s.size:Int):=by omega
   have hx:(s.extract p s.size).size=s.size - p:=by rw [ByteArray.size_extract];omega
   have htl:t.data.toList.length=t.size:=rfl;clear hE hB e hT;have HX:Hid ((s.extract p s.size).size=s.size - p):=hx;clear hx;go_wp2_with fail;refine(Ja w.heap.size w.heap.size t.data.toList (s.extract p s.size) wr HT.out ?_ HB.out.size).mono ?_
   .rw [HX.out,htl];omega
   rintro ev w5 ⟨rfl,yG,jf,_⟩;have C9:Hid _:=yG;have bW:Hid _:=HB.out.trans jf;clear yG jf;go_wp2_with fail;refine(ZB w.heap.size w.heap.size _ w5 C9.out bW.out.size).mono ?_;rintro ev w6 ⟨rfl,nX⟩;have bO:Hid _:=bW.out.trans nX;clear nX;have hr:(⟨(t.data.toList++(s.extract p s.size).data.toList).toArray⟩:ByteArray)=t++s.extract p s.size:=by rw [<-FL]
   obtain⟨r,hr2⟩:∃r,r=t++s.extract p s.size:=⟨_,rfl⟩
   have HR:Hid (r=t++s.extract p s.size):=hr2;rw [hr,<-hr2];clear hr hr2;go_wp2;go_ret;refine⟨?_,bO.out⟩;rw [HE.out,<-HR.out];rfl
end
def dA(s:ByteArray)(es:List Ed):ByteArray:=(es.foldl (kE s) (⟨#[]⟩,0)).1++s.extract (es.foldl (kE s) (⟨#[]⟩,0)).2 s.size
def dD(s:ByteArray)(Q:List Ed×Int×Int):Int×Int×Int:=if(aZ s).1≠0 then aZ s else if Q.2.2= -1 then(0,0,0)else(3,Q.2.1,Q.2.2)
theorem SK {w:World}{B n:Nat}{e:TypeId}{g cap:Nat}{es:List Ed}(h:w.ownsRow B e 3 (.slice (some ⟨g,0,none⟩) n cap) n (bS es)):AQ w g 0 es:=by
 have hc:=h.cells (g:=g) rfl;intro i hi;have hget:∀(es:List Ed)(i:Nat)(hi:i<es.length),(bS es)[i*3]? =some (.int .i64 es[i].a)/\(bS es)[i*3+1]? =some (.int .i64 es[i].c)/\(bS es)[i*3+2]? =some (.string es[i].n):=by
  intro es
  induction es with
  |nil=>intro i hi;simp at hi
  |cons e es ih=>
   intro i hi;cases i with
   |zero=>exact⟨rfl,rfl,rfl⟩
   |succ i=>
    obtain⟨a,b,c⟩:=ih i (by simpa using hi);have:bS (e::es)=[.int .i64 e.a,.int .i64 e.c,.string e.n]++bS es:=by simp [bS,Gh]
    rw [this,show(i+1)*3=i*3+3 by omega];exact⟨a,b,c⟩
 obtain⟨a,b,c⟩:=hget es i hi;have ad:∀j,(⟨g,0,none⟩:Addr).add j=⟨g,j,none⟩:=fun j=>by
  unfold Addr.add;split
  .rename_i h;subst h;rfl
  .simp
 have a':=hc _ _ a;have b':=hc _ _ b;have c':=hc _ _ c;rw [ad]at a' b' c';rw [Nat.zero_add];exact⟨a',b',c'⟩
theorem adG(s:ByteArray)(ao:Option Addr)(cap:Nat)(w:World)(hs:s.size<=140737488355328):
  Calls prog 24 #[.string s,.slice ao 0 cap] w fun e w'=>e= .returned (.string ((⟨#[]⟩:ByteArray)++s))/\Below w.heap.size w w':=by
 have wu:Hid (mV (w.alloc (.cells #[.pointer none,.slice none 0 0] 64)) w.heap.size w.heap.size []):=Rn w;have HB1:Hid (Below w.heap.size w (w.alloc (.cells #[.pointer none,.slice none 0 0] 64))):=(Below.refl _ _).alloc (Nat.le_refl _) _;have hx:s.extract 0 s.size=s:=by simp
 have HX:Hid (s.extract 0 s.size=s):=hx;have hr:(⟨(([]:List UInt8)++s.data.toList).toArray⟩:ByteArray)=(⟨#[]⟩:ByteArray)++s:=by rw [show([]:List UInt8)=(⟨#[]⟩:ByteArray).data.toList from rfl,<-FL]
 obtain⟨r,hr2⟩:∃r,r=(⟨#[]⟩:ByteArray)++s:=⟨_,rfl⟩
 rw [<-hr2]at hr ⊢;have HR:Hid _:=hr;clear hr hr2 hx;go_enter func24,ntmps24;go_wp2;refine wp_loop_rounds 1 ?_;rw [rounds_succ];go_wp2_with fail;try rw [HX.out]
 refine(Ja w.heap.size w.heap.size [] s _ wu.out (by simpa using hs) HB1.out.size).mono ?_;rintro ev w5 ⟨rfl,yG,jf,_⟩;have C9:Hid _:=yG;have bW:Hid _:=HB1.out.trans jf;clear yG jf;go_wp2_with fail;refine(ZB w.heap.size w.heap.size _ w5 C9.out bW.out.size).mono ?_;rintro ev w6 ⟨rfl,nX⟩;have bO:Hid _:=bW.out.trans nX;clear nX;rw [HR.out];go_wp2;go_ret;exact⟨rfl,bO.out⟩
theorem Ri(s:ByteArray)(es:List Ed)(v:Value)(B n:Nat)(w:World)(hn:n=es.length)(h:w.ownsRow B 66 3 v n (bS es))(hm:n<=1000000)(hN:s.size+jB es<=140737488355328)(hA:∀e∈es,e.a<=9223372036854775807):
  Calls prog 24 #[.string s,v] w fun e w'=>e= .returned (.string (dA s es))/\Below w.heap.size w w':=by
 rcases h.2 with⟨rfl,rfl⟩|⟨g,cap,cur,rfl,_⟩
 .have he:es=[]:=List.eq_nil_of_length_eq_zero hn.symm;subst he;have e:dA s []=(⟨#[]⟩:ByteArray)++s:=by
   unfold dA;rw [show s.extract (([]:List Ed).foldl (kE s) (⟨#[]⟩,0)).2 s.size=s by show s.extract 0 s.size=s;simp];rfl
  rw [e];exact adG s none 0 w (by omega)
 .exact adH s es g 0 n cap w hn.symm (by omega) (SK h) hN hA
theorem adS(s:ByteArray)(w:World)(aL aT aC:Addr)(hE:Env w aL aT aC)(hB:Br w)(hM:pQ w)(env:jl w)(h20:10<=w.heap.size)(Q:List Ed×Int×Int)
  (hn:(aZ s).1=0->Q.1.length<=1000000/\s.size+jB Q.1<=140737488355328/\∀e∈Q.1,e.a<=9223372036854775807)
  (hT:∀W v,(aZ s).1=0->Below w.heap.size w W->W.ownsRow w.heap.size 4 1 v (cB s).length (jo (cB s))->Calls prog 60 #[.string s,v] W fun e w'=>∃u ev,e= .returned (.tuple #[u,ev])/\(Q.2.2= -1->ev= .nilIface/\w'.ownsRow W.heap.size 66 3 u Q.1.length (bS Q.1))/\(Q.2.2≠ -1->u= .slice none 0 0/\∃b,ev= .iface 92 (.pointer (some ⟨b,0,none⟩))/\w'.heap[b]? =some (.cells #[.int .i64 Q.2.1,.int .i64 Q.2.2,tQ 3 aL aT aC] 96 (0,0))/\W.heap.size<=b)/\Below W.heap.size W w'):
  Calls prog 38 #[.string s] w fun e w'=>∃t v ev,e= .returned (.tuple #[.string t,v,ev])/\uL w' w.heap.size ev (dD s Q) aL aT aC/\((dD s Q).1≠0->t=⟨#[]⟩/\v= .slice none 0 0)/\((dD s Q).1=0->t=dA s Q.1/\w'.ownsRow w.heap.size 66 3 v Q.1.length (bS Q.1))/\Below w.heap.size w w':=by
 have HC:Hid _:=Ub s w aL aT aC hE hB hM env h20;have HT:Hid (∀W v,(aZ s).1=0->Below w.heap.size w W->W.ownsRow w.heap.size 4 1 v (cB s).length (jo (cB s))->Calls prog 60 #[.string s,v] W fun e w'=>∃u ev,e= .returned (.tuple #[u,ev])/\(Q.2.2= -1->ev= .nilIface/\w'.ownsRow W.heap.size 66 3 u Q.1.length (bS Q.1))/\(Q.2.2≠ -1->u= .slice none 0 0/\∃b,ev= .iface 92 (.pointer (some ⟨b,0,none⟩))/\w'.heap[b]? =some (.cells #[.int .i64 Q.2.1,.int .i64 Q.2.2,tQ 3 aL aT aC] 96 (0,0))/\W.heap.size<=b)/\Below W.heap.size W w'):=hT;have HN:Hid ((aZ s).1=0->Q.1.length<=1000000/\s.size+jB Q.1<=140737488355328/\∀e∈Q.1,e.a<=9223372036854775807):=hn;clear hE hB hM env hT hn h20;go_enter func38,ntmps38;go_wp2_with fail;refine Calls.mono HC.out ?_;clear HC;rintro ev W1 ⟨v,er,rfl,jV,hv1,hv2,hb1⟩;have HB1:Hid (Below w.heap.size w W1):=hb1;have hz1:=hb1.size;clear hb1;by_cases h0:(aZ s).1=0
 .have hL0:=(look_ok h0).2.1;have he:er= .nilIface:=by
   rw [hL0]at jV;rcases jV with⟨_,h⟩|⟨h,_⟩|⟨b,e,ln,at',_,_,_,h,h'⟩
   .exact h
   .simp at h
   .simp at h;omega
  subst he;have HD:=HT.out W1 v h0 HB1.out (hv2 h0);obtain⟨n1,n2,n3⟩:=HN.out h0;have hse:dD s Q=if Q.2.2= -1 then(0,0,0)else(3,Q.2.1,Q.2.2):=by unfold dD;rw [if_neg (fun h=>h h0)]
  have zo:Hid (dD s Q=if Q.2.2= -1 then(0,0,0)else(3,Q.2.1,Q.2.2)):=hse;clear jV hv1 hv2 h0 hL0 HT HN hse;go_wp2_with fail;refine HD.mono ?_;clear HD;rintro ev W2 ⟨u,er,rfl,hu1,hu2,hb2⟩;have HB2:Hid (Below w.heap.size w W2):=HB1.out.trans (hb2.mono hz1);clear hb2;by_cases hq:Q.2.2= -1
  .obtain⟨rfl,ho⟩:=hu1 hq;have HS:Hid (dD s Q=(0,0,0)):=by show _=_;rw [zo.out,if_pos hq]
   have HA:=Ri s Q.1 u W1.heap.size Q.1.length W2 rfl ho n1 n2 n3;have HO:Hid (W2.ownsRow w.heap.size 66 3 u Q.1.length (bS Q.1)):=EG ho hz1;clear hu1 hu2 hq ho zo;go_wp2_with fail;refine HA.mono ?_;rintro ev W3 ⟨rfl,hb3⟩;have HB3:Hid (Below w.heap.size w W3):=HB2.out.trans (hb3.mono HB2.out.size);have pK:Hid (W3.ownsRow w.heap.size 66 3 u Q.1.length (bS Q.1)):=qw HO.out hb3;clear hb3 HA;go_wp2;refine bodyPost_ret (v:= .tuple #[.string (dA s Q.1),u,.nilIface]) (by simp [results,results38,go_sem]) rfl ⟨_,_,_,rfl,?_,?_,?_,HB3.out⟩
   .rw [HS.out];exact .inl ⟨rfl,rfl⟩
   .rw [HS.out];intro h;exact absurd rfl h
   .intro _;exact⟨rfl,pK.out⟩
  .obtain⟨rfl,b,rfl,hbk,hbl⟩:=hu2 hq;have HS:Hid (dD s Q=(3,Q.2.1,Q.2.2)):=by show _=_;rw [zo.out,if_neg hq]
   have xQ:Hid (W2.heap[b]? =some (.cells #[.int .i64 Q.2.1,.int .i64 Q.2.2,tQ 3 aL aT aC] 96 (0,0))/\w.heap.size<=b):=⟨hbk,by omega⟩
   clear hu1 hu2 hq hbk hbl zo;go_wp2;refine bodyPost_ret (v:= .tuple #[.string ⟨#[]⟩,.slice none 0 0,.iface 92 (.pointer (some ⟨b,0,none⟩))]) (by simp [results,results38,go_sem]) rfl ⟨_,_,_,rfl,?_,?_,?_,HB2.out⟩
   .rw [HS.out];exact .inr (.inr ⟨b,3,_,_,rfl,xQ.out.1,xQ.out.2,rfl,by omega⟩)
   .intro _;exact⟨rfl,rfl⟩
   .rw [HS.out];intro h;simp at h
 .have hse:dD s Q=aZ s:=by unfold dD;rw [if_pos h0]
  have HS:Hid (dD s Q=aZ s):=hse;have Fu:Hid (uL W1 w.heap.size er (aZ s) aL aT aC):=jV;have H0:Hid (¬(aZ s).1=0):=h0;have hne:∃x y,er= .iface x y:=by
   rcases jV with⟨h,_⟩|⟨_,h⟩|⟨b,e,ln,at',h,_⟩
   .rw [h]at h0;exact absurd rfl h0
   .exact⟨_,_,h⟩
   .exact⟨_,_,h⟩
  obtain⟨x,y,rfl⟩:=hne;clear jV hv1 hv2 h0 hse HT HN;go_wp2;refine bodyPost_ret (v:= .tuple #[.string ⟨#[]⟩,.slice none 0 0,.iface x y]) (by simp [results,results38,go_sem]) rfl ⟨_,_,_,rfl,?_,?_,?_,HB1.out⟩
  .rw [HS.out];exact Fu.out
  .intro _;exact⟨rfl,rfl⟩
  .rw [HS.out];intro h;exact absurd h H0.out
