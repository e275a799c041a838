import Derived.Test.YtkbinfhclaafhaaGreatDoorH22
import Derived.Deep.LoopGhost
import Derived.Test.YtkbinfhclaafhaaGreatDoorH01
namespace Go.Proofs.YtkbinfhclaafhaaGreatDoor
open Go.RowKit
open Go.Proofs.Tryz
set_option maxRecDepth 100000
set_option maxHeartbeats 32000000
theorem Sk(w:World)(rb:Nat)(s:ByteArray)(l n₀:Nat)(J Jx:List PR->World->Prop)(X:List PR)(T:Tl l n₀ J Jx X)(hn:n₀<=rb)(p:RP)(st:Bool)(pre:List PR)(h:Rs w rb s l J Jx X p st pre)(k t:Nat)(hk:k<=2)(ht:t<=2)
  (h1:p.start<=p.from_) (h2:p.start<=p.body) (h3:p.start<=p.at_) (h4:p.at_<=100000) (h5:p.from_<=100000) (h6:p.body<=100000) (hX:st=false->(pre++aW k t p)<+:X):
  Calls prog 179 #[.pointer (some ⟨rb,0,none⟩),.int .i64 k,.int .i64 t] w fun e w'=>(∃v,e= .returned v)/\Below n₀ w w'/\∃st',(st=true->st'=true)/\Rs w' rb s l J Jx X (dX t p st) st' (pre++aW k t p):=by
 obtain⟨ln,sa,fr,bo,ja⟩:=p;simp only at h1 h2 h3 h4 h5 h6;have hlt:=h.rd.lt;have c6:=h.rd.c6;have f6:=h.rd.fz 6;simp only at c6;obtain⟨aM,ha1⟩:∃aM,aM=ja+t:=⟨_,rfl⟩
 have HA:Hid (aM=ja+t):=ha1;have HH:Hid (Rs w rb s l J Jx X ⟨ln,sa,fr,bo,ja⟩ st pre):=h;have hs1:=h.rd.s6 aM;have hg1:w.grownBy (w.setCell ⟨rb,6,none⟩ (.int .i64 aM)) (some rb):=jU (kZ _ _);have wT:Rs (w.setCell ⟨rb,6,none⟩ (.int .i64 aM)) rb s l J Jx X ⟨ln,sa,fr,bo,aM⟩ st pre:=h.grown T hg1 hs1;have hb1:Below n₀ w (w.setCell ⟨rb,6,none⟩ (.int .i64 aM)):=Below.yT hg1 hn (by omega);have e0:((ja:Int)+(t:Int))=(aM:Int):=by omega
 cases st with
 |true=>
  have HF:Hid (Below n₀ w (w.setCell ⟨rb,6,none⟩ (.int .i64 aM))/\Rs (w.setCell ⟨rb,6,none⟩ (.int .i64 aM)) rb s l J Jx X ⟨ln,sa,fr,bo,aM⟩ true pre):=⟨hb1,wT⟩
  have c7:=hs1.c7;have hcs:dX t ⟨ln,sa,fr,bo,ja⟩ true=⟨ln,sa,fr,bo,aM⟩:=by rw [dX,if_pos rfl,ha1]
  rw [hcs];clear hcs h hs1 hg1 wT hb1 ha1 hX;go_enter func179,ntmps179;go_wp2;go_quiet(fail);go_wp2;refine bodyPost_ret (results_none rfl _ _ _) rfl ?_;refine⟨⟨_,rfl⟩,below_drewN HF.out.1 _,true,fun _=>rfl,⟨HF.out.2.rd.drewN _,(fun e=>by cases e),fun _=> ?_⟩⟩;obtain⟨q,hq,hx⟩:=HF.out.2.no rfl;exact⟨q,hq,T.hJx _ _ _ hx (iY.Aj HF.out.2.rd (yC (kZ _ _)))⟩
 |false=>
  have HF:Hid (Below n₀ w (w.setCell ⟨rb,6,none⟩ (.int .i64 aM))/\Rs (w.setCell ⟨rb,6,none⟩ (.int .i64 aM)) rb s l J Jx X ⟨ln,sa,fr,bo,aM⟩ false pre):=⟨hb1,wT⟩
  have c7:=hs1.c7;have c4:=hs1.c4;have Dr:=hs1.c6;simp only at c4 Dr;by_cases hfr:fr=aM
  .have hcs:dX t ⟨ln,sa,fr,bo,ja⟩ false=⟨ln,sa,fr,bo,aM⟩:=by rw [dX,if_neg (by decide),bq,if_pos (by rw [<-ha1];exact hfr),ha1]
   have hem:aW k t ⟨ln,sa,fr,bo,ja⟩=[]:=by rw [aW,if_pos (by rw [<-ha1];exact hfr)]
   rw [hcs,hem,List.append_nil];have aei:((fr:Int)==(aM:Int))=true:=by simp [hfr]
   clear hcs hem h hs1 hg1 wT hb1 ha1 hX hfr;go_enter func179,ntmps179;go_wp2;go_quiet(fail);go_wp2;refine bodyPost_ret (results_none rfl _ _ _) rfl ?_;exact⟨⟨_,rfl⟩,below_drewN HF.out.1 _,false,fun e=>e,HF.out.2.grown T (yC (kZ _ _)) (HF.out.2.rd.drewN _)⟩
  .have hcs:dX t ⟨ln,sa,fr,bo,ja⟩ false=⟨ln,sa,aM,aM,aM⟩:=by rw [dX,if_neg (by decide),bq,if_neg (by rw [<-ha1];exact hfr),ha1]
   have aei:((fr:Int)==(aM:Int))=false:=by simp;omega
   have c3:=hs1.c3;obtain⟨F,hF⟩:∃F,fr - sa=F:=⟨_,rfl⟩
   obtain⟨G,hG⟩:∃G,ja+t - sa=G:=⟨_,rfl⟩
   have eF:(fr:Int) - (sa:Int)=(F:Int):=by omega
   have eG:(aM:Int) - (sa:Int)=(G:Int):=by omega
   by_cases hk0:k=0
   .subst hk0;have hem:aW 0 t ⟨ln,sa,fr,bo,ja⟩=[⟨ln,0,F,G,0,0⟩]:=by rw [aW,if_neg (by rw [<-ha1];exact hfr),hF,hG,if_pos rfl,if_pos rfl]
    have mF:=hX rfl;rw [hem]at mF;rw [hcs,hem];have HX:Hid ((pre++[(⟨ln,0,F,G,0,0⟩:PR)])<+:X):=mF;clear hcs hem h hs1 hg1 wT hb1 ha1 hX mF hfr hF hG;go_enter func179,ntmps179;go_wp2;go_quiet(fail);go_wp2;obtain⟨W2,hW2⟩:∃W2,W2=(w.setCell ⟨rb,6,none⟩ (.int .i64 aM)).drewN nq:=⟨_,rfl⟩
    have gP:Hid (Below n₀ w W2/\Rs W2 rb s l J Jx X ⟨ln,sa,fr,bo,aM⟩ false pre):=by
     rw [hW2];exact⟨below_drewN HF.out.1 _,HF.out.2.grown T (yC (kZ _ _)) (HF.out.2.rd.drewN _)⟩
    rw [<-hW2];clear hW2 HF c7 c4 Dr c3 c6 f6;have hz:rb<W2.heap.size:=gP.out.2.rd.lt;have c3:=gP.out.2.rd.c3;have c4:=gP.out.2.rd.c4;have c6:=gP.out.2.rd.c6;simp only at c3 c4 c6;have z3:(W2.alloc (.cells #[.int .i64 0,.int .i64 0,.int .i64 0,.int .i64 0,.int .i64 0] 75)).cell? ⟨rb,3,none⟩=some (.int .i64 sa):=(oN _ _ _ hz).trans c3;have z4:(W2.alloc (.cells #[.int .i64 0,.int .i64 0,.int .i64 0,.int .i64 0,.int .i64 0] 75)).cell? ⟨rb,4,none⟩=some (.int .i64 fr):=(oN _ _ _ hz).trans c4;have z6:(W2.alloc (.cells #[.int .i64 0,.int .i64 0,.int .i64 0,.int .i64 0,.int .i64 0] 75)).cell? ⟨rb,6,none⟩=some (.int .i64 aM):=(oN _ _ _ hz).trans c6;go_region;all_goals
     go_wp2;obtain⟨W3,hW3⟩:∃W3,W3=(W2.alloc (.cells #[.int .i64 0,.int .i64 F,.int .i64 G,.int .i64 0,.int .i64 0] 75)).drew:=⟨_,rfl⟩
     have HP:Hid (W3.heap[W2.heap.size]? =some (.cells #[.int .i64 0,.int .i64 F,.int .i64 G,.int .i64 0,.int .i64 0] 75 (0,0))):=by
      rw [hW3];exact World.alloc_heap_new W2 _
     have hg3:W2.grownBy W3 (some rb):=by rw [hW3];exact yB (TY (kZ _ _) _)
     have rA:Hid (Below n₀ w W3/\Rs W3 rb s l J Jx X ⟨ln,sa,fr,bo,aM⟩ false pre):=by
      refine⟨gP.out.1.trans (Below.yT hg3 hn (by omega)),gP.out.2.grown T hg3 ?_⟩;rw [hW3];exact(Below.heap_alloc _ _ _ hz).trans gP.out.2.rd
     rw [<-hW3];clear hW3 hg3 z3 z4 z6 c3 c4 c6 hz gP;generalize W2.heap.size=pb at*;refine Sd w rb pb s l n₀ J Jx X T hn ⟨ln,sa,fr,bo,aM⟩ pre 0 F G 0 0 W3 HP.out rA.out.1 rA.out.2 HX.out _ _ _ _ _ _ _ _ _ _ _ _ _ _ _ _ _ _ _ _ _ _ _ _ _ _ _ _ _ _ _ _ _ _ _ _ _ _ _ _ _ _ _ _ _ _ _ _ _ _ _ _ _ _ _ _ _ _ _ _ _ _ _ _ _ _ _ _ _ _ _ _ _ _ _ _ _ _ _ _ _ _ _ _ _ _ _ _ _ _ _ _ _ _ _ _ _ _ _ _ _ _ ?_;clear HP rA;intro b W5 v74 v75 v76 v77 v78 v79 v80 v81 v82 v83 v84 v85 v86 v87 k1 k2 k3 k4;have H5:Hid (Below n₀ w W5/\Rd W5 rb s (.func (.yield l) #[] #[]) ⟨ln,sa,fr,bo,aM⟩ (!b)/\(b=true->J (pre++[⟨ln,0,F,G,0,0⟩]) W5)/\(b=false->Jx (pre++[⟨ln,0,F,G,0,0⟩]) W5)):=⟨k1,k2,k3,k4⟩
     have c4:=k2.c4;have c5:=k2.c5;have c6:=k2.c6;have f4:=k2.fz 4;have f5:=k2.fz 5;simp only at c4 c5 c6;clear k1 k2 k3 k4;go_wp2;go_region;all_goals
      go_wp2;go_end0;have key:∀W6,W5.grownBy W6 (some rb)->Rd W6 rb s (.func (.yield l) #[] #[]) ⟨ln,sa,aM,aM,aM⟩ (!b)->(∃v,Ending.returned (Value.tuple #[])=Ending.returned v)/\Below n₀ w W6/\∃st',(false=true->st'=true)/\Rs W6 rb s l J Jx X ⟨ln,sa,aM,aM,aM⟩ st' (pre++[⟨ln,0,F,G,0,0⟩]):=fun W6 hg hr=>by
       obtain⟨k1,k2,k3,k4⟩:=H5.out;have ka:=iY.Aj k2 hg;refine⟨⟨_,rfl⟩,k1.trans (Below.yT hg hn (by have:=k2.lt;omega)),!b,(fun e=>by cases e),hr,fun e=>T.hJ _ _ _ (k3 (by simpa using e)) ka,fun e=>⟨_,HX.out,T.hJx _ _ _ (k4 (by simpa using e)) ka⟩⟩
      first
       |exact key _ (yB (jU (jU (kZ _ _)))) ((H5.out.2.1.s4 aM).s5 aM)
       |exact key _ (yB (jU (jU (kZ _ _)))) ((H5.out.2.1.s5 aM).s4 aM)
   .have hk1:((k:Int)==0)=false:=by simp;omega
    obtain⟨B,hB⟩:∃B,bo - sa=B:=⟨_,rfl⟩
    obtain⟨D,hD⟩:∃D,ja - sa=D:=⟨_,rfl⟩
    have eB:(bo:Int) - (sa:Int)=(B:Int):=by omega
    have eD:(ja:Int) - (sa:Int)=(D:Int):=by omega
    have hem:aW k t ⟨ln,sa,fr,bo,ja⟩=[⟨ln,k,F,G,B,D⟩]:=by rw [aW,if_neg (by rw [<-ha1];exact hfr),hF,hG,if_neg hk0,if_neg hk0,hB,hD]
    have mF:=hX rfl;rw [hem]at mF;rw [hcs,hem];have HX:Hid ((pre++[(⟨ln,k,F,G,B,D⟩:PR)])<+:X):=mF;clear hcs hem h hs1 hg1 wT hb1 ha1 hX mF hfr hF hG hB hD hk0;go_enter func179,ntmps179;go_wp2;go_quiet(fail);go_wp2;obtain⟨W2,hW2⟩:∃W2,W2=(w.setCell ⟨rb,6,none⟩ (.int .i64 aM)).drewN nq:=⟨_,rfl⟩
    have gP:Hid (Below n₀ w W2/\Rs W2 rb s l J Jx X ⟨ln,sa,fr,bo,aM⟩ false pre):=by
     rw [hW2];exact⟨below_drewN HF.out.1 _,HF.out.2.grown T (yC (kZ _ _)) (HF.out.2.rd.drewN _)⟩
    rw [<-hW2];clear hW2 HF c7 c4 Dr c3 c6 f6;have hz:rb<W2.heap.size:=gP.out.2.rd.lt;have c3:=gP.out.2.rd.c3;have c4:=gP.out.2.rd.c4;have c6:=gP.out.2.rd.c6;simp only at c3 c4 c6;have z3:(W2.alloc (.cells #[.int .i64 0,.int .i64 0,.int .i64 0,.int .i64 0,.int .i64 0] 75)).cell? ⟨rb,3,none⟩=some (.int .i64 sa):=(oN _ _ _ hz).trans c3;have z4:(W2.alloc (.cells #[.int .i64 0,.int .i64 0,.int .i64 0,.int .i64 0,.int .i64 0] 75)).cell? ⟨rb,4,none⟩=some (.int .i64 fr):=(oN _ _ _ hz).trans c4;have z6:(W2.alloc (.cells #[.int .i64 0,.int .i64 0,.int .i64 0,.int .i64 0,.int .i64 0] 75)).cell? ⟨rb,6,none⟩=some (.int .i64 aM):=(oN _ _ _ hz).trans c6;go_region;all_goals
     go_wp2;obtain⟨W7,vo⟩:∃W7,W7=(W2.alloc (.cells #[.int .i64 k,.int .i64 F,.int .i64 G,.int .i64 0,.int .i64 0] 75)).drew:=⟨_,rfl⟩
     have pM:Hid (W7.heap[W2.heap.size]? =some (.cells #[.int .i64 k,.int .i64 F,.int .i64 G,.int .i64 0,.int .i64 0] 75 (0,0))):=by
      rw [vo];exact World.alloc_heap_new W2 _
     have fB:W2.grownBy W7 (some rb):=by rw [vo];exact yB (TY (kZ _ _) _)
     have wh:Hid (n₀<=W2.heap.size/\W2.heap.size≠rb):=⟨by omega,by omega⟩
     have zh:Hid (Below n₀ w W7/\Rs W7 rb s l J Jx X ⟨ln,sa,fr,bo,aM⟩ false pre):=by
      refine⟨gP.out.1.trans (Below.yT fB hn (by omega)),gP.out.2.grown T fB ?_⟩;rw [vo];exact(Below.heap_alloc _ _ _ hz).trans gP.out.2.rd
     have Pz:Hid (∀W8,W7.grownBy W8 (some W2.heap.size)->iY W2 W8):=fun W8 jg=>by
      have a1:=iY.Aj gP.out.2.rd fB;exact⟨jg.os.trans a1.os,jg.tape.trans a1.tape,jg.output.trans a1.output,Nat.le_trans a1.size jg.size,fun i o hi ho=>(jg.block i (Nat.lt_of_lt_of_le (bJ hi) a1.size) (fun e=>by have:=bJ hi;have:=Option.some.inj e;omega)).trans (a1.block i o hi ho)⟩
     rw [<-vo];clear vo fB z3 z4 z6 c3 c4 c6 hz;generalize W2.heap.size=pb at*;have c3:=zh.out.2.rd.c3;have c5:=zh.out.2.rd.c5;simp only at c3 c5;have q3:W7.cell? ⟨pb,3,none⟩=some (.int .i64 0):=au pM.out 3;have q4:W7.cell? ⟨pb,4,none⟩=some (.int .i64 0):=au pM.out 4;have g3:=bX pM.out 3;have g4:=bX pM.out 4;have hnp:pb≠rb:=wh.out.2;go_region;all_goals
      go_wp2;obtain⟨W3,hW3⟩:∃W3,W3=((W7.setCell ⟨pb,3,none⟩ (.int .i64 B)).setCell ⟨pb,4,none⟩ (.int .i64 D)).drew:=⟨_,rfl⟩
      have hg3:W7.grownBy W3 (some pb):=by rw [hW3];exact yB (jU (jU (kZ _ _)))
      have HP:Hid (W3.heap[pb]? =some (.cells #[.int .i64 k,.int .i64 F,.int .i64 G,.int .i64 B,.int .i64 D] 75 (0,0))):=by
       rw [hW3];show((W7.setCell ⟨pb,3,none⟩ (.int .i64 B)).setCell ⟨pb,4,none⟩ (.int .i64 D)).heap[pb]? =_;rw [Joins.block_setCell (Joins.block_setCell pM.out _)];rfl
      have rA:Hid (Below n₀ w W3/\Rs W3 rb s l J Jx X ⟨ln,sa,fr,bo,aM⟩ false pre):=by
       refine⟨zh.out.1.trans (Below.yT hg3 wh.out.1 (by have:=bJ pM.out;have:=wh.out.1;omega)),gP.out.2.jS T (Pz.out W3 hg3) (zh.out.2.rd.other hg3 (fun e=>hnp (Option.some.inj e).symm))⟩
      rw [<-hW3];clear hW3 hg3 pM zh Pz gP wh hnp q3 q4 g3 g4 c3 c5;refine Sd w rb pb s l n₀ J Jx X T hn ⟨ln,sa,fr,bo,aM⟩ pre k F G B D W3 HP.out rA.out.1 rA.out.2 HX.out _ _ _ _ _ _ _ _ _ _ _ _ _ _ _ _ _ _ _ _ _ _ _ _ _ _ _ _ _ _ _ _ _ _ _ _ _ _ _ _ _ _ _ _ _ _ _ _ _ _ _ _ _ _ _ _ _ _ _ _ _ _ _ _ _ _ _ _ _ _ _ _ _ _ _ _ _ _ _ _ _ _ _ _ _ _ _ _ _ _ _ _ _ _ _ _ _ _ _ _ _ _ ?_;clear HP rA;intro b W5 v74 v75 v76 v77 v78 v79 v80 v81 v82 v83 v84 v85 v86 v87 k1 k2 k3 k4;have H5:Hid (Below n₀ w W5/\Rd W5 rb s (.func (.yield l) #[] #[]) ⟨ln,sa,fr,bo,aM⟩ (!b)/\(b=true->J (pre++[⟨ln,k,F,G,B,D⟩]) W5)/\(b=false->Jx (pre++[⟨ln,k,F,G,B,D⟩]) W5)):=⟨k1,k2,k3,k4⟩
      have c4:=k2.c4;have c5:=k2.c5;have c6:=k2.c6;have f4:=k2.fz 4;have f5:=k2.fz 5;simp only at c4 c5 c6;clear k1 k2 k3 k4;go_wp2;go_region;all_goals
       go_wp2;go_end0;have key:∀W6,W5.grownBy W6 (some rb)->Rd W6 rb s (.func (.yield l) #[] #[]) ⟨ln,sa,aM,aM,aM⟩ (!b)->(∃v,Ending.returned (Value.tuple #[])=Ending.returned v)/\Below n₀ w W6/\∃st',(false=true->st'=true)/\Rs W6 rb s l J Jx X ⟨ln,sa,aM,aM,aM⟩ st' (pre++[⟨ln,k,F,G,B,D⟩]):=fun W6 hg hr=>by
        obtain⟨k1,k2,k3,k4⟩:=H5.out;have ka:=iY.Aj k2 hg;refine⟨⟨_,rfl⟩,k1.trans (Below.yT hg hn (by have:=k2.lt;omega)),!b,(fun e=>by cases e),hr,fun e=>T.hJ _ _ _ (k3 (by simpa using e)) ka,fun e=>⟨_,HX.out,T.hJx _ _ _ (k4 (by simpa using e)) ka⟩⟩
       first
        |exact key _ (yB (jU (jU (kZ _ _)))) ((H5.out.2.1.s4 aM).s5 aM)
        |exact key _ (yB (jU (jU (kZ _ _)))) ((H5.out.2.1.s5 aM).s4 aM)
def bF(hd:Nat)(p:RP)(st:Bool):RP:=⟨(dX 0 p st).line,(dX 0 p st).start,(dX 0 p st).from_,(dX 0 p st).at_+hd,(dX 0 p st).at_+hd⟩
structure nT(s:ByteArray)(p:RP):Prop where
 a:p.start<=p.from_
 b:p.from_<=p.at_
 c:p.start<=p.body
 d:p.body<=s.size
 e:p.at_<=s.size
 f:p.line<=p.at_
section
variable{s:ByteArray}{p:RP}{st:Bool}{t:Nat}
theorem Dw:(dX t p st).at_=p.at_+t:=by unfold dX bq;split;rfl;split<;>rfl
theorem Sj:(dX t p st).line=p.line:=by unfold dX bq;split;rfl;split<;>rfl
theorem nT.cut(h:nT s p)(ht:p.at_+t<=s.size):nT s (dX t p st):=by
 obtain⟨a,b,c,d,e,f⟩:=h;unfold dX bq;split
 .constructor<;>simp only<;>omega
 .split
  .constructor<;>simp only<;>omega
  .constructor<;>simp only<;>omega
theorem nT.feed(h:nT s p)(ht:p.at_+1<=s.size):nT s (jq p):=by
 obtain⟨a,b,c,d,e,f⟩:=h;unfold jq;constructor<;>simp only<;>omega
theorem nT.to(h:nT s p){j:Nat}(hj:p.at_<=j)(hs:j<=s.size):nT s ⟨p.line,p.start,p.from_,p.body,j⟩:=by
 obtain⟨a,b,c,d,e,f⟩:=h;constructor<;>simp only<;>omega
theorem nT.open(h:nT s p){hd:Nat}(ht:p.at_+hd<=s.size):nT s (bF hd p st):=by
 have h':=h.cut (t:=0) (st:=st) (by omega);obtain⟨a,b,c,d,e,f⟩:=h';have h1:(dX 0 p st).at_=p.at_+0:=Dw;unfold bF;constructor<;>simp only<;>omega
theorem Ez {hd:Nat}:(bF hd p st).at_=p.at_+hd:=by show(dX 0 p st).at_+hd=_;rw [Dw];omega
end
theorem agG(w:World)(rb:Nat)(s:ByteArray)(l n₀:Nat)(J Jx:List PR->World->Prop)(X:List PR)(T:Tl l n₀ J Jx X)(hn:n₀<=rb)(p:RP)(st:Bool)(pre:List PR)(h:Rs w rb s l J Jx X p st pre)(hd:Nat)(hd2:hd<=2)
  (hp:nT s p) (hs:s.size<=1000) (hX:st=false->(pre++aW 0 0 p)<+:X):
  Calls prog 181 #[.pointer (some ⟨rb,0,none⟩),.int .i64 hd] w fun e w'=>(∃v,e= .returned v)/\Below n₀ w w'/\∃st',(st=true->st'=true)/\Rs w' rb s l J Jx X (bF hd p st) st' (pre++aW 0 0 p):=by
 have HC:=Sk w rb s l n₀ J Jx X T hn p st pre h 0 0 (by omega) (by omega) hp.a hp.c (by have:=hp.a;have:=hp.b;omega) (by have:=hp.e;omega) (by have:=hp.b;have:=hp.e;omega) (by have:=hp.d;omega) hX;have HQ:=hp.cut (t:=0) (st:=st) (by have:=hp.e;omega);have HA:(dX 0 p st).at_=p.at_:=Dw;unfold bF;generalize dX 0 p st=q at*;generalize aW 0 0 p=em at*;have HC':Hid (Calls prog 179 #[.pointer (some ⟨rb,0,none⟩),.int .i64 0,.int .i64 0] w fun e w'=>(∃v,e= .returned v)/\Below n₀ w w'/\∃st',(st=true->st'=true)/\Rs w' rb s l J Jx X q st' (pre++em)):=HC;have Mw:q.at_<=1000:=by have:=HQ.e;omega
 clear HC h hX HQ HA hp;obtain⟨ln,sa,fr,bo,ja⟩:=q;simp only at Mw ⊢;obtain⟨aM,ha1⟩:∃aM,ja+hd=aM:=⟨_,rfl⟩
 rw [ha1];have e0:((ja:Int)+(hd:Int))=(aM:Int):=by omega
 clear ha1;go_enter func181,ntmps181;go_wp2_with(go_at_call 179;refine HC'.out.mono ?_;rintro ev W1 ⟨⟨v,rfl⟩,hB,st',hst,hR⟩;(have c6:=hR.rd.c6);(have c5:=hR.rd.c5);(have f6:=hR.rd.fz 6);(have f5:=hR.rd.fz 5);simp only at c6 c5;(have HH:Hid (Below n₀ w W1/\(st=true->st'=true)/\Rs W1 rb s l J Jx X ⟨ln,sa,fr,bo,ja⟩ st' (pre++em)):=⟨hB,hst,hR⟩);clear hB hst hR);go_end0;obtain⟨hB,hst,hR⟩:=HH.out;have hg:W1.grownBy ((W1.setCell ⟨rb,6,none⟩ (.int .i64 aM)).setCell ⟨rb,5,none⟩ (.int .i64 aM)) (some rb):=jU (jU (kZ _ _));exact⟨⟨_,rfl⟩,hB.trans (Below.yT hg hn (by have:=hR.rd.lt;omega)),st',hst,hR.grown T hg ((hR.rd.s6 aM).s5 aM)⟩
def qR(s:ByteArray)(i:Nat):Nat×Bool:=
 if i<s.size/\bt s i≠10 then
  if bt s i=34 then(i,true)
  else if bt s i=92/\bt s (i+1)≠10 then qR s (i+2)
  else qR s (i+1)
 else(i,false)
termination_by s.size - i
theorem l8 {s:ByteArray}{i:Nat}(h:bt s i≠10):i<s.size:=by
 rcases Nat.lt_or_ge i s.size with h'|h'
 .exact h'
 .exact absurd (wH (by omega)) h
theorem Eo(s:ByteArray)(i:Nat):i<=(qR s i).1:=by
 fun_induction qR s i<;>simp_all<;>omega
theorem ahK {s:ByteArray}{i:Nat}(h:i<=s.size):(qR s i).1<=s.size:=by
 fun_induction qR s i with
 |case1 i h1 h2=>exact h
 |case2 i h1 h2 h3 ih=>exact ih (by have:=l8 h3.2;omega)
 |case3 i h1 h2 h3 ih=>exact ih (by omega)
 |case4 i h1=>exact h
theorem II {s:ByteArray}{i:Nat}(h:(qR s i).2=true):(qR s i).1<s.size/\bt s (qR s i).1=34:=by
 fun_induction qR s i with
 |case1 i h1 h2=>exact⟨h1.1,h2⟩
 |case2 i h1 h2 h3 ih=>exact ih h
 |case3 i h1 h2 h3 ih=>exact ih h
 |case4 i h1=>cases h
def qT(s:ByteArray)(i:Nat):Nat:=if(qR s i).2 then 1 else 0
theorem Oi {s:ByteArray}{i:Nat}(h:i<=s.size):(qR s i).1+qT s i<=s.size:=by
 unfold qT;split
 .have:=(II (by assumption)).1;omega
 .have:=ahK h;omega
def bB(p:RP)(j:Nat):RP:=⟨p.line,p.start,p.from_,p.body,j⟩
theorem gU {t:Nat}{p:RP}:(bq t p).at_=p.at_+t:=by unfold bq;split<;>rfl
theorem uZ {t:Nat}{p:RP}:dX t p false=bq t p:=by unfold dX;rfl
def aI(s:ByteArray)(blk:Bool)(p:RP):List PR:=
 if p.at_<s.size then
  if blk=true then
   if bt s p.at_=42/\bt s (p.at_+1)=47 then aW 2 2 p++aI s false (bq 2 p)
   else if bt s p.at_=10 then aW 2 0 p++aI s true (jq (bq 0 p))
   else aI s true (bB p (p.at_+1))
  else if bt s p.at_=34 then
   aW 0 0 p++(aW 1 (qT s (p.at_+1)) (bB (bF 1 p false) (qR s (p.at_+1)).1)++aI s false (bq (qT s (p.at_+1)) (bB (bF 1 p false) (qR s (p.at_+1)).1)))
  else if bt s p.at_=47/\bt s (p.at_+1)=47 then
   aW 0 0 p++(aW 2 0 (bB (bF 2 p false) (bf s (p.at_+2)))++aI s false (bq 0 (bB (bF 2 p false) (bf s (p.at_+2)))))
  else if bt s p.at_=47/\bt s (p.at_+1)=42 then aW 0 0 p++aI s true (bF 2 p false)
  else if bt s p.at_=10 then aW 0 0 p++aI s false (jq (bq 0 p))
  else aI s false (bB p (p.at_+1))
 else aW (if blk then 2 else 0) 0 p
termination_by s.size - p.at_
decreasing_by
 .rw [gU];omega
 .show _ - ((bq 0 p).at_+1)<_;rw [gU];omega
 .show _ - (p.at_+1)<_;omega
 .rw [gU];show _ - ((qR s (p.at_+1)).1+_)<_;have:=Eo s (p.at_+1);omega
 .rw [gU];show _ - (bf s (p.at_+2)+0)<_;have:=Ae s (p.at_+2);omega
 .rw [Ez];omega
 .show _ - ((bq 0 p).at_+1)<_;rw [gU];omega
 .show _ - (p.at_+1)<_;omega
structure Tk where
 k:Nat
 F:Nat
 T:Nat
 B:Nat
 E:Nat
def bR(s:ByteArray)(q:Nat):Nat×Bool:=
 if q<s.size then if bt s q=42/\bt s (q+1)=47 then(q,true)else bR s (q+1)else(q,false)
termination_by s.size - q
def bT(s:ByteArray)(q:Nat):Nat:=if(bR s q).2 then 2 else 0
theorem Hu(s:ByteArray)(q:Nat):q<=(bR s q).1:=by
 fun_induction bR s q<;>simp_all<;>omega
theorem abb {s:ByteArray}{q:Nat}(h:q<=s.size):(bR s q).1+bT s q<=s.size:=by
 unfold bT
 fun_induction bR s q with
 |case1 q h1 h2=>have:=l8 (s:=s) (i:=q+1) (by rw [h2.2];decide);simp;omega
 |case2 q h1 h2 ih=>exact ih (by omega)
 |case3 q h1=>simp;omega
def eP(s:ByteArray)(p:Nat):Tk:=
 if bt s p=34 then⟨1,p,(qR s (p+1)).1+qT s (p+1),p+1,(qR s (p+1)).1⟩
 else if bt s p=47/\bt s (p+1)=47 then⟨2,p,bf s p,p+2,bf s p⟩
 else if bt s p=47/\bt s (p+1)=42 then⟨2,p,(bR s (p+2)).1+bT s (p+2),p+2,(bR s (p+2)).1⟩
 else⟨0,p,p+1,0,0⟩
theorem Af {s:ByteArray}{p:Nat}(h:bt s p≠10):bf s p=bf s (p+1):=by
 rw [bf,if_pos ⟨l8 h,h⟩]
theorem AO(s:ByteArray)(p:Nat):p<(eP s p).T:=by
 unfold eP;split
 .have:=Eo s (p+1);simp only;omega
 .split
  .rename_i h;simp only;rw [Af (by rw [h.1];decide)];have:=Ae s (p+1);omega
  .split
   .have:=Hu s (p+2);simp only;omega
   .simp
theorem aam(s:ByteArray)(p:Nat):(eP s p).F=p:=by unfold eP;repeat (first|rfl|split)
theorem aan(s:ByteArray)(p:Nat)(h:(eP s p).k=0):eP s p=⟨0,p,p+1,0,0⟩:=by
 unfold eP at h ⊢;by_cases h1:bt s p=34
 .rw [if_pos h1]at h;cases h
 .rw [if_neg h1]at h ⊢;by_cases h2:bt s p=47/\bt s (p+1)=47
  .rw [if_pos h2]at h;cases h
  .rw [if_neg h2]at h ⊢;by_cases h3:bt s p=47/\bt s (p+1)=42
   .rw [if_pos h3]at h;cases h
   .rw [if_neg h3]
def oO(t:Tk)(ts:List Tk):List Tk:=
 if t.k=0 then
  match ts with
  |u::us=>if u.k=0 then⟨0,t.F,u.T,0,0⟩::us else t::u::us
  |[]=>[t]
 else t::ts
def fD(s:ByteArray)(p:Nat):List Tk:=if p<s.size then oO (eP s p) (fD s (eP s p).T)else []
termination_by s.size - p
decreasing_by have:=AO s p;omega
def wi(p lo hi:Nat):Nat:=if p<lo then lo else if hi<p then hi else p
def kG(ln k bg fr p B E:Nat):List PR:=if fr<p then [⟨ln,k,fr - bg,p - bg,if k=0 then 0 else wi B fr p - bg,if k=0 then 0 else wi E fr p - bg⟩]else []
def ko(s:ByteArray)(k T B E ln bg fr p:Nat):List PR:=
 if p<T then if bt s p=10 then kG ln k bg fr p B E++ko s k T B E (ln+1) (p+1) (p+1) (p+1)else ko s k T B E ln bg fr (p+1)
 else kG ln k bg fr p B E
termination_by T - p
def gu(s:ByteArray)(T ln bg p:Nat):Nat×Nat:=
 if p<T then if bt s p=10 then gu s T (ln+1) (p+1) (p+1)else gu s T ln bg (p+1)
 else(ln,bg)
termination_by T - p
section
variable{s:ByteArray}{k T B E ln bg fr p:Nat}
theorem Av(h:p<T)(hb:bt s p=10):ko s k T B E ln bg fr p=kG ln k bg fr p B E++ko s k T B E (ln+1) (p+1) (p+1) (p+1):=by rw [ko,if_pos h,if_pos hb]
theorem vN(h:p<T)(hb:¬bt s p=10):ko s k T B E ln bg fr p=ko s k T B E ln bg fr (p+1):=by rw [ko,if_pos h,if_neg hb]
theorem vM(h:¬p<T):ko s k T B E ln bg fr p=kG ln k bg fr p B E:=by rw [ko,if_neg h]
theorem BD(h:p<T)(hb:bt s p=10):gu s T ln bg p=gu s T (ln+1) (p+1) (p+1):=by rw [gu,if_pos h,if_pos hb]
theorem wO(h:p<T)(hb:¬bt s p=10):gu s T ln bg p=gu s T ln bg (p+1):=by rw [gu,if_pos h,if_neg hb]
theorem BC(h:¬p<T):gu s T ln bg p=(ln,bg):=by rw [gu,if_neg h]
end
def fG(s:ByteArray):List Tk->Nat->Nat->List PR
 |[],_,_=>[]
 |t::ts,ln,bg=>ko s t.k t.T t.B t.E ln bg t.F t.F++fG s ts (gu s t.T ln bg t.F).1 (gu s t.T ln bg t.F).2
def yu(s:ByteArray)(ln bg fr a:Nat):List Tk->List PR
 |[]=>kG ln 0 bg fr a 0 0
 |u::us=>if u.k=0 then ko s 0 u.T 0 0 ln bg fr a++fG s us (gu s u.T ln bg a).1 (gu s u.T ln bg a).2 else kG ln 0 bg fr a 0 0++fG s (u::us) ln bg
theorem Fj(s:ByteArray)(p:Nat):∀u us,fD s p=u::us->u.F=p/\p<u.T/\(u.k=0->u.B=0/\u.E=0):=by
 intro u us h;rw [fD]at h;split at h
 .unfold oO at h;have hw:=AO s p;have hF:=aam s p;split at h
  .rename_i hk;have DK:(eP s p).B=0/\(eP s p).E=0:=by rw [aan s p hk];exact⟨rfl,rfl⟩
   split at h
   .rename_i u' us' he;split at h
    .injection h with h1 h2
     subst h1;refine⟨hF,?_,fun _=>⟨rfl,rfl⟩⟩;have:=Fj s (eP s p).T u' us' he;simp only;omega
    .injection h with h1 h2
     subst h1;exact⟨hF,hw,fun _=>DK⟩
   .injection h with h1 h2
    subst h1;exact⟨hF,hw,fun _=>DK⟩
  .injection h with h1 h2
   subst h1;rename_i hk;exact⟨hF,hw,fun e=>absurd e hk⟩
 .cases h
termination_by s.size - p
decreasing_by have:=AO s p;omega
theorem SS(ln k bg p B E:Nat):kG ln k bg p p B E=[]:=if_neg (by omega)
theorem Sm(s:ByteArray)(ln bg p:Nat):yu s ln bg p p (fD s p)=fG s (fD s p) ln bg:=by
 cases h:fD s p with
 |nil=>exact SS _ _ _ _ _ _
 |cons u us=>
  obtain⟨hF,hT,DK⟩:=Fj s p u us h;show(if u.k=0 then _ else _)=_;by_cases hk:u.k=0
  .obtain⟨hB,hE⟩:=DK hk;rw [if_pos hk,fG,hF,hk,hB,hE]
  .rw [if_neg hk,SS,List.nil_append]
theorem acF(s:ByteArray)(ln bg fr a:Nat)(ts:List Tk)(hts:∀u us,ts=u::us->a+1<u.T/\u.F=a+1):
  yu s ln bg fr a (oO ⟨0,a,a+1,0,0⟩ ts)=if bt s a=10 then kG ln 0 bg fr a 0 0++yu s (ln+1) (a+1) (a+1) (a+1) ts else yu s ln bg fr (a+1) ts:=by
 unfold oO;rw [if_pos rfl];cases ts with
 |nil=>
  show ko s 0 (a+1) 0 0 ln bg fr a++fG s [] _ _=_;rw [fG,List.append_nil];by_cases hb:bt s a=10
  .rw [if_pos hb,Av (by omega) hb,vM (by omega)];rfl
  .rw [if_neg hb,vN (by omega) hb,vM (by omega)];rfl
 |cons u us=>
  obtain⟨h1,_⟩:=hts u us rfl;simp only;by_cases hk:u.k=0
  .rw [if_pos hk];show ko s 0 u.T 0 0 ln bg fr a++fG s us (gu s u.T ln bg a).1 (gu s u.T ln bg a).2=_;have e1:∀ln bg fr,yu s ln bg fr (a+1) (u::us)=ko s 0 u.T 0 0 ln bg fr (a+1)++fG s us (gu s u.T ln bg (a+1)).1 (gu s u.T ln bg (a+1)).2:=fun _ _ _=>if_pos hk
   rw [e1,e1];by_cases hb:bt s a=10
   .rw [if_pos hb,Av (by omega) hb,BD (by omega) hb,List.append_assoc]
   .rw [if_neg hb,vN (by omega) hb,wO (by omega) hb]
  .rw [if_neg hk];show ko s 0 (a+1) 0 0 ln bg fr a++fG s (u::us) (gu s (a+1) ln bg a).1 (gu s (a+1) ln bg a).2=_;have e1:∀ln bg fr,yu s ln bg fr (a+1) (u::us)=kG ln 0 bg fr (a+1) 0 0++fG s (u::us) ln bg:=fun _ _ _=>if_neg hk
   rw [e1,e1];by_cases hb:bt s a=10
   .rw [if_pos hb,Av (by omega) hb,BD (by omega) hb,vM (by omega),BC (by omega),List.append_assoc]
   .rw [if_neg hb,vN (by omega) hb,wO (by omega) hb,vM (by omega),BC (by omega)]
theorem IP {s:ByteArray}{k T B E ln bg fr:Nat}:∀(d p:Nat),T=p+d->(∀i,p<=i->i<T->bt s i≠10)->ko s k T B E ln bg fr p=kG ln k bg fr T B E/\gu s T ln bg p=(ln,bg)
 |0,p,hT,_=>by
  have:¬p<T:=by omega
  obtain rfl:p=T:=by omega
  exact⟨vM this,BC this⟩
 |d+1,p,hT,hb=>by
  have h:=hb p (Nat.le_refl _) (by omega);rw [vN (by omega) h,wO (by omega) h];exact IP d (p+1) (by omega) (fun i h1 h2=>hb i (by omega) h2)
theorem wL {k t:Nat}{p:RP}(hb:p.from_<=p.at_)(B E:Nat)(hB:k≠0->wi B p.from_ (p.at_+t)=p.body)(hE:k≠0->wi E p.from_ (p.at_+t)=p.at_):aW k t p=kG p.line k p.start p.from_ (p.at_+t) B E:=by
 unfold aW kG;by_cases h:p.from_=p.at_+t
 .rw [if_pos h,if_neg (by omega)]
 .have h':p.from_<p.at_+t:=by omega
  by_cases hk:k=0
  .simp [h,h',hk]
  .simp [h,h',hk,hB hk,hE hk]
theorem ahJ {s:ByteArray}{i:Nat}:∀j,i<=j->j<(qR s i).1+qT s i->bt s j≠10:=by
 unfold qT
 fun_induction qR s i with
 |case1 i h1 h2=>intro j h3 h4;simp at h4;obtain rfl:j=i:=(by omega);rw [h2];decide
 |case2 i h1 h2 h3 ih=>
  intro j h4 h5;by_cases h6:j=i
  .rw [h6];exact h1.2
  .by_cases h7:j=i+1
   .rw [h7];exact h3.2
   .exact ih j (by omega) h5
 |case3 i h1 h2 h3 ih=>
  intro j h4 h5;by_cases h6:j=i
  .rw [h6];exact h1.2
  .exact ih j (by omega) h5
 |case4 i h1=>intro j h3 h4;simp at h4;omega
theorem afC {s:ByteArray}{i:Nat}:∀j,i<=j->j<bf s i->bt s j≠10:=by
 fun_induction bf s i with
 |case1 i h1 ih=>
  intro j h2 h3;by_cases h6:j=i
  .rw [h6];exact h1.2
  .exact ih j (by omega) h3
 |case2 i h1=>intro j h2 h3;omega
theorem Rm {s:ByteArray}{a:Nat}(h:a<s.size)(hb:bt s a=42/\bt s (a+1)=47):bR s a=(a,true):=by rw [bR,if_pos h,if_pos hb]
theorem aba {s:ByteArray}{a:Nat}(h:a<s.size)(hb:¬(bt s a=42/\bt s (a+1)=47)):bR s a=bR s (a+1):=by rw [bR,if_pos h,if_neg hb]
theorem FM {s:ByteArray}{a:Nat}(h:¬a<s.size):bR s a=(a,false):=by rw [bR,if_neg h]
theorem Fh {s:ByteArray}{a:Nat}(h:¬a<s.size):fD s a=[]:=by rw [fD,if_neg h]
theorem uJ {p lo hi:Nat}(h:p<=hi):wi p lo hi=if p<lo then lo else p:=by unfold wi;split;rfl;rw [if_neg (by omega)]
theorem ajL {p lo hi:Nat}(h:lo<=hi)(h2:hi<=p):wi p lo hi=hi:=by unfold wi;split;omega;split<;>omega
theorem abp(s:ByteArray)(c:Nat)(H:∀ln bg a',c<a'->a'<=s.size->aI s false ⟨ln,bg,a',a',a'⟩=fG s (fD s a') ln bg):∀(d a ln bg fr bo B:Nat),s.size - a<=d->c<a->fr<=a->a<=s.size->B<=a->bo=(if B<fr then fr else B)->
  aI s true ⟨ln,bg,fr,bo,a⟩=ko s 2 ((bR s a).1+bT s a) B (bR s a).1 ln bg fr a++fG s (fD s ((bR s a).1+bT s a)) (gu s ((bR s a).1+bT s a) ln bg a).1 (gu s ((bR s a).1+bT s a) ln bg a).2:=by
 intro d
 induction d with
 |zero=>
  intro a ln bg fr bo B hd hc hf ha hB vv;have hn:¬a<s.size:=by omega
  have hT:(bR s a).1+bT s a=a:=by unfold bT;rw [FM hn];simp
  have hE:(bR s a).1=a:=by rw [FM hn]
  rw [hT,hE,aI,if_neg hn,vM (by omega),Fh hn,fG,List.append_nil];exact wL hf B a (fun _=>by show wi B fr (a+0)=bo;rw [uJ (by omega),vv]) (fun _=>by show wi a fr (a+0)=a;rw [uJ (by omega),if_neg (by omega)])
 |succ d ih=>
  intro a ln bg fr bo B hd hc hf ha hB vv;by_cases hlt:a<s.size
  .by_cases hh:bt s a=42/\bt s (a+1)=47
   .have hE:(bR s a).1=a:=by rw [Rm hlt hh]
    have hT:(bR s a).1+bT s a=a+2:=by unfold bT;rw [Rm hlt hh];simp
    have h2:=l8 (s:=s) (i:=a+1) (by rw [hh.2];decide);obtain⟨f1,f2⟩:=IP (s:=s) (k:=2) (T:=a+2) (B:=B) (E:=a) (ln:=ln) (bg:=bg) (fr:=fr) 2 a rfl (fun i h3 h4=>by
     by_cases h5:i=a
     .rw [h5,hh.1];decide
     .rw [show i=a+1 by omega,hh.2];decide)
    rw [hT,hE,f1,f2,aI,if_pos hlt,if_pos rfl,if_pos hh];have hcut:bq 2 ⟨ln,bg,fr,bo,a⟩=⟨ln,bg,a+2,a+2,a+2⟩:=by unfold bq;rw [if_neg (by simp only;omega)]
    rw [hcut,H ln bg (a+2) (by omega) (by omega)]
    congr 1
    exact wL hf B a (fun _=>by show wi B fr (a+2)=bo;rw [uJ (by omega),vv]) (fun _=>by show wi a fr (a+2)=a;rw [uJ (by omega),if_neg (by omega)])
   .have hg:=aba hlt hh;have hT:(bR s a).1+bT s a=(bR s (a+1)).1+bT s (a+1):=by unfold bT;rw [hg]
    have hl:=Hu s (a+1);rw [hT,hg,aI,if_pos hlt,if_pos rfl,if_neg hh];by_cases h10:bt s a=10
    .rw [if_pos h10,Av (by omega) h10,BD (by omega) h10,List.append_assoc];have hcut:jq (bq 0 ⟨ln,bg,fr,bo,a⟩)=⟨ln+1,a+1,a+1,a+1,a+1⟩:=by
      have h1:=gU (t:=0) (p:=⟨ln,bg,fr,bo,a⟩);have h2:(bq 0 ⟨ln,bg,fr,bo,a⟩).line=ln:=by rw [<-uZ,Sj]
      unfold jq;rw [h1,h2]
     rw [hcut,ih (a+1) (ln+1) (a+1) (a+1) (a+1) B (by omega) (by omega) (by omega) (by omega) (by omega) (by rw [if_pos (by omega)])]
     congr 1
     exact wL hf B _ (fun _=>by show wi B fr (a+0)=bo;rw [uJ (by omega),vv]) (fun _=>by show wi _ fr (a+0)=a;rw [ajL (by omega) (by omega)];rfl)
    .rw [if_neg h10,vN (by omega) h10,wO (by omega) h10];exact ih (a+1) ln bg fr bo B (by omega) (by omega) (by omega) (by omega) (by omega) vv
  .have hn:¬a<s.size:=hlt;have hT:(bR s a).1+bT s a=a:=by unfold bT;rw [FM hn];simp
   have hE:(bR s a).1=a:=by rw [FM hn]
   rw [hT,hE,aI,if_neg hn,vM (by omega),Fh hn,fG,List.append_nil];exact wL hf B a (fun _=>by show wi B fr (a+0)=bo;rw [uJ (by omega),vv]) (fun _=>by show wi a fr (a+0)=a;rw [uJ (by omega),if_neg (by omega)])
theorem O0 {s:ByteArray}{a:Nat}(h:a<s.size)(hk:(eP s a).k≠0):fD s a=eP s a::fD s (eP s a).T:=by
 rw [fD,if_pos h];unfold oO;exact if_neg hk
theorem F5 {hd:Nat}{ln bg fr bo a:Nat}:bF hd ⟨ln,bg,fr,bo,a⟩ false=⟨ln,bg,a,a+hd,a+hd⟩:=by
 unfold bF;rw [uZ];unfold bq;split
 .rename_i h;simp only at h;simp only [Nat.add_zero]at h ⊢;rw [h]
 .simp only [Nat.add_zero]
theorem ah8(s:ByteArray):∀(d ln bg fr bo a:Nat),s.size - a<=d->fr<=a->a<=s.size->aI s false ⟨ln,bg,fr,bo,a⟩=yu s ln bg fr a (fD s a):=by
 intro d
 induction d with
 |zero=>
  intro ln bg fr bo a hd hf ha;have hn:¬a<s.size:=by omega
  rw [Fh hn,aI,if_neg hn];exact wL hf 0 0 (fun h=>absurd rfl h) (fun h=>absurd rfl h)
 |succ d ih=>
  intro ln bg fr bo a hd hf ha;have H:∀ln bg a',a<a'->a'<=s.size->aI s false ⟨ln,bg,a',a',a'⟩=fG s (fD s a') ln bg:=fun ln bg a' h1 h2=>by
   rw [ih ln bg a' a' a' (by omega) (Nat.le_refl _) h2,Sm]
  have hem:aW 0 0 ⟨ln,bg,fr,bo,a⟩=kG ln 0 bg fr a 0 0:=wL hf 0 0 (fun h=>absurd rfl h) (fun h=>absurd rfl h);have Md:∀(u:Tk) us,u.k≠0->yu s ln bg fr a (u::us)=kG ln 0 bg fr a 0 0++fG s (u::us) ln bg:=fun u us hk=>if_neg hk
  by_cases hlt:a<s.size
  .by_cases rT:bt s a=34
   .have hw:eP s a=⟨1,a,(qR s (a+1)).1+qT s (a+1),a+1,(qR s (a+1)).1⟩:=by unfold eP;rw [if_pos rT]
    have hq:=Eo s (a+1);have ht:=Oi (s:=s) (i:=a+1) (by omega);rw [O0 hlt (by rw [hw];exact Nat.succ_ne_zero _),Md _ _ (by rw [hw];exact Nat.succ_ne_zero _),hw,fG,aI,if_pos hlt,if_neg (by decide),if_pos rT,hem];obtain⟨f1,f2⟩:=IP (s:=s) (k:=1) (T:=(qR s (a+1)).1+qT s (a+1)) (B:=a+1) (E:=(qR s (a+1)).1) (ln:=ln) (bg:=bg) (fr:=a) ((qR s (a+1)).1+qT s (a+1) - a) a (by omega) (fun i h1 h2=>by
     by_cases h3:i=a
     .rw [h3,rT];decide
     .exact ahJ i (by omega) h2)
    simp only;rw [f1,f2,F5];have hcut:bq (qT s (a+1)) (bB ⟨ln,bg,a,a+1,a+1⟩ (qR s (a+1)).1)=⟨ln,bg,(qR s (a+1)).1+qT s (a+1),(qR s (a+1)).1+qT s (a+1),(qR s (a+1)).1+qT s (a+1)⟩:=by
     unfold bq bB;rw [if_neg (by simp only;omega)]
    rw [hcut,H _ _ _ (by omega) ht]
    congr 2
    exact wL (p:=bB ⟨ln,bg,a,a+1,a+1⟩ (qR s (a+1)).1) (by show a<=(qR s (a+1)).1;omega) (a+1) (qR s (a+1)).1 (fun _=>by show wi (a+1) a ((qR s (a+1)).1+_)=a+1;rw [uJ (by omega),if_neg (by omega)]) (fun _=>by show wi (qR s (a+1)).1 a ((qR s (a+1)).1+_)=(qR s (a+1)).1;rw [uJ (by omega),if_neg (by omega)])
   .by_cases hlc:bt s a=47/\bt s (a+1)=47
    .have hle:bf s a=bf s (a+2):=by rw [Af (by rw [hlc.1];decide),Af (by rw [hlc.2];decide)]
     have hw:eP s a=⟨2,a,bf s (a+2),a+2,bf s (a+2)⟩:=by unfold eP;rw [if_neg rT,if_pos hlc,hle]
     have h2:=l8 (s:=s) (i:=a+1) (by rw [hlc.2];decide);have hq:=Ae s (a+2);have ht:=Hy (s:=s) (i:=a+2) (by omega);rw [O0 hlt (by rw [hw];exact Nat.succ_ne_zero _),Md _ _ (by rw [hw];exact Nat.succ_ne_zero _),hw,fG,aI,if_pos hlt,if_neg (by decide),if_neg rT,if_pos hlc,hem];obtain⟨f1,f2⟩:=IP (s:=s) (k:=2) (T:=bf s (a+2)) (B:=a+2) (E:=bf s (a+2)) (ln:=ln) (bg:=bg) (fr:=a) (bf s (a+2) - a) a (by omega) (fun i h1 h2=>afC (i:=a) i h1 (by rw [hle];exact h2));simp only;rw [f1,f2,F5];have hcut:bq 0 (bB ⟨ln,bg,a,a+2,a+2⟩ (bf s (a+2)))=⟨ln,bg,bf s (a+2),bf s (a+2),bf s (a+2)⟩:=by
      unfold bq bB;rw [if_neg (by simp only;omega)];rfl
     rw [hcut,H _ _ _ (by omega) ht]
     congr 2
     exact wL (p:=bB ⟨ln,bg,a,a+2,a+2⟩ (bf s (a+2))) (by show a<=bf s (a+2);omega) (a+2) (bf s (a+2)) (fun _=>by show wi (a+2) a (bf s (a+2)+0)=a+2;rw [uJ (by omega),if_neg (by omega)]) (fun _=>by show wi (bf s (a+2)) a (bf s (a+2)+0)=bf s (a+2);rw [uJ (by omega),if_neg (by omega)])
    .by_cases hbb:bt s a=47/\bt s (a+1)=42
     .have hw:eP s a=⟨2,a,(bR s (a+2)).1+bT s (a+2),a+2,(bR s (a+2)).1⟩:=by unfold eP;rw [if_neg rT,if_neg hlc,if_pos hbb]
      have h2:=l8 (s:=s) (i:=a+1) (by rw [hbb.2];decide);have hq:=Hu s (a+2);have k1:¬bt s a=10:=by rw [hbb.1];decide
      have k2:¬bt s (a+1)=10:=by rw [hbb.2];decide
      rw [O0 hlt (by rw [hw];exact Nat.succ_ne_zero _),Md _ _ (by rw [hw];exact Nat.succ_ne_zero _),hw,fG,aI,if_pos hlt,if_neg (by decide),if_neg rT,if_neg hlc,if_pos hbb,hem,F5];simp only;rw [abp s a H (s.size - (a+2)) (a+2) ln bg a (a+2) (a+2) (Nat.le_refl _) (by omega) (by omega) (by omega) (Nat.le_refl _) (by rw [if_neg (by omega)])];rw [vN (p:=a) (by omega) k1,vN (p:=a+1) (by omega) k2,wO (p:=a) (by omega) k1,wO (p:=a+1) (by omega) k2]
     .have hw:eP s a=⟨0,a,a+1,0,0⟩:=by unfold eP;rw [if_neg rT,if_neg hlc,if_neg hbb]
      have hts:fD s a=oO ⟨0,a,a+1,0,0⟩ (fD s (a+1)):=by rw [fD,if_pos hlt,hw]
      rw [hts,acF s ln bg fr a (fD s (a+1)) (fun u us h=>by obtain⟨e1,e2,_⟩:=Fj s (a+1) u us h;exact⟨e2,e1⟩),aI,if_pos hlt,if_neg (by decide),if_neg rT,if_neg hlc,if_neg hbb];by_cases h10:bt s a=10
      .rw [if_pos h10,if_pos h10,hem];have hcut:jq (bq 0 ⟨ln,bg,fr,bo,a⟩)=⟨ln+1,a+1,a+1,a+1,a+1⟩:=by
        have h1:=gU (t:=0) (p:=⟨ln,bg,fr,bo,a⟩);have h2:(bq 0 ⟨ln,bg,fr,bo,a⟩).line=ln:=by rw [<-uZ,Sj]
        unfold jq;rw [h1,h2]
       rw [hcut,ih (ln+1) (a+1) (a+1) (a+1) (a+1) (by omega) (Nat.le_refl _) (by omega)]
      .rw [if_neg h10,if_neg h10];exact ih ln bg fr bo (a+1) (by omega) (by omega) (by omega)
  .have hn:¬a<s.size:=hlt;rw [Fh hn,aI,if_neg hn];exact wL hf 0 0 (fun h=>absurd rfl h) (fun h=>absurd rfl h)
theorem Ye(s:ByteArray):aI s false ⟨0,0,0,0,0⟩=fG s (fD s 0) 0 0:=by
 rw [ah8 s s.size 0 0 0 0 0 (by omega) (Nat.le_refl _) (Nat.zero_le _),Sm]
def TC(s:ByteArray):Nat->List Tk->Prop
 |_,[]=>True
 |p,t::ts=>p<=t.F/\t.F<t.T/\t.T<=s.size/\t.B<=s.size+2/\t.E<=s.size+2/\TC s t.T ts
theorem TC.mono {s:ByteArray}{p q:Nat}{l:List Tk}(h:TC s p l)(hq:q<=p):TC s q l:=by
 cases l with
 |nil=>trivial
 |cons t ts=>exact⟨Nat.le_trans hq h.1,h.2⟩
theorem TC.cons {s:ByteArray}{p:Nat}{t:Tk}{ts:List Tk}(h:TC s t.T ts)(h1:p<=t.F)(h2:t.F<t.T)(h3:t.T<=s.size)(h4:t.B<=s.size+2)(h5:t.E<=s.size+2):TC s p (oO t ts):=by
 unfold oO;split
 .cases ts with
  |nil=>exact⟨h1,h2,h3,h4,h5,trivial⟩
  |cons u us=>
   obtain⟨k1,k2,k3,k4,k5,k6⟩:=h;simp only;split
   .exact⟨h1,by simp only;omega,k3,by simp,by simp,k6⟩
   .exact⟨h1,h2,h3,h4,h5,k1,k2,k3,k4,k5,k6⟩
 .exact⟨h1,h2,h3,h4,h5,h⟩
theorem TC.len {s:ByteArray}:∀{l:List Tk}{p:Nat},TC s p l->l.length<=s.size - p
 |[],_,_=>by simp
 |t::ts,p,h=>by
  obtain⟨h1,h2,h3,h4,h5,h6⟩:=h;have:=TC.len h6;simp only [List.length_cons];omega
theorem xH {w:World}{B:Nat}{e:TypeId}{z n:Nat}{v:Value}{xs:List Value}(h:w.ownsRow B e z v n xs):∃a cap,v= .slice a n cap:=by
 rcases h.2 with⟨rfl,rfl⟩|⟨g,cap,cur,rfl,_⟩
 .exact⟨none,0,rfl⟩
 .exact⟨_,cap,rfl⟩
theorem IK {w:World}{B:Nat}{e:TypeId}{z n:Nat}{v:Value}{xs:List Value}(h:w.ownsRow B e z v n xs)(hn:0<n):∃g cap,v= .slice (some ⟨g,0,none⟩) n cap/\n<=cap/\B<=g/\g<w.heap.size:=by
 have hlt:=h.lt;rcases h.2 with⟨_,h0⟩|⟨g,cap,cur,rfl,hb,hh,hc,_⟩
 .omega
 .exact⟨g,cap,rfl,hc,hb,(hlt g rfl).2⟩
theorem qw {w w':World}{B:Nat}{e:TypeId}{z n:Nat}{v:Value}{xs:List Value}(h:w.ownsRow B e z v n xs)(hb:Below w.heap.size w w'):w'.ownsRow B e z v n xs:=
 kK h fun _ _ _ ho=>aR hb ho
theorem cell_of {w:World}{b:Nat}{c:Array Value}{t:TypeId}{f:Nat×Nat}(h:w.heap[b]? =some (.cells c t f))(j:Nat):w.cell? ⟨b,j,none⟩=c[j]? :=by
 unfold World.cell?;simp only [h];rfl
