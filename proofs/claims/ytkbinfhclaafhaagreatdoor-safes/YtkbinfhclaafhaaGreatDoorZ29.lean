import Derived.Test.YtkbinfhclaafhaaGreatDoorZ28
import Derived.Test.YtkbinfhclaafhaaGreatDoorZ24
import Derived.Great.Frames
import Derived.Test.YtkbinfhclaafhaaGreatDoorZ26
import Derived.Test.YtkbinfhclaafhaaGreatDoorZ25
namespace Go.Proofs.YtkbinfhclaafhaaGreatDoor
open Go.RowKit
open Go.Proofs.Tryz
set_option maxRecDepth 100000
set_option maxHeartbeats 32000000
set_option linter.all false
section
attribute [local go_sem] Oper.semAt_some
theorem aeE {F:Fence}{n:Nat}{P:Program}{md:Region.Mode}{ops:Array Oper}{Q:Exit->Act->World->Prop}(Inv:Array Bool->Act->World->Prop)
  (hend:∀L a w,Inv L a w->Region.ready md ops L=[]->Q .normal a w)
  (hstep:∀L a w i,Inv L a w->i∈Region.ready md ops L->wpOpIn F n P ops Q i (Inv (L.setIfInBounds i true)) a w):
  ∀(fuel:Nat)(L:Array Bool)(a:Act)(w:World),L.toList.count false<=fuel->Inv L a w->wpAnyIn F n P md ops Q fuel L a w:=by
 have key:∀(L:Array Bool)(j:Nat),j∈Region.ready md ops L->∃h:j<L.size,L[j]=false:=fun L j hj=>by
  have h1:=(mem_ready.1 hj).1;by_cases h:j<L.size
  .exact⟨h,by simpa [Array.getD,h]using h1⟩
  .simp [Array.getD,h]at h1
 intro fuel
 induction fuel with
 |zero=>
  intro L a w hc h;have hr:Region.ready md ops L=[]:=List.eq_nil_iff_forall_not_mem.2 fun j hj=>by
   obtain⟨h1,h2⟩:=key L j hj;have:0<L.toList.count false:=ad2.2 (by rw [<-h2];exact adv h1);omega
  exact⟨hr,hend L a w h hr⟩
 |succ fuel ih=>
  intro L a w hc h;refine⟨hend L a w h,fun i hi=>wpOpIn_mono (fun a' w' h'=>ih _ a' w' ?_ h') (hstep L a w i h hi)⟩;obtain⟨h1,h2⟩:=key L i hi;have:0<L.toList.count false:=ad2.2 (by rw [<-h2];exact adv h1);rw [Array.toList_setIfInBounds,List.count_set (by simpa using h1)];have e1:(L.toList[i]'(by simpa using h1)==false)=true:=by simp [h2]
  rw [aj e1,ai (by decide)];omega
theorem zo {F:Fence}{n l:Nat}{P:Program}{ops:Array Oper}{Q:Exit->Act->World->Prop}{K:Act->World->Prop}{a:Act}{w w':World}{i:Nat}{v:Value}(hF:F.round=some l)(o:Oper)(ho:ops[i]? =some o)(hg:o.guard=none)(hd:∀c,o.op≠.defer c)(hab:o.about P w a.eval=none)
  (hr:(execOp a.eval o).run P w= .ok (.value v) w') (h:K (a.put o.dst v) w'):wpOpIn F n P ops Q i K a w:=by
 unfold wpOpIn;rw [ho];have hw:Region.wanted o (yielded ops a.tmps)=true:=by simp [Region.wanted,hg]
 simp only [hw,y8];refine⟨(fun f hf=>by rw [hab]at hf;cases hf),?_⟩;rw [hF,Eu l _ _ hd,hr];exact h
theorem step_skip {F:Fence}{n l:Nat}{P:Program}{ops:Array Oper}{Q:Exit->Act->World->Prop}{K:Act->World->Prop}{a:Act}{w w':World}{i:Nat}(hF:F.round=some l)(o:Oper)(ho:ops[i]? =some o)(hg:o.guard=none)(hd:∀c,o.op≠.defer c)(hab:o.about P w a.eval=none)
  (hr:(execOp a.eval o).run P w= .ok .skip w') (h:K (a.put o.dst undef) w'):wpOpIn F n P ops Q i K a w:=by
 unfold wpOpIn;rw [ho];have hw:Region.wanted o (yielded ops a.tmps)=true:=by simp [Region.wanted,hg]
 simp only [hw,y8];refine⟨(fun f hf=>by rw [hab]at hf;cases hf),?_⟩;rw [hF,Eu l _ _ hd,hr];exact h
section
variable(ρ:Operand->Value)(w:World)(bx rb pb n i:Nat)(d:Option Tmp)
theorem adr(hc:w.cell? ⟨bx,0,none⟩=some (.slice (some ⟨rb,0,none⟩) n n))(h6:ρ (.tmp 6)= .pointer (some ⟨bx,0,none⟩)):
  (execOp ρ {dst:=d,op:=Op.load 103 (Operand.tmp 6),type:=103,pos:= "guard.go:66",after:=#[],guard:=none}).run prog w= .ok (.value (.slice (some ⟨rb,0,none⟩) n n)) w:=by
 go_simp
theorem ads(h7:ρ (.tmp 7)= .int .i64 i):
  (execOp ρ {dst:=d,op:=Op.move (Operand.tmp 7),type:=3,pos:= "guard.go:66",after:=#[],guard:=none}).run prog w= .ok (.value (.int .i64 i)) w:=by
 go_simp
theorem adq(j k:Nat)(af:Array Edge)(hj:ρ (.tmp j)= .slice (some ⟨rb,0,none⟩) n n)(hk:ρ (.tmp k)= .int .i64 i)(hi:i<n):
  (execOp ρ {dst:=d,op:=Op.indexAddr 103 (Operand.tmp j) (Operand.tmp k),type:=0,pos:= "guard.go:66",after:=af,guard:=none}).run prog w= .ok (.value (.pointer (some ⟨rb,i,none⟩))) w:=by
 have h0:(0:Int)<=(i:Int):=by omega
 have h1:(i:Int)<(n:Int):=by omega
 go_simp
theorem aoc(rv:Value)(af:Array Edge)(hj:ρ (.tmp 30)= .pointer (some ⟨rb,i,none⟩))(hc:w.cell? ⟨rb,i,none⟩=some rv):
  (execOp ρ {dst:=d,op:=Op.load 71 (Operand.tmp 30),type:=71,pos:= "guard.go:66",after:=af,guard:=none}).run prog w= .ok (.value rv) w:=by
 go_simp
theorem aob(y0 y1 y2 y3 y4:Value)(hj:ρ (.tmp 8)= .pointer (some ⟨pb,0,none⟩))(h0:w.cell? ⟨pb,0,none⟩=some y0)(h1:w.cell? ⟨pb,1,none⟩=some y1)(h2:w.cell? ⟨pb,2,none⟩=some y2)(h3:w.cell? ⟨pb,3,none⟩=some y3)(h4:w.cell? ⟨pb,4,none⟩=some y4):
  (execOp ρ {dst:=d,op:=Op.load 75 (Operand.tmp 8),type:=75,pos:= "guard.go:66",after:=#[],guard:=none}).run prog w= .ok (.value (.agg #[y0,y1,y2,y3,y4])) w:=by
 go_simp
theorem aoa(a b c e f:Int)(af:Array Edge)(hj:ρ (.tmp 32)= .agg #[.int .i64 a,.int .i64 b,.int .i64 c,.int .i64 e,.int .i64 f]):
  (execOp ρ {dst:=d,op:=Op.buildSlice 71 1 #[(0,Operand.tmp 32)],type:=71,pos:= "guard.go:66",after:=af,guard:=none}).run prog w= .ok (.value (.slice (some ⟨w.heap.size,0,none⟩) 1 1)) (w.alloc (.cells #[.int .i64 a,.int .i64 b,.int .i64 c,.int .i64 e,.int .i64 f] 75)):=by
 go_simp
theorem aod(rv:Value)(q:Option Addr)(m c:Nat)(af:Array Edge)(X7:ρ (.tmp 35)= .pointer (some ⟨rb,i,none⟩))(jT:ρ (.tmp 34)= .slice q m c)(hc:w.cell? ⟨rb,i,none⟩=some rv)(hf:w.frozen? ⟨rb,i,none⟩=false):
  (execOp ρ {dst:=none,op:=Op.store 71 (Operand.tmp 35) (Operand.tmp 34),type:=0,pos:= "guard.go:66",after:=af,guard:=none}).run prog w= .ok .skip (w.setCell ⟨rb,i,none⟩ (.slice q m c)):=by
 go_simp
theorem an9(W:World)(base k:Nat)(rv:Value)(xs news:List Value)(af:Array Edge)(g:Nat)(hx:ρ (.tmp 31)=rv)(hy:ρ (.tmp 33)= .slice (some ⟨g,0,none⟩) 1 1)(hown:W.ownsRow base 75 5 rv k xs)(hl:news.length=5)(hnews:∀j u,news[j]? =some u->W.cell? ((⟨g,0,none⟩:Addr).add j)=some u)(h1:∀u∈news,u.oneCell'=true)(hk:k<=1000000)(hb:base<=W.heap.size):
  ∃v' w',(execOp ρ {dst:=d,op:=Op.call {callee:=Callee.builtin Builtin.append,args:=#[Operand.tmp 31,Operand.tmp 33],argTypes:=#[71,71]},type:=71,pos:= "guard.go:66",after:=af,guard:=none}).run prog W= .ok (.value v') w'/\w'.ownsRow base 75 5 v' (k+1) (xs++news)/\W.grownBy w' rv.ownBlock/\(v'.ownBlock=rv.ownBlock∨v'.ownBlock=some W.heap.size):=by
 obtain⟨i5,hi5,hy0,hy1,hy2⟩:=gW Tryz.aic;obtain⟨v',w',hr,h2,h3,_,h5⟩:=alo (P:=prog) W base 71 71 75 i5 _ 5 40 underlying71 hi5 hy0 hy1 hy2 rfl (by decide) rv k xs hown ⟨g,0,none⟩ 1 1 news (by omega) hnews h1 (by unfold maxLen;omega) (by omega) hb;refine⟨v',w',?_,h2,h3,h5⟩;unfold execOp;simp only [resolve,invoke,builtin,GU,Sem.run_pure,VP,aee,pX,Em,hx,hy,hr]
end
def V9(bs rb n i:Nat)(rv ag:Value):Nat->Value
 |0=> .slice (some ⟨rb,0,none⟩) n n
 |1=> .int .i64 i
 |2=> .slice (some ⟨rb,0,none⟩) n n
 |3=> .int .i64 i
 |4=> .pointer (some ⟨rb,i,none⟩)
 |5=>rv
 |6=>ag
 |7=> .slice (some ⟨bs,0,none⟩) 1 1
 |_=> .pointer (some ⟨rb,i,none⟩)
structure DY(W:World)(base k:Nat)(rv:Value)(xs:List Value)(x:PR)(w8:World)(v:Value):Prop where
 own:w8.ownsRow base 75 5 v (k+1) (xs++qH x)
 gr:(W.alloc (.cells (qH x).toArray 75)).grownBy w8 rv.ownBlock
 blk:v.ownBlock=rv.ownBlock∨v.ownBlock=some (W.heap.size+1)
structure I9(W:World)(bx rb pb n i base k:Nat)(rv:Value)(xs:List Value)(x:PR)(L:Array Bool)(a:Act)(w:World):Prop where
 lz:L.size=11
 tz:36<=a.tmps.size
 e6:a.eval (.tmp 6)= .pointer (some ⟨bx,0,none⟩)
 e7:a.eval (.tmp 7)= .int .i64 i
 e8:a.eval (.tmp 8)= .pointer (some ⟨pb,0,none⟩)
 vs:∀j,j<10->j≠8->L.getD j false=true->a.eval (.tmp (26+j))=V9 W.heap.size rb n i rv (AL x) j
 w0:L.getD 7 false=false->w=W
 w7:L.getD 7 false=true->L.getD 8 false=false->w=W.alloc (.cells (qH x).toArray 75)
 w8:L.getD 8 false=true->L.getD 10 false=false->DY W base k rv xs x w (a.eval (.tmp 34))
 DX:L.getD 10 false=true->∃w8 v,DY W base k rv xs x w8 v/\w=w8.setCell ⟨rb,i,none⟩ v
 AH:L.getD 8 false=true->L.getD 7 false=true
 AE:L.getD 10 false=true->L.getD 8 false=true
 oA:L.getD 10 false=true->∀m,m<10->L.getD m false=true
 AG:L.getD 7 false=true->L.getD 6 false=true
theorem gT {L:Array Bool}{i j:Nat}(h:i≠j):(L.setIfInBounds i true).getD j false=L.getD j false:=by
 simp only [Uf];rw [DZ h]
theorem Bl {L:Array Bool}{i j:Nat}(h:L.getD j false=true):(L.setIfInBounds i true).getD j false=true:=by
 by_cases e:i=j
 .subst e;have:i<L.size:=by
   by_cases q:i<L.size
   .exact q
   .simp [Array.getD,q]at h
  simp [Array.getD,this]
 .rw [gT e];exact h
theorem Gx {L:Array Bool}{i:Nat}(h:i<L.size):(L.setIfInBounds i true).getD i false=true:=by
 simp [Array.getD,h]
section
variable{W:World}{bx rb pb n i base k:Nat}{rv:Value}{xs:List Value}{x:PR}{L:Array Bool}{a:Act}{w:World}
theorem I9.vs'(h:I9 W bx rb pb n i base k rv xs x L a w){j:Nat}{v:Value}(hj:j<10)(hv:j≠8->v=V9 W.heap.size rb n i rv (AL x) j):∀m,m<10->m≠8->(L.setIfInBounds j true).getD m false=true->(a.put (some (26+j)) v).eval (.tmp (26+m))=V9 W.heap.size rb n i rv (AL x) m:=by
 intro m hm h8 hL;by_cases e:j=m
 .subst e;rw [Act.eval_put_same _ _ _ (by have:=h.tz;omega)];exact hv h8
 .rw [gT e]at hL;rw [Act.eval_put_ne _ _ _ _ (by omega)];exact h.vs m hm h8 hL
theorem MO(a:Act)(d:Option Tmp)(v:Value):(a.put d v).tmps.size=a.tmps.size:=by
 cases d<;>simp [Act.put]
theorem I9.put(h:I9 W bx rb pb n i base k rv xs x L a w){j:Nat}(hj:j<10)(h8:j≠8)(h7:j≠7):I9 W bx rb pb n i base k rv xs x (L.setIfInBounds j true) (a.put (some (26+j)) (V9 W.heap.size rb n i rv (AL x) j)) w where
 lz:=by simp [h.lz]
 tz:=by rw [MO];exact h.tz
 e6:=by rw [Act.eval_put_ne _ _ _ _ (by omega)];exact h.e6
 e7:=by rw [Act.eval_put_ne _ _ _ _ (by omega)];exact h.e7
 e8:=by rw [Act.eval_put_ne _ _ _ _ (by omega)];exact h.e8
 vs:=h.vs' hj (fun _=>rfl)
 w0:=by rw [gT h7];exact h.w0
 w7:=by rw [gT h7,gT h8];exact h.w7
 w8:=by rw [gT h8,gT (by omega),Act.eval_put_ne _ _ _ _ (by omega)];exact h.w8
 DX:=by rw [gT (by omega)];exact h.DX
 AH:=by rw [gT h7,gT h8];exact h.AH
 AE:=by rw [gT (by omega),gT h8];exact h.AE
 oA:=by rw [gT (by omega)];exact fun e m hm=>Bl (h.oA e m hm)
 AG:=by rw [gT h7];exact fun e=>Bl (h.AG e)
theorem I9.akP(h:I9 W bx rb pb n i base k rv xs x L a W)(hL:L.getD 7 false=false)(h6:L.getD 6 false=true):I9 W bx rb pb n i base k rv xs x (L.setIfInBounds 7 true) (a.put (some 33) (.slice (some ⟨W.heap.size,0,none⟩) 1 1)) (W.alloc (.cells (qH x).toArray 75)) where
 lz:=by simp [h.lz]
 tz:=by rw [MO];exact h.tz
 e6:=by rw [Act.eval_put_ne _ _ _ _ (by omega)];exact h.e6
 e7:=by rw [Act.eval_put_ne _ _ _ _ (by omega)];exact h.e7
 e8:=by rw [Act.eval_put_ne _ _ _ _ (by omega)];exact h.e8
 vs:=h.vs' (j:=7) (by omega) (fun _=>rfl)
 w0:=by rw [Gx (by rw [h.lz];omega)];intro h;cases h
 w7:=fun _ _=>rfl
 w8:=by
  rw [gT (by omega)];intro h8;rw [h.AH h8]at hL;cases hL
 DX:=by
  rw [gT (by omega)];intro h10;rw [h.AH (h.AE h10)]at hL;cases hL
 AH:=fun _=>Gx (by rw [h.lz];omega)
 AE:=by rw [gT (by omega),gT (by omega)];exact h.AE
 oA:=by rw [gT (by omega)];exact fun e m hm=>Bl (h.oA e m hm)
 AG:=fun _=>Bl h6
theorem I9.akQ(h:I9 W bx rb pb n i base k rv xs x L a w)(hL:L.getD 8 false=false)(h7:L.getD 7 false=true){w8:World}{v:Value}(hA:DY W base k rv xs x w8 v):I9 W bx rb pb n i base k rv xs x (L.setIfInBounds 8 true) (a.put (some 34) v) w8 where
 lz:=by simp [h.lz]
 tz:=by rw [MO];exact h.tz
 e6:=by rw [Act.eval_put_ne _ _ _ _ (by omega)];exact h.e6
 e7:=by rw [Act.eval_put_ne _ _ _ _ (by omega)];exact h.e7
 e8:=by rw [Act.eval_put_ne _ _ _ _ (by omega)];exact h.e8
 vs:=h.vs' (j:=8) (by omega) (fun e=>absurd rfl e)
 w0:=by rw [gT (by omega),h7];intro h;cases h
 w7:=by rw [Gx (by rw [h.lz];omega)];intro _ h;cases h
 w8:=by
  intro _ _;rw [Act.eval_put_same _ _ _ (by have:=h.tz;omega)];exact hA
 DX:=by
  rw [gT (by omega)];intro h10;rw [h.AE h10]at hL;cases hL
 AH:=fun _=>by rw [gT (by omega)];exact h7
 AE:=fun _=>Gx (by rw [h.lz];omega)
 oA:=by rw [gT (by omega)];exact fun e m hm=>Bl (h.oA e m hm)
 AG:=by rw [gT (by omega)];exact fun e=>Bl (h.AG e)
theorem I9.akO(h:I9 W bx rb pb n i base k rv xs x L a w)(h7:L.getD 7 false=true)(h8:L.getD 8 false=true)(hL:L.getD 10 false=false)(hA:∀m,m<10->L.getD m false=true):I9 W bx rb pb n i base k rv xs x (L.setIfInBounds 10 true) (a.put none undef) (w.setCell ⟨rb,i,none⟩ (a.eval (.tmp 34))) where
 lz:=by simp [h.lz]
 tz:=by rw [MO];exact h.tz
 e6:=h.e6
 e7:=h.e7
 e8:=h.e8
 vs:=fun j hj h8=>by rw [gT (by omega)];exact h.vs j hj h8
 w0:=by rw [gT (by omega),h7];intro h;cases h
 w7:=by rw [gT (by omega),gT (by omega),h8];intro _ h;cases h
 w8:=by rw [Gx (by rw [h.lz];omega)];intro _ h;cases h
 DX:=fun _=>⟨w,_,h.w8 h8 hL,rfl⟩
 AH:=by rw [gT (by omega),gT (by omega)];exact h.AH
 AE:=fun _=>by rw [gT (by omega)];exact h8
 oA:=fun _ m hm=>Bl (hA m hm)
 AG:=by rw [gT (by omega)];exact fun e=>Bl (h.AG e)
end
end
section
attribute [local go_sem] Oper.semAt_some
def yP(n:Nat):Code->Option Code
 | .region id ops d=>if id=n then some (.region id ops d)else none
 |.seq a b=>match yP n a with
  |some c=>some c
  |none=>yP n b
 | .block _ c=>yP n c
 | .scope c=>yP n c
 | .loop c=>yP n c
 |.cond _ a b=>match yP n a with
  |some c=>some c
  |none=>yP n b
 |.rangeFunc _ _ a b=>match yP n a with
  |some c=>some c
  |none=>yP n b
 |_=>none
noncomputable def alL:Code:=((Tryz.f39.body.bind (yP 9)).getD .skip)
theorem alK(l:Nat)(W:World)(bx rb pb n i base k:Nat)(rows:Array Value)(rv:Value)(xs:List Value)(x:PR)(a:Act)(Q:Exit->Act->World->Prop)
  (EW:W.heap[bx]? =some (.cells #[.slice (some ⟨rb,0,none⟩) n n] 103 (0,0)))
  (hrb:W.heap[rb]? =some (.cells rows 71 (0,0))) (hi:i<n) (ir:rows[i]? =some rv)
  (hpb:W.heap[pb]? =some (.cells (qH x).toArray 75 (0,0)))
  (hown:W.ownsRow base 75 5 rv k xs) (hk:k<=1000000) (hbs:base<=W.heap.size)
  (ht:36<=a.tmps.size) (e6:a.eval (.tmp 6)= .pointer (some ⟨bx,0,none⟩)) (e7:a.eval (.tmp 7)= .int .i64 i) (e8:a.eval (.tmp 8)= .pointer (some ⟨pb,0,none⟩))
  (hQ:∀a' w8 v,DY W.drew base k rv xs x w8 v->Q .normal a' (w8.setCell ⟨rb,i,none⟩ v)):
  alL.wpIn (Fence.wide.inRound l) 0 prog Q a W:=by
 conv=>arg 4;whnf
 refine wpIn_region_any (by kernel_rfl) ?_;change wpAnyIn _ _ _ _ _ _ _ _ _ (World.drew _);have De:W.drew.heap[bx]? =some (.cells #[.slice (some ⟨rb,0,none⟩) n n] 103 (0,0)):=EW;have Dm:W.drew.heap[rb]? =some (.cells rows 71 (0,0)):=hrb;have IK:W.drew.heap[pb]? =some (.cells (qH x).toArray 75 (0,0)):=hpb;have hown':W.drew.ownsRow base 75 5 rv k xs:=hown;have aoi:base<=W.drew.heap.size:=hbs;clear EW hrb hpb hown hbs;generalize W.drew=D at*;have nb:∀j,rv.ownBlock=some j->j≠bx/\j≠rb:=fun j hj=>by
  obtain⟨_,c,h1⟩:=Fq hown' hj;exact⟨(fun e=>by subst e;rw [De]at h1;cases h1),fun e=>by subst e;rw [Dm]at h1;cases h1⟩
 have kp:∀w8 v,DY D base k rv xs x w8 v->w8.heap[bx]? =some (.cells #[.slice (some ⟨rb,0,none⟩) n n] 103 (0,0))/\w8.heap[rb]? =some (.cells rows 71 (0,0)):=fun w8 v hA=>
  ⟨(hA.gr.block bx (by have:=eO De;simp;omega) (fun e=>(nb _ e.symm).1 rfl)).trans ((dM D _ bx (eO De)).trans De),
   (hA.gr.block rb (by have:=eO Dm;simp;omega) (fun e=>(nb _ e.symm).2 rfl)).trans ((dM D _ rb (eO Dm)).trans Dm)⟩
 have rd:∀L a w,I9 D bx rb pb n i base k rv xs x L a w->L.getD 10 false=false->w.cell? ⟨bx,0,none⟩=some (.slice (some ⟨rb,0,none⟩) n n)/\w.cell? ⟨rb,i,none⟩=some rv/\w.frozen? ⟨rb,i,none⟩=false:=by
  intro L a w h h10;have fin:∀w:World,w.heap[bx]? =some (.cells #[.slice (some ⟨rb,0,none⟩) n n] 103 (0,0))->w.heap[rb]? =some (.cells rows 71 (0,0))->w.cell? ⟨bx,0,none⟩=some (.slice (some ⟨rb,0,none⟩) n n)/\w.cell? ⟨rb,i,none⟩=some rv/\w.frozen? ⟨rb,i,none⟩=false:=fun w h1 h2=>⟨az h1 0,(az h2 i).trans ir,cH h2 i⟩
  by_cases h7:L.getD 7 false=true
  .by_cases h8:L.getD 8 false=true
   .obtain⟨q1,q2⟩:=kp _ _ (h.w8 h8 h10);exact fin w q1 q2
   .rw [h.w7 h7 (by simpa using h8)];exact fin _ ((dM D _ bx (eO De)).trans De) ((dM D _ rb (eO Dm)).trans Dm)
  .rw [h.w0 (by simpa using h7)];exact fin _ De Dm
 refine aeE (I9 D bx rb pb n i base k rv xs x) ?_ ?_ _ _ _ _ (by simp) ?_
 .intro L a w h hr;have nr:∀j o,(_:Array Oper)[j]? =some o->(∀e∈o.after,Region.binds .any e=true->L.getD e.on false=true)->j<11->L.getD j false=true:=fun j o ho hall hj=>by
   by_cases hL:L.getD j false=true
   .exact hL
   .exfalso;have:j∈Region.ready _ _ L:=mem_ready.2 ⟨by
     have hz:=h.lz;simp only [Uf]at hL ⊢;rw [Nh (by omega)]at hL ⊢;simpa using hL,o,ho,hall⟩
    rw [hr]at this;cases this
  have g0:=nr 0 _ rfl (by simp) (by omega);have g1:=nr 1 _ rfl (by simp) (by omega);have g2:=nr 2 _ rfl (by simp) (by omega);have g3:=nr 3 _ rfl (by simp) (by omega);have g4:=nr 4 _ rfl (by intro e he _;simp at he;(repeat' (rcases he with rfl|he));all_goals(first|assumption|(subst he;assumption))) (by omega);have g5:=nr 5 _ rfl (by intro e he _;simp at he;(repeat' (rcases he with rfl|he));all_goals(first|assumption|(subst he;assumption))) (by omega);have g6:=nr 6 _ rfl (by simp) (by omega);have g7:=nr 7 _ rfl (by intro e he _;simp at he;(repeat' (rcases he with rfl|he));all_goals(first|assumption|(subst he;assumption))) (by omega);have g8:=nr 8 _ rfl (by intro e he _;simp at he;(repeat' (rcases he with rfl|he));all_goals(first|assumption|(subst he;assumption))) (by omega);have g9:=nr 9 _ rfl (by intro e he _;simp at he;(repeat' (rcases he with rfl|he));all_goals(first|assumption|(subst he;assumption))) (by omega);have g10:=nr 10 _ rfl (by intro e he _;simp at he;(repeat' (rcases he with rfl|he));all_goals(first|assumption|(subst he;assumption))) (by omega);obtain⟨w8,v,hA,rfl⟩:=h.DX g10;exact hQ _ _ _ hA
 .intro L a w j h hj;obtain⟨hu,o,ho,hall⟩:=mem_ready.1 hj;have hz:=h.lz;have un:∀m,m<11->L.getD m true=false->L.getD m false=false:=fun m hm hh=>by
   simp only [Uf]at hh ⊢;rw [Nh (by omega)]at hh ⊢;simpa using hh
  have hF:(Fence.wide.inRound l).round=some l:=rfl;have n10:∀m,m<10->L.getD m false=false->L.getD 10 false=false:=fun m hm hh=>by
   by_cases e:L.getD 10 false=true
   .rw [h.oA e m hm]at hh;cases hh
   .simpa using e
  have n76:L.getD 6 false=false->L.getD 7 false=false:=fun hh=>by
   by_cases e:L.getD 7 false=true
   .rw [h.AG e]at hh;cases hh
   .simpa using e
  match j,hu,ho,hall with
  |0,hu,ho,hall=>
   have ho':some _=some o:=ho;obtain rfl:=aK ho';clear ho ho';obtain⟨r1,r2,r3⟩:=rd L a w h (n10 0 (by omega) (un 0 (by omega) hu));refine zo hF _ rfl rfl (by intro c hc;cases hc) rfl (adr _ w bx rb n _ r1 h.e6) ?_;exact h.put (j:=0) (by omega) (by omega) (by omega)
  |1,hu,ho,hall=>
   have ho':some _=some o:=ho;obtain rfl:=aK ho';clear ho ho';refine zo hF _ rfl rfl (by intro c hc;cases hc) rfl (ads _ w i _ h.e7) ?_;exact h.put (j:=1) (by omega) (by omega) (by omega)
  |2,hu,ho,hall=>
   have ho':some _=some o:=ho;obtain rfl:=aK ho';clear ho ho';obtain⟨r1,r2,r3⟩:=rd L a w h (n10 2 (by omega) (un 2 (by omega) hu));refine zo hF _ rfl rfl (by intro c hc;cases hc) rfl (adr _ w bx rb n _ r1 h.e6) ?_;exact h.put (j:=2) (by omega) (by omega) (by omega)
  |3,hu,ho,hall=>
   have ho':some _=some o:=ho;obtain rfl:=aK ho';clear ho ho';refine zo hF _ rfl rfl (by intro c hc;cases hc) rfl (ads _ w i _ h.e7) ?_;exact h.put (j:=3) (by omega) (by omega) (by omega)
  |4,hu,ho,hall=>
   have ho':some _=some o:=ho;obtain rfl:=aK ho';clear ho ho';have k2:=hall ⟨2,.data⟩ (by simp) rfl;have k3:=hall ⟨3,.data⟩ (by simp) rfl;refine zo hF _ rfl rfl (by intro c hc;cases hc) rfl (adq _ w rb n i _ 28 29 _ (h.vs 2 (by omega) (by omega) k2) (h.vs 3 (by omega) (by omega) k3) hi) ?_;exact h.put (j:=4) (by omega) (by omega) (by omega)
  |5,hu,ho,hall=>
   have ho':some _=some o:=ho;obtain rfl:=aK ho';clear ho ho';have k4:=hall ⟨4,.data⟩ (by simp) rfl;obtain⟨r1,r2,r3⟩:=rd L a w h (n10 5 (by omega) (un 5 (by omega) hu));refine zo hF _ rfl rfl (by intro c hc;cases hc) rfl (aoc _ w rb i _ rv _ (h.vs 4 (by omega) (by omega) k4) r2) ?_;exact h.put (j:=5) (by omega) (by omega) (by omega)
  |6,hu,ho,hall=>
   have ho':some _=some o:=ho;obtain rfl:=aK ho';clear ho ho';have e7:L.getD 7 false=false:=n76 (un 6 (by omega) hu);have ew:=h.w0 e7;subst ew;refine zo hF _ rfl rfl (by intro c hc;cases hc) rfl (aob _ w pb _ _ _ _ _ _ h.e8 (az IK 0) (az IK 1) (az IK 2) (az IK 3) (az IK 4)) ?_;exact h.put (j:=6) (by omega) (by omega) (by omega)
  |7,hu,ho,hall=>
   have ho':some _=some o:=ho;obtain rfl:=aK ho';clear ho ho';have k6:=hall ⟨6,.data⟩ (by simp) rfl;have e7:=un 7 (by omega) hu;have ew:=h.w0 e7;subst ew;refine zo hF _ rfl rfl (by intro c hc;cases hc) rfl (aoa _ w _ _ _ _ _ _ _ (h.vs 6 (by omega) (by omega) k6)) ?_;exact h.akP e7 k6
  |8,hu,ho,hall=>
   have ho':some _=some o:=ho;obtain rfl:=aK ho';clear ho ho';have k5:=hall ⟨5,.data⟩ (by simp) rfl;have k7:=hall ⟨7,.data⟩ (by simp) rfl;have e8:=un 8 (by omega) hu;have ew:=h.w7 k7 e8;subst ew;obtain⟨v',w',q1,q2,q3,q4⟩:=an9 a.eval (some 34) (D.alloc (.cells (qH x).toArray 75)) base k rv xs (qH x) #[⟨5,.data⟩,⟨7,.data⟩] D.heap.size (h.vs 5 (by omega) (by omega) k5) (h.vs 7 (by omega) (by omega) k7) (hown'.alloc _) rfl (akn _ _ _ _ _ _ _) (by simp [qH,Value.oneCell']) hk (by simp;omega);refine zo hF _ rfl rfl (by intro c hc;cases hc) rfl q1 ?_;exact h.akQ e8 k7 ⟨q2,q3,by simpa using q4⟩
  |9,hu,ho,hall=>
   have ho':some _=some o:=ho;obtain rfl:=aK ho';clear ho ho';have k0:=hall ⟨0,.data⟩ (by simp) rfl;have k1:=hall ⟨1,.data⟩ (by simp) rfl;refine zo hF _ rfl rfl (by intro c hc;cases hc) rfl (adq _ w rb n i _ 26 27 _ (h.vs 0 (by omega) (by omega) k0) (h.vs 1 (by omega) (by omega) k1) hi) ?_;exact h.put (j:=9) (by omega) (by omega) (by omega)
  |10,hu,ho,hall=>
   have ho':some _=some o:=ho;obtain rfl:=aK ho';clear ho ho';have k9:=hall ⟨9,.data⟩ (by simp) rfl;have k8:=hall ⟨8,.data⟩ (by simp) rfl;have k7:=hall ⟨7,.phase⟩ (by simp) rfl;have e10:=un 10 (by omega) hu;obtain⟨r1,r2,r3⟩:=rd L a w h e10;have hA:=h.w8 k8 e10;obtain⟨ga,ca,ev⟩:=ownsRow_succ hA.own;have hp:=h.akO k7 k8 e10 (fun m hm=>by
    match m,hm with
    |0,_=>exact hall ⟨0,.phase⟩ (by simp) rfl
    |1,_=>exact hall ⟨1,.phase⟩ (by simp) rfl
    |2,_=>exact hall ⟨2,.phase⟩ (by simp) rfl
    |3,_=>exact hall ⟨3,.phase⟩ (by simp) rfl
    |4,_=>exact hall ⟨4,.phase⟩ (by simp) rfl
    |5,_=>exact hall ⟨5,.phase⟩ (by simp) rfl
    |6,_=>exact hall ⟨6,.phase⟩ (by simp) rfl
    |7,_=>exact k7
    |8,_=>exact k8
    |9,_=>exact k9
    |m+10,hm=>omega)
   rw [ev]at hp;exact step_skip hF _ rfl rfl (by intro c hc;cases hc) rfl (aod _ w rb i rv _ _ _ _ (h.vs 9 (by omega) (by omega) k9) ev r2 r3) hp
  |j+11,hu,ho,hall=>simp at ho
 .exact
  {lz:=(by simp),tz:=ht,e6:=e6,e7:=e7,e8:=e8,
   vs:=fun j hj _ hL=>(by exfalso;revert hL;simp [Array.getD]),
   w0:=fun _=>rfl,
   w7:=fun hL=>(by exfalso;revert hL;simp [Array.getD]),
   w8:=fun hL=>(by exfalso;revert hL;simp [Array.getD]),
   DX:=fun hL=>(by exfalso;revert hL;simp [Array.getD]),
   AH:=fun hL=>(by exfalso;revert hL;simp [Array.getD]),
   AE:=fun hL=>(by exfalso;revert hL;simp [Array.getD]),
   oA:=fun hL=>(by exfalso;revert hL;simp [Array.getD]),
   AG:=fun hL=>(by exfalso;revert hL;simp [Array.getD])}
end
theorem aa1(s:ByteArray):∀(f p:Nat),p<=s.size->s.size<=p+f->(runesFrom s f p=none↔jS s p<s.size)
 |0,p,hp,hf=>by
  have hn:¬p<s.size:=by omega
  rw [DN s 0 p hn,Pw hn];simp;omega
 |f+1,p,hp,hf=>by
  by_cases hlt:p<s.size
  .by_cases hz:bu s p=0
   .rw [S8 s (f+1) p hf hlt hz,Lr hlt hz];simp [hlt]
   .have he:runesFrom s (f+1) p=(runesFrom s f (p+bu s p)).map (iL s p::·):=by simp [runesFrom,hlt,hz]
    rw [he,Ls hlt hz,Option.map_eq_none_iff];exact aa1 s f (p+bu s p) (Tz s p hlt hz) (by omega)
  .rw [DN s (f+1) p hlt,Pw hlt];simp;omega
theorem alD(s:ByteArray):fH s=none↔jS s 0<s.size:=aa1 s s.size 0 (by omega) (by omega)
def J9(w':World)(B:Nat)(ev:Value)(f:Int×Int×Int)(aL aT aC:Addr):Prop:=
 (f=(0,0,0)/\ev= .nilIface)∨(f=(1, -1, -1)/\ev=Hr 1 aL aT aC)∨
 ∃b e ln at',ev= .iface 92 (.pointer (some ⟨b,0,none⟩))/\w'.heap[b]? =some (.cells #[.int .i64 ln,.int .i64 at',Hr e aL aT aC] 96 (0,0))/\B<=b/\f=(e,ln,at')/\(e=1∨e=2∨e=3)
def zY(w:World):Prop:=∃m:Int,w.cell? ⟨10,0,none⟩=some (.int .i64 m)
theorem zY.below {w w':World}(h:zY w)(hb:Below w.heap.size w w'):zY w':=h.imp fun _ h=>jf hb h
theorem anc {w:World}{aL aT aC:Addr}(h:Env w aL aT aC):Lib.Utf8Tabs (Tryz.lays197_ren.g 3) (Tryz.lays197_ren.g 4) w:=h.tabs
theorem afC(s:ByteArray)(w:World)(aL aT aC:Addr)(hE:Env w aL aT aC)(hM:zY w):
  Calls prog 61 #[.string s] w fun e w'=>∃ev,e= .returned ev/\J9 w' w.heap.size ev (dS s) aL aT aC/\Below w.heap.size w w':=by
 by_cases hz:600<s.size
 .have hz':(s.size:Int)>600:=by omega
  have hL:dS s=(1, -1, -1):=aj hz;have hc:=hE.long;have HL:=ah hL;clear hE hM hL;go_enter func61,ntmps61;go_wp2;go_ret;exact⟨_,rfl,.inr (.inl ⟨HL.out,rfl⟩),aA _ _⟩
 .have hz':¬(s.size:Int)>600:=by omega
  obtain⟨m,hm⟩:=hM;have hle:=Jq s 0 0 (by omega);have nJ:Hid (∀x∈bF s 0 0,x.size<=600):=fun x hx=>by have:=RO s 0 0 x hx;omega
  have Eg:=acD s m w (by omega) hm;have HF:Hid (dS s=match p9 (bF s 0 0) 0 with
   |some (i,p)=>(2,((i:Nat):Int),((p:Nat):Int))
   |none=>match oL (dP (bF s 0 0)) 0 with
    |some i=>(1,((i:Nat):Int),0)
    |none=>(0,0,0)):=ai hz
  obtain⟨F,hF⟩:∃F,F=dS s:=⟨_,rfl⟩
  rw [<-hF]at HF ⊢;have HE:=ah hE;clear hF hE hm hz;generalize bF s 0 0=LS at*;obtain⟨N,hN⟩:∃N,N=LS.length:=⟨_,rfl⟩
  have HN:=ah hN;rw [<-hN]at hle Eg;clear hN;go_enter func61,ntmps61;go_wp2_with fail;refine Eg.mono ?_;clear Eg;rintro ev W1 ⟨rfl,hW1⟩;have hb1:Below w.heap.size w W1:=by rw [hW1];exact(aA _ _).alloc (ay _) _
  have hk1:W1.heap[w.heap.size]? =some (.cells (ny LS).toArray 9 (0,0)):=by rw [hW1];exact World.alloc_heap_new _ _
  have aG:=ah hb1;have qL:Hid (∀W,Below W1.heap.size W1 W->∀i x,LS[i]? =some x->W.cell? ⟨w.heap.size,i,none⟩=some (.string x)):=fun W hW i x hx=>by
   rw [cell_of (cB hW hk1) i];simp [ny,hx]
  have hz1:w.heap.size<W1.heap.size:=eO hk1;clear hW1 hb1 hk1;go_wp2;go_loopg [17,4,5,6] N (fun gk fE _ _ _ W=>∃(i:Nat),i<=N/\gk=N - i/\fE= .int .i64 i/\p9 (LS.drop i) i=p9 LS 0/\Below W1.heap.size W1 W);case atStart=>exact⟨0,by omega,rfl,rfl,rfl,aA _ _⟩
  case round=>
   rename World=>wa
   obtain⟨i,hi,rfl,rfl,hbad,hb⟩:=hrel;have HB:=ah hb;have hbz:=hb.size;by_cases hlt:i<N
   .have hil:i<LS.length:=by rw [<-HN.out];exact hlt
    obtain⟨x,hx⟩:∃x,x=LS[i]'hil:=⟨_,rfl⟩
    have Y3:=qL.out wa hb i x (by rw [aQ hil,hx]);have hsz:x.size<=600:=by rw [hx];exact nJ.out _ (pV hil)
    have pE:Env wa aL aT aC:=HE.out.below (aG.out.trans (hb.mono (by omega)));have Vf:Hid (Calls prog 104 #[.string x] wa fun e w'=>e= .returned (.int .i64 (jS x 0:Nat))/\Below wa.heap.size wa w'):=alA x wa (by omega) (fun W hW=>anc (pE.below hW));have Kh:=ah pE;rw [l9 hil,<-hx,p9]at hbad;have UT:=ah (alD x);have hin:(i:Int)<(N:Int):=by omega
    clear hx hil hb pE;go_wp2_with fail;refine Vf.out.mono ?_;clear Vf;rintro ev wr ⟨rfl,hbr⟩;have kg:=ah (HB.out.trans (hbr.mono hbz));have P5:=Kh.out.below hbr;have hct:=P5.text;generalize jS x 0=p at*;by_cases hp:p<x.size
    .have hp':(p:Int)<(x.size:Int):=by omega
     rw [UT.out.2 hp]at hbad;have qK:Hid (F=(2,(i:Int),(p:Int))):=by show _=_;rw [HF.out,<-hbad]
     clear hbad hbr P5;go_wp2;go_ret;refine⟨_,rfl,.inr (.inr ⟨wr.heap.size,2,i,p,rfl,World.alloc_heap_new _ _,?_,qK.out,by omega⟩),?_⟩
     .have:=kg.out.size;omega
     .exact(aG.out.trans (kg.out.mono (by omega))).alloc (by have:=kg.out.size;omega) _
    .have hp':¬(p:Int)<(x.size:Int):=by omega
     obtain⟨rs,hrs⟩:∃rs,fH x=some rs:=by
      cases h:fH x with
      |none=>exact absurd (UT.out.1 h) hp
      |some rs=>exact⟨rs,rfl⟩
     rw [hrs]at hbad;simp only at hbad;have Np:=ah hbad;clear hbad hbr P5 hct hrs;go_wp2;go_roundg (N - (i+1));case measure=>omega
     case rel=>exact⟨i+1,by omega,rfl,by go_num,Np.out,kg.out⟩
   .obtain rfl:i=N:=by omega
    have hin:¬(i:Int)<(i:Int):=by omega
    rw [uU (by rw [HN.out];exact ay _),p9]at hbad;have Ka:=ah (O4 hbad.symm);have dX:Hid (F=match oL (dP LS) 0 with
     |some i=>(1,((i:Nat):Int),0)
     |none=>(0,0,0)):=by show _=_;rw [HF.out,<-hbad]
    clear hbad hb;go_wp2;go_loopg [37,7,8] i (fun gk kv _ _ W=>∃(k:Nat),k<=i/\gk=i - k/\kv= .int .i64 k/\oL ((dP LS).drop k) k=oL (dP LS) 0/\Below W1.heap.size W1 W);case atStart=>exact⟨0,by omega,rfl,rfl,rfl,HB.out⟩
    case round=>
     rename World=>wk
     obtain⟨k,hk,rfl,rfl,lJ,hbk⟩:=hrel;have Cz:=ah hbk;have hbkz:=hbk.size;by_cases hkl:k<i
     .have hil:k<LS.length:=by rw [<-HN.out];exact hkl
      obtain⟨x,hx⟩:∃x,x=LS[k]'hil:=⟨_,rfl⟩
      have Y3:=qL.out wk hbk k x (by rw [aQ hil,hx]);have hsz:x.size<=600:=by rw [hx];exact nJ.out _ (pV hil)
      obtain⟨rs,hrs⟩:=Ka.out x (by rw [hx];exact pV hil);have Ns:=afV x wk (by omega);rw [runeCount_eq hrs]at Ns;have Uz:Hid _:=Ns;have pE:Env wk aL aT aC:=HE.out.below (aG.out.trans (hbk.mono (by omega)));have Kh:=ah pE;have hrl:k<(dP LS).length:=by simpa [dP]using hil
      have Dh:(dP LS)[k]'hrl=rs:=by simp [dP,<-hx,hrs]
      rw [l9 hrl,Dh,oL]at lJ;have hki:(k:Int)<(i:Int):=by omega
      generalize rs.length=q at*;clear hx hil hbk pE Ns hrs hrl Dh;go_wp2_with fail;refine zy Uz.out ?_;clear Uz;rintro ev wr ⟨rfl,hbr⟩;have kg:=ah (Cz.out.trans (hbr.mono hbkz));have hcl:=(Kh.out.below hbr).long;clear hbr;by_cases hq:300<q
      .rw [aj hq]at lJ;have hq':(q:Int)>300:=by omega
       have qK:Hid (F=(1,(k:Int),0)):=by show _=_;rw [dX.out,<-lJ]
       clear lJ;go_wp2;go_ret;refine⟨_,rfl,.inr (.inr ⟨wr.heap.size,1,k,0,rfl,World.alloc_heap_new _ _,?_,qK.out,by omega⟩),?_⟩
       .have:=kg.out.size;omega
       .exact(aG.out.trans (kg.out.mono (by omega))).alloc (by have:=kg.out.size;omega) _
      .rw [ai hq]at lJ;have hq':¬(q:Int)>300:=by omega
       have CG:=ah lJ;clear lJ hcl;go_wp2;go_roundg (i - (k+1));case measure=>omega
       case rel=>exact⟨k+1,by omega,rfl,by go_num,CG.out,kg.out⟩
     .obtain rfl:k=i:=by omega
      have hki:¬(k:Int)<(k:Int):=by omega
      rw [uU (by simp [dP,HN.out]),oL]at lJ;have qK:Hid (F=(0,0,0)):=by show _=_;rw [dX.out,<-lJ]
      clear lJ hbk;go_wp2;go_ret;exact⟨_,rfl,.inl ⟨qK.out,rfl⟩,aG.out.trans (Cz.out.mono (by omega))⟩
structure SI(B bx rb n:Nat)(pre:List PR)(W:World):Prop where
 box:W.heap[bx]? =some (.cells #[.slice (some ⟨rb,0,none⟩) n n] 103 (0,0))
 rows:∃rows:Array Value,W.heap[rb]? =some (.cells rows 71 (0,0))/\rows.size=n/\(∀i rv,rows[i]? =some rv->W.ownsRow B 75 5 rv (gX pre i).length (pK (gX pre i)))/\(∀(i j:Nat)(rv Cs:Value),i≠j->rows[i]? =some rv->rows[j]? =some Cs->∀k,rv.ownBlock=some k->Cs.ownBlock≠some k)
 sz:B<=W.heap.size
 lb:bx<B
 lr:rb<B
theorem SI.z8 {B bx rb n:Nat}{pre:List PR}{A C:World}(h:SI B bx rb n pre A)(ha:lq A C):SI B bx rb n pre C:=by
 obtain⟨rows,h1,h2,h3,h4⟩:=h.rows;exact⟨ha.block _ _ h.box (fun c fr e=>by cases e),⟨rows,ha.block _ _ h1 (fun c fr e=>by cases e),h2,fun i rv hi=>Sw (h3 i rv hi) ha (by decide),h4⟩,bU h.sz ha.size,h.lb,h.lr⟩
theorem SI.put {B bx rb n:Nat}{pre:List PR}{W:World}(h:SI B bx rb n pre W){l:Nat}{o:Obj}(hl:B<=l)(ho:W.heap[l]? =some o)(hc:o.isCells=false)(o':Obj):SI B bx rb n pre (W.putObj l o'):=by
 obtain⟨rows,h1,h2,h3,h4⟩:=h.rows;have:=h.lb;have:=h.lr;exact⟨(pL (by omega)).trans h.box,⟨rows,(pL (by omega)).trans h1,h2,fun i rv hi=>MK (h3 i rv hi) ho hc o',h4⟩,by simp [World.putObj];exact h.sz,h.lb,h.lr⟩
theorem aa5(l:List PR)(x:PR)(i:Nat):gX (l++[x]) i=if x.line=i then gX l i++[x]else gX l i:=by
 unfold gX;rw [qQ];by_cases h:x.line=i<;>simp [h]
theorem SI.step {B B0 bx rb n:Nat}{pre:List PR}{W w8:World}{x:PR}{rows:Array Value}{rv v:Value}(h:SI B bx rb n pre W)(hrb:W.heap[rb]? =some (.cells rows 71 (0,0)))(ir:rows[x.line]? =some rv)
  (hA:DY W B (gX pre x.line).length rv (pK (gX pre x.line)) x w8 v) (h0:B0<=rb):SI B bx rb n (pre++[x]) (w8.setCell ⟨rb,x.line,none⟩ v)/\Kb B0 W (w8.setCell ⟨rb,x.line,none⟩ v):=by
 obtain⟨rows',h1,h2,h3,h4⟩:=h.rows;rw [hrb]at h1;obtain rfl:rows=rows':=by injection h1 with h1;injection h1
 have hB:=h.sz;have hlb:=h.lb;have hlr:=h.lr;have ZT:=h3 _ _ ir;have ZR:∀j,rv.ownBlock=some j->B<=j/\j<W.heap.size:=fun j hj=>by
  obtain⟨q1,c,q2⟩:=Fq ZT hj;exact⟨q1,eO q2⟩
 have Qo:w8.heap[bx]? =some (.cells #[.slice (some ⟨rb,0,none⟩) n n] 103 (0,0)):=
  (hA.gr.block bx (by simp;omega) (fun e=>by have:=(ZR _ e.symm).1;omega)).trans ((dM W _ bx (by omega)).trans h.box)
 have Ml:w8.heap[rb]? =some (.cells rows 71 (0,0)):=
  (hA.gr.block rb (by simp;omega) (fun e=>by have:=(ZR _ e.symm).1;omega)).trans ((dM W _ rb (by omega)).trans hrb)
 have g6:w8.grownBy (w8.setCell ⟨rb,x.line,none⟩ v) (some rb):=Tn _ _ _ _;have ZU:=hA.gr.size;have Mn:=g6.size;have hxl:x.line<rows.size:=by
  rcases cK x.line rows.size with q|q
  .exact q
  .rw [uJ q]at ir;cases ir
 refine⟨⟨(g6.block bx (eO Qo) (fun e=> ?_)).trans Qo,⟨rows.setIfInBounds x.line v,by rw [fK Ml],by simpa using h2,?_,?_⟩,by simp at ZU;omega,hlb,hlr⟩,?_⟩
 .obtain rfl:=aK e;rw [Qo]at Ml;cases Ml
 .intro i FA hi;by_cases e:x.line=i
  .subst e;rw [Ug hxl]at hi;obtain rfl:=aK hi;rw [aa5,aj rfl,akj,bP];exact Sv hA.own g6 (fun k hk e=>by have:=(Fq hA.own hk).1;have:=aK e;omega)
  .rw [DZ e]at hi;rw [aa5,ai e];have o1:=(h3 i FA hi).alloc (.cells (qH x).toArray 75);have o2:=Sv o1 hA.gr (fun k hk e'=>h4 i x.line FA rv (fun q=>e q.symm) hi ir k hk e'.symm);exact Sv o2 g6 (fun k hk e=>by have:=(Fq o2 hk).1;have:=aK e;omega)
 .intro i j FA Ta hij hi hj k hk;have lt:∀(m:Nat)(rm:Value),rows[m]? =some rm->∀k,rm.ownBlock=some k->k<W.heap.size:=fun m rm hm k hk=>by
   obtain⟨_,c,q2⟩:=Fq (h3 m rm hm) hk;exact eO q2
  by_cases e:x.line=i
  .subst e;rw [Ug hxl]at hi;obtain rfl:=aK hi;rw [DZ hij]at hj;intro hk2;rcases hA.blk with q|q
   .exact h4 x.line j rv Ta hij ir hj k (by rw [<-q];exact hk) hk2
   .have:=lt j Ta hj k hk2;rw [q]at hk;have:=aK hk;omega
  .rw [DZ e]at hi;by_cases e2:x.line=j
   .subst e2;rw [Ug hxl]at hj;obtain rfl:=aK hj;intro hk2;rcases hA.blk with q|q
    .exact h4 i x.line FA rv hij hi ir k hk (by rw [<-q];exact hk2)
    .have:=lt i FA hi k hk;rw [q]at hk2;have:=aK hk2;omega
   .rw [DZ e2]at hj;exact h4 i j FA Ta hij hi hj k hk
 .have K1:Kb B0 W (W.alloc (.cells (qH x).toArray 75)):=(Kb.refl B0 W).al (by omega) _;have K2:Kb B0 W w8:=K1.grown hA.gr (by simp;omega) (fun k hk=>by
   obtain⟨q1,c,q2⟩:=Fq (ZT.alloc (.cells (qH x).toArray 75)) hk;exact⟨by omega,c,_,_,q2,.inr (.inr (.inl rfl))⟩)
  exact K2.grown g6 (by simp at ZU;omega) (fun k hk=>by obtain rfl:=aK hk;exact⟨h0,_,_,_,Ml,.inr (.inr (.inr rfl))⟩)
theorem akm {s:ByteArray}(hz:s.size<=600){x:PR}(hx:x∈nT s):x.line<(bF s 0 0).length:=by
 rw [SG s hz]at hx;obtain⟨y,h4,_⟩:=abr s x hx;exact(qW.1 h4).1
section
attribute [local go_sem] Oper.semAt_some
theorem Tryz.aid:(prog.info? 71).map (fun i=>(i.zero,i.size,i.bytes))=some (some (.slice none 0 0),1,24):=by kernel_rfl
theorem Wh(l:List Bool)(i:Nat)(h:i<=l.length):(lD (l.take i)).length=i:=by
 unfold lD;rw [jE,rW];omega
theorem afb(l:List Bool)(N:Nat):lD (l.take 0)++List.replicate (N - 0) (Value.bool false)=List.replicate N (Value.bool false):=by
 rw [VK,Nat.sub_zero];rfl
theorem ae9(l:List Bool)(N i:Nat)(hl:l.length=N)(hi:i<N):(lD (l.take i)++List.replicate (N - i) (Value.bool false))[i]? =some (.bool false):=by
 have e1:=Wh l i (by omega);rw [pT (by omega),e1,nK,OH,aj (by omega)]
theorem afa(l:List Bool)(N i:Nat)(hl:l.length=N)(hi:i<N):(lD (l.take i)++List.replicate (N - i) (Value.bool false)).set i (.bool (l.getD i false))=lD (l.take (i+1))++List.replicate (N - (i+1)) (Value.bool false):=by
 have e1:=Wh l i (by omega);have e3:N - i=(N - (i+1))+1:=by omega
 have e4:l.take (i+1)=l.take i++[l.getD i false]:=by
  rw [zX,aO,aQ (by omega)];rfl
 rw [uX _ _ (by omega),e1,nK,e3,Er,aep,e4];unfold lD;rw [fO,eV];rfl
theorem ag7(s:ByteArray)(w:World)(aL aT aC:Addr)(hE:Env w aL aT aC)(hB:Br w)(hM:zY w)(env:nL w)(h20:10<=w.heap.size):
  Calls prog 39 #[.string s] w fun e w'=>∃v ev,e= .returned (.tuple #[v,ev])/\J9 w' w.heap.size ev (dS s) aL aT aC/\((dS s).1≠0->v= .slice none 0 0)/\((dS s).1=0->w'.ownsRow w.heap.size 4 1 v (fA s).length (lD (fA s)))/\Below w.heap.size w w':=by
 refine(callsIn_wide (n:=0)).1 (callsIn_of_wp_marks func39 rfl trivial ?_ rfl);simp only [ntmps39,List.size_toArray,eW,kq,Nat.reduceAdd,Nat.reduceSub,Array.replicate_succ,Array.replicate_zero,List.push_toArray,List.append_toArray,yx,Gy];refine(T9 (n:=0)).2 ?_;have HC:Hid _:=afC s w aL aT aC hE hM;have HE:=ah hE;have kg:=ah hB;have HM:=ah hM;have HP:=ah env;clear hE hB hM env;go_wp2_with fail;refine zy HC.out ?_;clear HC;rintro ev W1 ⟨er,rfl,xw,hb1⟩;by_cases h0:(dS s).1=0
 .obtain⟨I4,hL0,_⟩:=look_ok h0;have he:er= .nilIface:=by
   rw [hL0]at xw;rcases xw with⟨_,h⟩|⟨h,_⟩|⟨b,e,ln,at',_,_,_,h,h'⟩
   .exact h
   .simp at h
   .simp at h;omega
  subst he;obtain⟨m,hm⟩:=HM.out.below hb1;have Eg:Hid _:=acD s m W1 (by omega) hm;have dN:=ah h0;have UC:=ah xw;have aG:=ah hb1;have hlen:=Jq s 0 0 (by omega);have hmk:=run_make_row' (P:=prog) 103 71 (.slice none 0 0) 24 underlying103 Tryz.aid rfl .i64 .i64 (bF s 0 0).length (by omega) (by omega);clear xw hb1 hm h0 hL0;go_wp2_with fail;refine zy Eg.out ?_;clear Eg;rintro ev W2 ⟨rfl,rfl⟩;go_wp2_with fail;refine(ag6 _ s).mono ?_;rintro ev W3 ⟨rfl,rfl⟩;go_wp2;obtain⟨N,hN⟩:∃N,N=(bF s 0 0).length:=⟨_,rfl⟩
  rw [<-hN]at hlen ⊢;have HN:=ah hN;clear hmk hN;obtain⟨q0,q1,q2,q3⟩:=aey W1 (.cells (ny (bF s 0 0)).toArray 9) (.cells (madeCells #[.slice none 0 0] N) 71) (.cells #[.slice (some ⟨W1.heap.size+1,0,none⟩) N N] 103) (.cells #[.string s] 9);have hsz:((((W1.alloc (.cells (ny (bF s 0 0)).toArray 9)).alloc (.cells (madeCells #[.slice none 0 0] N) 71)).alloc (.cells #[.slice (some ⟨W1.heap.size+1,0,none⟩) N N] 103)).alloc (.cells #[.string s] 9)).heap.size=W1.heap.size+4:=by simp
  have vw:Below w.heap.size w ((((W1.alloc (.cells (ny (bF s 0 0)).toArray 9)).alloc (.cells (madeCells #[.slice none 0 0] N) 71)).alloc (.cells #[.slice (some ⟨W1.heap.size+1,0,none⟩) N N] 103)).alloc (.cells #[.string s] 9)):=by
   have h1:=aG.out.size;exact(((aG.out.alloc h1 _).alloc (by simp;omega) _).alloc (by simp;omega) _).alloc (by simp;omega) _
  have hz1:=aG.out.size;generalize((((W1.alloc (.cells (ny (bF s 0 0)).toArray 9)).alloc (.cells (madeCells #[.slice none 0 0] N) 71)).alloc (.cells #[.slice (some ⟨W1.heap.size+1,0,none⟩) N N] 103)).alloc (.cells #[.string s] 9))=W0 at*;generalize W1.heap.size=z at*;have YQ:W0.cell? ⟨z+3,0,none⟩=some (.string s):=az q3 0;have hI0:SI (z+4) (z+2) (z+1) N [] W0:=by
   refine⟨q2,⟨_,q1,size_madeCells _ _,?_,?_⟩,by omega,by omega,by omega⟩
   .intro i rv hi;rw [<-adu,acL]at hi;rw [OH]at hi;split at hi
    .obtain rfl:=aK hi;exact jw _ _ _ _
    .cases hi
   .intro i j rv Cs _ hi _ k hk;rw [<-adu,acL]at hi;rw [OH]at hi;split at hi
    .obtain rfl:=aK hi;cases hk
    .cases hi
  have HW0:=ah vw;have Yz:nL W0:=HP.out.below h20 vw;clear q1 q2 q3 vw;refine akX (gf:=106) (lb:=#[.pointer (some ⟨z+3,0,none⟩)]) ?_ (Go.Proofs.enters_of func106 (by kernel_rfl) rfl) (n₀:=w.heap.size) (by omega) (ako W0 w.heap.size (z+3) s YQ Yz h20 (by omega)) (fun x=>rfl)
   aiF (fun W l o o' hl ho hc=>aiE (by omega) ho hc o') (fun A B h=>al1 h)
   (fun pre W=>SI (z+4) (z+2) (z+1) N pre W/\W.heap[z]? =some (.cells (ny (bF s 0 0)).toArray 9 (0,0))) (fun c pre W=>False)
   (fun pre A B h ha=>⟨h.1.z8 ha,ha.block _ _ h.2 (fun c fr e=>by cases e)⟩) (fun c pre A B h ha=>h)
   (fun pre W l o o' hl ho hc h=>⟨h.1.put (by omega) ho hc o',(pL (by omega)).trans h.2⟩) (fun c pre W l o o' hl ho hc h=>h)
   ?h0 ?round ?done ?stop
  .rfl
  case h0=>exact fun o1 o2=>⟨(hI0.z8 (GV W0 o1)).z8 (GV _ o2),(GV _ o2).block _ _ ((GV W0 o1).block _ _ q0 (fun c fr e=>by cases e)) (fun c fr e=>by cases e)⟩
  case stop=>
   rintro D c pre W hD hbW hp h;exact h.elim
  case round=>
   rintro l pre ⟨xl,xk,xf,xt,xb,xe⟩ W hl ⟨Qe,Iz⟩ hx;simp only [Pv]
   gi_wp2
   refine⟨fun k o hk _=>(dM W _ k (eO hk)).trans hk,⟨(aA _ _).alloc (by have:=Qe.sz;omega) _,fun k _ _ hk=>(dM W _ k (eO hk)).trans hk⟩,?_⟩;intro o o' ho BS;have BX:(⟨xl,xk,xf,xt,xb,xe⟩:PR)∈nT s:=hx.subset (by simp);have hxl:xl<N:=by rw [HN.out];exact akm I4 BX
   have hpl:pre.length<=600:=by
    have h1:=hx.length_le;have h2:=ML s;rw [bP]at h1;omega
   have a1:=GV W (.cells #[.int .i64 xk,.int .i64 xf,.int .i64 xt,.int .i64 xb,.int .i64 xe] 75);have gB:=(Qe.z8 a1).put (by omega) ho BS o';have ahy:=(pL (o:=o') (show z≠l by omega)).trans (a1.block _ _ Iz (fun c fr e=>by cases e));have hpt:((W.alloc (.cells #[.int .i64 xk,.int .i64 xf,.int .i64 xt,.int .i64 xb,.int .i64 xe] 75)).putObj l o').heap[W.heap.size]? =some (.cells #[.int .i64 xk,.int .i64 xf,.int .i64 xt,.int .i64 xb,.int .i64 xe] 75 (0,0)):=by
    rw [pL]
    .exact World.alloc_heap_new W _
    .rintro rfl;rw [World.alloc_heap_new]at ho;obtain rfl:=aK ho;cases BS
   clear Qe Iz a1 ho BS;generalize(W.alloc (.cells #[.int .i64 xk,.int .i64 xf,.int .i64 xt,.int .i64 xb,.int .i64 xe] 75)).putObj l o'=W4 at*;generalize W.heap.size=pb at*;obtain⟨rows,r1,r2,r3,r4⟩:=gB.rows;have ir:rows[xl]? =some rows[xl]:=Nh (by omega);have hol:(gX pre xl).length<=600:=bU (Sl _ _) hpl;refine wpIn_block ?_;refine alK l W4 (z+2) (z+1) pb N xl (z+4) _ rows _ _ ⟨xl,xk,xf,xt,xb,xe⟩ _ _ gB.box r1 hxl ir hpt (r3 _ _ ir) (by omega) gB.sz ?_ ?_ ?_ ?_ ?_
   .simp
   .rfl
   .rfl
   .rfl
   intro a' w8 v hA;have lI:SI (z+4) (z+2) (z+1) N pre W4.drew:=⟨gB.box,gB.rows,gB.sz,gB.lb,gB.lr⟩
   obtain⟨k1,k2⟩:=lI.step (x:=⟨xl,xk,xf,xt,xb,xe⟩) (B0:=w.heap.size) r1 ir hA (by omega);have k3:Kb w.heap.size W4 W4.drew:=⟨(aA _ _).drew,fun _ _ h _=>h⟩
   have k4:=k3.trans k2;exact⟨k4.same,k4.kpt,k1,k4.keep _ _ ahy (fun c t fr e=>by injection e with _ e2 _;subst e2;unfold MG;decide)⟩
  case done=>
   rintro D W hD hbW ⟨hS,Iz⟩ hK;have E2:=run_make_row' (P:=prog) 36 4 (.bool false) 1 underlying36 Tryz.Fa rfl .i64 .i64 N (by omega) (by omega);have HF:Hid (Below w.heap.size w W/\SI (z+4) (z+2) (z+1) N (nT s) W/\W.heap[z]? =some (.cells (ny (bF s 0 0)).toArray 9 (0,0))/\W.heap[D]? =some (.deferred (some []))/\z+4<=D):=⟨HW0.out.trans hbW,hS,Iz,hK,by omega⟩
   have HA:Hid ((W.alloc (.cells (madeCells #[.bool false] N) 4)).ownsRow W.heap.size 4 1 (.slice (some ⟨W.heap.size,0,none⟩) N N) N (lD ((fA s).take 0)++List.replicate (N - 0) (.bool false))):=by
    show World.ownsRow _ _ _ _ _ _ _;rw [afb];exact bh.made (ay _) (by omega)
   clear hbW hS Iz hK YQ hI0 Yz q0 hsz;simp only;go_wp2;go_loopg [41] N (fun gk fE Wx=>∃i:Nat,i<=N/\gk=N - i/\fE= .int .i64 i/\Below W.heap.size W Wx/\Wx.ownsRow W.heap.size 4 1 (.slice (some ⟨W.heap.size,0,none⟩) N N) N (lD ((fA s).take i)++List.replicate (N - i) (.bool false)));case atStart=>exact⟨0,by omega,rfl,rfl,(aA _ _).alloc (ay _) _,HA.out⟩
   case round=>
    rename World=>wa
    obtain⟨i,hi,rfl,rfl,hb,hown⟩:=hrel;have hbz:=hb.size;by_cases hlt:i<N
    .have hlt':(i:Int)<(N:Int):=by omega
     obtain⟨f1,f2,f3,f4,f5⟩:=HF.out;obtain⟨rows,r1,r2,r3,r4⟩:=f2.rows;have ir:rows[i]? =some rows[i]:=Nh (by omega);have ZB:yA wa rows[i] (nE s i):=(akh (r3 i _ ir)).below hb;have hcl:wa.cell? ⟨z,i,none⟩=some (.string ((bF s 0 0).getD i ⟨#[]⟩)):=by
      rw [az (cB hb f3) i];have hil:i<(bF s 0 0).length:=by rw [<-HN.out];exact hlt
      simp [ny,hil]
     have hcb:wa.cell? ⟨z+2,0,none⟩=some (.slice (some ⟨z+1,0,none⟩) N N):=az (cB hb f2.box) 0;have hcr:wa.cell? ⟨z+1,i,none⟩=some rows[i]:=(az (cB hb r1) i).trans ir;have mD:Below w.heap.size w wa:=f1.trans (hb.mono f1.size);have HI:Hid _:=aiq s dN.out i (by rw [<-HN.out];exact hlt) rows[i] wa aL aT aC (HE.out.below mD) (kg.out.below mD) ZB;have Cy:=ah hb;have HO:=ah hown;clear f1 f2 f3 f4 f5 r1 r3 r4 ZB mD hb hown ir;generalize rows[i]=rv at*;generalize(bF s 0 0).getD i ⟨#[]⟩=ln at*;clear r2;go_wp2_with fail;refine zy HI.out ?_;clear HI;rintro ev W5 ⟨rfl,dB⟩;have MF:=eH HO.out dB;have hsl:(fA s).length=N:=by rw [HN.out];simp [fA]
     have c9:W5.cell? ⟨W.heap.size,i,none⟩=some (.bool false):=by
      rw [MF.cellAt i (by omega)];exact ae9 _ _ _ hsl hlt
     have f9:W5.frozen? ⟨W.heap.size,i,none⟩=false:=MF.frozenAt i;have HN5:Hid ((W5.setCell ⟨W.heap.size,i,none⟩ (.bool ((fA s).getD i false))).ownsRow W.heap.size 4 1 (.slice (some ⟨W.heap.size,0,none⟩) N N) N (lD ((fA s).take (i+1))++List.replicate (N - (i+1)) (.bool false))):=by
      have q:=(MF.stored i (.bool ((fA s).getD i false))).1;rw [afa _ _ _ hsl hlt]at q;exact q
     have dx:Hid (Below W.heap.size W (W5.setCell ⟨W.heap.size,i,none⟩ (.bool ((fA s).getD i false)))):=(Cy.out.trans (dB.mono hbz)).setCell (ay _) _;clear MF dB HO Cy;generalize(fA s).getD i false=bo at*;go_wp2;go_roundg (N - (i+1));case measure=>omega
     case rel=>exact⟨i+1,by omega,rfl,by simp,dx.out,HN5.out⟩
    .have he:i=N:=by omega
     subst he;have hlt':¬(i:Int)<(i:Int):=by omega
     have Cy:=ah hb;have HO:=ah hown;clear hb hown;go_wp2;have hb:=Cy.out;obtain⟨f1,f2,f3,f4,f5⟩:=HF.out;have hK:wa.heap[D]? =some (.deferred (some [])):=cB hb f4;refine⟨by simp,.inl ⟨_,_,rfl,run_takeDeferred hK,?_⟩⟩;refine⟨.tuple #[.slice (some ⟨W.heap.size,0,none⟩) i i,.nilIface],by simp [results,results39,go_sem],_,_,rfl,.inl ⟨(look_ok dN.out).2.1,rfl⟩,fun h=>absurd dN.out h,fun _=> ?_,?_⟩
     .have hsl:(fA s).length=i:=by rw [HN.out];simp [fA]
      have q:=HO.out;rw [nK,lB (by omega)]at q;simp only [GI,lu]at q;rw [hsl];exact MK (Ch q f1.size) hK rfl _
     .exact Wd (f1.trans (hb.mono f1.size)) (by omega) _
 .have hne:er≠.nilIface:=by
   intro e;rcases xw with⟨h,_⟩|⟨h,h'⟩|⟨b,e',ln,at',h,_,_,h',_⟩
   .exact h0 (by rw [h])
   .rw [e]at h';unfold Hr at h';simp at h'
   .rw [e]at h;cases h
  obtain⟨T,u,rfl⟩:∃T u,er= .iface T u:=by
   rcases xw with⟨_,h⟩|⟨h,h'⟩|⟨b,e',ln,at',h,_,_,h',_⟩
   .exact absurd h hne
   .exact⟨_,_,h'⟩
   .exact⟨_,_,h⟩
  have UC:=ah xw;have aG:=ah hb1;have HO:=ah h0;clear xw hb1 h0 hne;go_wp2;refine⟨.tuple #[.slice none 0 0,.iface T u],by simp [results,results39,go_sem],_,_,rfl,UC.out,fun _=>rfl,fun h=>absurd h HO.out,aG.out⟩
end
section
open Go.RowKit Go.Extern.Stop Go.Stop Go.Extern
theorem ac4(b:Nat)(ln at' er:Value)(w:World)(h:w.heap[b]? =some (.cells #[ln,at',er] 96 (0,0))):
  Calls prog 57 #[.pointer (some ⟨b,0,none⟩)] w fun e w'=>e= .returned er/\w'=w:=by
 have c2:w.cell? ⟨b,2,none⟩=some er:=az h 2;go_enter func57,ntmps57;go_wp2;go_ret;exact⟨rfl,rfl⟩
theorem Tryz.ajb(p:Value)(w:World):(Go.method 483 92 p "Unwrap").run prog w= .ok (57,p) w:=by kernel_rfl
theorem Tryz.ajx(v:Value)(xT:TypeId)(w:World):(Instr.typeAssert (.iface 92 v) xT 233 true).run prog w= .ok (.tuple #[.nilIface,.bool false]) w:=run_typeAssert_lacksB underlying233 (by kernel_rfl) (by kernel_rfl) v xT w
theorem Tryz.aha(v:Value)(xT:TypeId)(w:World):(Instr.typeAssert (.iface 92 v) xT 230 true).run prog w= .ok (.tuple #[.iface 92 v,.bool true]) w:=run_typeAssert_hasB underlying230 (by kernel_rfl) v xT w
theorem aaj(p:Nat)(ln at':Value)(a b:Addr)(q:Bool)(w:World)(h:w.heap[p]? =some (.cells #[ln,at',.iface 354 (.pointer (some a))] 96 (0,0)))
  (he:(binOp .eql 53 (.iface 354 (.pointer (some a))) (.iface 354 (.pointer (some b)))).run prog w= .ok (.bool q) w):
  Calls prog 58 #[.iface 92 (.pointer (some ⟨p,0,none⟩)),.iface 354 (.pointer (some b))] w fun ev w'=>ev= .returned (.bool q)/\w'=w:=by
 have h10:=@lV prog 94 _ ReflectliteType.typeOf func94 (by kernel_rfl) (by kernel_rfl) (by kernel_rfl) (by kernel_rfl);have h11:=@lV prog 333 _ (ReflectliteType.method fun t=>do Rtype.noPackHeld "Comparable" t;pure (.bool (<-typeInfo t).comparable)) func333 (by kernel_rfl) (by kernel_rfl) (by kernel_rfl) (by kernel_rfl);have tO:=Tryz.TP;have mC:=Tryz.aaJ;have cS:=Tryz.WO;have q1:=Tryz.aaZ;have q2:=Tryz.Sa;have q3:=Tryz.Sb;have r1:=Tryz.ajx;have r2:=Tryz.aha;have mU:=Tryz.ajb;have eT:=run_eql_iface_types (P:=prog) 92 354 (.pointer (some ⟨p,0,none⟩)) (.pointer (some b)) underlying53 (by decide) w;have HU:=ac4 p ln at' _ w h;cases q
 .go_enter func58,ntmps58;go_wp2;refine dw 2 ?_;rw [aY];go_wp2_with fail;refine HU.mono ?_;rintro e w2 ⟨rfl,rfl⟩;go_wp2;rw [aY];go_wp2;go_ret;exact⟨rfl,rfl⟩
 .go_enter func58,ntmps58;go_wp2;refine dw 2 ?_;rw [aY];go_wp2_with fail;refine HU.mono ?_;rintro e w2 ⟨rfl,rfl⟩;go_wp2;rw [aY];go_wp2;go_ret;exact⟨rfl,rfl⟩
theorem Rt(p:Nat)(ln at':Value)(a:Addr)(w:World)(h:w.heap[p]? =some (.cells #[ln,at',.iface 354 (.pointer (some a))] 96 (0,0))):
  Calls prog 58 #[.iface 92 (.pointer (some ⟨p,0,none⟩)),.iface 354 (.pointer (some a))] w fun ev w'=>ev= .returned (.bool true)/\w'=w:=by
 obtain⟨i,hi,hcmp⟩:=wT.1 Tryz.G9;obtain⟨j,hj,_⟩:=wT.1 Tryz.JU;exact aaj p ln at' a a true w h (alu w a underlying53 underlying354 hi hcmp hj)
theorem Fe(p:Nat)(ln at':Value)(a b:Addr)(w:World)(h:w.heap[p]? =some (.cells #[ln,at',.iface 354 (.pointer (some a))] 96 (0,0)))(hne:a≠b)(ha:∃c t,w.heap[a.block]? =some (.cells c t (0,0)))(hb:∃c t,w.heap[b.block]? =some (.cells c t (0,0))):
  Calls prog 58 #[.iface 92 (.pointer (some ⟨p,0,none⟩)),.iface 354 (.pointer (some b))] w fun ev w'=>ev= .returned (.bool false)/\w'=w:=by
 obtain⟨i,hi,hcmp⟩:=wT.1 Tryz.G9;obtain⟨j,hj,hjs⟩:=wT.1 Tryz.JU;obtain⟨_,_,ha⟩:=ha;obtain⟨_,_,hb⟩:=hb;exact aaj p ln at' a b false w h (als w underlying53 underlying354 hi hcmp hj (by rw [hjs];decide) hne ha hb)
end
