import Derived.Test.YtkbinfhclaafhaaGreatDoorH24
import Derived.Test.YtkbinfhclaafhaaGreatDoorH22
import Derived.Test.YtkbinfhclaafhaaGreatDoorH01
import Derived.RangeFuncBox
import Derived.Maps.AppendAt
import Derived.LoopNIn
namespace Go.Proofs.YtkbinfhclaafhaaGreatDoor
open Go.RowKit
open Go.Proofs.Tryz
set_option maxRecDepth 100000
set_option maxHeartbeats 32000000
@[go_sem] theorem akE (P:Program) (w:World) (a:Addr) (l:Nat) (m:Mode):(store a (.func (.yield l) #[] #[]) m).run P w=stored P w a (.func (.yield l) #[] #[]) m:=run_store P w a _ m rfl
def uG:RP:=⟨0,0,0,0,0⟩
theorem YI(C:RC)(O:kV C)(lab n:Nat)(a:Act)(w:World)(h:LJ C lab n a w):findLabel YH lab=some (.seq .skip (Ck lab))/\Code.wp prog (Ck lab) (jumps (fun l' a' w'=>∃m,m<n/\LJ C l' m a' w') (bodyPost prog Tryz.f107 (RE C))) a w:=by
 obtain⟨hat,p,st,pre,hW,hcase⟩:=h;obtain⟨u0,hat⟩:=hat;obtain⟨u1,hat⟩:=hat;obtain⟨u2,hat⟩:=hat;obtain⟨u3,hat⟩:=hat;obtain⟨u5,hat⟩:=hat;obtain⟨u6,hat⟩:=hat;obtain⟨u7,hat⟩:=hat;obtain⟨u8,hat⟩:=hat;obtain⟨u9,hat⟩:=hat;obtain⟨qA,hat⟩:=hat;obtain⟨qB,hat⟩:=hat;obtain⟨qD,hat⟩:=hat;obtain⟨qE,hat⟩:=hat;obtain⟨qF,hat⟩:=hat;obtain⟨qG,hat⟩:=hat;obtain⟨u16,hat⟩:=hat;obtain⟨qH,hat⟩:=hat;obtain⟨qI,hat⟩:=hat;obtain⟨qJ,hat⟩:=hat;obtain⟨u20,hat⟩:=hat;obtain⟨u21,hat⟩:=hat;obtain⟨u22,hat⟩:=hat;obtain⟨u23,hat⟩:=hat;obtain⟨u24,hat⟩:=hat;obtain⟨u25,hat⟩:=hat;obtain⟨u26,hat⟩:=hat;obtain⟨u27,hat⟩:=hat;obtain⟨u28,hat⟩:=hat;obtain⟨u29,hat⟩:=hat;obtain⟨u30,hat⟩:=hat;obtain⟨u31,hat⟩:=hat;obtain⟨u32,hat⟩:=hat;obtain⟨u33,hat⟩:=hat;obtain⟨u34,hat⟩:=hat;obtain⟨u35,hat⟩:=hat;obtain⟨u36,hat⟩:=hat;obtain⟨u37,hat⟩:=hat;obtain⟨u38,hat⟩:=hat;obtain⟨qK,hat⟩:=hat;obtain⟨u40,hat⟩:=hat;obtain⟨qL,hat⟩:=hat;obtain⟨u42,hat⟩:=hat;obtain⟨qM,hat⟩:=hat;obtain⟨u44,hat⟩:=hat;obtain⟨u45,hat⟩:=hat;obtain⟨u46,hat⟩:=hat;obtain⟨qN,hat⟩:=hat;obtain⟨u48,hat⟩:=hat;obtain⟨u49,hat⟩:=hat;obtain⟨qO,hat⟩:=hat;obtain⟨u51,hat⟩:=hat;obtain⟨qP,hat⟩:=hat;obtain⟨u53,hat⟩:=hat;obtain⟨qV,hat⟩:=hat;obtain⟨u55,hat⟩:=hat;obtain⟨qW,hat⟩:=hat;obtain⟨qX,hat⟩:=hat;obtain⟨u58,hat⟩:=hat;obtain⟨u59,hat⟩:=hat;obtain⟨u60,hat⟩:=hat;obtain⟨qY,hat⟩:=hat;obtain⟨qZ,hat⟩:=hat;obtain⟨u63,hat⟩:=hat;obtain⟨u64,hat⟩:=hat;obtain⟨q9,hat⟩:=hat;obtain⟨u66,hat⟩:=hat;obtain⟨rq,hat⟩:=hat;obtain⟨u68,hat⟩:=hat;obtain⟨u69,hat⟩:=hat;obtain⟨u70,hat⟩:=hat;obtain⟨ry,hat⟩:=hat;obtain⟨u72,hat⟩:=hat;obtain⟨u73,hat⟩:=hat;obtain⟨sD,hat⟩:=hat;obtain⟨u75,hat⟩:=hat;obtain⟨sF,hat⟩:=hat;obtain⟨sG,hat⟩:=hat;obtain⟨sH,hat⟩:=hat;obtain⟨sI,hat⟩:=hat;obtain⟨sJ,hat⟩:=hat;obtain⟨sK,hat⟩:=hat;obtain⟨sM,hat⟩:=hat;obtain⟨sN,hat⟩:=hat;obtain⟨sO,hat⟩:=hat;obtain⟨sP,hat⟩:=hat;obtain⟨sQ,hat⟩:=hat;subst hat;rcases hcase with⟨rfl,hX,hn⟩|⟨rfl,hX,hlt,hn,⟨rfl,e0⟩|⟨rfl,e0,e1⟩|⟨rfl,e0,e1⟩⟩
 .exact⟨rfl,ahN C O w p st pre hW hX n hn _ (fun l m a w hm h=>⟨m,hm,h⟩) _ _ _ _ _ _ _ _ _ _ _ _ _ _ _ _ _ _ _ _ _ _ _ _ _ _ _ _ _ _ _ _ _ _ _ _ _ _ _ _ _ _ _ _ _ _ _ _ _ _ _ _ _ _ _ _ _ _ _ _ _ _ _ _ _ _ _ _ _ _ _ _ _ _ _ _ _ _ _ _ _ _ _ _ _ _⟩
 .exact⟨rfl,ahO C O w p pre hW hX hlt e0 n hn _ (fun l m a w hm h=>⟨m,hm,h⟩) _ _ _ _ _ _ _ _ _ _ _ _ _ _ _ _ _ _ _ _ _ _ _ _ _ _ _ _ _ _ _ _ _ _ _ _ _ _ _ _ _ _ _ _ _ _ _ _ _ _ _ _ _ _ _ _ _ _ _ _ _ _ _ _ _ _ _ _ _ _ _ _ _ _ _ _ _ _ _ _ _ _ _ _ _ _⟩
 .exact⟨rfl,ahP C O w p pre hW hX hlt e0 e1 n hn _ (fun l m a w hm h=>⟨m,hm,h⟩) _ _ _ _ _ _ _ _ _ _ _ _ _ _ _ _ _ _ _ _ _ _ _ _ _ _ _ _ _ _ _ _ _ _ _ _ _ _ _ _ _ _ _ _ _ _ _ _ _ _ _ _ _ _ _ _ _ _ _ _ _ _ _ _ _ _ _ _ _ _ _ _ _ _ _ _ _ _ _ _ _ _ _ _ _ _⟩
 .exact⟨rfl,ahM C O w p pre hW hX hlt e0 e1 n hn _ (fun l m a w hm h=>⟨m,hm,h⟩) _ _ _ _ _ _ _ _ _ _ _ _ _ _ _ _ _ _ _ _ _ _ _ _ _ _ _ _ _ _ _ _ _ _ _ _ _ _ _ _ _ _ _ _ _ _ _ _ _ _ _ _ _ _ _ _ _ _ _ _ _ _ _ _ _ _ _ _ _ _ _ _ _ _ _ _ _ _ _ _ _ _ _ _ _ _⟩
theorem ahL(w:World)(s:ByteArray)(l n₀:Nat)(J Jx:List PR->World->Prop)(T:Tl l n₀ J Jx (aI s false uG))(hn:n₀<=w.heap.size)(h20:10<=n₀)(hz:s.size<=1000)(env:jl w)(hJ:J [] w):
  Calls prog 107 #[.string s,.func (.yield l) #[] #[]] w fun e w'=>(∃v,e= .returned v)/\Below n₀ w w'/\(J (aI s false uG) w'∨∃pre,pre<+:aI s false uG/\Jx pre w'):=by
 obtain⟨C,hC⟩:∃C:RC,C=⟨w,w.heap.size,s,l,n₀,J,Jx,aI s false uG⟩:=⟨_,rfl⟩
 have O:kV C:=by subst hC;exact⟨T,hn,h20,hz,env⟩
 have HR:Hid (RE C=fun e w'=>(∃v,e= .returned v)/\Below n₀ w w'/\(J (aI s false uG) w'∨∃pre,pre<+:aI s false uG/\Jx pre w')):=by subst hC;rfl
 have h0:LJ C 3 (2*s.size+3) ⟨#[.string s,.func (.yield l) #[] #[],undef,undef,.pointer (some ⟨w.heap.size,0,none⟩),undef,undef,undef,.string s,.func (.yield l) #[] #[],.agg #[.string s,.func (.yield l) #[] #[],.int .i64 0,.int .i64 0,.int .i64 0,.int .i64 0,.int .i64 0,.bool false],undef,undef,undef,undef,undef,undef,undef,undef,undef,undef,undef,undef,undef,undef,undef,undef,undef,undef,undef,undef,undef,undef,undef,undef,undef,undef,undef,undef,undef,undef,undef,undef,undef,undef,undef,undef,undef,undef,undef,undef,undef,undef,undef,undef,undef,undef,undef,undef,undef,undef,undef,undef,undef,undef,undef,undef,undef,undef,undef,undef,undef,undef,undef,undef,undef,undef,undef,undef,undef,undef,undef,undef,undef,undef,undef,undef],[]⟩ (w.alloc (.cells #[.string s,.func (.yield l) #[] #[],.int .i64 0,.int .i64 0,.int .i64 0,.int .i64 0,.int .i64 0,.bool false] 244)):=by
  subst hC;refine⟨⟨_,_,_,_,_,_,_,_,_,_,_,_,_,_,_,_,_,_,_,_,_,_,_,_,_,_,_,_,_,_,_,_,_,_,_,_,_,_,_,_,_,_,_,_,_,_,_,_,_,_,_,_,_,_,_,_,_,_,_,_,_,_,_,_,_,_,_,_,_,_,_,_,_,_,_,_,_,_,_,_,_,_,_,_,_,_,rfl⟩,uG,false,[],⟨⟨World.alloc_heap_new w _,fun _=>T.hJ _ _ _ hJ ⟨rfl,rfl,rfl,by simp,fun k o hk _=>(Below.heap_alloc w _ k (bJ hk)).trans hk⟩,(fun e=>by cases e)⟩,⟨Nat.le_refl _,Nat.le_refl _,Nat.le_refl _,Nat.zero_le _,Nat.zero_le _,Nat.le_refl _⟩,(Below.refl _ _).alloc hn _⟩,.inl ⟨rfl,fun _=>rfl,by simp [uG]⟩⟩
 rw [<-HR.out];clear T hn h20 hz env hJ hC HR;go_enter func107,ntmps107;refine ajR 3 (LJ C) ?_ rfl (fun lab n a w h=>⟨_,(YI C O lab n a w h).1,(YI C O lab n a w h).2⟩);go_wp2;exact⟨_,h0⟩
def QO {α:Type}(n₀:Nat)(P:Program)(gf:Nat)(lb:Array Value)(encs:α->Array Value)(Kp Ab:World->World->Prop)(X:List α)(w0:World):Prop:=
 ∀(l:Nat)(J Jx:List α->World->Prop)(W:World),Below w0.heap.size w0 W->(∀pre A B,J pre A->Ab A B->J pre B)->(∀pre A B,Jx pre A->Ab A B->Jx pre B)->
  (∀pre x W1,J pre W1->(pre++[x])<+:X->YieldAt Fence.wide 0 P l (encs x) W1 fun e W'=>(e= .returned (.bool true)/\J (pre++[x]) W'/\Kp W1 W')∨(e= .returned (.bool false)/\Jx (pre++[x]) W'/\Kp W1 W'))->
  J [] W->Calls P gf (#[.func (.yield l) #[] #[]]++lb) W fun e W'=>(∃v,e= .returned v)/\Below n₀ W W'/\(J X W'∨∃pre,pre<+:X/\Jx pre W')
theorem Ol {α:Type}{P:Program}{g:Operand}{ps:Array Tmp}{assign body:Code}{Q:Exit->Act->World->Prop}{a:Act}{w:World}{gf:Nat}{lb:Array Value}(hg:a.eval g= .func (.func gf) #[] lb)(eg:∀args w,(callFunc gf args).run P w= .ok (.enter gf args) w)
  {encs:α->Array Value} {Kp Ab:World->World->Prop} {X:List α} {n₀:Nat} (hn0:n₀<=w.heap.size) (hseq:QO n₀ P gf lb encs Kp Ab X w) (hps:∀x,(encs x).size=ps.size)
  (hKt:∀{A B C:World},Kp A B->Kp B C->Kp A C) (Uk:∀(W:World)(l:Nat)(o o':Obj),w.heap.size<=l->W.heap[l]? =some o->o.isCells=false->Kp W (W.putObj l o')) (GK:∀A B,Ab A B->Same A B)
  (I:List α->World->Prop) (Ix:Code->List α->World->Prop) (hI:∀pre A B,I pre A->Ab A B->I pre B) (hIx:∀c pre A B,Ix c pre A->Ab A B->Ix c pre B)
  (Ui:∀pre (W:World)(l:Nat)(o o':Obj),w.heap.size<=l->W.heap[l]? =some o->o.isCells=false->I pre W->I pre (W.putObj l o'))
  (GL:∀c pre (W:World)(l:Nat)(o o':Obj),w.heap.size<=l->W.heap[l]? =some o->o.isCells=false->Ix c pre W->Ix c pre (W.putObj l o'))
  (h0:∀o1 o2,I [] ((w.alloc o1).alloc o2))
  (aez:∀(l:Nat)(pre:List α)(x:α)(W:World),w.heap.size<=l->I pre W->(pre++[x])<+:X->
   assign.wpIn (Fence.wide.inRound l) 0 P (Exit.then (fun a₁ W₁=>Same W W₁/\Kp W W₁/\∀o o',W₁.heap[l]? =some o->o.isCells=false->body.wpIn (Fence.wide.inRound l) 0 P (ahz Kp I Ix (pre++[x]) (W₁.putObj l o')) a₁ (W₁.putObj l o')) (fun _ _ _=>False))
    {tmps:=(ps.zip (encs x)).foldl (fun t (p,v)=>t.setIfInBounds p v) a.tmps,defers:=[]} W)
  (hdone:∀(D:Nat)(W:World),w.heap.size<=D->Below n₀ w W->I X W->W.heap[D]? =some (.deferred (some []))->Q .normal {a with defers:={target:= .collected D,args:=#[]}::a.defers} W)
  (hstop:∀(D:Nat)(c:Code)(pre:List α)(W:World),w.heap.size<=D->Below n₀ w W->pre<+:X->Ix c pre W->W.heap[D]? =some (.deferred (some []))->c.wp P Q {a with defers:={target:= .collected D,args:=#[]}::a.defers} W):
  (Code.rangeFunc g ps assign body).wp P Q a w:=by
 refine(wpIn_wide (n:=0)).1 (wpIn_rangeFunc fun fn _=> ?_)
 -- the record of the loop,as it is ready,busy,done
 let rc:LoopState->Option Code->Loop:=fun st pe=>{state:=st,pending:=pe,fn,tmps:=a.tmps,params:=ps,assign,body,defers:=w.heap.size}
 have hz1:(w.alloc (.deferred (some []))).heap.size=w.heap.size+1:=by simp
 generalize hW1:(w.alloc (.deferred (some []))).alloc (.loop (rc .ready none))=W1;have hl1:W1.heap[w.heap.size+1]? =some (.loop (rc .ready none)):=by
  rw [<-hW1,<-hz1];exact World.alloc_heap_new _ _
 have hd1:W1.heap[w.heap.size]? =some (.deferred (some [])):=by
  rw [<-hW1];exact(Below.heap_alloc _ _ _ (by simp)).trans (World.alloc_heap_new w _)
 refine⟨w.heap.size+1,[{target:= .collected w.heap.size,args:=#[]}],W1,{target:= .fn (.func gf) lb,args:=#[.func (.yield (w.heap.size+1)) #[] #[]]},W1,gf,#[.func (.yield (w.heap.size+1)) #[] #[]]++lb,W1,?_,?_,fun _ _=>trivial,?_,(fun h=>by cases h),?_⟩
 .rw [<-hW1];exact run_enterLoop_outer fn a.tmps ps assign body
 .simp only [resolve,hg];simp [go_sem]
 .simp [invoke,go_sem,eg]
 .refine callsIn_wide.2 ?_;refine(hseq (w.heap.size+1)
   (fun pre W=>I pre W/\W.heap[w.heap.size+1]? =some (.loop (rc .ready none))/\W.heap[w.heap.size]? =some (.deferred (some [])))
   (fun pre W=>∃c,Ix c pre W/\W.heap[w.heap.size+1]? =some (.loop (rc .done (some c)))/\W.heap[w.heap.size]? =some (.deferred (some []))) W1
   (by rw [<-hW1];exact((Below.refl _ _).alloc (Nat.le_refl _) _).alloc (by simp) _)
   (fun pre A B ⟨h1,h2,h3⟩ hab=>⟨hI pre A B h1 hab,GK A B hab _ _ h2 rfl,GK A B hab _ _ h3 rfl⟩)
   (fun pre A B ⟨c,h1,h2,h3⟩ hab=>⟨c,hIx c pre A B h1 hab,GK A B hab _ _ h2 rfl,GK A B hab _ _ h3 rfl⟩) ?_
   ⟨by rw [<-hW1];exact h0 _ _,hl1,hd1⟩).mono ?_
  .rintro pre x W ⟨hi,hl,hd⟩ hx;refine⟨fn,_,assign,body,run_yield hl (hps x),roundIn_of_wpIn trivial (wpIn_mono (aez (w.heap.size+1) pre x W (by omega) hi hx) ?_)⟩;intro e a₁ W₁ hK;cases e with
   |normal=>
    obtain⟨hs,hk,hb⟩:=hK;have hl':=hs _ _ hl rfl;have hd':=hs _ _ hd rfl;refine⟨_,run_beginRound hl' rfl,wpIn_mono (hb _ (.loop (rc .busy none)) hl' rfl) ?_⟩;have hk2:Kp W (W₁.putObj (w.heap.size+1) (.loop (rc .busy none))):=hKt hk (Uk W₁ _ _ _ (by omega) hl' rfl);have hl2:(W₁.putObj (w.heap.size+1) (.loop (rc .busy none))).heap[w.heap.size+1]? =some (.loop (rc .busy none)):=World.putObj_heap_same (Array.getElem?_eq_some_iff.1 hl').1;have hd2:(W₁.putObj (w.heap.size+1) (.loop (rc .busy none))).heap[w.heap.size]? =some (.deferred (some [])):=(fC (by omega)).trans hd';intro e2 a2 W2 hq
    -- behind the body,whatever the jump
    have fin:∀jump:Option Code,Same (W₁.putObj (w.heap.size+1) (.loop (rc .busy none))) W2->Kp (W₁.putObj (w.heap.size+1) (.loop (rc .busy none))) W2->∃W3,W3=W2.putObj (w.heap.size+1) (.loop (rc (if jump.isNone then .ready else .done) jump))/\(Instr.endRound (w.heap.size+1) jump).run P W2= .ok (.bool jump.isNone) W3/\W2.heap[w.heap.size+1]? =some (.loop (rc .busy none))/\W3.heap[w.heap.size+1]? =some (.loop (rc (if jump.isNone then .ready else .done) jump))/\W3.heap[w.heap.size]? =some (.deferred (some []))/\Kp W W3:=fun jump h1 h2=>by
     have hb2:=h1 _ _ hl2 rfl;exact⟨_,rfl,run_endRound jump hb2,hb2,World.putObj_heap_same (Array.getElem?_eq_some_iff.1 hb2).1,(fC (by omega)).trans (h1 _ _ hd2 rfl),hKt (hKt hk2 h2) (Uk W2 _ _ _ (by omega) hb2 rfl)⟩
    cases e2 with
    |normal=>
     obtain⟨q1,q2,q3⟩:=hq;obtain⟨W3,rfl,f1,f2,f3,f4,f5⟩:=fin none q1 q2;exact⟨_,_,f1,.inl ⟨rfl,⟨Ui _ _ _ _ _ (by omega) f2 rfl q3,f3,f4⟩,f5⟩⟩
    |ret=>
     obtain⟨q1,q2,q3⟩:=hq;obtain⟨W3,rfl,f1,f2,f3,f4,f5⟩:=fin (some .ret) q1 q2;exact⟨_,_,f1,.inr ⟨rfl,⟨_,GL _ _ _ _ _ _ (by omega) f2 rfl q3,f3,f4⟩,f5⟩⟩
    |exit id=>
     obtain⟨q1,q2,q3⟩:=hq;obtain⟨W3,rfl,f1,f2,f3,f4,f5⟩:=fin (some (.exit id)) q1 q2;exact⟨_,_,f1,.inr ⟨rfl,⟨_,GL _ _ _ _ _ _ (by omega) f2 rfl q3,f3,f4⟩,f5⟩⟩
    |goto t=>
     obtain⟨q1,q2,q3⟩:=hq;obtain⟨W3,rfl,f1,f2,f3,f4,f5⟩:=fin (some (.goto t)) q1 q2;exact⟨_,_,f1,.inr ⟨rfl,⟨_,GL _ _ _ _ _ _ (by omega) f2 rfl q3,f3,f4⟩,f5⟩⟩
    |panic ch=>exact hq.elim
    |outgrown=>exact hq.elim
   |ret=>exact hK.elim
   |exit id=>exact hK.elim
   |goto t=>exact hK.elim
   |panic ch=>exact hK.elim
   |outgrown=>exact hK.elim
  .have hb1:Below n₀ w W1:=by rw [<-hW1];exact((Below.refl _ _).alloc hn0 _).alloc (by simp;omega) _
   have hbp:∀(W:World)(o':Obj),Below n₀ w W->Below n₀ w (W.putObj (w.heap.size+1) o'):=fun W o' h=>h.trans ⟨rfl,rfl,rfl,by simp [World.putObj],fun k hk=>fC (by omega)⟩
   rintro e W2 ⟨⟨v,rfl⟩,hbl,⟨hi,hl,hd⟩|⟨pre,hp,c,hi,hl,hd⟩⟩
   .exact⟨none,_,run_endLoop hl (by simp [rc]),hdone _ _ (Nat.le_refl _) (hbp _ _ (hb1.trans hbl)) (Ui _ _ _ _ _ (by omega) hl rfl hi) ((fC (by omega)).trans hd)⟩
   .exact⟨some c,_,run_endLoop hl (by simp [rc]),(wpIn_wide (n:=0)).2 (hstop _ c pre _ (Nat.le_refl _) (hbp _ _ (hb1.trans hbl)) hp (GL _ _ _ _ _ _ (by omega) hl rfl hi) ((fC (by omega)).trans hd))⟩
theorem acY {P:Program}(w:World)(d:Nat)(t:TypeId)(x y:Array TypeId)(b:Bool)(f:Fn)(v:Array Value)(h:P.underlying t=some (.func x y b)):(Op.equalIn (d+1) t (.func f #[] v) .nilFunc).run P w= .ok false w:=by
 simp [Op.equalIn,run_underlying h]
theorem Tryz.agh(l:Nat)(w:World):(binOp .neq 171 (.func (.yield l) #[] #[]) .nilFunc).run prog w= .ok (.bool true) w:=by
 have e:(Op.equalIn 10000 171 (.func (.yield l) #[] #[]) .nilFunc).run prog w= .ok false w:=acY w 9999 _ _ _ _ _ #[] underlying171;simp only [binOp];simp [Op.equal,Op.maxDepth,e]
def dw(s:ByteArray):List PR:=if s.size<=600 then aI s false uG else []
theorem NW(w0:World)(n₀ bx:Nat)(s:ByteArray)(hb:w0.cell? ⟨bx,0,none⟩=some (.string s))(env:jl w0)(h20:10<=n₀)(hn0:n₀<=w0.heap.size):
  QO n₀ prog 106 #[.pointer (some ⟨bx,0,none⟩)] Dy (tq n₀) iY (dw s) w0:=by
 intro l J Jx W hW hJ hJx hY h0;have hbW:W.cell? ⟨bx,0,none⟩=some (.string s):=cO hW hb;have Me:jl W:=env.below h20 (hW.mono hn0);show Calls prog 106 #[.func (.yield l) #[] #[],.pointer (some ⟨bx,0,none⟩)] W _;by_cases hz:s.size<=600
 .have hz':(s.size:Int)<=600:=by omega
  have hX:dw s=aI s false uG:=if_pos hz;have hne:=fun w=>Tryz.agh l w
  have HR:=ahL W s l n₀ J Jx ⟨hJ,hJx,by rw [<-hX];exact hY⟩ (Nat.le_trans hn0 hW.size) h20 (by omega) Me h0;rw [<-hX]at HR;clear hJ hJx hY h0 Me hW hX;go_enter func106,ntmps106;go_wp2_with fail;refine HR.mono ?_;rintro ev W1 ⟨⟨v,rfl⟩,hb1,h1⟩;have HB:Hid (Below n₀ W W1):=hb1;have H1:Hid (J (dw s) W1∨∃pre,pre<+:dw s/\Jx pre W1):=h1;clear h1 hb1;go_wp2;go_end0;exact⟨⟨_,rfl⟩,HB.out,H1.out⟩
 .have hz':¬(s.size:Int)<=600:=by omega
  have hX:dw s=[]:=if_neg hz;rw [hX];have H0:Hid (J [] W):=h0;clear hJ hJx hY Me hW hX h0;go_enter func106,ntmps106;go_wp2;go_end0;exact⟨⟨_,rfl⟩,Below.refl _ _,.inl H0.out⟩
theorem LD(w:World)(s:ByteArray):Calls prog 63 #[.string s] w fun e w'=>e= .returned (.func (.func 106) #[] #[.pointer (some ⟨w.heap.size,0,none⟩)])/\w'=w.alloc (.cells #[.string s] 9):=by
 go_enter func63,ntmps63;go_wp2;go_ret;exact⟨rfl,rfl⟩
section
attribute [local go_sem] Oper.semAt_some
def vE(l:List PR):List Value:=l.map fun x=> .int .i64 x.line
def lS(x:PR):List Value:=[.int .i64 x.kind,.int .i64 x.from_,.int .i64 x.di,.int .i64 x.body,.int .i64 x.end_]
def gH(l:List PR):List Value:=l.flatMap lS
theorem afE(l:List PR)(x:PR):vE (l++[x])=vE l++[.int .i64 x.line]:=by simp [vE]
theorem Ya(l:List PR)(x:PR):gH (l++[x])=gH l++lS x:=by simp [gH]
theorem Cg {w w':World}{base:Nat}{e:TypeId}{size:Nat}{v:Value}{n:Nat}{xs:List Value}(h:w.ownsRow base e size v n xs)(ha:iY w w')(he:e≠244):w'.ownsRow base e size v n xs:=by
 refine⟨h.1,?_⟩;rcases h.2 with h|⟨g,cap,cur,rfl,h2,h3,h4⟩
 .exact .inl h
 .exact .inr ⟨g,cap,cur,rfl,h2,ha.block g _ h3 (fun c fr ec=>by injection ec with _ e2 _;exact absurd e2 he),h4⟩
theorem rZ {w:World}{base:Nat}{e:TypeId}{size:Nat}{v:Value}{n:Nat}{xs:List Value}(h:w.ownsRow base e size v n xs){l:Nat}{o:Obj}(hl:w.heap[l]? =some o)(hc:o.isCells=false)(o':Obj):(w.putObj l o').ownsRow base e size v n xs:=by
 refine⟨h.1,?_⟩;rcases h.2 with h|⟨g,cap,cur,rfl,h2,h3,h4⟩
 .exact .inl h
 .refine .inr ⟨g,cap,cur,rfl,h2,?_,h4⟩;rw [fC]
  .exact h3
  .rintro rfl;rw [hl]at h3;obtain rfl:=Option.some.inj h3;cases hc
theorem Bo {B:Nat}{w W:World}(h:Below B w W){l:Nat}(hl:B<=l)(o':Obj):Below B w (W.putObj l o'):=
 h.trans ⟨rfl,rfl,rfl,by simp [World.putObj],fun k hk=>fC (by omega)⟩
structure PI(w:World)(n:Int)(pre:List PR)(W:World):Prop where
 bn:W.heap[w.heap.size]? =some (.cells #[.int .i64 n] 3 (0,0))
 rows:∃lv pv,W.heap[w.heap.size+1]? =some (.cells #[lv] 31 (0,0))/\W.heap[w.heap.size+2]? =some (.cells #[pv] 71 (0,0))/\W.ownsRow (w.heap.size+4) 3 1 lv pre.length (vE pre)/\W.ownsRow (w.heap.size+4) 75 5 pv pre.length (gH pre)
 sz:w.heap.size+4<=W.heap.size
theorem PI.jS {w:World}{n:Int}{pre:List PR}{A B:World}(h:PI w n pre A)(ha:iY A B):PI w n pre B:=by
 obtain⟨lv,pv,h1,h2,h3,h4⟩:=h.rows;exact⟨ha.block _ _ h.bn (fun c fr e=>by cases e),⟨lv,pv,ha.block _ _ h1 (fun c fr e=>by cases e),ha.block _ _ h2 (fun c fr e=>by cases e),Cg h3 ha (by decide),Cg h4 ha (by decide)⟩,Nat.le_trans h.sz ha.size⟩
theorem PI.put {w:World}{n:Int}{pre:List PR}{W:World}(h:PI w n pre W){l:Nat}{o:Obj}(hl:w.heap.size+4<=l)(ho:W.heap[l]? =some o)(hc:o.isCells=false)(o':Obj):PI w n pre (W.putObj l o'):=by
 obtain⟨lv,pv,h1,h2,h3,h4⟩:=h.rows;exact⟨(fC (by omega)).trans h.bn,⟨lv,pv,(fC (by omega)).trans h1,(fC (by omega)).trans h2,rZ h3 ho hc o',rZ h4 ho hc o'⟩,by simp [World.putObj];exact h.sz⟩
def Iq(t:TypeId):Prop:=t=3∨t=31∨t=75∨t=71
structure Kb(B:Nat)(A C:World):Prop where
 below:Below B A C
 keep:∀(k:Nat)(o:Obj),A.heap[k]? =some o->(∀c t fr,o=Obj.cells c t fr->¬Iq t)->C.heap[k]? =some o
theorem Kb.refl(B:Nat)(A:World):Kb B A A:=⟨Below.refl _ _,fun _ _ h _=>h⟩
theorem Kb.trans {B:Nat}{A C D:World}(h:Kb B A C)(k:Kb B C D):Kb B A D:=⟨h.below.trans k.below,fun i o hi ho=>k.keep i o (h.keep i o hi ho) ho⟩
theorem Kb.al {B:Nat}{A C:World}(h:Kb B A C)(hB:B<=C.heap.size)(o:Obj):Kb B A (C.alloc o):=h.trans ⟨(Below.refl _ _).alloc hB o,fun k _ hk _=>(Below.heap_alloc C o k (bJ hk)).trans hk⟩
theorem Kb.grown {B:Nat}{A C D:World}{r:Option Nat}(h:Kb B A C)(hg:C.grownBy D r)(hB:B<=C.heap.size)(hr:∀k,r=some k->B<=k/\∃c t fr,C.heap[k]? =some (Obj.cells c t fr)/\Iq t):Kb B A D:=by
 refine h.trans ⟨(Below.refl _ _).grown hg hB (fun k e=>(hr k e).1),fun k o hk ho=> ?_⟩;refine(hg.block k (bJ hk) ?_).trans hk;intro e;obtain⟨_,c,t,fr,h1,h2⟩:=hr k e.symm;rw [h1]at hk;exact ho c t fr (Option.some.inj hk).symm h2
theorem Kb.same {B:Nat}{A C:World}(h:Kb B A C):Same A C:=fun k o hk hc=>h.keep k o hk (fun c t fr e=>by subst e;cases hc)
theorem Kb.Ad {B:Nat}{A C:World}(h:Kb B A C):tq B A C:=⟨h.below,fun k c fr hk=>h.keep k _ hk (fun c' t fr' e=>by injection e with _ e2 _;subst e2;unfold Iq;decide)⟩
theorem iU {w:World}{base:Nat}{e:TypeId}{size:Nat}{v:Value}{n:Nat}{xs:List Value}(h:w.ownsRow base e size v n xs){k:Nat}(hk:v.ownBlock=some k):base<=k/\∃c,w.heap[k]? =some (Obj.cells c e (0,0)):=by
 rcases h.2 with⟨rfl,_⟩|⟨g,cap,cur,rfl,h2,h3,h4⟩
 .simp [Value.ownBlock]at hk
 .simp only [Value.ownBlock]at hk;obtain rfl:=Option.some.inj hk;exact⟨h2,_,h3⟩
theorem vI {w w':World}{base:Nat}{e:TypeId}{size:Nat}{v:Value}{n:Nat}{xs:List Value}{r:Option Nat}(h:w.ownsRow base e size v n xs)(hg:w.grownBy w' r)(hne:∀k,v.ownBlock=some k->some k≠r):w'.ownsRow base e size v n xs:=
 kK h fun k _ hk ho=>(hg.block k (bJ ho) (hne k hk)).trans ho
theorem XZ {w:World}{base base':Nat}{e e':TypeId}{size size':Nat}{v v':Value}{n n':Nat}{xs xs':List Value}(h:w.ownsRow base e size v n xs)(h':w.ownsRow base' e' size' v' n' xs')(he:e≠e'):∀k,v.ownBlock=some k->some k≠v'.ownBlock:=by
 intro k hk e;obtain⟨_,c,h1⟩:=iU h hk;obtain⟨_,c',h2⟩:=iU h' e.symm;rw [h1]at h2;injection h2 with h2
 injection h2 with _ h2 _
 exact he h2
theorem Yb(w:World)(a b c d e:Value)(t:TypeId):∀j u,[a,b,c,d,e][j]? =some u->(w.alloc (.cells #[a,b,c,d,e] t)).cell? ((⟨w.heap.size,0,none⟩:Addr).add j)=some u:=by
 intro j u hj;have key:=fun i=>au (World.alloc_heap_new w (.cells #[a,b,c,d,e] t)) i
 match j,hj with
 |0,hj=>exact(key 0).trans hj
 |1,hj=>exact(key 1).trans hj
 |2,hj=>exact(key 2).trans hj
 |3,hj=>exact(key 3).trans hj
 |4,hj=>exact(key 4).trans hj
 |j+5,hj=>simp at hj
end
