import Derived.Test.YtkbinfhclaafhaaGreatDoorZ23
import Derived.Test.YtkbinfhclaafhaaGreatDoorZ21
import Derived.Test.YtkbinfhclaafhaaGreatDoorZ01
import Derived.RangeFuncBox
import Derived.Maps.AppendAt
import Derived.LoopNIn
import Derived.Shelf.Abstract
namespace Go.Proofs.YtkbinfhclaafhaaGreatDoor
open Go.RowKit
open Go.Proofs.Tryz
set_option maxRecDepth 100000
set_option maxHeartbeats 32000000
set_option linter.all false
theorem ak1(C:RC)(O:mW C)(w:World)(p:RP)(pre:List PR)(h:RW C w p false pre)(hX:C.X=pre++bY C.s false p)(hlt:p.at_<C.s.size)(e0:bt C.s p.at_=34)(n:Nat)(hn:n=2*(C.s.size - p.at_)+2)
  (K:Nat->Act->World->Prop) (hK:∀l m a w,m<n->LJ C l m a w->K l a w) (u0 u1 u2 u3 u5 u6 u7 u8 u9 rN sP sQ sS sU sV u16 sW sX sY sZ s8 s9 u23 u24 tj u26 tq u28 tu tA tC u32 u33 tD tG tH tI tJ tK tM tN tP tQ u44 tR tS tU tV tW tX tY tZ ua ue uf ug uh uj um uo uq ur uu u64 uv uw uz uA uC uD uG uH uI vO vP vQ vR vS vT vU vV vW vX vY vZ wh:Value):
  Code.wp prog (Fz 0) (jumps K (bodyPost prog Tryz.f107 (RE C))) {tmps:=#[u0,u1,u2,u3,.pointer (some ⟨C.rb,0,none⟩),u5,u6,u7,u8,u9,rN,sP,sQ,sS,sU,sV,u16,sW,sX,sY,sZ,s8,s9,u23,u24,tj,u26,tq,u28,tu,tA,tC,u32,u33,tD,tG,tH,tI,tJ,tK,tM,tN,tP,tQ,u44,tR,tS,tU,tV,tW,tX,tY,tZ,ua,ue,uf,ug,uh,uj,um,uo,uq,ur,uu,u64,uv,uw,uz,uA,uC,uD,uG,uH,uI,vO,vP,vQ,vR,vS,vT,vU,vV,vW,vX,vY,vZ,wh],defers:=[]} w:=by
 conv=>arg 2;whnf
 have HK:=ah hK;have HN:=ah hn;clear hK hn;have di:=ah hlt;have HE:Hid (C.X=(pre++dA 0 0 p)++(dA 1 (qT C.s (p.at_+1)) (cI (cO 1 p false) (qR C.s (p.at_+1)).1)++bY C.s false (cz (qT C.s (p.at_+1)) (cI (cO 1 p false) (qR C.s (p.at_+1)).1)))):=by
  show _=_;rw [hX,bY,aj hlt,ai (by decide),aj e0,eV]
 have HO:=h.open O 1 (by omega) (by omega) (fun _=>⟨_,HE.out.symm⟩);clear h hX hlt e0;go_wp2_with fail;refine HO.mono ?_;rintro ev W1 ⟨⟨v,rfl⟩,st1,_,h1⟩;have H1:=ah h1;clear HO h1;have HZ:=ah O.hz;obtain⟨Q,hQ⟩:∃Q,qR C.s (p.at_+1)=Q:=⟨_,rfl⟩
 have HQ:=ah hQ;clear hQ;go_wp2;go_loopg [] (C.s.size - (p.at_+1)) (fun gh W=>∃a,gh=C.s.size - a/\RW C W (cI (cO 1 p false) a) st1 (pre++dA 0 0 p)/\(st1=false->qR C.s a=Q)/\p.at_<a);case atStart=>exact⟨p.at_+1,rfl,by have:=H1.out;rw [show cI (cO 1 p false) (p.at_+1)=cO 1 p false by rw [<-JB (p:=p) (st:=false)];rfl];exact this,fun _=>HQ.out,by omega⟩
 case round=>
  obtain⟨a,rfl,hW,hq,hle⟩:=hrel;have HW:=ah hW;have Hq:=ah hq;have nJ:=ah hle;have HA:Hid (a<=C.s.size):=hW.ok.e;clear hle;by_cases ho:vG C.s (cI (cO 1 p false) a) st1=true
  .have HO:=hW.aaB O;rw [ho]at HO;have iW:Hid (st1=false->Q=(a,false)):=fun e=>by
    rw [<-hq e,qR,ai];subst e;rintro⟨h1,h2⟩;simp only [vG,kW,FU,cI]at ho;rcases ho with(h3|h3)|h3
    .cases h3
    .have:=Jz h3;omega
    .exact h2 (Jz h3)
   clear ho hW hq;go_wp2_with fail;refine HO.mono ?_;rintro ev W2 ⟨rfl,h2⟩;have HP:Hid (st1=false->C.X=(pre++dA 0 0 p)++(dA 1 0 (cI (cO 1 p false) a)++bY C.s false (cz 0 (cI (cO 1 p false) a)))):=fun e=>by
    have:=HE.out;rw [qT,HQ.out,iW.out e]at this;exact this
   have HC:=h2.cut O 1 0 (by omega) (by omega) (by have:=HA.out;exact this) (fun e=>by rw [HP.out e,<-eV];exact VH _ _);clear HO h2;go_wp2_with fail;refine HC.mono ?_;rintro ev W3 ⟨⟨v,rfl⟩,oQ,Hv,h3⟩;have H3:=ah h3;have Nk:=ah Hv;clear HC h3 Hv;go_wp2;refine FQ ?_;have hat:p.at_<(gI 0 (cI (cO 1 p false) a) st1).at_:=by
    rw [He];exact nJ.out
   have hx:oQ=false->C.X=((pre++dA 0 0 p)++dA 1 0 (cI (cO 1 p false) a))++bY C.s false (gI 0 (cI (cO 1 p false) a) st1):=fun e=>by
    have:st1=false:=by cases hs:st1 with
     |true=>rw [Nk.out hs]at e;cases e
     |false=>rfl
    subst this;rw [yN,eV];exact HP.out rfl
   exact HK.out 3 (if oQ then 0 else 2*(C.s.size - (gI 0 (cI (cO 1 p false) a) st1).at_)+3) _ _ (by have h1:=HN.out;have h2:=hat;have h3:=di.out;split<;>omega) ⟨⟨_,_,_,_,_,_,_,_,_,_,_,_,_,_,_,_,_,_,_,_,_,_,_,_,_,_,_,_,_,_,_,_,_,_,_,_,_,_,_,_,_,_,_,_,_,_,_,_,_,_,_,_,_,_,_,_,_,_,_,_,_,_,_,_,_,_,_,_,_,_,_,_,_,_,_,_,_,_,_,_,_,_,_,_,_,_,rfl⟩,gI 0 (cI (cO 1 p false) a) st1,oQ,_,H3.out,.inl ⟨rfl,hx,rfl⟩⟩
  .have ho:vG C.s (cI (cO 1 p false) a) st1=false:=by simpa using ho
   have HO:=hW.aaB O;rw [ho]at HO;simp only [vG,kW,FT,BA]at ho;obtain⟨⟨rfl,h2⟩,h3⟩:=ho;have hlt:a<C.s.size:=by have:=HA.out;have h2:¬a=C.s.size:=h2;omega
   have h3:bt C.s a≠10:=h3;have kj:Hid (a<C.s.size/\bt C.s a≠10):=⟨hlt,h3⟩
   have jN:Hid (qR C.s a=Q):=Hq.out rfl;clear h2 h3 hW hq Hq;go_wp2_with fail;refine HO.mono ?_;rintro ev W2 ⟨rfl,h1⟩;have HS:=h1.sign O hlt;clear HO h1 hlt;go_wp2_with fail;refine HS.mono ?_;rintro ev W3 ⟨rfl,h2⟩;obtain⟨b0,hb0⟩:∃b0,bt C.s (cI (cO 1 p false) a).at_=b0:=⟨_,rfl⟩
   obtain⟨b1,hb1⟩:∃b1,bt C.s ((cI (cO 1 p false) a).at_+1)=b1:=⟨_,rfl⟩
   have HB:Hid (bt C.s a=b0/\bt C.s (a+1)=b1):=⟨hb0,hb1⟩
   rw [hb0,hb1];clear hb0 hb1 HS;have h3:RW C (W3.alloc (.cells #[.int .u8 b0,.int .u8 b1] 246)) (cI (cO 1 p false) a) false (pre++dA 0 0 p):=h2.al O _;have H3:=ah h3;have c6:(W3.alloc (.cells #[.int .u8 b0,.int .u8 b1] 246)).cell? ⟨C.rb,6,none⟩=some (.int .i64 a):=h3.rs.rd.c6;have f6:=h3.rs.rd.fz 6;clear h2 h3;have hz1:(a:Int)<=1000:=by have:=kj.out.1;have:=HZ.out;omega
   by_cases rK:b0=34
   .subst rK;have ym:Hid (Q=(a,true)):=by show _=_;rw [<-jN.out,qR,aj kj.out,aj HB.out.1]
    have HP:Hid (C.X=(pre++dA 0 0 p)++(dA 1 1 (cI (cO 1 p false) a)++bY C.s false (cz 1 (cI (cO 1 p false) a)))):=by
     have:=HE.out;rw [qT,HQ.out,ym.out]at this;exact this
    have HC:=H3.out.cut O 1 1 (by omega) (by omega) (by have:=kj.out.1;show a+1<=_;omega) (fun _=>by rw [HP.out,<-eV];exact VH _ _);rw [yN]at HC;clear c6 f6;go_wp2_with fail;refine HC.mono ?_;rintro ev W4 ⟨⟨v,rfl⟩,oQ,_,h4⟩;have H4:=ah h4;clear HC h4;go_wp2;refine FQ ?_;have hat:p.at_<(cz 1 (cI (cO 1 p false) a)).at_:=by rw [jg];have:=nJ.out;show _<a+1;omega
    exact HK.out 3 (if oQ then 0 else 2*(C.s.size - (cz 1 (cI (cO 1 p false) a)).at_)+3) _ _ (by have h1:=HN.out;have h2:=hat;have h3:=di.out;split<;>omega) ⟨⟨_,_,_,_,_,_,_,_,_,_,_,_,_,_,_,_,_,_,_,_,_,_,_,_,_,_,_,_,_,_,_,_,_,_,_,_,_,_,_,_,_,_,_,_,_,_,_,_,_,_,_,_,_,_,_,_,_,_,_,_,_,_,_,_,_,_,_,_,_,_,_,_,_,_,_,_,_,_,_,_,_,_,_,_,_,_,rfl⟩,cz 1 (cI (cO 1 p false) a),oQ,_,H4.out,.inl ⟨rfl,fun _=>by rw [eV];exact HP.out,rfl⟩⟩
   .have AQ:(b0==34)=false:=by simpa using rK
    by_cases MP:b0=92
    .subst MP;clear rK AQ;by_cases mM:b1=10
     .subst mM;have ym:Hid (qR C.s (a+1)=Q):=by show _=_;rw [<-jN.out];conv=>rhs;rw [qR,aj kj.out,ai (by rw [HB.out.1];decide),ai (by rw [HB.out.2];rintro⟨_,h⟩;exact h rfl)]
      go_wp2;go_roundg (C.s.size - (a+1));case measure=>have:=kj.out.1;omega
      case rel=>exact⟨a+1,rfl,H3.out.step O (j:=a+1) (by show a<=_;omega) (by have:=kj.out.1;omega),fun _=>ym.out,by have:=nJ.out;omega⟩
     .have Co:(b1==10)=false:=by simpa using mM
      have ym:Hid (qR C.s (a+2)=Q):=by show _=_;rw [<-jN.out];conv=>rhs;rw [qR,aj kj.out,ai (by rw [HB.out.1];decide),aj (by rw [HB.out.1,HB.out.2];exact⟨rfl,mM⟩)]
      have CE:Hid (a+1<C.s.size):=o9 (by rw [HB.out.2];exact mM);clear mM;go_wp2;go_roundg (C.s.size - (a+2));case measure=>have:=kj.out.1;omega
      case rel=>exact⟨a+2,rfl,H3.out.step O (j:=a+2) (by show a<=_;omega) (by have:=CE.out;omega),fun _=>ym.out,by have:=nJ.out;omega⟩
    .have r92:(b0==92)=false:=by simpa using MP
     have ym:Hid (qR C.s (a+1)=Q):=by show _=_;rw [<-jN.out];conv=>rhs;rw [qR,aj kj.out,ai (by rw [HB.out.1];exact rK),ai (by rw [HB.out.1];rintro⟨h,_⟩;exact MP h)]
     clear rK MP;go_wp2;go_roundg (C.s.size - (a+1));case measure=>have:=kj.out.1;omega
     case rel=>exact⟨a+1,rfl,H3.out.step O (j:=a+1) (by show a<=_;omega) (by have:=kj.out.1;omega),fun _=>ym.out,by have:=nJ.out;omega⟩
@[go_sem] theorem ao6 (P:Program) (w:World) (a:Addr) (l:Nat) (m:Mode):(store a (.func (.yield l) #[] #[]) m).run P w=stored P w a (.func (.yield l) #[] #[]) m:=run_store P w a _ m rfl
def xP:RP:=⟨0,0,0,0,0⟩
theorem abW(C:RC)(O:mW C)(lab n:Nat)(a:Act)(w:World)(h:LJ C lab n a w):findLabel abV lab=some (.seq .skip (Fz lab))/\Code.wp prog (Fz lab) (jumps (fun l' a' w'=>∃m,m<n/\LJ C l' m a' w') (bodyPost prog Tryz.f107 (RE C))) a w:=by
 obtain⟨hat,p,st,pre,hW,Qs⟩:=h;obtain⟨u0,hat⟩:=hat;obtain⟨u1,hat⟩:=hat;obtain⟨u2,hat⟩:=hat;obtain⟨u3,hat⟩:=hat;obtain⟨u5,hat⟩:=hat;obtain⟨u6,hat⟩:=hat;obtain⟨u7,hat⟩:=hat;obtain⟨u8,hat⟩:=hat;obtain⟨u9,hat⟩:=hat;obtain⟨rN,hat⟩:=hat;obtain⟨sP,hat⟩:=hat;obtain⟨sQ,hat⟩:=hat;obtain⟨sS,hat⟩:=hat;obtain⟨sU,hat⟩:=hat;obtain⟨sV,hat⟩:=hat;obtain⟨u16,hat⟩:=hat;obtain⟨sW,hat⟩:=hat;obtain⟨sX,hat⟩:=hat;obtain⟨sY,hat⟩:=hat;obtain⟨sZ,hat⟩:=hat;obtain⟨s8,hat⟩:=hat;obtain⟨s9,hat⟩:=hat;obtain⟨u23,hat⟩:=hat;obtain⟨u24,hat⟩:=hat;obtain⟨tj,hat⟩:=hat;obtain⟨u26,hat⟩:=hat;obtain⟨tq,hat⟩:=hat;obtain⟨u28,hat⟩:=hat;obtain⟨tu,hat⟩:=hat;obtain⟨tA,hat⟩:=hat;obtain⟨tC,hat⟩:=hat;obtain⟨u32,hat⟩:=hat;obtain⟨u33,hat⟩:=hat;obtain⟨tD,hat⟩:=hat;obtain⟨tG,hat⟩:=hat;obtain⟨tH,hat⟩:=hat;obtain⟨tI,hat⟩:=hat;obtain⟨tJ,hat⟩:=hat;obtain⟨tK,hat⟩:=hat;obtain⟨tM,hat⟩:=hat;obtain⟨tN,hat⟩:=hat;obtain⟨tP,hat⟩:=hat;obtain⟨tQ,hat⟩:=hat;obtain⟨u44,hat⟩:=hat;obtain⟨tR,hat⟩:=hat;obtain⟨tS,hat⟩:=hat;obtain⟨tU,hat⟩:=hat;obtain⟨tV,hat⟩:=hat;obtain⟨tW,hat⟩:=hat;obtain⟨tX,hat⟩:=hat;obtain⟨tY,hat⟩:=hat;obtain⟨tZ,hat⟩:=hat;obtain⟨ua,hat⟩:=hat;obtain⟨ue,hat⟩:=hat;obtain⟨uf,hat⟩:=hat;obtain⟨ug,hat⟩:=hat;obtain⟨uh,hat⟩:=hat;obtain⟨uj,hat⟩:=hat;obtain⟨um,hat⟩:=hat;obtain⟨uo,hat⟩:=hat;obtain⟨uq,hat⟩:=hat;obtain⟨ur,hat⟩:=hat;obtain⟨uu,hat⟩:=hat;obtain⟨u64,hat⟩:=hat;obtain⟨uv,hat⟩:=hat;obtain⟨uw,hat⟩:=hat;obtain⟨uz,hat⟩:=hat;obtain⟨uA,hat⟩:=hat;obtain⟨uC,hat⟩:=hat;obtain⟨uD,hat⟩:=hat;obtain⟨uG,hat⟩:=hat;obtain⟨uH,hat⟩:=hat;obtain⟨uI,hat⟩:=hat;obtain⟨vO,hat⟩:=hat;obtain⟨vP,hat⟩:=hat;obtain⟨vQ,hat⟩:=hat;obtain⟨vR,hat⟩:=hat;obtain⟨vS,hat⟩:=hat;obtain⟨vT,hat⟩:=hat;obtain⟨vU,hat⟩:=hat;obtain⟨vV,hat⟩:=hat;obtain⟨vW,hat⟩:=hat;obtain⟨vX,hat⟩:=hat;obtain⟨vY,hat⟩:=hat;obtain⟨vZ,hat⟩:=hat;obtain⟨wh,hat⟩:=hat;subst hat;rcases Qs with⟨rfl,hX,hn⟩|⟨rfl,hX,hlt,hn,⟨rfl,e0⟩|⟨rfl,e0,e1⟩|⟨rfl,e0,e1⟩⟩
 .exact⟨rfl,ak0 C O w p st pre hW hX n hn _ (fun l m a w hm h=>⟨m,hm,h⟩) _ _ _ _ _ _ _ _ _ _ _ _ _ _ _ _ _ _ _ _ _ _ _ _ _ _ _ _ _ _ _ _ _ _ _ _ _ _ _ _ _ _ _ _ _ _ _ _ _ _ _ _ _ _ _ _ _ _ _ _ _ _ _ _ _ _ _ _ _ _ _ _ _ _ _ _ _ _ _ _ _ _ _ _ _ _⟩
 .exact⟨rfl,ak1 C O w p pre hW hX hlt e0 n hn _ (fun l m a w hm h=>⟨m,hm,h⟩) _ _ _ _ _ _ _ _ _ _ _ _ _ _ _ _ _ _ _ _ _ _ _ _ _ _ _ _ _ _ _ _ _ _ _ _ _ _ _ _ _ _ _ _ _ _ _ _ _ _ _ _ _ _ _ _ _ _ _ _ _ _ _ _ _ _ _ _ _ _ _ _ _ _ _ _ _ _ _ _ _ _ _ _ _ _⟩
 .exact⟨rfl,ak2 C O w p pre hW hX hlt e0 e1 n hn _ (fun l m a w hm h=>⟨m,hm,h⟩) _ _ _ _ _ _ _ _ _ _ _ _ _ _ _ _ _ _ _ _ _ _ _ _ _ _ _ _ _ _ _ _ _ _ _ _ _ _ _ _ _ _ _ _ _ _ _ _ _ _ _ _ _ _ _ _ _ _ _ _ _ _ _ _ _ _ _ _ _ _ _ _ _ _ _ _ _ _ _ _ _ _ _ _ _ _⟩
 .exact⟨rfl,akZ C O w p pre hW hX hlt e0 e1 n hn _ (fun l m a w hm h=>⟨m,hm,h⟩) _ _ _ _ _ _ _ _ _ _ _ _ _ _ _ _ _ _ _ _ _ _ _ _ _ _ _ _ _ _ _ _ _ _ _ _ _ _ _ _ _ _ _ _ _ _ _ _ _ _ _ _ _ _ _ _ _ _ _ _ _ _ _ _ _ _ _ _ _ _ _ _ _ _ _ _ _ _ _ _ _ _ _ _ _ _⟩
theorem akY(w:World)(s:ByteArray)(l n₀:Nat)(J Jx:List PR->World->Prop)(T:Tl l n₀ J Jx (bY s false xP))(hn:n₀<=w.heap.size)(h20:10<=n₀)(hz:s.size<=1000)(env:nL w)(hJ:J [] w):
  Calls prog 107 #[.string s,.func (.yield l) #[] #[]] w fun e w'=>(∃v,e= .returned v)/\Below n₀ w w'/\(J (bY s false xP) w'∨∃pre,pre<+:bY s false xP/\Jx pre w'):=by
 obtain⟨C,hC⟩:∃C:RC,C=⟨w,w.heap.size,s,l,n₀,J,Jx,bY s false xP⟩:=⟨_,rfl⟩
 have O:mW C:=by subst hC;exact⟨T,hn,h20,hz,env⟩
 have HR:Hid (RE C=fun e w'=>(∃v,e= .returned v)/\Below n₀ w w'/\(J (bY s false xP) w'∨∃pre,pre<+:bY s false xP/\Jx pre w')):=by subst hC;rfl
 have h0:LJ C 3 (2*s.size+3) ⟨#[.string s,.func (.yield l) #[] #[],undef,undef,.pointer (some ⟨w.heap.size,0,none⟩),undef,undef,undef,.string s,.func (.yield l) #[] #[],.agg #[.string s,.func (.yield l) #[] #[],.int .i64 0,.int .i64 0,.int .i64 0,.int .i64 0,.int .i64 0,.bool false],undef,undef,undef,undef,undef,undef,undef,undef,undef,undef,undef,undef,undef,undef,undef,undef,undef,undef,undef,undef,undef,undef,undef,undef,undef,undef,undef,undef,undef,undef,undef,undef,undef,undef,undef,undef,undef,undef,undef,undef,undef,undef,undef,undef,undef,undef,undef,undef,undef,undef,undef,undef,undef,undef,undef,undef,undef,undef,undef,undef,undef,undef,undef,undef,undef,undef,undef,undef,undef,undef,undef,undef,undef,undef,undef,undef],[]⟩ (w.alloc (.cells #[.string s,.func (.yield l) #[] #[],.int .i64 0,.int .i64 0,.int .i64 0,.int .i64 0,.int .i64 0,.bool false] 244)):=by
  subst hC;refine⟨⟨_,_,_,_,_,_,_,_,_,_,_,_,_,_,_,_,_,_,_,_,_,_,_,_,_,_,_,_,_,_,_,_,_,_,_,_,_,_,_,_,_,_,_,_,_,_,_,_,_,_,_,_,_,_,_,_,_,_,_,_,_,_,_,_,_,_,_,_,_,_,_,_,_,_,_,_,_,_,_,_,_,_,_,_,_,_,rfl⟩,xP,false,[],⟨⟨World.alloc_heap_new w _,fun _=>T.hJ _ _ _ hJ ⟨rfl,rfl,rfl,by simp,fun k o hk _=>(dM w _ k (eO hk)).trans hk⟩,(fun e=>by cases e)⟩,⟨ay _,ay _,ay _,rY _,rY _,ay _⟩,(aA _ _).alloc hn _⟩,.inl ⟨rfl,fun _=>rfl,by simp [xP]⟩⟩
 rw [<-HR.out];clear T hn h20 hz env hJ hC HR;go_enter func107,ntmps107;refine an3 3 (LJ C) ?_ rfl (fun lab n a w h=>⟨_,(abW C O lab n a w h).1,(abW C O lab n a w h).2⟩);go_wp2;exact⟨_,h0⟩
def VR {α:Type}(n₀:Nat)(P:Program)(gf:Nat)(lb:Array Value)(encs:α->Array Value)(Kp Ab:World->World->Prop)(X:List α)(w0:World):Prop:=
 ∀(l:Nat)(J Jx:List α->World->Prop)(W:World),Below w0.heap.size w0 W->(∀pre A B,J pre A->Ab A B->J pre B)->(∀pre A B,Jx pre A->Ab A B->Jx pre B)->
  (∀pre x W1,J pre W1->(pre++[x])<+:X->YieldAt Fence.wide 0 P l (encs x) W1 fun e W'=>(e= .returned (.bool true)/\J (pre++[x]) W'/\Kp W1 W')∨(e= .returned (.bool false)/\Jx (pre++[x]) W'/\Kp W1 W'))->
  J [] W->Calls P gf (#[.func (.yield l) #[] #[]]++lb) W fun e W'=>(∃v,e= .returned v)/\Below n₀ W W'/\(J X W'∨∃pre,pre<+:X/\Jx pre W')
theorem akX {α:Type}{P:Program}{g:Operand}{ps:Array Tmp}{assign body:Code}{Q:Exit->Act->World->Prop}{a:Act}{w:World}{gf:Nat}{lb:Array Value}(hg:a.eval g= .func (.func gf) #[] lb)(eg:∀args w,(callFunc gf args).run P w= .ok (.enter gf args) w)
  {encs:α->Array Value} {Kp Ab:World->World->Prop} {X:List α} {n₀:Nat} (hn0:n₀<=w.heap.size) (hseq:VR n₀ P gf lb encs Kp Ab X w) (hps:∀x,(encs x).size=ps.size)
  (hKt:∀{A B C:World},Kp A B->Kp B C->Kp A C) (Yo:∀(W:World)(l:Nat)(o o':Obj),w.heap.size<=l->W.heap[l]? =some o->o.isCells=false->Kp W (W.putObj l o')) (LI:∀A B,Ab A B->Same A B)
  (I:List α->World->Prop) (Ix:Code->List α->World->Prop) (hI:∀pre A B,I pre A->Ab A B->I pre B) (hIx:∀c pre A B,Ix c pre A->Ab A B->Ix c pre B)
  (Ym:∀pre (W:World)(l:Nat)(o o':Obj),w.heap.size<=l->W.heap[l]? =some o->o.isCells=false->I pre W->I pre (W.putObj l o'))
  (LL:∀c pre (W:World)(l:Nat)(o o':Obj),w.heap.size<=l->W.heap[l]? =some o->o.isCells=false->Ix c pre W->Ix c pre (W.putObj l o'))
  (h0:∀o1 o2,I [] ((w.alloc o1).alloc o2))
  (ahN:∀(l:Nat)(pre:List α)(x:α)(W:World),w.heap.size<=l->I pre W->(pre++[x])<+:X->
   assign.wpIn (Fence.wide.inRound l) 0 P (Exit.then (fun a₁ W₁=>Same W W₁/\Kp W W₁/\∀o o',W₁.heap[l]? =some o->o.isCells=false->body.wpIn (Fence.wide.inRound l) 0 P (akH Kp I Ix (pre++[x]) (W₁.putObj l o')) a₁ (W₁.putObj l o')) (fun _ _ _=>False))
    {tmps:=(ps.zip (encs x)).foldl (fun t (p,v)=>t.setIfInBounds p v) a.tmps,defers:=[]} W)
  (hdone:∀(D:Nat)(W:World),w.heap.size<=D->Below n₀ w W->I X W->W.heap[D]? =some (.deferred (some []))->Q .normal {a with defers:={target:= .collected D,args:=#[]}::a.defers} W)
  (hstop:∀(D:Nat)(c:Code)(pre:List α)(W:World),w.heap.size<=D->Below n₀ w W->pre<+:X->Ix c pre W->W.heap[D]? =some (.deferred (some []))->c.wp P Q {a with defers:={target:= .collected D,args:=#[]}::a.defers} W):
  (Code.rangeFunc g ps assign body).wp P Q a w:=by
 refine(T9 (n:=0)).1 (wpIn_rangeFunc fun fn _=> ?_)
 -- the record of the loop,as it is ready,busy,done
 let rc:LoopState->Option Code->Loop:=fun st pe=>{state:=st,pending:=pe,fn,tmps:=a.tmps,params:=ps,assign,body,defers:=w.heap.size}
 have hz1:(w.alloc (.deferred (some []))).heap.size=w.heap.size+1:=by simp
 generalize hW1:(w.alloc (.deferred (some []))).alloc (.loop (rc .ready none))=W1;have nt:W1.heap[w.heap.size+1]? =some (.loop (rc .ready none)):=by
  rw [<-hW1,<-hz1];exact World.alloc_heap_new _ _
 have hd1:W1.heap[w.heap.size]? =some (.deferred (some [])):=by
  rw [<-hW1];exact(dM _ _ _ (by simp)).trans (World.alloc_heap_new w _)
 refine⟨w.heap.size+1,[{target:= .collected w.heap.size,args:=#[]}],W1,{target:= .fn (.func gf) lb,args:=#[.func (.yield (w.heap.size+1)) #[] #[]]},W1,gf,#[.func (.yield (w.heap.size+1)) #[] #[]]++lb,W1,?_,?_,fun _ _=>trivial,?_,(fun h=>by cases h),?_⟩
 .rw [<-hW1];exact run_enterLoop_outer fn a.tmps ps assign body
 .simp only [resolve,hg];simp [go_sem]
 .simp [invoke,go_sem,eg]
 .refine callsIn_wide.2 ?_;refine(hseq (w.heap.size+1)
   (fun pre W=>I pre W/\W.heap[w.heap.size+1]? =some (.loop (rc .ready none))/\W.heap[w.heap.size]? =some (.deferred (some [])))
   (fun pre W=>∃c,Ix c pre W/\W.heap[w.heap.size+1]? =some (.loop (rc .done (some c)))/\W.heap[w.heap.size]? =some (.deferred (some []))) W1
   (by rw [<-hW1];exact((aA _ _).alloc (ay _) _).alloc (by simp) _)
   (fun pre A B ⟨h1,h2,h3⟩ hab=>⟨hI pre A B h1 hab,LI A B hab _ _ h2 rfl,LI A B hab _ _ h3 rfl⟩)
   (fun pre A B ⟨c,h1,h2,h3⟩ hab=>⟨c,hIx c pre A B h1 hab,LI A B hab _ _ h2 rfl,LI A B hab _ _ h3 rfl⟩) ?_
   ⟨by rw [<-hW1];exact h0 _ _,nt,hd1⟩).mono ?_
  .rintro pre x W ⟨hi,hl,hd⟩ hx;refine⟨fn,_,assign,body,run_yield hl (hps x),roundIn_of_wpIn trivial (wpIn_mono (ahN (w.heap.size+1) pre x W (by omega) hi hx) ?_)⟩;intro e a₁ W₁ hK;cases e with
   |normal=>
    obtain⟨hs,hk,hb⟩:=hK;have hl':=hs _ _ hl rfl;have hd':=hs _ _ hd rfl;refine⟨_,run_beginRound hl' rfl,wpIn_mono (hb _ (.loop (rc .busy none)) hl' rfl) ?_⟩;have hk2:Kp W (W₁.putObj (w.heap.size+1) (.loop (rc .busy none))):=hKt hk (Yo W₁ _ _ _ (by omega) hl' rfl);have hl2:(W₁.putObj (w.heap.size+1) (.loop (rc .busy none))).heap[w.heap.size+1]? =some (.loop (rc .busy none)):=World.putObj_heap_same (Ni.1 hl').1;have hd2:(W₁.putObj (w.heap.size+1) (.loop (rc .busy none))).heap[w.heap.size]? =some (.deferred (some [])):=(pL (by omega)).trans hd';intro e2 a2 W2 hq
    -- behind the body,whatever the jump
    have fin:∀jump:Option Code,Same (W₁.putObj (w.heap.size+1) (.loop (rc .busy none))) W2->Kp (W₁.putObj (w.heap.size+1) (.loop (rc .busy none))) W2->∃W3,W3=W2.putObj (w.heap.size+1) (.loop (rc (if jump.isNone then .ready else .done) jump))/\(Instr.endRound (w.heap.size+1) jump).run P W2= .ok (.bool jump.isNone) W3/\W2.heap[w.heap.size+1]? =some (.loop (rc .busy none))/\W3.heap[w.heap.size+1]? =some (.loop (rc (if jump.isNone then .ready else .done) jump))/\W3.heap[w.heap.size]? =some (.deferred (some []))/\Kp W W3:=fun jump h1 h2=>by
     have hb2:=h1 _ _ hl2 rfl;exact⟨_,rfl,run_endRound jump hb2,hb2,World.putObj_heap_same (Ni.1 hb2).1,(pL (by omega)).trans (h1 _ _ hd2 rfl),hKt (hKt hk2 h2) (Yo W2 _ _ _ (by omega) hb2 rfl)⟩
    cases e2 with
    |normal=>
     obtain⟨q1,q2,q3⟩:=hq;obtain⟨W3,rfl,f1,f2,f3,f4,f5⟩:=fin none q1 q2;exact⟨_,_,f1,.inl ⟨rfl,⟨Ym _ _ _ _ _ (by omega) f2 rfl q3,f3,f4⟩,f5⟩⟩
    |ret=>
     obtain⟨q1,q2,q3⟩:=hq;obtain⟨W3,rfl,f1,f2,f3,f4,f5⟩:=fin (some .ret) q1 q2;exact⟨_,_,f1,.inr ⟨rfl,⟨_,LL _ _ _ _ _ _ (by omega) f2 rfl q3,f3,f4⟩,f5⟩⟩
    |exit id=>
     obtain⟨q1,q2,q3⟩:=hq;obtain⟨W3,rfl,f1,f2,f3,f4,f5⟩:=fin (some (.exit id)) q1 q2;exact⟨_,_,f1,.inr ⟨rfl,⟨_,LL _ _ _ _ _ _ (by omega) f2 rfl q3,f3,f4⟩,f5⟩⟩
    |goto t=>
     obtain⟨q1,q2,q3⟩:=hq;obtain⟨W3,rfl,f1,f2,f3,f4,f5⟩:=fin (some (.goto t)) q1 q2;exact⟨_,_,f1,.inr ⟨rfl,⟨_,LL _ _ _ _ _ _ (by omega) f2 rfl q3,f3,f4⟩,f5⟩⟩
    |panic ch=>exact hq.elim
    |outgrown=>exact hq.elim
   |ret=>exact hK.elim
   |exit id=>exact hK.elim
   |goto t=>exact hK.elim
   |panic ch=>exact hK.elim
   |outgrown=>exact hK.elim
  .have hb1:Below n₀ w W1:=by rw [<-hW1];exact((aA _ _).alloc hn0 _).alloc (by simp;omega) _
   have qw:∀(W:World)(o':Obj),Below n₀ w W->Below n₀ w (W.putObj (w.heap.size+1) o'):=fun W o' h=>h.trans ⟨rfl,rfl,rfl,by simp [World.putObj],fun k hk=>pL (by omega)⟩
   rintro e W2 ⟨⟨v,rfl⟩,hbl,⟨hi,hl,hd⟩|⟨pre,hp,c,hi,hl,hd⟩⟩
   .exact⟨none,_,run_endLoop hl (by simp [rc]),hdone _ _ (ay _) (qw _ _ (hb1.trans hbl)) (Ym _ _ _ _ _ (by omega) hl rfl hi) ((pL (by omega)).trans hd)⟩
   .exact⟨some c,_,run_endLoop hl (by simp [rc]),(T9 (n:=0)).2 (hstop _ c pre _ (ay _) (qw _ _ (hb1.trans hbl)) hp (LL _ _ _ _ _ _ (by omega) hl rfl hi) ((pL (by omega)).trans hd))⟩
theorem agB {P:Program}(w:World)(d:Nat)(t:TypeId)(x y:Array TypeId)(b:Bool)(f:Fn)(v:Array Value)(h:P.underlying t=some (.func x y b)):(Op.equalIn (d+1) t (.func f #[] v) .nilFunc).run P w= .ok false w:=by
 simp [Op.equalIn,Cr h]
theorem Tryz.ajo(l:Nat)(w:World):(binOp .neq 171 (.func (.yield l) #[] #[]) .nilFunc).run prog w= .ok (.bool true) w:=by
 have e:(Op.equalIn 10000 171 (.func (.yield l) #[] #[]) .nilFunc).run prog w= .ok false w:=agB w 9999 _ _ _ _ _ #[] underlying171;simp only [binOp];simp [Op.equal,Op.maxDepth,e]
def nT(s:ByteArray):List PR:=if s.size<=600 then bY s false xP else []
theorem ako(w0:World)(n₀ bx:Nat)(s:ByteArray)(hb:w0.cell? ⟨bx,0,none⟩=some (.string s))(env:nL w0)(h20:10<=n₀)(hn0:n₀<=w0.heap.size):
  VR n₀ prog 106 #[.pointer (some ⟨bx,0,none⟩)] Pv (Bk n₀) lq (nT s) w0:=by
 intro l J Jx W hW hJ Ak hY h0;have hbW:W.cell? ⟨bx,0,none⟩=some (.string s):=jf hW hb;have QA:nL W:=env.below h20 (hW.mono hn0);show Calls prog 106 #[.func (.yield l) #[] #[],.pointer (some ⟨bx,0,none⟩)] W _;by_cases hz:s.size<=600
 .have hz':(s.size:Int)<=600:=by omega
  have hX:nT s=bY s false xP:=aj hz;have hne:=fun w=>Tryz.ajo l w
  have HR:=akY W s l n₀ J Jx ⟨hJ,Ak,by rw [<-hX];exact hY⟩ (bU hn0 hW.size) h20 (by omega) QA h0;rw [<-hX]at HR;clear hJ Ak hY h0 QA hW hX;go_enter func106,ntmps106;go_wp2_with fail;refine HR.mono ?_;rintro ev W1 ⟨⟨v,rfl⟩,hb1,h1⟩;have HB:=ah hb1;have H1:=ah h1;clear h1 hb1;go_wp2;go_end0;exact⟨⟨_,rfl⟩,HB.out,H1.out⟩
 .have hz':¬(s.size:Int)<=600:=by omega
  have hX:nT s=[]:=ai hz;rw [hX];have H0:=ah h0;clear hJ Ak hY QA hW hX h0;go_enter func106,ntmps106;go_wp2;go_end0;exact⟨⟨_,rfl⟩,aA _ _,.inl H0.out⟩
theorem ag6(w:World)(s:ByteArray):Calls prog 63 #[.string s] w fun e w'=>e= .returned (.func (.func 106) #[] #[.pointer (some ⟨w.heap.size,0,none⟩)])/\w'=w.alloc (.cells #[.string s] 9):=by
 go_enter func63,ntmps63;go_wp2;go_ret;exact⟨rfl,rfl⟩
section
attribute [local go_sem] Oper.semAt_some
def ai1(l:List PR):List Value:=l.map fun x=> .int .i64 x.line
def qH(x:PR):List Value:=[.int .i64 x.kind,.int .i64 x.from_,.int .i64 x.dU,.int .i64 x.body,.int .i64 x.end_]
def pK(l:List PR):List Value:=l.flatMap qH
theorem akj(l:List PR)(x:PR):pK (l++[x])=pK l++qH x:=by simp [pK]
theorem Sw {w w':World}{base:Nat}{e:TypeId}{size:Nat}{v:Value}{n:Nat}{xs:List Value}(h:w.ownsRow base e size v n xs)(ha:lq w w')(he:e≠244):w'.ownsRow base e size v n xs:=by
 refine⟨h.1,?_⟩;rcases h.2 with h|⟨g,cap,cur,rfl,h2,h3,h4⟩
 .exact .inl h
 .exact .inr ⟨g,cap,cur,rfl,h2,ha.block g _ h3 (fun c fr ec=>by injection ec with _ e2 _;exact he e2),h4⟩
theorem MK {w:World}{base:Nat}{e:TypeId}{size:Nat}{v:Value}{n:Nat}{xs:List Value}(h:w.ownsRow base e size v n xs){l:Nat}{o:Obj}(hl:w.heap[l]? =some o)(hc:o.isCells=false)(o':Obj):(w.putObj l o').ownsRow base e size v n xs:=by
 refine⟨h.1,?_⟩;rcases h.2 with h|⟨g,cap,cur,rfl,h2,h3,h4⟩
 .exact .inl h
 .refine .inr ⟨g,cap,cur,rfl,h2,?_,h4⟩;rw [pL]
  .exact h3
  .rintro rfl;rw [hl]at h3;obtain rfl:=aK h3;cases hc
theorem Wd {B:Nat}{w W:World}(h:Below B w W){l:Nat}(hl:B<=l)(o':Obj):Below B w (W.putObj l o'):=
 h.trans ⟨rfl,rfl,rfl,by simp [World.putObj],fun k hk=>pL (by omega)⟩
structure PI(w:World)(n:Int)(pre:List PR)(W:World):Prop where
 bn:W.heap[w.heap.size]? =some (.cells #[.int .i64 n] 3 (0,0))
 rows:∃lv pv,W.heap[w.heap.size+1]? =some (.cells #[lv] 31 (0,0))/\W.heap[w.heap.size+2]? =some (.cells #[pv] 71 (0,0))/\W.ownsRow (w.heap.size+4) 3 1 lv pre.length (ai1 pre)/\W.ownsRow (w.heap.size+4) 75 5 pv pre.length (pK pre)
 sz:w.heap.size+4<=W.heap.size
theorem PI.z8 {w:World}{n:Int}{pre:List PR}{A B:World}(h:PI w n pre A)(ha:lq A B):PI w n pre B:=by
 obtain⟨lv,pv,h1,h2,h3,h4⟩:=h.rows;exact⟨ha.block _ _ h.bn (fun c fr e=>by cases e),⟨lv,pv,ha.block _ _ h1 (fun c fr e=>by cases e),ha.block _ _ h2 (fun c fr e=>by cases e),Sw h3 ha (by decide),Sw h4 ha (by decide)⟩,bU h.sz ha.size⟩
theorem PI.put {w:World}{n:Int}{pre:List PR}{W:World}(h:PI w n pre W){l:Nat}{o:Obj}(hl:w.heap.size+4<=l)(ho:W.heap[l]? =some o)(hc:o.isCells=false)(o':Obj):PI w n pre (W.putObj l o'):=by
 obtain⟨lv,pv,h1,h2,h3,h4⟩:=h.rows;exact⟨(pL (by omega)).trans h.bn,⟨lv,pv,(pL (by omega)).trans h1,(pL (by omega)).trans h2,MK h3 ho hc o',MK h4 ho hc o'⟩,by simp [World.putObj];exact h.sz⟩
def MG(t:TypeId):Prop:=t=3∨t=31∨t=75∨t=71
structure Kb(B:Nat)(A C:World):Prop where
 below:Below B A C
 keep:∀(k:Nat)(o:Obj),A.heap[k]? =some o->(∀c t fr,o=Obj.cells c t fr->¬MG t)->C.heap[k]? =some o
theorem Kb.refl(B:Nat)(A:World):Kb B A A:=⟨aA _ _,fun _ _ h _=>h⟩
theorem Kb.trans {B:Nat}{A C D:World}(h:Kb B A C)(k:Kb B C D):Kb B A D:=⟨h.below.trans k.below,fun i o hi ho=>k.keep i o (h.keep i o hi ho) ho⟩
theorem Kb.al {B:Nat}{A C:World}(h:Kb B A C)(hB:B<=C.heap.size)(o:Obj):Kb B A (C.alloc o):=h.trans ⟨(aA _ _).alloc hB o,fun k _ hk _=>(dM C o k (eO hk)).trans hk⟩
theorem Kb.grown {B:Nat}{A C D:World}{r:Option Nat}(h:Kb B A C)(hg:C.grownBy D r)(hB:B<=C.heap.size)(hr:∀k,r=some k->B<=k/\∃c t fr,C.heap[k]? =some (Obj.cells c t fr)/\MG t):Kb B A D:=by
 refine h.trans ⟨(aA _ _).grown hg hB (fun k e=>(hr k e).1),fun k o hk ho=> ?_⟩;refine(hg.block k (eO hk) ?_).trans hk;intro e;obtain⟨_,c,t,fr,h1,h2⟩:=hr k e.symm;rw [h1]at hk;exact ho c t fr (aK hk).symm h2
theorem Kb.same {B:Nat}{A C:World}(h:Kb B A C):Same A C:=fun k o hk hc=>h.keep k o hk (fun c t fr e=>by subst e;cases hc)
theorem Kb.kpt {B:Nat}{A C:World}(h:Kb B A C):Bk B A C:=⟨h.below,fun k c fr hk=>h.keep k _ hk (fun c' t fr' e=>by injection e with _ e2 _;subst e2;unfold MG;decide)⟩
theorem Fq {w:World}{base:Nat}{e:TypeId}{size:Nat}{v:Value}{n:Nat}{xs:List Value}(h:w.ownsRow base e size v n xs){k:Nat}(hk:v.ownBlock=some k):base<=k/\∃c,w.heap[k]? =some (Obj.cells c e (0,0)):=by
 rcases h.2 with⟨rfl,_⟩|⟨g,cap,cur,rfl,h2,h3,h4⟩
 .simp [Value.ownBlock]at hk
 .simp only [Value.ownBlock]at hk;obtain rfl:=aK hk;exact⟨h2,_,h3⟩
theorem Sv {w w':World}{base:Nat}{e:TypeId}{size:Nat}{v:Value}{n:Nat}{xs:List Value}{r:Option Nat}(h:w.ownsRow base e size v n xs)(hg:w.grownBy w' r)(hne:∀k,v.ownBlock=some k->some k≠r):w'.ownsRow base e size v n xs:=
 nC h fun k _ hk ho=>(hg.block k (eO ho) (hne k hk)).trans ho
theorem akn(w:World)(a b c d e:Value)(t:TypeId):∀j u,[a,b,c,d,e][j]? =some u->(w.alloc (.cells #[a,b,c,d,e] t)).cell? ((⟨w.heap.size,0,none⟩:Addr).add j)=some u:=by
 intro j u hj;have key:=fun i=>az (World.alloc_heap_new w (.cells #[a,b,c,d,e] t)) i
 match j,hj with
 |0,hj=>exact(key 0).trans hj
 |1,hj=>exact(key 1).trans hj
 |2,hj=>exact(key 2).trans hj
 |3,hj=>exact(key 3).trans hj
 |4,hj=>exact(key 4).trans hj
 |j+5,hj=>simp at hj
end
section
attribute [local go_sem] Oper.semAt_some
theorem aey(w:World)(a b c d:Obj):((((w.alloc a).alloc b).alloc c).alloc d).heap[w.heap.size]? =some a/\((((w.alloc a).alloc b).alloc c).alloc d).heap[w.heap.size+1]? =some b/\((((w.alloc a).alloc b).alloc c).alloc d).heap[w.heap.size+2]? =some c/\((((w.alloc a).alloc b).alloc c).alloc d).heap[w.heap.size+3]? =some d:=by
 have s1:(w.alloc a).heap.size=w.heap.size+1:=by simp
 have s2:((w.alloc a).alloc b).heap.size=w.heap.size+2:=by simp
 have s3:(((w.alloc a).alloc b).alloc c).heap.size=w.heap.size+3:=by simp
 have n1:(w.alloc a).heap[w.heap.size]? =some a:=World.alloc_heap_new w a;have n2:((w.alloc a).alloc b).heap[w.heap.size+1]? =some b:=by have:=World.alloc_heap_new (w.alloc a) b;rw [s1]at this;exact this
 have n3:(((w.alloc a).alloc b).alloc c).heap[w.heap.size+2]? =some c:=by have:=World.alloc_heap_new ((w.alloc a).alloc b) c;rw [s2]at this;exact this
 have n4:((((w.alloc a).alloc b).alloc c).alloc d).heap[w.heap.size+3]? =some d:=by have:=World.alloc_heap_new (((w.alloc a).alloc b).alloc c) d;rw [s3]at this;exact this
 exact⟨(dM _ _ _ (by omega)).trans ((dM _ _ _ (by omega)).trans ((dM _ _ _ (by omega)).trans n1)),(dM _ _ _ (by omega)).trans ((dM _ _ _ (by omega)).trans n2),(dM _ _ _ (by omega)).trans n3,n4⟩
theorem GV(w:World)(o:Obj):lq w (w.alloc o):=⟨rfl,rfl,rfl,by simp,fun k _ hk _=>(dM w o k (eO hk)).trans hk⟩
theorem Ch {w:World}{base base':Nat}{e:TypeId}{size:Nat}{v:Value}{n:Nat}{xs:List Value}(h:w.ownsRow base e size v n xs)(hb:base'<=base):w.ownsRow base' e size v n xs:=by
 refine⟨h.1,?_⟩;rcases h.2 with h|⟨g,cap,cur,rfl,h2,h3,h4⟩
 .exact .inl h
 .exact .inr ⟨g,cap,cur,rfl,by omega,h3,h4⟩
theorem aiF {n:Nat}{A B C:World}(h:Bk n A B)(k:Bk n B C):Bk n A C:=⟨h.below.trans k.below,fun _ _ _ e=>k.rd _ _ _ (h.rd _ _ _ e)⟩
theorem aiE {n:Nat}{W:World}{l:Nat}{o:Obj}(hl:n<=l)(ho:W.heap[l]? =some o)(hc:o.isCells=false)(o':Obj):Bk n W (W.putObj l o'):=
 ⟨Wd (aA _ _) hl o',fun i c fr e=>by
  rw [pL]
  .exact e
  .rintro rfl;rw [ho]at e;obtain rfl:=aK e;cases hc⟩
theorem al1 {A B:World}(h:lq A B):Same A B:=fun k o hk hc=>h.block k o hk (fun c fr e=>by subst e;cases hc)
theorem Tryz.aic:(prog.info? 75).map (fun i=>(i.zero,i.size,i.bytes))=some (some (.agg #[.int .i64 0,.int .i64 0,.int .i64 0,.int .i64 0,.int .i64 0]),5,40):=by kernel_rfl
end
theorem Ae(k t:Nat)(p:RP)(hb:p.from_<=p.at_):(dA k t p).length<=(cz t p).from_ - p.from_/\p.from_<=(cz t p).from_/\(cz t p).from_<=(cz t p).at_:=by
 unfold dA cz;split
 .simp only [kq];omega
 .simp only [eW,kq];omega
theorem Sn(hd:Nat)(p:RP):(cO hd p false).from_=(cz 0 p).from_:=by unfold cO;rw [yN]
theorem aln(s:ByteArray)(blk:Bool)(p:RP)(hb:p.from_<=p.at_)(he:p.at_<=s.size):(bY s blk p).length<=s.size - p.from_:=by
 fun_induction bY s blk p with
 |case1 p h1 h2 ih=>
  have e:=Ae 2 2 p hb;have hc:=jg (t:=2) (p:=p);have h3:=o9 (s:=s) (i:=p.at_+1) (by rw [h2.2];decide);have:=ih e.2.2 (by rw [jg];omega);rw [bP];omega
 |case2 p h1 h2 h3 ih=>
  have e:=Ae 2 0 p hb;have hc:=jg (t:=0) (p:=p);have hf:(mY (cz 0 p)).from_=(cz 0 p).at_+1:=rfl;have hg:(mY (cz 0 p)).at_=(cz 0 p).at_+1:=rfl;have:=ih (by omega) (by rw [hg,jg];omega);rw [bP];omega
 |case3 p h1 h2 h3 ih=>
  have hf:(cI p (p.at_+1)).from_=p.from_:=rfl;have hg:(cI p (p.at_+1)).at_=p.at_+1:=rfl;have:=ih (by omega) (by omega);omega
 |case4 blk p h1 h2 h3 ih=>
  have e:=Ae 0 0 p hb;have hf:(cI (cO 1 p false) (qR s (p.at_+1)).1).from_=(cz 0 p).from_:=Sn 1 p;have hg:(cI (cO 1 p false) (qR s (p.at_+1)).1).at_=(qR s (p.at_+1)).1:=rfl;have hq:=Jm s (p.at_+1);have hc:=jg (t:=0) (p:=p);have e2:=Ae 1 (qT s (p.at_+1)) (cI (cO 1 p false) (qR s (p.at_+1)).1) (by omega);have hc2:=jg (t:=qT s (p.at_+1)) (p:=cI (cO 1 p false) (qR s (p.at_+1)).1);have ht:=MQ (s:=s) (i:=p.at_+1) (by omega);have:=ih e2.2.2 (by rw [jg,hg];exact ht);rw [bP,bP];omega
 |case5 blk p h1 h2 h3 h4 ih=>
  have e:=Ae 0 0 p hb;have hf:(cI (cO 2 p false) (bQ s (p.at_+2))).from_=(cz 0 p).from_:=Sn 2 p;have hg:(cI (cO 2 p false) (bQ s (p.at_+2))).at_=bQ s (p.at_+2):=rfl;have hq:=Dz s (p.at_+2);have hc:=jg (t:=0) (p:=p);have h5:=o9 (s:=s) (i:=p.at_+1) (by rw [h4.2];decide);have e2:=Ae 2 0 (cI (cO 2 p false) (bQ s (p.at_+2))) (by omega);have hc2:=jg (t:=0) (p:=cI (cO 2 p false) (bQ s (p.at_+2)));have hl:=Jo (s:=s) (i:=p.at_+2) (by omega);have:=ih e2.2.2 (by rw [jg,hg];omega);rw [bP,bP];omega
 |case6 blk p h1 h2 h3 h4 h5 ih=>
  have e:=Ae 0 0 p hb;have hf:=Sn 2 p;have hg:=JB (hd:=2) (p:=p) (st:=false);have hc:=jg (t:=0) (p:=p);have h6:=o9 (s:=s) (i:=p.at_+1) (by rw [h5.2];decide);have:=ih (by omega) (by omega);rw [bP];omega
 |case7 blk p h1 h2 h3 h4 h5 h6 ih=>
  have e:=Ae 0 0 p hb;have hc:=jg (t:=0) (p:=p);have hf:(mY (cz 0 p)).from_=(cz 0 p).at_+1:=rfl;have hg:(mY (cz 0 p)).at_=(cz 0 p).at_+1:=rfl;have:=ih (by omega) (by rw [hg,jg];omega);rw [bP];omega
 |case8 blk p h1 h2 h3 h4 h5 h6 ih=>
  have hf:(cI p (p.at_+1)).from_=p.from_:=rfl;have hg:(cI p (p.at_+1)).at_=p.at_+1:=rfl;have:=ih (by omega) (by omega);omega
 |case9 blk p h1=>
  have e:=Ae (if blk=true then 2 else 0) 0 p hb;have hc:=jg (t:=0) (p:=p);omega
theorem ML(s:ByteArray):(nT s).length<=600:=by
 unfold nT;split
 .have:=aln s false xP (ay _) (rY _);omega
 .simp
theorem Ho(l:List PR)(t:PR):jh (l++[t])=jh l++[.int .i64 t.line,.int .i64 t.kind,.int .i64 t.from_,.int .i64 t.dU,.int .i64 t.body,.int .i64 t.end_]:=by simp [jh]
theorem af8(s:ByteArray)(hz:s.size<=600):(fQ s (dD s 0) 0 0).length<=600:=by
 have h:=ML s;unfold nT at h;rw [aj hz]at h;rw [<-SJ];exact h
theorem SG(s:ByteArray)(hz:s.size<=600):nT s=fQ s (dD s 0) 0 0:=by
 unfold nT;rw [aj hz];exact SJ s
theorem Na {p lo hi:Nat}(h:lo<=hi):lo<=wi p lo hi/\wi p lo hi<=hi:=by
 unfold wi;split
 .omega
 .split<;>omega
theorem TC.drop {s:ByteArray}:∀{l:List Tk}{p:Nat}(i:Nat),TC s p l->∃q,p<=q/\TC s q (l.drop i)
 |l,p,0,h=>⟨p,ay _,h⟩
 |[],p,i+1,_=>⟨p,ay _,by simp [TC]⟩
 |t::ts,p,i+1,h=>by
  obtain⟨h1,h2,h3,h4,h5,h6⟩:=h;obtain⟨q,hq,hc⟩:=TC.drop i h6;exact⟨q,by omega,hc⟩
theorem Tryz.aag:(prog.info? 83).map (fun i=>(i.zero,i.size,i.bytes))=some (some (.agg #[.int .i64 0,.int .i64 0,.int .i64 0,.int .i64 0,.int .i64 0,.int .i64 0]),6,48):=by kernel_rfl
def Hl(s:ByteArray):List PR:=if s.size<=600 then fQ s (dD s 0) 0 0 else []
theorem af9(s:ByteArray):Hl s=nT s:=by
 unfold Hl;split
 .rename_i h;exact(SG s h).symm
 .rename_i h;unfold nT;rw [ai h]
structure p7(s:ByteArray)(all:List PR)(o:List PR)(t:Tk)(ts:List Tk)(ln bg fr p:Nat):Prop where
 O7:bg<=t.T
 Mu:ln<=bg
 go:p<=t.T->bg<=fr/\fr<=p/\o++(lW s t.k t.T t.B t.E ln bg fr p++fQ s ts (iR s t.T ln bg p).1 (iR s t.T ln bg p).2)=all
 done:¬p<=t.T->o++fQ s ts ln bg=all
section
variable{s:ByteArray}{all o:List PR}{t:Tk}{ts:List Tk}{ln bg fr p:Nat}
theorem p7.start(h:o++fQ s (t::ts) ln bg=all)(hb:bg<=t.F)(hF:t.F<t.T)(hl:ln<=bg):p7 s all o t ts ln bg t.F t.F:=
 ⟨by omega,hl,fun _=>⟨hb,ay _,h⟩,fun hn=>absurd (fW hF) hn⟩
theorem p7.step(h:p7 s all o t ts ln bg fr p)(hp:p<t.T)(hb:¬bt s p=10):p7 s all o t ts ln bg fr (p+1):=by
 obtain⟨h1,h2,h3⟩:=h.go (by omega);rw [zl hp hb,Ag hp hb]at h3;exact⟨h.O7,h.Mu,fun _=>⟨h1,by omega,h3⟩,fun hn=>absurd hp hn⟩
theorem p7.feed(h:p7 s all o t ts ln bg fr p)(hp:p<t.T)(hb:bt s p=10):p7 s all (o++dY ln t.k bg fr p t.B t.E) t ts (ln+1) (p+1) (p+1) (p+1):=by
 obtain⟨h1,h2,h3⟩:=h.go (by omega);rw [DR hp hb,EL hp hb]at h3;have:=h.Mu;exact⟨hp,by omega,fun _=>⟨ay _,ay _,by rw [<-h3];simp only [eV]⟩,fun hn=>absurd hp hn⟩
theorem p7.stop(h:p7 s all o t ts ln bg fr p)(hp:p=t.T):p7 s all (o++dY ln t.k bg fr p t.B t.E) t ts ln bg fr (p+1):=by
 obtain⟨h1,h2,h3⟩:=h.go (by omega);rw [zk (by omega),EK (by omega)]at h3;exact⟨h.O7,h.Mu,fun hn=>by omega,fun _=>by rw [<-h3];simp only [eV]⟩
theorem p7.len(h:p7 s all o t ts ln bg fr p):o.length<=all.length:=by
 by_cases hp:p<=t.T
 .rw [<-(h.go hp).2.2];simp
 .rw [<-h.done hp];simp
end
theorem Xj {ln k bg fr p B E:Nat}(h:¬fr<p):dY ln k bg fr p B E=[]:=ai h
theorem Xh {ln k bg fr p B E:Nat}(h:fr<p)(hk:k=0):dY ln k bg fr p B E=[⟨ln,k,fr - bg,p - bg,0,0⟩]:=by unfold dY;rw [aj h,aj hk,aj hk]
theorem Xl {ln k bg fr p B E:Nat}(h:fr<p)(hk:k≠0):dY ln k bg fr p B E=[⟨ln,k,fr - bg,p - bg,wi B fr p - bg,wi E fr p - bg⟩]:=by unfold dY;rw [aj h,ai hk,ai hk]
theorem ann {w:World}{B g cap:Nat}{l:List Tk}{e:TypeId}(h:w.ownsRow B e 5 (.slice (some ⟨g,0,none⟩) l.length cap) l.length (kG l))(i:Nat)(hi:i<l.length):w.cell? ⟨g,i*5,none⟩=some (.int .i64 l[i].k)/\w.cell? ⟨g,i*5+1,none⟩=some (.int .i64 l[i].F)/\w.cell? ⟨g,i*5+2,none⟩=some (.int .i64 l[i].T)/\w.cell? ⟨g,i*5+3,none⟩=some (.int .i64 l[i].B)/\w.cell? ⟨g,i*5+4,none⟩=some (.int .i64 l[i].E):=by
 obtain⟨k0,k1,k2,k3,k4⟩:=TE l i hi;exact⟨by rw [dg h (i*5) (by omega)];exact k0,by rw [dg h (i*5+1) (by omega)];exact k1,by rw [dg h (i*5+2) (by omega)];exact k2,by rw [dg h (i*5+3) (by omega)];exact k3,by rw [dg h (i*5+4) (by omega)];exact k4⟩
theorem M4 {W w2:World}{B b:Nat}{e:TypeId}{z n:Nat}{v:Value}{xs:List Value}{c:Array Value}{T:TypeId}{o:Obj}{f:Nat×Nat}(ho:W.ownsRow B e z v n xs)(hH:W.heap[b]? =some (.cells c T f))(hT:T≠e)(hg:(W.alloc o).grownBy w2 v.ownBlock):w2.heap[b]? =some (.cells c T f):=by
 have hlt:b<W.heap.size:=eO hH;rw [hg.block b (by simp;omega) (fun h=> ?_)]
 .exact(dM _ _ _ hlt).trans hH
 .rcases ho.2 with⟨rfl,_⟩|⟨g,cap,cur,rfl,_,hh,_⟩
  .simp [Value.ownBlock]at h
  .simp only [Value.ownBlock,Bo]at h;subst h;rw [hH]at hh;simp only [Bo,Obj.cells.injEq]at hh;exact hT hh.2.1
theorem ak5(s:ByteArray)(w:World):Calls prog 50 #[.string s] w fun e w'=>∃v,e= .returned v/\w'.ownsRow w.heap.size 83 6 v (Hl s).length (jh (Hl s))/\Below w.heap.size w w':=by
 unfold Hl;by_cases hz:s.size<=600;case neg=>
  rw [ai hz];have hz':(s.size:Int)>600:=by omega
  clear hz;go_enter func50,ntmps50;go_wp2;go_ret;exact⟨_,rfl,jw _ _ _ _,aA _ _⟩
 case pos=>
  rw [aj hz];have hz':¬(s.size:Int)>600:=by omega
  obtain⟨iT,sA,xB⟩:∃i,prog.info? 83=some i/\(i.zero,i.size,i.bytes)=(some (.agg #[.int .i64 0,.int .i64 0,.int .i64 0,.int .i64 0,.int .i64 0,.int .i64 0]),6,48):=by simpa using Tryz.aag
  simp only [GR]at xB;obtain⟨sF,sG,sH⟩:=xB;have ND:=ah (af8 s hz);have Oc:=ah (VQ s 0);have qP:=ani s w (by omega);obtain⟨ts,hts⟩:∃ts,ts=dD s 0:=⟨_,rfl⟩
  rw [<-hts]at ND Oc qP ⊢;clear hts;obtain⟨all,hall⟩:∃all,all=fQ s ts 0 0:=⟨_,rfl⟩
  have Ka:=ah hall.symm;rw [<-hall]at ND ⊢;clear hall;have htl:=Oc.out.len;go_enter func50,ntmps50;go_wp2_with fail;refine qP.mono ?_;clear qP;rintro ev W1 ⟨tv,rfl,hrow,hb1⟩;obtain⟨ta,tc,rfl⟩:=kE hrow;have zO:=ah hrow;have aG:=ah hb1;have hz1:=hb1.size;clear hrow hb1;obtain⟨n,hn⟩:∃n,n=ts.length:=⟨_,rfl⟩
  rw [<-hn]at zO htl ⊢;have HN:=ah hn;clear hn;go_wp2;go_loopg [3,5,6,7,8,9,10,11] n (fun gk ov lv bv iv _ _ _ _ W=>∃(i ln bg:Nat)(o:List PR),i<=n/\gk=n - i/\iv= .int .i64 i/\lv= .int .i64 ln/\bv= .int .i64 bg/\ln<=bg/\TC s bg (ts.drop i)/\o++fQ s (ts.drop i) ln bg=all/\W.ownsRow W1.heap.size 83 6 ov o.length (jh o)/\Below W1.heap.size W1 W);case atStart=>exact⟨0,0,0,[],by omega,rfl,rfl,rfl,rfl,by omega,Oc.out,Ka.out,jw _ _ _ _,aA _ _⟩
  case round=>
   rename World=>wo
   obtain⟨i,ln,bg,o,hi,rfl,rfl,rfl,rfl,hlb,y7,hall,hown,hb⟩:=hrel;obtain⟨oa,oc,rfl⟩:=kE hown;by_cases hlt:i<n
   .have hil:i<ts.length:=by rw [<-HN.out];exact hlt
    have hrow:=vJ zO.out hb;obtain⟨tg,ao7,hte,aoQ,_,aoR⟩:=sL hrow (by omega);simp only [uY,vN]at hte;obtain⟨rfl,rfl⟩:=hte;have hrd:=ann (by rw [HN.out]at hrow;exact hrow) i hil;have hdr:ts.drop i=ts[i]::ts.drop (i+1):=l9 hil;rw [hdr]at y7 hall;generalize ts[i]=t at*;obtain⟨tk,tF,tT,tB,tE⟩:=t;simp only at hrd;obtain⟨r0,r1,r2,r3,r4⟩:=hrd;obtain⟨h1,h2,h3,h4,h5,h6⟩:=y7;simp only at h1 h2 h3 h4 h5 h6;have adW:=ah h6;obtain⟨TG,Rb⟩:∃TG,TG=ts.drop (i+1):=⟨_,rfl⟩
    have adX:=ah Rb;rw [<-Rb]at hall;have HP:=ah (p7.start hall h1 h2 hlb);have HB:=ah hb;have HO:=ah hown;have hbz:=hb.size;have hin:(i:Int)<(n:Int):=by omega
    clear hdr h6 Rb hall hown hb hrow hil;go_wp2;go_loopg [3,5,6,9,10,11] (s.size+1 - tF) (fun gk ov lv bv fv pv _ W=>∃(ln bg fr p:Nat)(o:List PR),p<=tT+1/\gk=s.size+1 - p/\lv= .int .i64 ln/\bv= .int .i64 bg/\fv= .int .i64 fr/\pv= .int .i64 p/\p7 s all o ⟨tk,tF,tT,tB,tE⟩ TG ln bg fr p/\fr<=tT/\W.ownsRow W1.heap.size 83 6 ov o.length (jh o)/\Below W1.heap.size W1 W/\W.heap[wo.heap.size]? =some (.cells #[.int .i64 tk,.int .i64 tF,.int .i64 tT,.int .i64 tB,.int .i64 tE] 125 (0,0)));case atStart=>exact⟨ln,bg,tF,tF,o,by omega,rfl,rfl,rfl,rfl,rfl,HP.out,by omega,nM HO.out _,HB.out.alloc hbz _,World.alloc_heap_new _ _⟩
    case round=>
     rename World=>wq
     clear HO HB HP r0 r1 r2 r3 r4 hlb;obtain⟨ln,bg,fr,p,o,hp,rfl,rfl,rfl,rfl,rfl,hP,hft,hown,hb,hH⟩:=hrel;obtain⟨qa,qc,rfl⟩:=kE hown;have hol:=hP.len;have aoI:=ND.out;have CL:=ah hP;have jq:=ah hb;have HH:=ah hH;have hbT:=hP.O7;have ahz:=hP.Mu;have hbz:=hb.size;have hwo:wo.heap.size<wq.heap.size:=eO hH;have c0:=cell_of hH 0;have c1:=cell_of hH 1;have c2:=cell_of hH 2;have c3:=cell_of hH 3;have c4:=cell_of hH 4;simp only [wR,wP,wQ]at c0 c1 c2 c3 c4;by_cases ZC:p<=tT
     .obtain⟨vz,BQ,_⟩:=hP.go ZC;have ahG:(p:Int)<=(tT:Int):=by omega
      clear hP hb hH;by_cases Mj:p<tT
      .have hpl:p<s.size:=by omega
       have ahH:(p:Int)<(tT:Int):=by omega
       have qw:=nN hpl;obtain⟨c,hc⟩:∃c,s[p]'hpl=c:=⟨_,rfl⟩
       rw [hc]at qw;have ahF:(p:Int)<(s.size:Int):=by omega
       by_cases h10:bt s p=10
       .have Co:(c.toNat:Int)=10:=by rw [<-qw,h10]
        have xY:=ah h10;clear qw h10;have h10:=xY;by_cases pH:fr<p
        .by_cases hk:tk=0
         .have Iu:(p:Int)>(fr:Int):=by omega
          have hk':¬(tk:Int)>0:=by omega
          have HK:=ah hk;clear hk;go_wp2_with(at_builtin;refine Cu _ rfl _ _ 80 rfl W1.heap.size 83 iT _ 6 48 underlying80 sA sF sG sH rfl (by decide) (by decide) _ _ _ rfl (nM hown _) [_,_,_,_,_,_] _ _ rfl (by simp) rfl (by simp [Value.oneCell']) (by omega) (by simp;omega) ?_);intro v2 w2 hown2 hg2;have qi:=M4 hown HH.out (by decide) hg2;have aJ:Hid (Below W1.heap.size W1 w2):=(jq.out.alloc hbz _).grown hg2 (by simp;omega) (fun y hy=>(hown.lt y hy).1);have d2:=cell_of qi 2;simp only [wR,wP,wQ]at d2;have wF:=ah qi;have bK:Hid (w2.ownsRow W1.heap.size 83 6 v2 (o++dY ln tk bg fr p tB tE).length (jh (o++dY ln tk bg fr p tB tE))):=by
           show World.ownsRow _ _ _ _ _ _ _;rw [Xh pH HK.out,Ho,bP];simp only [wN vz,wN (bU vz BQ),Int.ofNat_zero];exact hown2
          clear hown2 hg2 qi;go_wp2;go_roundg (s.size+1 - (p+1));case measure=>omega
          case rel=>exact⟨ln+1,p+1,p+1,p+1,o++dY ln tk bg fr p tB tE,by omega,rfl,by go_num,by go_num,by go_num,by go_num,CL.out.feed Mj xY.out,by omega,bK.out,aJ.out,wF.out⟩
         .have Iu:(p:Int)>(fr:Int):=by omega
          have hk':(tk:Int)>0:=by omega
          have Oj:Hid _:=Nb tB fr p;have Ol:Hid _:=Nb tE fr p;have hwb:=Na (p:=tB) BQ;have I8:=Na (p:=tE) BQ;have F4:=Xl (ln:=ln) (bg:=bg) (B:=tB) (E:=tE) pH hk;generalize wi tB fr p=wb at*;generalize wi tE fr p=we at*;obtain⟨TZ,wb2⟩:=hwb;obtain⟨T4,we2⟩:=I8;have Nw:Hid _:=F4;clear F4;go_wp2_with fail;refine(Oj.out _).mono ?_;rintro ev wx ⟨rfl,rfl⟩;go_wp2_with fail;refine(Ol.out _).mono ?_;rintro ev wx ⟨rfl,rfl⟩;go_wp2_with(at_builtin;refine Cu _ rfl _ _ 80 rfl W1.heap.size 83 iT _ 6 48 underlying80 sA sF sG sH rfl (by decide) (by decide) _ _ _ rfl (nM hown _) [_,_,_,_,_,_] _ _ rfl (by simp) rfl (by simp [Value.oneCell']) (by omega) (by simp;omega) ?_);intro v2 w2 hown2 hg2;have qi:=M4 hown HH.out (by decide) hg2;have aJ:Hid (Below W1.heap.size W1 w2):=(jq.out.alloc hbz _).grown hg2 (by simp;omega) (fun y hy=>(hown.lt y hy).1);have d2:=cell_of qi 2;simp only [wR,wP,wQ]at d2;have wF:=ah qi;have bK:Hid (w2.ownsRow W1.heap.size 83 6 v2 (o++dY ln tk bg fr p tB tE).length (jh (o++dY ln tk bg fr p tB tE))):=by
           show World.ownsRow _ _ _ _ _ _ _;rw [Nw.out,Ho,bP];simp only [wN vz,wN (bU vz BQ),wN (bU vz TZ),wN (bU vz T4)];exact hown2
          clear hown2 hg2 qi;go_wp2;go_roundg (s.size+1 - (p+1));case measure=>omega
          case rel=>exact⟨ln+1,p+1,p+1,p+1,o++dY ln tk bg fr p tB tE,by omega,rfl,by go_num,by go_num,by go_num,by go_num,CL.out.feed Mj xY.out,by omega,bK.out,aJ.out,wF.out⟩
        .have Iu:¬(p:Int)>(fr:Int):=by omega
         have bK:Hid (wq.ownsRow W1.heap.size 83 6 (.slice qa o.length qc) (o++dY ln tk bg fr p tB tE).length (jh (o++dY ln tk bg fr p tB tE))):=by
          show World.ownsRow _ _ _ _ _ _ _;rw [Xj pH,lu];exact hown
         have aJ:Hid _:=jq.out;have wF:Hid _:=HH.out;clear hown;go_wp2;go_roundg (s.size+1 - (p+1));case measure=>omega
         case rel=>exact⟨ln+1,p+1,p+1,p+1,o++dY ln tk bg fr p tB tE,by omega,rfl,by go_num,by go_num,by go_num,by go_num,CL.out.feed Mj xY.out,by omega,bK.out,aJ.out,wF.out⟩
       .have Co:((c.toNat:Int)==10)=false:=by rw [qw]at h10;simpa using h10
        have ao5:((c.toNat:Int) !=10)=true:=by rw [qw]at h10;simpa using h10
        have HO:=ah hown;have xY:=ah h10;clear qw h10 hown;go_wp2;go_roundg (s.size+1 - (p+1));case measure=>omega
        case rel=>exact⟨ln,bg,fr,p+1,o,by omega,rfl,rfl,rfl,rfl,by go_num,CL.out.step Mj xY.out,by omega,HO.out,jq.out,HH.out⟩
      .have NP:Hid (p=tT):=by show p=tT;omega
       have ahH:¬(p:Int)<(tT:Int):=by omega
       by_cases pH:fr<p
       .by_cases hk:tk=0
        .have Iu:(p:Int)>(fr:Int):=by omega
         have hk':¬(tk:Int)>0:=by omega
         have HK:=ah hk;clear hk;go_wp2_with(at_builtin;refine Cu _ rfl _ _ 80 rfl W1.heap.size 83 iT _ 6 48 underlying80 sA sF sG sH rfl (by decide) (by decide) _ _ _ rfl (nM hown _) [_,_,_,_,_,_] _ _ rfl (by simp) rfl (by simp [Value.oneCell']) (by omega) (by simp;omega) ?_);intro v2 w2 hown2 hg2;have qi:=M4 hown HH.out (by decide) hg2;have aJ:Hid (Below W1.heap.size W1 w2):=(jq.out.alloc hbz _).grown hg2 (by simp;omega) (fun y hy=>(hown.lt y hy).1);have d2:=cell_of qi 2;simp only [wR,wP,wQ]at d2;have wF:=ah qi;have bK:Hid (w2.ownsRow W1.heap.size 83 6 v2 (o++dY ln tk bg fr p tB tE).length (jh (o++dY ln tk bg fr p tB tE))):=by
          show World.ownsRow _ _ _ _ _ _ _;rw [Xh pH HK.out,Ho,bP];simp only [wN vz,wN (bU vz BQ),Int.ofNat_zero];exact hown2
         clear hown2 hg2 qi;go_wp2;go_roundg (s.size+1 - (p+1));case measure=>omega
         case rel=>exact⟨ln,bg,fr,p+1,o++dY ln tk bg fr p tB tE,by omega,rfl,rfl,rfl,rfl,by go_num,CL.out.stop NP.out,by omega,bK.out,aJ.out,wF.out⟩
        .have Iu:(p:Int)>(fr:Int):=by omega
         have hk':(tk:Int)>0:=by omega
         have Oj:Hid _:=Nb tB fr p;have Ol:Hid _:=Nb tE fr p;have hwb:=Na (p:=tB) BQ;have I8:=Na (p:=tE) BQ;have F4:=Xl (ln:=ln) (bg:=bg) (B:=tB) (E:=tE) pH hk;generalize wi tB fr p=wb at*;generalize wi tE fr p=we at*;obtain⟨TZ,wb2⟩:=hwb;obtain⟨T4,we2⟩:=I8;have Nw:Hid _:=F4;clear F4;go_wp2_with fail;refine(Oj.out _).mono ?_;rintro ev wx ⟨rfl,rfl⟩;go_wp2_with fail;refine(Ol.out _).mono ?_;rintro ev wx ⟨rfl,rfl⟩;go_wp2_with(at_builtin;refine Cu _ rfl _ _ 80 rfl W1.heap.size 83 iT _ 6 48 underlying80 sA sF sG sH rfl (by decide) (by decide) _ _ _ rfl (nM hown _) [_,_,_,_,_,_] _ _ rfl (by simp) rfl (by simp [Value.oneCell']) (by omega) (by simp;omega) ?_);intro v2 w2 hown2 hg2;have qi:=M4 hown HH.out (by decide) hg2;have aJ:Hid (Below W1.heap.size W1 w2):=(jq.out.alloc hbz _).grown hg2 (by simp;omega) (fun y hy=>(hown.lt y hy).1);have d2:=cell_of qi 2;simp only [wR,wP,wQ]at d2;have wF:=ah qi;have bK:Hid (w2.ownsRow W1.heap.size 83 6 v2 (o++dY ln tk bg fr p tB tE).length (jh (o++dY ln tk bg fr p tB tE))):=by
          show World.ownsRow _ _ _ _ _ _ _;rw [Nw.out,Ho,bP];simp only [wN vz,wN (bU vz BQ),wN (bU vz TZ),wN (bU vz T4)];exact hown2
         clear hown2 hg2 qi;go_wp2;go_roundg (s.size+1 - (p+1));case measure=>omega
         case rel=>exact⟨ln,bg,fr,p+1,o++dY ln tk bg fr p tB tE,by omega,rfl,rfl,rfl,rfl,by go_num,CL.out.stop NP.out,by omega,bK.out,aJ.out,wF.out⟩
       .have Iu:¬(p:Int)>(fr:Int):=by omega
        have bK:Hid (wq.ownsRow W1.heap.size 83 6 (.slice qa o.length qc) (o++dY ln tk bg fr p tB tE).length (jh (o++dY ln tk bg fr p tB tE))):=by
         show World.ownsRow _ _ _ _ _ _ _;rw [Xj pH,lu];exact hown
        have aJ:Hid _:=jq.out;have wF:Hid _:=HH.out;clear hown;go_wp2;go_roundg (s.size+1 - (p+1));case measure=>omega
        case rel=>exact⟨ln,bg,fr,p+1,o++dY ln tk bg fr p tB tE,by omega,rfl,rfl,rfl,rfl,by go_num,CL.out.stop NP.out,by omega,bK.out,aJ.out,wF.out⟩
     .have ahG:¬(p:Int)<=(tT:Int):=by omega
      have HO:=ah hown;have HD:=ah (hP.done ZC);clear hP hb hH hown c0 c1 c3 c4;go_wp2;go_roundg (n - (i+1));case measure=>omega
      case rel=>exact⟨i+1,ln,bg,o,by omega,rfl,by go_num,rfl,rfl,ahz,adW.out.mono hbT,by rw [<-adX.out];exact HD.out,HO.out,jq.out⟩
   .obtain rfl:i=n:=by omega
    have hin:¬(i:Int)<(i:Int):=by omega
    have ho:o=all:=by rw [<-hall,uU (by rw [HN.out];exact ay _),fQ,lu]
    subst ho;have HB:=ah hb;have HO:=ah hown;clear hown hb y7 hall Ka;go_wp2;go_ret;exact⟨_,rfl,Ch HO.out hz1,aG.out.trans (HB.out.mono hz1)⟩
