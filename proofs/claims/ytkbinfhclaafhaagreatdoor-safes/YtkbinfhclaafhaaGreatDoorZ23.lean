import Derived.Test.YtkbinfhclaafhaaGreatDoorZ22
import Derived.Test.YtkbinfhclaafhaaGreatDoorZ01
import Derived.ScopeJumps
import Derived.WalkMore
namespace Go.Proofs.YtkbinfhclaafhaaGreatDoor
open Go.RowKit
open Go.Proofs.Tryz
set_option maxRecDepth 100000
set_option maxHeartbeats 32000000
set_option linter.all false
theorem an0(s:ByteArray)(p:Nat)(w:World)(hz:s.size<=1000)(hp:p<s.size)(jT:bt s p=34):
  Calls prog 130 #[.string s,.int .i64 p] w fun e w'=>e= .returned (zq ⟨1,p,(qR s (p+1)).1+qT s (p+1),p+1,(qR s (p+1)).1⟩)/\Below w.heap.size w w':=by
 have aG:=KW s p (w.alloc (.cells #[.int .i64 0,.int .i64 0,.int .i64 0,.int .i64 0,.int .i64 0] 125)) hz (by omega);have aJ:=KV s p (w.alloc (.cells #[.int .i64 0,.int .i64 0,.int .i64 0,.int .i64 0,.int .i64 0] 125)) hz (by omega);obtain⟨c,hc⟩:∃c,s[p]'hp=c:=⟨_,rfl⟩
 have AQ:((c.toNat:Int)==34)=true:=by have:=jT;rw [nN hp,hc]at this;rw [this];rfl
 have hp':(p:Int)<(s.size:Int):=by omega
 rw [rB (by rw [jT];rintro⟨h,_⟩;exact absurd h (by decide))]at aG;rw [rB (by rw [jT];rintro⟨h,_⟩;exact absurd h (by decide))]at aJ;clear jT;obtain⟨Q,hQ⟩:∃Q,qR s (p+1)=Q:=⟨_,rfl⟩
 have hT:qT s (p+1)=if Q.2 then 1 else 0:=by unfold qT;rw [hQ]
 rw [hQ,hT];obtain⟨Tt,Db⟩:∃Tt,Q.1+(if Q.2=true then 1 else 0)=Tt:=⟨_,rfl⟩
 obtain⟨Ee,C5⟩:∃Ee,Q.1=Ee:=⟨_,rfl⟩
 rw [Db,C5];have HT:Hid (Q.1+(if Q.2=true then 1 else 0)=Tt/\Q.1=Ee):=⟨Db,C5⟩
 have HE:=ah hQ;clear hQ hT Db C5;unfold zq;go_enter func130,ntmps130;go_wp2_with fail;refine aG.mono ?_;rintro ev wx ⟨rfl,rfl⟩;clear aG;go_wp2_with fail;refine aJ.mono ?_;rintro ev wx ⟨rfl,rfl⟩;clear aJ;go_wp2;go_loopg [7] (s.size - (p+1)) (fun gh qv W=>∃q:Nat,qv= .int .i64 q/\gh=s.size - q/\p<=q/\q<=s.size/\qR s q=Q/\W=w.alloc (.cells #[.int .i64 0,.int .i64 0,.int .i64 0,.int .i64 0,.int .i64 0] 125));case atStart=>exact⟨p+1,by go_num,rfl,by omega,by omega,HE.out,rfl⟩
 case round=>
  obtain⟨q,rfl,rfl,h1,h2,h3,rfl⟩:=hrel;have H3:Hid (qR s q=Q/\p<=q/\q<=s.size):=⟨h3,h1,h2⟩
  clear h1 h3;by_cases hq:q<s.size
  .have hq':(q:Int)<(s.size:Int):=by omega
   obtain⟨d,hd⟩:∃d,s[q]'hq=d:=⟨_,rfl⟩
   have hb:bt s q=(d.toNat:Int):=by rw [nN hq,hd]
   have HD:=ah hb;clear hb;by_cases vF:(d.toNat:Int)=34
   .have HX:Hid (Tt=q+1/\Ee=q):=by
     have e:Q=(q,true):=by rw [<-H3.out.1,qR,aj ⟨hq,by rw [HD.out,vF];decide⟩,aj (by rw [HD.out];exact vF)]
     have h:=HT.out;rw [e]at h;exact⟨h.1.symm,h.2.symm⟩
    go_wp2;exact cG (v:= .agg #[.int .i64 1,.int .i64 p,.int .i64 ((q:Int)+1),.int .i64 ((p:Int)+1),.int .i64 q]) (by simp [results,results130,Tryz.isAgg125,Tryz.sizeOf125,go_sem]) rfl ⟨by rw [HX.out.1,HX.out.2]<;>rfl,(aA _ _).alloc (ay _) _⟩
   .have t34:((d.toNat:Int)==34)=false:=by simpa using vF
    by_cases k10:(d.toNat:Int)=10
    .have HX:Hid (Tt=q/\Ee=q):=by
      have e:Q=(q,false):=by rw [<-H3.out.1,qR,ai (by rintro⟨_,h⟩;exact h (by rw [HD.out];exact k10))]
      have h:=HT.out;rw [e]at h;exact⟨h.1.symm,h.2.symm⟩
     clear vF;go_wp2;exact cG (v:= .agg #[.int .i64 1,.int .i64 p,.int .i64 q,.int .i64 ((p:Int)+1),.int .i64 q]) (by simp [results,results130,Tryz.isAgg125,Tryz.sizeOf125,go_sem]) rfl ⟨by rw [HX.out.1,HX.out.2]<;>rfl,(aA _ _).alloc (ay _) _⟩
    .have t10:((d.toNat:Int)==10)=false:=by simpa using k10
     by_cases RD:(d.toNat:Int)=92
     .by_cases hq1:q+1<s.size
      .have ahJ:(q:Int)+1<(s.size:Int):=by omega
       obtain⟨e,he⟩:∃e,s[q+1]'hq1=e:=⟨_,rfl⟩
       have iW:Hid (bt s (q+1)=(e.toNat:Int)):=by show _=_;rw [nN hq1,he]
       by_cases m10:(e.toNat:Int)=10
       .have HX:Hid (qR s (q+1)=Q):=by
         show _=_;rw [<-H3.out.1]
         conv=>rhs;rw [qR,aj ⟨hq,by rw [HD.out];exact k10⟩,ai (by rw [HD.out];exact vF),ai (by rintro⟨_,h⟩;exact h (by rw [iW.out];exact m10))]
        clear vF k10;go_wp2;go_roundg (s.size - (q+1));case measure=>omega
        case rel=>exact⟨q+1,by go_num,rfl,by have:=H3.out.2.1;omega,by omega,HX.out,rfl⟩
       .have rN:((e.toNat:Int)==10)=false:=by simpa using m10
        have HX:Hid (qR s (q+2)=Q):=by
         show _=_;rw [<-H3.out.1]
         conv=>rhs;rw [qR,aj ⟨hq,by rw [HD.out];exact k10⟩,ai (by rw [HD.out];exact vF),aj ⟨by rw [HD.out];exact RD,by rw [iW.out];exact m10⟩]
        clear vF k10 m10;go_wp2;go_roundg (s.size - (q+2));case measure=>omega
        case rel=>exact⟨q+2,by go_num,rfl,by have:=H3.out.2.1;omega,by omega,HX.out,rfl⟩
      .have ahJ:¬(q:Int)+1<(s.size:Int):=by omega
       have HX:Hid (qR s (q+1)=Q):=by
        show _=_;rw [<-H3.out.1]
        conv=>rhs;rw [qR,aj ⟨hq,by rw [HD.out];exact k10⟩,ai (by rw [HD.out];exact vF),ai (by rintro⟨_,h⟩;exact h (yL hq1))]
       clear vF k10;go_wp2;go_roundg (s.size - (q+1));case measure=>omega
       case rel=>exact⟨q+1,by go_num,rfl,by have:=H3.out.2.1;omega,by omega,HX.out,rfl⟩
     .have t92:((d.toNat:Int)==92)=false:=by simpa using RD
      have HX:Hid (qR s (q+1)=Q):=by
       show _=_;rw [<-H3.out.1]
       conv=>rhs;rw [qR,aj ⟨hq,by rw [HD.out];exact k10⟩,ai (by rw [HD.out];exact vF),ai (by rintro⟨h,_⟩;exact RD (by rw [<-HD.out];exact h))]
      have n34:((d.toNat:Int) !=34)=true:=by simpa using vF
      have n10:((d.toNat:Int) !=10)=true:=by simpa using k10
      go_wp2;go_roundg (s.size - (q+1));case measure=>omega
      case rel=>exact⟨q+1,by go_num,rfl,by have:=H3.out.2.1;omega,by omega,HX.out,rfl⟩
  .have hq':¬(q:Int)<(s.size:Int):=by omega
   have HX:Hid (Tt=q/\Ee=q):=by
    have e:Q=(q,false):=by rw [<-H3.out.1,qR,ai (by rintro⟨h,_⟩;exact hq h)]
    have h:=HT.out;rw [e]at h;exact⟨h.1.symm,h.2.symm⟩
   clear hq;go_wp2;exact cG (v:= .agg #[.int .i64 1,.int .i64 p,.int .i64 q,.int .i64 ((p:Int)+1),.int .i64 q]) (by simp [results,results130,Tryz.isAgg125,Tryz.sizeOf125,go_sem]) rfl ⟨by rw [HX.out.1,HX.out.2]<;>rfl,(aA _ _).alloc (ay _) _⟩
theorem anW(s:ByteArray)(p:Nat)(w:World)(hz:s.size<=1000)(hp:p<s.size):Calls prog 130 #[.string s,.int .i64 p] w fun e w'=>e= .returned (zq (dc s p))/\Below w.heap.size w w':=by
 unfold dc;by_cases jT:bt s p=34
 .rw [aj jT];exact an0 s p w hz hp jT
 .rw [ai jT];by_cases hlc:bt s p=47/\bt s (p+1)=47
  .rw [aj hlc];exact anZ s p w hz hp hlc
  .rw [ai hlc];by_cases hbb:bt s p=47/\bt s (p+1)=42
   .rw [aj hbb];exact anX s p w hz hp hbb
   .rw [ai hbb];exact anY s p w hz hp jT hlc hbb
theorem T8 {s:ByteArray}{p:Nat}(hp:p<s.size):(dc s p).T<=s.size:=by
 unfold dc;split
 .exact MQ (by omega)
 .split
  .exact Jo (by omega)
  .split
   .rename_i h;have:=o9 (s:=s) (i:=p+1) (by rw [h.2];decide);exact V4 (by omega)
   .simp only;omega
theorem anV {s:ByteArray}{p:Nat}(hp:p<s.size):(dc s p).B<=s.size+2/\(dc s p).E<=s.size+2:=by
 have h:=T8 hp;unfold dc at h ⊢;split
 .rename_i h1;rw [aj h1]at h;simp only at h ⊢;omega
 .rename_i h1;rw [ai h1]at h;split
  .rename_i h2;rw [aj h2]at h;simp only at h ⊢;omega
  .rename_i h2;rw [ai h2]at h;split
   .rename_i h3;rw [aj h3]at h;simp only at h ⊢;omega
   .simp
def za(l:List Tk)(ts:List Tk):List Tk:=match l.getLast? with|some u=>l.dropLast++jR u ts|none=>ts
theorem aiz(ts:List Tk):za [] ts=ts:=rfl
theorem Fh(l:List Tk)(u:Tk)(ts:List Tk):za (l++[u]) ts=l++jR u ts:=by simp [za]
theorem WQ {u:Tk}(h:u.k≠0)(ts:List Tk):jR u ts=u::ts:=ai h
theorem aiy(l:List Tk):za l []=l:=by
 rcases wO l with rfl|⟨l',u,rfl⟩
 .rfl
 .rw [zW,Fh];unfold jR;split<;>rfl
theorem RB(l:List Tk)(t:Tk)(ts:List Tk)(h:∀l' u,l=l'++[u]->u.k≠0∨t.k≠0):za l (jR t ts)=za (l++[t]) ts:=by
 rcases wO l with rfl|⟨l',u,rfl⟩
 .rw [aiz,Fh];rfl
 .rw [zW]at h ⊢;rw [Fh,Fh];rcases h l' u rfl with hu|ht
  .rw [WQ hu,eV];rfl
  .rw [WQ ht,eV];unfold jR;by_cases hu:u.k=0
   .rw [aj hu];simp only;rw [ai ht];rfl
   .rw [ai hu];rfl
theorem aiA(l:List Tk)(u t:Tk)(ts:List Tk)(hu:u.k=0)(ht:t.k=0)(hB:u.B=0)(hE:u.E=0):za (l++[u]) (jR t ts)=za (l++[⟨u.k,u.F,t.T,u.B,u.E⟩]) ts:=by
 rw [Fh,Fh]
 congr 1
 unfold jR;rw [aj hu,aj ht];simp only [hu,hB,hE];cases ts with
 |nil=>simp [ht]
 |cons v vs=>
  by_cases hv:v.k=0
  .simp [hv]
  .simp [hv,ht]
def TC(s:ByteArray):Nat->List Tk->Prop
 |_,[]=>True
 |p,t::ts=>p<=t.F/\t.F<t.T/\t.T<=s.size/\t.B<=s.size+2/\t.E<=s.size+2/\TC s t.T ts
theorem TC.mono {s:ByteArray}{p q:Nat}{l:List Tk}(h:TC s p l)(hq:q<=p):TC s q l:=by
 cases l with
 |nil=>trivial
 |cons t ts=>exact⟨bU hq h.1,h.2⟩
theorem TC.cons {s:ByteArray}{p:Nat}{t:Tk}{ts:List Tk}(h:TC s t.T ts)(h1:p<=t.F)(h2:t.F<t.T)(h3:t.T<=s.size)(h4:t.B<=s.size+2)(h5:t.E<=s.size+2):TC s p (jR t ts):=by
 unfold jR;split
 .cases ts with
  |nil=>exact⟨h1,h2,h3,h4,h5,trivial⟩
  |cons u us=>
   obtain⟨k1,k2,k3,k4,k5,k6⟩:=h;simp only;split
   .exact⟨h1,by simp only;omega,k3,by simp,by simp,k6⟩
   .exact⟨h1,h2,h3,h4,h5,k1,k2,k3,k4,k5,k6⟩
 .exact⟨h1,h2,h3,h4,h5,h⟩
theorem VQ(s:ByteArray)(p:Nat):TC s p (dD s p):=by
 rw [dD];split
 .rename_i h;have h0:=VQ s (dc s p).T;have hF:=T5 s p;have vp:=anV h;exact TC.cons h0 (by omega) (by have:=zw s p;omega) (T8 h) vp.1 vp.2
 .trivial
termination_by s.size - p
decreasing_by have:=zw s p;omega
theorem TC.len {s:ByteArray}:∀{l:List Tk}{p:Nat},TC s p l->l.length<=s.size - p
 |[],_,_=>by simp
 |t::ts,p,h=>by
  obtain⟨h1,h2,h3,h4,h5,h6⟩:=h;have:=TC.len h6;simp only [eW];omega
def kG(l:List Tk):List Value:=l.flatMap fun t=>[.int .i64 t.k,.int .i64 t.F,.int .i64 t.T,.int .i64 t.B,.int .i64 t.E]
theorem J7(l:List Tk)(t:Tk):kG (l++[t])=kG l++[.int .i64 t.k,.int .i64 t.F,.int .i64 t.T,.int .i64 t.B,.int .i64 t.E]:=by simp [kG]
theorem acM(l:List Tk):(kG l).length=l.length*5:=by
 induction l with
 |nil=>rfl
 |cons t l ih=>simp [kG,List.length_flatMap]at ih ⊢;omega
theorem TE:∀(l:List Tk)(i:Nat)(hi:i<l.length),(kG l)[i*5]? =some (.int .i64 l[i].k)/\(kG l)[i*5+1]? =some (.int .i64 l[i].F)/\(kG l)[i*5+2]? =some (.int .i64 l[i].T)/\(kG l)[i*5+3]? =some (.int .i64 l[i].B)/\(kG l)[i*5+4]? =some (.int .i64 l[i].E):=by
 intro l
 induction l with
 |nil=>intro i hi;simp at hi
 |cons a l ih=>
  intro i hi;have e:kG (a::l)=[.int .i64 a.k,.int .i64 a.F,.int .i64 a.T,.int .i64 a.B,.int .i64 a.E]++kG l:=by simp [kG]
  cases i with
  |zero=>rw [e];simp
  |succ i=>
   have:=ih i (by simpa using hi);rw [e,show(i+1)*5=i*5+5 by omega];simpa using this
theorem ank(l:List Tk)(u:Tk)(T:Nat):(kG (l++[u])).set (l.length*5+2) (.int .i64 T)=kG (l++[⟨u.k,u.F,T,u.B,u.E⟩]):=by
 rw [J7,J7,uX (h:=by rw [acM];omega),acM];simp [show l.length*5+2 - l.length*5=2 by omega]
def jh(l:List PR):List Value:=l.flatMap fun t=>[.int .i64 t.line,.int .i64 t.kind,.int .i64 t.from_,.int .i64 t.dU,.int .i64 t.body,.int .i64 t.end_]
theorem afr(w:World)(c:Array Value)(t:TypeId)(j:Nat):(w.alloc (.cells c t)).cell? ⟨w.heap.size,j,none⟩=c[j]? :=by
 have h:(w.alloc (.cells c t)).heap[w.heap.size]? =some (.cells c t (0,0)):=World.alloc_heap_new w _;unfold World.cell?;simp only [h];rfl
theorem Cu {P:Program}(w:World){ops:Array Oper}{rest:List Oper}{o:Oper}{a:Act}{Q:Exit->Act->World->Prop}(hgd:o.guard=none)(s x:Operand)(t:TypeId)
  (ho:o.op= .call {callee:= .builtin .append,args:=#[s,x],argTypes:=#[t,t]})
  (base:Nat) (e:TypeId) (i:TypeInfo) (z:Value) (size bytes:Nat) (ht:P.underlying t=some (.slice e)) (hi:P.info? e=some i) (hz:i.zero=some z)
  (hsize:i.size=size) (hby:i.bytes=bytes) (hzs:z.cells.size=size) (hsz:0<size) (oJ:bytes<=64)
  (v:Value) (n:Nat) (xs:List Value) (hs:a.eval s=v) (hown:w.ownsRow base e size v n xs)
  (ys:List Value) (e':TypeId) (k:Nat) (hx:a.eval x= .slice (some ⟨k,0,none⟩) 1 1) (hk:k=w.heap.size) (hl:ys.length=size) (h1:∀u∈ys,u.oneCell'=true) (hn:n<=1000000) (hbase:base<=w.heap.size)
  (h:∀v' w',w'.ownsRow base e size v' (n+1) (xs++ys)->w.grownBy w' v.ownBlock->wpList P ops Q rest (a.put o.dst v') w'):wpList P ops Q (o::rest) a (w.alloc (.cells ys.toArray e')):=by
 subst hk;refine FO _ hgd s x t ho base e i z size bytes ht hi hz hsize hby hzs hsz v n xs hs (hown.alloc _) ⟨w.heap.size,0,none⟩ 1 1 ys hx (by omega) ?_ h1 ?_ ?_ ?_ ?_
 .intro j u hj;have e:(⟨w.heap.size,0,none⟩:Addr).add j=⟨w.heap.size,j,none⟩:=by
   by_cases h0:j=0
   .subst h0;rfl
   .simp [Addr.add,h0]
  rw [e,afr];simpa using hj
 .unfold maxLen;omega
 .have:(n+1)*bytes<=1000001*64:=zZ (by omega) oJ;omega
 .simp;omega
 .intro v' w' h2 h3 _;refine h v' w' h2 ⟨h3.os,h3.tape,h3.output,?_,fun k hk hne=> ?_⟩
  .have:=h3.size;simp at this;omega
  .rw [h3.block k (by simp;omega) hne];exact dM w _ k hk
theorem anj {s:ByteArray}{p:Nat}(h:p<s.size):dD s p=jR (dc s p) (dD s (dc s p).T):=by rw [dD,aj h]
theorem kE {w:World}{B:Nat}{e:TypeId}{z n:Nat}{v:Value}{xs:List Value}(h:w.ownsRow B e z v n xs):∃a cap,v= .slice a n cap:=by
 rcases h.2 with⟨rfl,rfl⟩|⟨g,cap,cur,rfl,_⟩
 .exact⟨none,0,rfl⟩
 .exact⟨_,cap,rfl⟩
theorem sL {w:World}{B:Nat}{e:TypeId}{z n:Nat}{v:Value}{xs:List Value}(h:w.ownsRow B e z v n xs)(hn:0<n):∃g cap,v= .slice (some ⟨g,0,none⟩) n cap/\n<=cap/\B<=g/\g<w.heap.size:=by
 have hlt:=h.lt;rcases h.2 with⟨_,h0⟩|⟨g,cap,cur,rfl,hb,hh,hc,_⟩
 .omega
 .exact⟨g,cap,rfl,hc,hb,(hlt g rfl).2⟩
theorem vJ {w w':World}{B:Nat}{e:TypeId}{z n:Nat}{v:Value}{xs:List Value}(h:w.ownsRow B e z v n xs)(hb:Below w.heap.size w w'):w'.ownsRow B e z v n xs:=
 nC h fun _ _ _ ho=>cB hb ho
theorem TB {W w2:World}{B:Nat}{e:TypeId}{z n:Nat}{v:Value}{xs:List Value}{c:Array Value}{T:TypeId}(ho:W.ownsRow B e z v n xs)(hg:(W.alloc (.cells c T)).grownBy w2 v.ownBlock):w2.heap[W.heap.size]? =some (.cells c T (0,0)):=by
 rw [hg.block W.heap.size (by simp) (fun h=>by have:=(ho.lt _ h.symm).2;omega)];exact World.alloc_heap_new W _
theorem cell_of {w:World}{b:Nat}{c:Array Value}{t:TypeId}{f:Nat×Nat}(h:w.heap[b]? =some (.cells c t f))(j:Nat):w.cell? ⟨b,j,none⟩=c[j]? :=by
 unfold World.cell?;simp only [h];rfl
theorem anl {w:World}{B g cap n:Nat}{l:List Tk}{u:Tk}{e:TypeId}(h:w.ownsRow B e 5 (.slice (some ⟨g,0,none⟩) n cap) n (kG (l++[u])))(hn:n=l.length+1):w.cell? ⟨g,l.length*5,none⟩=some (.int .i64 u.k):=by
 have:=(TE (l++[u]) l.length (by simp)).1;rw [dg h (l.length*5) (by omega),this];simp
theorem anm {w:World}{B g cap n:Nat}{l:List Tk}{u:Tk}{e:TypeId}(h:w.ownsRow B e 5 (.slice (some ⟨g,0,none⟩) n cap) n (kG (l++[u])))(hn:n=l.length+1):w.cell? ⟨g,l.length*5+2,none⟩=some (.int .i64 u.T):=by
 have:=(TE (l++[u]) l.length (by simp)).2.2.1;rw [dg h (l.length*5+2) (by omega),this];simp
theorem Tryz.aii:(prog.info? 125).map (fun i=>(i.zero,i.size,i.bytes))=some (some (.agg #[.int .i64 0,.int .i64 0,.int .i64 0,.int .i64 0,.int .i64 0]),5,40):=by kernel_rfl
theorem ani(s:ByteArray)(w:World)(hz:s.size<=1000):Calls prog 75 #[.string s] w fun e w'=>∃v,e= .returned v/\w'.ownsRow w.heap.size 125 5 v (dD s 0).length (kG (dD s 0))/\Below w.heap.size w w':=by
 obtain⟨iT,sA,xB⟩:∃i,prog.info? 125=some i/\(i.zero,i.size,i.bytes)=(some (.agg #[.int .i64 0,.int .i64 0,.int .i64 0,.int .i64 0,.int .i64 0]),5,40):=by simpa using Tryz.aii
 simp only [GR]at xB;obtain⟨sF,sG,sH⟩:=xB;obtain⟨R,hR⟩:∃R,R=dD s 0:=⟨_,rfl⟩
 rw [<-hR];have HR:=ah hR;clear hR;go_enter func75,ntmps75;go_wp2;go_loopg [3,4,5,6] s.size (fun gk lv pv _ _ W=>∃(l:List Tk)(p:Nat),p<=s.size/\gk=s.size - p/\l.length<=p/\pv= .int .i64 p/\za l (dD s p)=R/\(∀l' u,l=l'++[u]->u.k=0->u.B=0/\u.E=0)/\W.ownsRow w.heap.size 125 5 lv l.length (kG l)/\Below w.heap.size w W);case atStart=>exact⟨[],0,by omega,rfl,by simp,rfl,HR.out.symm,fun l' u h=>by simp at h,jw _ _ _ _,aA _ _⟩
 case round=>
  obtain⟨l,p,hp,rfl,hlp,rfl,hj,vp,hown,hb⟩:=hrel;by_cases hlt:p<s.size
  .have hpi:(p:Int)<(s.size:Int):=by omega
   have HB:=ah hb;have HJ:Hid (za l (jR (dc s p) (dD s (dc s p).T))=R):=by show _=_;rw [<-hj,anj hlt]
   have FV:=ah vp;have HW:=anW s p wr hz hlt;have KC:Hid (p<(dc s p).T/\(dc s p).T<=s.size):=⟨zw s p,T8 hlt⟩
   have Gv:Hid ((dc s p).k=0->(dc s p).B=0/\(dc s p).E=0):=fun h=>by rw [T6 s p h];exact⟨rfl,rfl⟩
   clear hj vp hb;obtain⟨⟨tk,tF,tT,tB,tE⟩,ht⟩:∃t,dc s p=t:=⟨_,rfl⟩
   rw [ht]at HW HJ KC Gv;clear ht;unfold zq at HW;simp only at HW HJ KC Gv;obtain⟨EP,oH⟩:=KC.out;clear KC;obtain⟨qa,qc,rfl⟩:=kE hown;go_wp2_with fail;refine HW.mono ?_;clear HW;rintro ev W ⟨rfl,hbW⟩;have hown1:=vJ hown hbW;have aG:=ah (HB.out.trans (hbW.mono HB.out.size));have hbz:=aG.out.size;have HO:=ah hown1;clear hown hbW HB hown1;by_cases hk:tk=0
   .subst hk;rcases wO l with rfl|⟨l',u,rfl⟩
    .have hown1:=HO.out;clear HO;simp only [kq]at hown1 hlp ⊢;go_wp2_with(at_builtin;refine Cu _ rfl _ _ 123 rfl w.heap.size 125 iT _ 5 40 underlying123 sA sF sG sH rfl (by decide) (by decide) _ _ _ rfl (nM hown1 _) [_,_,_,_,_] _ _ rfl (by simp) rfl (by simp [Value.oneCell']) (by omega) (by simp;omega) ?_);intro v2 w2 hown2 hg2;have hk2:=TB hown1 hg2;have y7:=cell_of hk2 2;simp only [wR,wP,wQ]at y7;have aJ:Hid (Below w.heap.size w w2):=(aG.out.alloc hbz _).grown hg2 (by simp;omega) (fun y hy=>(hown1.lt y hy).1);have bK:Hid (w2.ownsRow w.heap.size 125 5 v2 (0+1) (kG (([]:List Tk)++[⟨0,tF,tT,tB,tE⟩]))):=by
      show World.ownsRow _ _ _ _ _ _ _;rw [J7];exact hown2
     clear hown1 hown2 hg2 hk2;go_wp2;go_roundg (s.size - tT);case measure=>omega
     case rel=>
      refine⟨([]:List Tk)++[⟨0,tF,tT,tB,tE⟩],tT,oH,rfl,by simp;omega,rfl,?_,?_,by exact bK.out,aJ.out⟩
      .rw [<-HJ.out];exact(RB ([]:List Tk) ⟨0,tF,tT,tB,tE⟩ (dD s tT) (fun l1 u1 h1=>by simp at h1)).symm
      .intro l'' u' he hu;have Df:u'=⟨0,tF,tT,tB,tE⟩:=by have:=congrArg List.getLast? he;simp at this;exact this.symm
       subst Df;exact Gv.out (by first|exact hu|trivial)
    .rw [zW]at*;obtain⟨m,hm⟩:∃m,m=l'.length:=⟨_,rfl⟩
     have hlen:(l'++[u]).length=m+1:=by simp [hm]
     rw [hlen]at HO hlp ⊢;have hown1:=HO.out;obtain⟨g,gc,hge,jV,hgB,gV⟩:=sL hown1 (by omega);simp only [uY,vN]at hge;obtain⟨rfl,rfl⟩:=hge;have HM:=ah hm;have hcl:=anl hown1 (by omega);rw [<-hm]at hcl;clear hm HO;obtain⟨uk,uF,uT,uB,uE⟩:=u;simp only at hcl;by_cases hu:uk=0
     .subst hu;have hfz:=Bu hown1 (m*5+2);have YZ:=anm hown1 (by rw [HM.out]);rw [<-HM.out]at YZ;simp only at YZ;have hgn:¬g=W.heap.size:=by omega
      have aoq:¬W.heap.size=g:=by omega
      have hst:=z7 hown1 (m*5+2) (.int .i64 tT);have HS:=ah hst;clear hst hown1;go_wp2;go_roundg (s.size - tT);case measure=>omega
      case rel=>
       obtain⟨b1,b2⟩:=FV.out l' ⟨0,uF,uT,uB,uE⟩ rfl rfl;refine⟨l'++[(⟨0,uF,tT,uB,uE⟩:Tk)],tT,oH,rfl,by simp [<-HM.out];omega,rfl,?_,?_,?_,?_⟩
       .rw [<-HJ.out];exact(aiA l' ⟨0,uF,uT,uB,uE⟩ ⟨0,tF,tT,tB,tE⟩ (dD s tT) rfl rfl b1 b2).symm
       .intro l'' u' he hu;have Df:u'=⟨0,uF,tT,uB,uE⟩:=by have:=congrArg List.getLast? he;simp at this;exact this.symm
        subst Df;exact⟨b1,b2⟩
       .rw [show(l'++[(⟨0,uF,tT,uB,uE⟩:Tk)]).length=m+1 by simp [HM.out]];have:=HS.out.1;rw [show m*5+2=l'.length*5+2 by rw [<-HM.out],ank]at this;rw [<-HM.out]at this;exact nM this _
       .exact(aG.out.grown HS.out.2 hbz (fun y hy=>by obtain rfl:=aK hy;exact hgB)).alloc (by simpa using hbz) _
     .have hu':((uk:Int)==0)=false:=by simpa using hu
      have HNu:=ah hu;clear hu;go_wp2_with(at_builtin;refine Cu _ rfl _ _ 123 rfl w.heap.size 125 iT _ 5 40 underlying123 sA sF sG sH rfl (by decide) (by decide) _ _ _ rfl (nM hown1 _) [_,_,_,_,_] _ _ rfl (by simp) rfl (by simp [Value.oneCell']) (by omega) (by simp;omega) ?_);intro v2 w2 hown2 hg2;have hk2:=TB hown1 hg2;have y7:=cell_of hk2 2;simp only [wR,wP,wQ]at y7;have aJ:Hid (Below w.heap.size w w2):=(aG.out.alloc hbz _).grown hg2 (by simp;omega) (fun y hy=>(hown1.lt y hy).1);have bK:Hid (w2.ownsRow w.heap.size 125 5 v2 ((m+1)+1) (kG ((l'++[⟨uk,uF,uT,uB,uE⟩])++[⟨0,tF,tT,tB,tE⟩]))):=by
       show World.ownsRow _ _ _ _ _ _ _;rw [J7];exact hown2
      clear hown1 hown2 hg2 hk2;go_wp2;go_roundg (s.size - tT);case measure=>omega
      case rel=>
       refine⟨(l'++[⟨uk,uF,uT,uB,uE⟩])++[⟨0,tF,tT,tB,tE⟩],tT,oH,rfl,by simp [<-HM.out];omega,rfl,?_,?_,by rw [show(l'++[(⟨uk,uF,uT,uB,uE⟩:Tk)]++[(⟨0,tF,tT,tB,tE⟩:Tk)]).length=m+1+1 by simp [HM.out]];exact bK.out,aJ.out⟩
       .rw [<-HJ.out];exact(RB (l'++[⟨uk,uF,uT,uB,uE⟩]) ⟨0,tF,tT,tB,tE⟩ (dD s tT) (fun l1 u1 h1=> .inl (by have:=congrArg List.getLast? h1;simp at this;subst this;exact HNu.out))).symm
       .intro l'' u' he hu;have Df:u'=⟨0,tF,tT,tB,tE⟩:=by have:=congrArg List.getLast? he;simp at this;exact this.symm
        subst Df;exact Gv.out (by first|exact hu|trivial)
   .have hk':((tk:Int)==0)=false:=by simpa using hk
    have hown1:=HO.out;have HNk:=ah hk;clear hk HO;go_wp2_with(at_builtin;refine Cu _ rfl _ _ 123 rfl w.heap.size 125 iT _ 5 40 underlying123 sA sF sG sH rfl (by decide) (by decide) _ _ _ rfl (nM hown1 _) [_,_,_,_,_] _ _ rfl (by simp) rfl (by simp [Value.oneCell']) (by omega) (by simp;omega) ?_);intro v2 w2 hown2 hg2;have hk2:=TB hown1 hg2;have y7:=cell_of hk2 2;simp only [wR,wP,wQ]at y7;have aJ:Hid (Below w.heap.size w w2):=(aG.out.alloc hbz _).grown hg2 (by simp;omega) (fun y hy=>(hown1.lt y hy).1);have bK:Hid (w2.ownsRow w.heap.size 125 5 v2 (l.length+1) (kG (l++[⟨tk,tF,tT,tB,tE⟩]))):=by
     show World.ownsRow _ _ _ _ _ _ _;rw [J7];exact hown2
    clear hown1 hown2 hg2 hk2;go_wp2;go_roundg (s.size - tT);case measure=>omega
    case rel=>
     refine⟨l++[⟨tk,tF,tT,tB,tE⟩],tT,oH,rfl,by simp;omega,rfl,?_,?_,by simpa using bK.out,aJ.out⟩
     .rw [<-HJ.out];exact(RB l ⟨tk,tF,tT,tB,tE⟩ (dD s tT) (fun _ _ _=> .inr HNk.out)).symm
     .intro l'' u' he hu;have Df:u'=⟨tk,tF,tT,tB,tE⟩:=by have:=congrArg List.getLast? he;simp at this;exact this.symm
      subst Df;exact Gv.out (by first|exact hu|trivial)
  .obtain rfl:p=s.size:=by omega
   have hpi:¬(s.size:Int)<(s.size:Int):=by omega
   have QL:l=R:=by rw [<-hj,FL hlt,aiy]
   subst QL;have HO:=ah hown;have HB:=ah hb;obtain⟨qa,qc,rfl⟩:=kE hown;clear hown hb hj vp HR;go_wp2;go_ret;exact⟨_,rfl,HO.out,HB.out⟩
def jumps(K:Nat->Act->World->Prop)(Q:Exit->Act->World->Prop):Exit->Act->World->Prop
 | .goto l,a,w=>K l a w
 |e,a,w=>Q e a w
section
variable{P:Program}{a:Act}{w:World}{Q:Exit->Act->World->Prop}{K:Nat->Act->World->Prop}
@[go_sem] theorem ao0:jumps K Q .normal a w=Q .normal a w:=rfl
@[go_sem] theorem aoY (id:Nat):jumps K Q (.exit id) a w=Q (.exit id) a w:=rfl
@[go_sem] theorem ao2:jumps K Q .ret a w=Q .ret a w:=rfl
@[go_sem] theorem ao1 (ch:List PanicEntry):jumps K Q (.panic ch) a w=Q (.panic ch) a w:=rfl
@[go_sem] theorem aoZ (l:Nat):jumps K Q (.goto l) a w=K l a w:=rfl
theorem an3 {r X:Code}(l0:Nat)(J:Nat->Nat->Act->World->Prop)
  (first:r.wp P (Exit.then (fun a w=>∃n,J l0 n a w) (fun _ _ _=>False)) a w)
  (hf0:findLabel (.seq r (.seq (.label l0) X)) l0=some (.seq .skip X))
  (pass:∀l n a w,J l n a w->∃X',findLabel (.seq r (.seq (.label l0) X)) l=some (.seq .skip X')/\X'.wp P (jumps (fun l' a' w'=>∃m,m<n/\J l' m a' w') Q) a w):
  (Code.scope (.seq r (.seq (.label l0) X))).wp P Q a w:=by
 have key:∀n l a w,J l n a w->∀b k cs,∃e a' w',Q e a' w'/\∃rest,findLabel (.seq r (.seq (.label l0) X)) l=some rest/\Arrives P (lone (b.at a (.code rest:: .inScope (.seq r (.seq (.label l0) X))::k)) cs w) b k cs e a' w':=by
  intro n
  induction n using Nat.strongRecOn with
  |_ n ih=>
   intro l a w hJ b k cs;obtain⟨X',hf,hX⟩:=pass l n a w hJ;have nj:(Code.seq .skip X').wp P (jumps (fun l' a' w'=>∃m,m<n/\J l' m a' w') Q) a w:=wp_seq (wp_skip hX);obtain⟨e,a₁,w₁,hq,harr⟩:=nj b (.inScope (.seq r (.seq (.label l0) X))::k) cs;cases e with
   |normal=>exact⟨.normal,a₁,w₁,hq,_,hf,Steps.trans harr (.one step_inScope)⟩
   |exit id=>exact⟨.exit id,a₁,w₁,hq,_,hf,fun k' hk=>harr k' (by simp [exitTo,hk])⟩
   |goto l'=>
    obtain⟨m,hm,Hy⟩:=hq;obtain⟨e₂,a₂,w₂,hq₂,rest,hf2,harr₂⟩:=ih m hm l' a₁ w₁ Hy b k cs;exact⟨e₂,a₂,w₂,hq₂,_,hf,.of_steps (harr _ (by simp [gotoIn,hf2])) harr₂⟩
   |ret=>exact⟨_,a₁,w₁,hq,_,hf,harr⟩
   |panic ch=>exact⟨_,a₁,w₁,hq,_,hf,harr⟩
   |outgrown=>exact⟨_,a₁,w₁,hq,_,hf,harr⟩
 have first':(Code.seq r (.seq (.label l0) X)).wp P (jumps (fun l' a' w'=>∃m,J l' m a' w') Q) a w:=by
  refine wp_seq (wp_mono first ?_);intro e a' w' h;cases e with
  |normal=>
   obtain⟨n,hJ⟩:=h;obtain⟨X',hf,hX⟩:=pass l0 n a' w' hJ;rw [hf0]at hf;injection hf with hf
   injection hf with _ hf
   subst hf;refine wp_seq (wp_label ?_);refine wp_mono hX ?_;intro e a'' w'' h';cases e with
   |goto l'=>obtain⟨m,_,Hy⟩:=h';exact⟨m,Hy⟩
   |_=>exact h'
  |_=>exact h.elim
 intro b k cs;obtain⟨e,a₁,w₁,hq,harr⟩:=first' b (.inScope (.seq r (.seq (.label l0) X))::k) cs;cases e with
 |normal=>exact⟨.normal,a₁,w₁,hq,.head J1 (Steps.trans harr (.one step_inScope))⟩
 |exit id=>exact⟨.exit id,a₁,w₁,hq,fun k' hk=> .head J1 (harr k' (by simp [exitTo,hk]))⟩
 |goto l'=>
  obtain⟨m,Hy⟩:=hq;obtain⟨e₂,a₂,w₂,hq₂,rest,hf2,harr₂⟩:=key m l' a₁ w₁ Hy b k cs;exact⟨e₂,a₂,w₂,hq₂,.of_steps (.head J1 (harr _ (by simp [gotoIn,hf2]))) harr₂⟩
 |ret=>exact⟨_,a₁,w₁,hq,.of_steps (.one J1) harr⟩
 |panic ch=>exact⟨_,a₁,w₁,hq,.of_steps (.one J1) harr⟩
 |outgrown=>exact⟨_,a₁,w₁,hq,.of_steps (.one J1) harr⟩
end
noncomputable def abV:Code:=match Tryz.f107.body with
 |some (.scope c)=>c
 |_=> .skip
noncomputable def Fz(l:Nat):Code:=match findLabel abV l with
 |some (.seq _ X)=>X
 |_=> .skip
def AtR(rb:Nat)(a:Act):Prop:=∃u0 u1 u2 u3 u5 u6 u7 u8 u9 rN sP sQ sS sU sV u16 sW sX sY sZ s8 s9 u23 u24 tj u26 tq u28 tu tA tC u32 u33 tD tG tH tI tJ tK tM tN tP tQ u44 tR tS tU tV tW tX tY tZ ua ue uf ug uh uj um uo uq ur uu u64 uv uw uz uA uC uD uG uH uI vO vP vQ vR vS vT vU vV vW vX vY vZ wh:Value,a={tmps:=#[u0,u1,u2,u3,.pointer (some ⟨rb,0,none⟩),u5,u6,u7,u8,u9,rN,sP,sQ,sS,sU,sV,u16,sW,sX,sY,sZ,s8,s9,u23,u24,tj,u26,tq,u28,tu,tA,tC,u32,u33,tD,tG,tH,tI,tJ,tK,tM,tN,tP,tQ,u44,tR,tS,tU,tV,tW,tX,tY,tZ,ua,ue,uf,ug,uh,uj,um,uo,uq,ur,uu,u64,uv,uw,uz,uA,uC,uD,uG,uH,uI,vO,vP,vQ,vR,vS,vT,vU,vV,vW,vX,vY,vZ,wh],defers:=[]}
structure nL(w:World):Prop where
 lc:∃t f,w.heap[(7:Nat)]? =some (.cells #[.int .u8 47,.int .u8 47] t f)
 bb:∃t f,w.heap[(8:Nat)]? =some (.cells #[.int .u8 47,.int .u8 42] t f)
 be:∃t f,w.heap[(9:Nat)]? =some (.cells #[.int .u8 42,.int .u8 47] t f)
theorem nL.below {w w':World}{n:Nat}(h:nL w)(hn:10<=n)(hb:Below n w w'):nL w':=
 ⟨h.lc.imp fun _ h=>h.imp fun _ h=>(hb.block _ (by omega)).trans h,h.bb.imp fun _ h=>h.imp fun _ h=>(hb.block _ (by omega)).trans h,h.be.imp fun _ h=>h.imp fun _ h=>(hb.block _ (by omega)).trans h⟩
theorem nL.sz {w:World}(h:nL w):10<=w.heap.size∨w.heap.size<=9+1/\9<w.heap.size:=by
 obtain⟨_,_,h1⟩:=h.be;have:=eO h1;omega
structure RC where
 w0:World
 rb:Nat
 s:ByteArray
 l:Nat
 n₀:Nat
 J:List PR->World->Prop
 Jx:List PR->World->Prop
 X:List PR
structure mW(C:RC):Prop where
 T:Tl C.l C.n₀ C.J C.Jx C.X
 hn:C.n₀<=C.rb
 h20:10<=C.n₀
 hz:C.s.size<=1000
 env:nL C.w0
structure RW(C:RC)(w:World)(p:RP)(st:Bool)(pre:List PR):Prop where
 rs:Rs w C.rb C.s C.l C.J C.Jx C.X p st pre
 ok:p6 C.s p
 be:Below C.n₀ C.w0 w
def LJ(C:RC)(lab n:Nat)(a:Act)(w:World):Prop:=AtR C.rb a/\∃p st pre,RW C w p st pre/\
 ((lab=3/\(st=false->C.X=pre++bY C.s false p)/\n=if st then 0 else 2*(C.s.size - p.at_)+3)∨
  (st=false/\C.X=pre++bY C.s false p/\p.at_<C.s.size/\n=2*(C.s.size - p.at_)+2/\
  ((lab=0/\bt C.s p.at_=34)∨(lab=1/\bt C.s p.at_=47/\bt C.s (p.at_+1)=47)∨(lab=2/\bt C.s p.at_=47/\bt C.s (p.at_+1)=42))))
def RE(C:RC):Ending->World->Prop:=fun e w'=>(∃v,e= .returned v)/\Below C.n₀ C.w0 w'/\(C.J C.X w'∨∃pre,pre<+:C.X/\C.Jx pre w')
theorem RW.drewN {C:RC}{w:World}{p:RP}{st:Bool}{pre:List PR}(h:RW C w p st pre)(O:mW C)(m:Nat):RW C (w.drewN m) p st pre:=
 ⟨h.rs.grown O.T (BH (mZ _ _)) (h.rs.rd.drewN m),h.ok,fZ h.be m⟩
theorem RW.below {C:RC}{w w':World}{p:RP}{st:Bool}{pre:List PR}(h:RW C w p st pre)(O:mW C)(hb:Below w.heap.size w w'):RW C w' p st pre:=by
 have hr:w'.heap[C.rb]? =w.heap[C.rb]? :=hb.block _ h.rs.rd.lt;have ha:lq w w':=⟨hb.os,hb.tape,hb.output,hb.size,fun k o hk _=>(hb.block k (eO hk)).trans hk⟩
 exact⟨h.rs.z8 O.T ha (hr.trans h.rs.rd),h.ok,h.be.trans (hb.mono (by have:=h.rs.rd.lt;have:=O.hn;omega))⟩
theorem RW.al {C:RC}{w:World}{p:RP}{st:Bool}{pre:List PR}(h:RW C w p st pre)(O:mW C)(o:Obj):RW C (w.alloc o) p st pre:=h.below O ((aA _ _).alloc (ay _) _)
theorem nL.cells {w:World}(h:nL w):(w.cell? ⟨7,0,none⟩=some (.int .u8 47)/\w.cell? ⟨7,1,none⟩=some (.int .u8 47))/\(w.cell? ⟨8,0,none⟩=some (.int .u8 47)/\w.cell? ⟨8,1,none⟩=some (.int .u8 42))/\(w.cell? ⟨9,0,none⟩=some (.int .u8 42)/\w.cell? ⟨9,1,none⟩=some (.int .u8 47)):=
 let⟨_,_,h1⟩:=h.lc
 let⟨_,_,h2⟩:=h.bb
 let⟨_,_,h3⟩:=h.be
 ⟨⟨az h1 0,az h1 1⟩,⟨az h2 0,az h2 1⟩,⟨az h3 0,az h3 1⟩⟩
theorem RW.env {C:RC}{w:World}{p:RP}{st:Bool}{pre:List PR}(h:RW C w p st pre)(O:mW C):nL w:=O.env.below O.h20 h.be
theorem RW.over {C:RC}{w:World}{p:RP}{st:Bool}{pre:List PR}(h:RW C w p st pre)(O:mW C):Calls prog 177 #[.pointer (some ⟨C.rb,0,none⟩)] w fun e w'=>e= .returned (.bool (kW C.s p st))/\RW C w' p st pre:=
 (abc w C.rb C.s _ p st h.rs.rd).mono fun _ _ ⟨he,m,hm⟩=>⟨he,by rw [hm];exact h.drewN O m⟩
theorem RW.aaB {C:RC}{w:World}{p:RP}{st:Bool}{pre:List PR}(h:RW C w p st pre)(O:mW C):Calls prog 182 #[.pointer (some ⟨C.rb,0,none⟩)] w fun e w'=>e= .returned (.bool (vG C.s p st))/\RW C w' p st pre:=
 (aaC w C.rb C.s _ p st h.rs.rd h.ok.e).mono fun _ _ ⟨he,m,hm⟩=>⟨he,by rw [hm];exact h.drewN O m⟩
theorem RW.sign {C:RC}{w:World}{p:RP}{st:Bool}{pre:List PR}(h:RW C w p st pre)(O:mW C)(hlt:p.at_<C.s.size):Calls prog 178 #[.pointer (some ⟨C.rb,0,none⟩)] w fun e w'=>e= .returned (.agg #[.int .u8 (bt C.s p.at_),.int .u8 (bt C.s (p.at_+1))])/\RW C w' p st pre:=
 (amg w C.rb C.s _ p st h.rs.rd hlt (by have:=O.hz;omega)).mono fun _ _ ⟨he,hb⟩=>⟨he,h.below O hb⟩
theorem RW.cut {C:RC}{w:World}{p:RP}{st:Bool}{pre:List PR}(h:RW C w p st pre)(O:mW C)(k t:Nat)(hk:k<=2)(ht:t<=2)(hat:p.at_+t<=C.s.size)(hX:st=false->(pre++dA k t p)<+:C.X):
  Calls prog 179 #[.pointer (some ⟨C.rb,0,none⟩),.int .i64 k,.int .i64 t] w fun e w'=>(∃v,e= .returned v)/\∃st',(st=true->st'=true)/\RW C w' (gI t p st) st' (pre++dA k t p):=by
 have a:=h.ok.a;have b:=h.ok.b;have c:=h.ok.c;have d:=h.ok.d;have e:=h.ok.e;have z:=O.hz;exact(WX w C.rb C.s C.l C.n₀ C.J C.Jx C.X O.T O.hn p st pre h.rs k t hk ht a c (by omega) (by omega) (by omega) (by omega) hX).mono fun _ _ ⟨he,hb,st',h1,h2⟩=>⟨he,st',h1,h2,h.ok.cut hat,h.be.trans hb⟩
theorem RW.open {C:RC}{w:World}{p:RP}{st:Bool}{pre:List PR}(h:RW C w p st pre)(O:mW C)(hd:Nat)(hh:hd<=2)(hat:p.at_+hd<=C.s.size)(hX:st=false->(pre++dA 0 0 p)<+:C.X):
  Calls prog 181 #[.pointer (some ⟨C.rb,0,none⟩),.int .i64 hd] w fun e w'=>(∃v,e= .returned v)/\∃st',(st=true->st'=true)/\RW C w' (cO hd p st) st' (pre++dA 0 0 p):=
 (ajL w C.rb C.s C.l C.n₀ C.J C.Jx C.X O.T O.hn p st pre h.rs hd hh h.ok O.hz hX).mono fun _ _ ⟨he,hb,st',h1,h2⟩=>⟨he,st',h1,h2,h.ok.open hat,h.be.trans hb⟩
theorem RW.grown {C:RC}{w w':World}{p p':RP}{st:Bool}{pre:List PR}(h:RW C w p st pre)(O:mW C)(hg:w.grownBy w' (some C.rb))(hr:Rd w' C.rb C.s (.func (.yield C.l) #[] #[]) p' st)(hp:p6 C.s p'):RW C w' p' st pre:=
 ⟨h.rs.grown O.T hg hr,hp,h.be.trans (Below.Cf hg O.hn (by have:=h.rs.rd.lt;have:=O.hn;omega))⟩
theorem RW.feed {C:RC}{w:World}{p:RP}{st:Bool}{pre:List PR}(h:RW C w p st pre)(O:mW C)(hat:p.at_+1<=C.s.size):
  Calls prog 180 #[.pointer (some ⟨C.rb,0,none⟩)] w fun e w'=>(∃v,e= .returned v)/\RW C w' (mY p) st pre:=
 (agN w C.rb C.s _ p st h.rs.rd (by have:=h.ok.e;have:=O.hz;omega) (by have:=h.ok.f;have:=h.ok.e;have:=O.hz;omega)).mono fun _ _ ⟨he,h1,h2⟩=>⟨he,h.grown O h2 h1 (h.ok.feed hat)⟩
theorem RW.amK {C:RC}{w:World}{p:RP}{st:Bool}{pre:List PR}(h:RW C w p st pre)(O:mW C):
  Calls prog 183 #[.pointer (some ⟨C.rb,0,none⟩)] w fun e w'=>(∃v,e= .returned v)/\RW C w' (cI p (if st then p.at_ else bQ C.s p.at_)) st pre:=by
 refine(amL w C.rb C.s _ p st h.rs.rd h.ok.e (by have:=O.hz;omega)).mono fun _ _ ⟨he,h1,h2⟩=>⟨he,h.grown O h2 h1 ?_⟩
 cases st with
 |true=>exact h.ok.to (ay _) h.ok.e
 |false=>exact h.ok.to (Dz _ _) (Jo h.ok.e)
theorem RW.step {C:RC}{w:World}{p:RP}{st:Bool}{pre:List PR}(h:RW C w p st pre)(O:mW C){j:Nat}(h1:p.at_<=j)(h2:j<=C.s.size):RW C (w.setCell ⟨C.rb,6,none⟩ (.int .i64 j)) (cI p j) st pre:=
 h.grown O (lH (mZ _ _)) (h.rs.rd.s6 j) (h.ok.to h1 h2)
theorem RW.end {C:RC}{w:World}{p:RP}{st:Bool}{pre:List PR}(h:RW C w p st pre)(hX:st=false->C.X=pre)(v:Value):RE C (.returned v) w:=by
 refine⟨⟨_,rfl⟩,h.be,?_⟩;cases st with
 |true=>exact .inr (h.rs.no rfl)
 |false=>refine .inl ?_;have:=h.rs.go rfl;rw [hX rfl];exact this
theorem ak0(C:RC)(O:mW C)(w:World)(p:RP)(st:Bool)(pre:List PR)(h:RW C w p st pre)(hX:st=false->C.X=pre++bY C.s false p)(n:Nat)(hn:n=if st then 0 else 2*(C.s.size - p.at_)+3)
  (K:Nat->Act->World->Prop) (hK:∀l m a w,m<n->LJ C l m a w->K l a w) (u0 u1 u2 u3 u5 u6 u7 u8 u9 rN sP sQ sS sU sV u16 sW sX sY sZ s8 s9 u23 u24 tj u26 tq u28 tu tA tC u32 u33 tD tG tH tI tJ tK tM tN tP tQ u44 tR tS tU tV tW tX tY tZ ua ue uf ug uh uj um uo uq ur uu u64 uv uw uz uA uC uD uG uH uI vO vP vQ vR vS vT vU vV vW vX vY vZ wh:Value):
  Code.wp prog (Fz 3) (jumps K (bodyPost prog Tryz.f107 (RE C))) {tmps:=#[u0,u1,u2,u3,.pointer (some ⟨C.rb,0,none⟩),u5,u6,u7,u8,u9,rN,sP,sQ,sS,sU,sV,u16,sW,sX,sY,sZ,s8,s9,u23,u24,tj,u26,tq,u28,tu,tA,tC,u32,u33,tD,tG,tH,tI,tJ,tK,tM,tN,tP,tQ,u44,tR,tS,tU,tV,tW,tX,tY,tZ,ua,ue,uf,ug,uh,uj,um,uo,uq,ur,uu,u64,uv,uw,uz,uA,uC,uD,uG,uH,uI,vO,vP,vQ,vR,vS,vT,vU,vV,vW,vX,vY,vZ,wh],defers:=[]} w:=by
 conv=>arg 2;whnf
 have HK:=ah hK;have HN:=ah hn;clear hK hn;go_wp2;go_loopg [] (C.s.size - p.at_) (fun gh W=>∃p' st' pre',gh=C.s.size - p'.at_/\RW C W p' st' pre'/\(st'=false->C.X=pre'++bY C.s false p')/\(st'=false->st=false/\p.at_<=p'.at_));case atStart=>exact⟨p,st,pre,rfl,h,hX,fun e=>⟨e,ay _⟩⟩
 case round=>
  obtain⟨p',st',pre',rfl,hW,oI,hle⟩:=hrel;have HW:=ah hW;have zT:=ah oI;have nJ:=ah hle;clear hX h;by_cases ho:kW C.s p' st'=true
  .have HO:=hW.over O;rw [ho]at HO;have HE:Hid (st'=false->C.X=pre'++dA 0 0 p'):=fun e=>by
    rw [oI e,bY,ai]
    .rfl
    .subst e;simp [kW]at ho;omega
   clear ho hW oI hle;go_wp2_with fail;refine HO.mono ?_;rintro ev W1 ⟨rfl,h1⟩;have HC:=h1.cut O 0 0 (by omega) (by omega) (by have:=h1.ok.e;omega) (fun e=>by rw [HE.out e];exact ael _);clear HO h1;go_wp2_with fail;refine HC.mono ?_;rintro ev W2 ⟨⟨v,rfl⟩,st2,h2,h3⟩;have HF:Hid (RE C (.returned (.tuple #[])) W2):=h3.end (fun e=>by
    have:st'=false:=by cases hs:st' with
     |true=>rw [h2 hs]at e;cases e
     |false=>rfl
    exact HE.out this) _
   clear HC h2 h3;go_wp2;exact cG (zj rfl _ _ _) rfl HF.out
  .have ho:kW C.s p' st'=false:=by simpa using ho
   have HO:=hW.over O;rw [ho]at HO;have hst:st'=false:=by simp [kW]at ho;exact ho.1
   have hlt:p'.at_<C.s.size:=by have:=hW.ok.e;simp [kW]at ho;omega
   subst hst;have di:=ah hlt;clear ho hW oI hle;have jN:Hid (C.X=pre'++bY C.s false p'):=zT.out rfl;have uO:Hid (st=false/\p.at_<=p'.at_):=nJ.out rfl;clear zT nJ;go_wp2_with fail;refine HO.mono ?_;rintro ev W1 ⟨rfl,h1⟩;have HS:=h1.sign O hlt;clear HO h1 hlt;go_wp2_with fail;refine HS.mono ?_;rintro ev W2 ⟨rfl,h2⟩;obtain⟨b0,hb0⟩:∃b0,bt C.s p'.at_=b0:=⟨_,rfl⟩
   obtain⟨b1,hb1⟩:∃b1,bt C.s (p'.at_+1)=b1:=⟨_,rfl⟩
   have HB:Hid (bt C.s p'.at_=b0/\bt C.s (p'.at_+1)=b1):=⟨hb0,hb1⟩
   rw [hb0,hb1];clear hb0 hb1 HS;have h3:RW C (W2.alloc (.cells #[.int .u8 b0,.int .u8 b1] 246)) p' false pre':=h2.al O _;obtain⟨⟨y1,y2⟩,⟨y3,y4⟩,y5,y6⟩:=(h3.env O).cells;have H3:=ah h3;have c6:=h3.rs.rd.c6;have f6:=h3.rs.rd.fz 6;clear h2 h3;by_cases rK:b0=34
   .subst rK;go_wp2;refine FQ ?_;exact HK.out 0 (2*(C.s.size - p'.at_)+2) _ _ (by have:=HN.out;rw [uO.out.1]at this;have h1:=uO.out.2;have h2:=di.out;simp at this;omega) ⟨⟨_,_,_,_,_,_,_,_,_,_,_,_,_,_,_,_,_,_,_,_,_,_,_,_,_,_,_,_,_,_,_,_,_,_,_,_,_,_,_,_,_,_,_,_,_,_,_,_,_,_,_,_,_,_,_,_,_,_,_,_,_,_,_,_,_,_,_,_,_,_,_,_,_,_,_,_,_,_,_,_,_,_,_,_,_,_,rfl⟩,p',false,pre',H3.out,.inr ⟨rfl,jN.out,di.out,rfl,.inl ⟨rfl,HB.out.1⟩⟩⟩
   .have AQ:(b0==34)=false:=by simpa using rK
    by_cases DJ:b0=47/\b1=47
    .obtain⟨rfl,rfl⟩:=DJ;clear rK AQ;go_wp2;refine FQ ?_;exact HK.out 1 (2*(C.s.size - p'.at_)+2) _ _ (by have:=HN.out;rw [uO.out.1]at this;have h1:=uO.out.2;have h2:=di.out;simp at this;omega) ⟨⟨_,_,_,_,_,_,_,_,_,_,_,_,_,_,_,_,_,_,_,_,_,_,_,_,_,_,_,_,_,_,_,_,_,_,_,_,_,_,_,_,_,_,_,_,_,_,_,_,_,_,_,_,_,_,_,_,_,_,_,_,_,_,_,_,_,_,_,_,_,_,_,_,_,_,_,_,_,_,_,_,_,_,_,_,_,_,rfl⟩,p',false,pre',H3.out,.inr ⟨rfl,jN.out,di.out,rfl,.inr (.inl ⟨rfl,HB.out⟩)⟩⟩
    .by_cases Fw:b0=47/\b1=42
     .obtain⟨rfl,rfl⟩:=Fw;clear rK AQ DJ;go_wp2;refine FQ ?_;exact HK.out 2 (2*(C.s.size - p'.at_)+2) _ _ (by have:=HN.out;rw [uO.out.1]at this;have h1:=uO.out.2;have h2:=di.out;simp at this;omega) ⟨⟨_,_,_,_,_,_,_,_,_,_,_,_,_,_,_,_,_,_,_,_,_,_,_,_,_,_,_,_,_,_,_,_,_,_,_,_,_,_,_,_,_,_,_,_,_,_,_,_,_,_,_,_,_,_,_,_,_,_,_,_,_,_,_,_,_,_,_,_,_,_,_,_,_,_,_,_,_,_,_,_,_,_,_,_,_,_,rfl⟩,p',false,pre',H3.out,.inr ⟨rfl,jN.out,di.out,rfl,.inr (.inr ⟨rfl,HB.out⟩)⟩⟩
     .by_cases mM:b0=10
      .subst mM;clear rK AQ DJ Fw;have HE:Hid (C.X=(pre'++dA 0 0 p')++bY C.s false (mY (cz 0 p'))):=by
        show _=_;have e1:=HB.out.1;rw [jN.out,bY,aj di.out,ai (by decide),ai (by rw [e1];decide),ai (by rw [e1];rintro⟨h,_⟩;exact absurd h (by decide)),ai (by rw [e1];rintro⟨h,_⟩;exact absurd h (by decide)),aj e1,eV]
       have HC:=H3.out.cut O 0 0 (by omega) (by omega) (by have:=di.out;omega) (fun _=>⟨_,HE.out.symm⟩);rw [yN]at HC;clear c6 f6;go_wp2_with fail;refine HC.mono ?_;rintro ev W3 ⟨⟨v,rfl⟩,oQ,_,h3⟩;have ou:=h3.feed O (by rw [jg];have:=di.out;omega);clear HC h3;go_wp2_with fail;refine ou.mono ?_;rintro ev W4 ⟨⟨v,rfl⟩,h4⟩;have H4:=ah h4;clear ou h4;go_wp2;have L1:(mY (cz 0 p')).at_=p'.at_+1:=by show(cz 0 p').at_+1=_;rw [jg]
       go_roundg (C.s.size - (p'.at_+1));case measure=>have:=di.out;omega
       case rel=>exact⟨_,oQ,_,by rw [L1],H4.out,fun _=>HE.out,fun _=>⟨uO.out.1,by have:=uO.out.2;omega⟩⟩
      .have Co:(b0==10)=false:=by simpa using mM
       have HE:Hid (C.X=pre'++bY C.s false (cI p' (p'.at_+1))):=by
        show _=_;obtain⟨e1,e2⟩:=HB.out;rw [jN.out,bY,aj di.out,ai (by decide),ai (by rw [e1];exact rK),ai (by rw [e1,e2];exact DJ),ai (by rw [e1,e2];exact Fw),ai (by rw [e1];exact mM)]
       have HZ:Hid (p'.at_+1<=1000):=by have:=di.out;have:=O.hz;show _<=_;omega
       have hz1:(p'.at_:Int)<=1000:=by have:=HZ.out;omega
       by_cases SU:b0=47
       .subst SU;have r1:(b1==47)=false:=by simpa using DJ
        have r2:(b1==42)=false:=by simpa using Fw
        clear rK DJ Fw mM;go_wp2;go_roundg (C.s.size - (p'.at_+1));case measure=>have:=di.out;omega
        case rel=>exact⟨_,false,_,rfl,H3.out.step O (j:=p'.at_+1) (by omega) (by have:=di.out;omega),fun _=>HE.out,fun _=>⟨uO.out.1,by have:=uO.out.2;show _<=p'.at_+1;omega⟩⟩
       .have r47:(b0==47)=false:=by simpa using SU
        clear rK DJ Fw mM SU;go_wp2;go_roundg (C.s.size - (p'.at_+1));case measure=>have:=di.out;omega
        case rel=>exact⟨_,false,_,rfl,H3.out.step O (j:=p'.at_+1) (by omega) (by have:=di.out;omega),fun _=>HE.out,fun _=>⟨uO.out.1,by have:=uO.out.2;show _<=p'.at_+1;omega⟩⟩
theorem ak2(C:RC)(O:mW C)(w:World)(p:RP)(pre:List PR)(h:RW C w p false pre)(hX:C.X=pre++bY C.s false p)(hlt:p.at_<C.s.size)(e0:bt C.s p.at_=47)(e1:bt C.s (p.at_+1)=47)(n:Nat)(hn:n=2*(C.s.size - p.at_)+2)
  (K:Nat->Act->World->Prop) (hK:∀l m a w,m<n->LJ C l m a w->K l a w) (u0 u1 u2 u3 u5 u6 u7 u8 u9 rN sP sQ sS sU sV u16 sW sX sY sZ s8 s9 u23 u24 tj u26 tq u28 tu tA tC u32 u33 tD tG tH tI tJ tK tM tN tP tQ u44 tR tS tU tV tW tX tY tZ ua ue uf ug uh uj um uo uq ur uu u64 uv uw uz uA uC uD uG uH uI vO vP vQ vR vS vT vU vV vW vX vY vZ wh:Value):
  Code.wp prog (Fz 1) (jumps K (bodyPost prog Tryz.f107 (RE C))) {tmps:=#[u0,u1,u2,u3,.pointer (some ⟨C.rb,0,none⟩),u5,u6,u7,u8,u9,rN,sP,sQ,sS,sU,sV,u16,sW,sX,sY,sZ,s8,s9,u23,u24,tj,u26,tq,u28,tu,tA,tC,u32,u33,tD,tG,tH,tI,tJ,tK,tM,tN,tP,tQ,u44,tR,tS,tU,tV,tW,tX,tY,tZ,ua,ue,uf,ug,uh,uj,um,uo,uq,ur,uu,u64,uv,uw,uz,uA,uC,uD,uG,uH,uI,vO,vP,vQ,vR,vS,vT,vU,vV,vW,vX,vY,vZ,wh],defers:=[]} w:=by
 conv=>arg 2;whnf
 have HK:=ah hK;have HN:=ah hn;clear hK hn;have di:Hid (p.at_+1<C.s.size):=o9 (by rw [e1];decide);have HE:Hid (C.X=(pre++dA 0 0 p)++(dA 2 0 (cI (cO 2 p false) (bQ C.s (p.at_+2)))++bY C.s false (cz 0 (cI (cO 2 p false) (bQ C.s (p.at_+2)))))):=by
  show _=_;rw [hX,bY,aj hlt,ai (by decide),ai (by rw [e0];decide),aj ⟨e0,e1⟩,eV]
 have HO:=h.open O 2 (by omega) (by have:=di.out;omega) (fun _=>⟨_,HE.out.symm⟩);clear h hX hlt e0 e1;go_wp2_with fail;refine HO.mono ?_;rintro ev W1 ⟨⟨v,rfl⟩,st1,_,h1⟩;have HS:=h1.amK O;clear HO h1;go_wp2_with fail;refine HS.mono ?_;rintro ev W2 ⟨⟨v,rfl⟩,h2⟩;rw [JB]at h2;have HC:=h2.cut O 2 0 (by omega) (by omega) (by have:=h2.ok.e;omega) (fun e=>by rw [e,ai (by decide),HE.out,<-eV];exact VH _ _);clear HS h2;go_wp2_with fail;refine HC.mono ?_;rintro ev W3 ⟨⟨v,rfl⟩,oQ,Hv,h3⟩;have H3:=ah h3;have Nk:=ah Hv;clear HC h3 Hv;go_wp2;refine FQ ?_;have hat:p.at_<(gI 0 (cI (cO 2 p false) (if st1 then p.at_+2 else bQ C.s (p.at_+2))) st1).at_:=by
  rw [He];show _<(if st1 then p.at_+2 else bQ C.s (p.at_+2))+0;have:=Dz C.s (p.at_+2);split<;>omega
 have hx:oQ=false->C.X=((pre++dA 0 0 p)++dA 2 0 (cI (cO 2 p false) (if st1 then p.at_+2 else bQ C.s (p.at_+2))))++bY C.s false (gI 0 (cI (cO 2 p false) (if st1 then p.at_+2 else bQ C.s (p.at_+2))) st1):=fun e=>by
  have:st1=false:=by cases hs:st1 with
   |true=>rw [Nk.out hs]at e;cases e
   |false=>rfl
  subst this;rw [ai (by decide),yN,eV];exact HE.out
 exact HK.out 3 (if oQ then 0 else 2*(C.s.size - (gI 0 (cI (cO 2 p false) (if st1 then p.at_+2 else bQ C.s (p.at_+2))) st1).at_)+3) _ _ (by have h1:=HN.out;have h2:=hat;have h3:=di.out;split<;>omega) ⟨⟨_,_,_,_,_,_,_,_,_,_,_,_,_,_,_,_,_,_,_,_,_,_,_,_,_,_,_,_,_,_,_,_,_,_,_,_,_,_,_,_,_,_,_,_,_,_,_,_,_,_,_,_,_,_,_,_,_,_,_,_,_,_,_,_,_,_,_,_,_,_,_,_,_,_,_,_,_,_,_,_,_,_,_,_,_,_,rfl⟩,gI 0 (cI (cO 2 p false) (if st1 then p.at_+2 else bQ C.s (p.at_+2))) st1,oQ,_,H3.out,.inl ⟨rfl,hx,rfl⟩⟩
theorem akZ(C:RC)(O:mW C)(w:World)(p:RP)(pre:List PR)(h:RW C w p false pre)(hX:C.X=pre++bY C.s false p)(hlt:p.at_<C.s.size)(e0:bt C.s p.at_=47)(e1:bt C.s (p.at_+1)=42)(n:Nat)(hn:n=2*(C.s.size - p.at_)+2)
  (K:Nat->Act->World->Prop) (hK:∀l m a w,m<n->LJ C l m a w->K l a w) (u0 u1 u2 u3 u5 u6 u7 u8 u9 rN sP sQ sS sU sV u16 sW sX sY sZ s8 s9 u23 u24 tj u26 tq u28 tu tA tC u32 u33 tD tG tH tI tJ tK tM tN tP tQ u44 tR tS tU tV tW tX tY tZ ua ue uf ug uh uj um uo uq ur uu u64 uv uw uz uA uC uD uG uH uI vO vP vQ vR vS vT vU vV vW vX vY vZ wh:Value):
  Code.wp prog (Fz 2) (jumps K (bodyPost prog Tryz.f107 (RE C))) {tmps:=#[u0,u1,u2,u3,.pointer (some ⟨C.rb,0,none⟩),u5,u6,u7,u8,u9,rN,sP,sQ,sS,sU,sV,u16,sW,sX,sY,sZ,s8,s9,u23,u24,tj,u26,tq,u28,tu,tA,tC,u32,u33,tD,tG,tH,tI,tJ,tK,tM,tN,tP,tQ,u44,tR,tS,tU,tV,tW,tX,tY,tZ,ua,ue,uf,ug,uh,uj,um,uo,uq,ur,uu,u64,uv,uw,uz,uA,uC,uD,uG,uH,uI,vO,vP,vQ,vR,vS,vT,vU,vV,vW,vX,vY,vZ,wh],defers:=[]} w:=by
 conv=>arg 2;whnf
 have HK:=ah hK;have HN:=ah hn;clear hK hn;have di:Hid (p.at_+1<C.s.size):=o9 (by rw [e1];decide);have HE:Hid (C.X=(pre++dA 0 0 p)++bY C.s true (cO 2 p false)):=by
  show _=_;rw [hX,bY,aj hlt,ai (by decide),ai (by rw [e0];decide),ai (by rw [e1];rintro⟨_,h⟩;exact absurd h (by decide)),aj ⟨e0,e1⟩,eV]
 have HO:=h.open O 2 (by omega) (by have:=di.out;omega) (fun _=>⟨_,HE.out.symm⟩);clear h hX hlt e0 e1;go_wp2_with fail;refine HO.mono ?_;rintro ev W1 ⟨⟨v,rfl⟩,st1,_,h1⟩;have H1:=ah h1;clear HO h1;go_wp2;go_loopg [] (C.s.size - (cO 2 p false).at_) (fun gh W=>∃p' st' pre',gh=C.s.size - p'.at_/\RW C W p' st' pre'/\(st'=false->C.X=pre'++bY C.s true p')/\p.at_<p'.at_);case atStart=>exact⟨cO 2 p false,st1,_,rfl,H1.out,fun _=>HE.out,by rw [JB];omega⟩
 case round=>
  obtain⟨p',st',pre',rfl,hW,oI,hle⟩:=hrel;have HW:=ah hW;have zT:=ah oI;have nJ:=ah hle;clear hle;by_cases ho:kW C.s p' st'=true
  .have HO:=hW.over O;rw [ho]at HO;have iW:Hid (st'=false->C.X=pre'++dA 2 0 p'):=fun e=>by
    rw [oI e,bY,ai]
    .rfl
    .subst e;simp [kW]at ho;omega
   clear ho hW oI;go_wp2_with fail;refine HO.mono ?_;rintro ev W2 ⟨rfl,h2⟩;have HC:=h2.cut O 2 0 (by omega) (by omega) (by have:=h2.ok.e;omega) (fun e=>by rw [iW.out e];exact ael _);clear HO h2;go_wp2_with fail;refine HC.mono ?_;rintro ev W3 ⟨⟨v,rfl⟩,st2,h2,h3⟩;have HF:Hid (RE C (.returned (.tuple #[])) W3):=h3.end (fun e=>by
    have:st'=false:=by cases hs:st' with
     |true=>rw [h2 hs]at e;cases e
     |false=>rfl
    exact iW.out this) _
   clear HC h2 h3;go_wp2;go_end0;exact HF.out
  .have ho:kW C.s p' st'=false:=by simpa using ho
   have HO:=hW.over O;rw [ho]at HO;have hst:st'=false:=by simp [kW]at ho;exact ho.1
   have hlt:p'.at_<C.s.size:=by have:=hW.ok.e;simp [kW]at ho;omega
   subst hst;have kj:=ah hlt;clear ho hW oI;have jN:Hid (C.X=pre'++bY C.s true p'):=zT.out rfl;clear zT;go_wp2_with fail;refine HO.mono ?_;rintro ev W2 ⟨rfl,h1⟩;have HS:=h1.sign O hlt;clear HO h1 hlt;go_wp2_with fail;refine HS.mono ?_;rintro ev W3 ⟨rfl,h2⟩;obtain⟨b0,hb0⟩:∃b0,bt C.s p'.at_=b0:=⟨_,rfl⟩
   obtain⟨b1,hb1⟩:∃b1,bt C.s (p'.at_+1)=b1:=⟨_,rfl⟩
   have HB:Hid (bt C.s p'.at_=b0/\bt C.s (p'.at_+1)=b1):=⟨hb0,hb1⟩
   rw [hb0,hb1];clear hb0 hb1 HS;have h3:RW C (W3.alloc (.cells #[.int .u8 b0,.int .u8 b1] 246)) p' false pre':=h2.al O _;obtain⟨⟨y1,y2⟩,⟨y3,y4⟩,y5,y6⟩:=(h3.env O).cells;have H3:=ah h3;have c6:=h3.rs.rd.c6;have f6:=h3.rs.rd.fz 6;clear h2 h3;by_cases Fx:b0=42/\b1=47
   .obtain⟨rfl,rfl⟩:=Fx;have iW:Hid (C.X=(pre'++dA 2 2 p')++bY C.s false (cz 2 p')):=by
     show _=_;rw [jN.out,bY,aj kj.out,aj rfl,aj HB.out,eV]
    have Gb:Hid (p'.at_+1<C.s.size):=o9 (by rw [HB.out.2];decide);have HC:=H3.out.cut O 2 2 (by omega) (by omega) (by have:=Gb.out;omega) (fun _=>⟨_,iW.out.symm⟩);rw [yN]at HC;clear c6 f6;go_wp2_with fail;refine HC.mono ?_;rintro ev W4 ⟨⟨v,rfl⟩,oQ,_,h4⟩;have H4:=ah h4;clear HC h4;go_wp2;refine FQ ?_;have hat:p.at_<(cz 2 p').at_:=by rw [jg];have:=nJ.out;omega
    exact HK.out 3 (if oQ then 0 else 2*(C.s.size - (cz 2 p').at_)+3) _ _ (by have h1:=HN.out;have h2:=hat;have h3:=di.out;split<;>omega) ⟨⟨_,_,_,_,_,_,_,_,_,_,_,_,_,_,_,_,_,_,_,_,_,_,_,_,_,_,_,_,_,_,_,_,_,_,_,_,_,_,_,_,_,_,_,_,_,_,_,_,_,_,_,_,_,_,_,_,_,_,_,_,_,_,_,_,_,_,_,_,_,_,_,_,_,_,_,_,_,_,_,_,_,_,_,_,_,_,rfl⟩,cz 2 p',oQ,_,H4.out,.inl ⟨rfl,fun _=>iW.out,rfl⟩⟩
   .by_cases mM:b0=10
    .subst mM;clear Fx;have iW:Hid (C.X=(pre'++dA 2 0 p')++bY C.s true (mY (cz 0 p'))):=by
      show _=_;rw [jN.out,bY,aj kj.out,aj rfl,ai (by rw [HB.out.1];rintro⟨h,_⟩;exact absurd h (by decide)),aj HB.out.1,eV]
     have HC:=H3.out.cut O 2 0 (by omega) (by omega) (by have:=kj.out;omega) (fun _=>⟨_,iW.out.symm⟩);rw [yN]at HC;clear c6 f6;go_wp2_with fail;refine HC.mono ?_;rintro ev W4 ⟨⟨v,rfl⟩,oQ,_,h4⟩;have ou:=h4.feed O (by rw [jg];have:=kj.out;omega);clear HC h4;go_wp2_with fail;refine ou.mono ?_;rintro ev W5 ⟨⟨v,rfl⟩,h5⟩;have H5:=ah h5;clear ou h5;go_wp2;have L1:(mY (cz 0 p')).at_=p'.at_+1:=by show(cz 0 p').at_+1=_;rw [jg]
     go_roundg (C.s.size - (p'.at_+1));case measure=>have:=kj.out;omega
     case rel=>exact⟨_,oQ,_,by rw [L1],H5.out,fun _=>iW.out,by rw [L1];have:=nJ.out;omega⟩
    .have Co:(b0==10)=false:=by simpa using mM
     have iW:Hid (C.X=pre'++bY C.s true (cI p' (p'.at_+1))):=by
      show _=_;obtain⟨e1,e2⟩:=HB.out;rw [jN.out,bY,aj kj.out,aj rfl,ai (by rw [e1,e2];exact Fx),ai (by rw [e1];exact mM)]
     have hz1:(p'.at_:Int)<=1000:=by have:=kj.out;have:=O.hz;omega
     by_cases SS:b0=42
     .subst SS;have r1:(b1==47)=false:=by simpa using Fx
      clear Fx mM;go_wp2;go_roundg (C.s.size - (p'.at_+1));case measure=>have:=kj.out;omega
      case rel=>exact⟨_,false,_,rfl,H3.out.step O (j:=p'.at_+1) (by omega) (by have:=kj.out;omega),fun _=>iW.out,by have:=nJ.out;show _<p'.at_+1;omega⟩
     .have r42:(b0==42)=false:=by simpa using SS
      clear Fx mM SS;go_wp2;go_roundg (C.s.size - (p'.at_+1));case measure=>have:=kj.out;omega
      case rel=>exact⟨_,false,_,rfl,H3.out.step O (j:=p'.at_+1) (by omega) (by have:=kj.out;omega),fun _=>iW.out,by have:=nJ.out;show _<p'.at_+1;omega⟩
