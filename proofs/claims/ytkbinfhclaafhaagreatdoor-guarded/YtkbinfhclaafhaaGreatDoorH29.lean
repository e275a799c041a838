import Derived.Test.YtkbinfhclaafhaaGreatDoorH27
import Derived.Test.YtkbinfhclaafhaaGreatDoorH28
import Derived.Test.YtkbinfhclaafhaaGreatDoorH22
namespace Go.Proofs.YtkbinfhclaafhaaGreatDoor
open Go.RowKit
open Go.Proofs.Tryz
set_option maxRecDepth 100000
set_option maxHeartbeats 32000000
theorem acw(n n' b0 b1 b2 b3 c1 c2 c3:Nat)(l0:b0<256)(l1:b1<256)(l2:b2<256)(l3:b3<256)(h0:lX n b0 b1 b2 b3≠0)(hn:lX n b0 b1 b2 b3<=n')(h1:1<lX n b0 b1 b2 b3->b1=c1)(h2:2<lX n b0 b1 b2 b3->b2=c2)(h3:3<lX n b0 b1 b2 b3->b3=c3):Lib.decodeN n' b0 c1 c2 c3=Lib.decodeN n b0 b1 b2 b3:=by
 by_cases a:b0<128
 .rw [BA a,BA a]
 by_cases b:b0<194
 .exact absurd (kC (KV (by omega) b)) h0
 by_cases c:245<=b0
 .exact absurd (kC (KW c (by omega))) h0
 by_cases d:b0<224
 .by_cases e:n<2∨b1<128∨191<b1
  .exact absurd (kC (KQ (by omega) d (by omega) e)) h0
  .have hd:=F7 (n:=n) (b0:=b0) (b1:=b1) (b2:=b2) (b3:=b3) (by omega) d (by omega) (by omega) (by omega);have hs:lX n b0 b1 b2 b3=2:=by rw [uH hd (by omega)]
   obtain rfl:=h1 (by omega);rw [hd,F7 (n:=n') (b0:=b0) (b1:=b1) (b2:=c2) (b3:=c3) (by omega) d (by omega) (by omega) (by omega)]
 by_cases f:b0<240
 .by_cases e:n<3∨b1<128∨191<b1∨b2<128∨191<b2
  .exact absurd (kC (KR (by omega) f (by omega) (by omega) e)) h0
  .by_cases g:b0%16*4096+b1%64*64+b2%64<2048∨(55296<=b0%16*4096+b1%64*64+b2%64/\b0%16*4096+b1%64*64+b2%64<=57343)
   .exact absurd (kC (KS (by omega) f g)) h0
   .have hd:=F8 (n:=n) (b0:=b0) (b1:=b1) (b2:=b2) (b3:=b3) (by omega) f (by omega) (by omega) (by omega) (by omega) (by omega) (by omega) (by omega);have hs:lX n b0 b1 b2 b3=3:=by rw [uH hd (by omega)]
    obtain rfl:=h1 (by omega);obtain rfl:=h2 (by omega);rw [hd,F8 (n:=n') (b0:=b0) (b1:=b1) (b2:=b2) (b3:=c3) (by omega) f (by omega) (by omega) (by omega) (by omega) (by omega) (by omega) (by omega)]
 by_cases e:n<4∨b1<128∨191<b1∨b2<128∨191<b2∨b3<128∨191<b3
 .exact absurd (kC (KT (by omega) (by omega) (by omega) (by omega) (by omega) e)) h0
 .by_cases g:b0%8*262144+b1%64*4096+b2%64*64+b3%64<65536∨1114111<b0%8*262144+b1%64*4096+b2%64*64+b3%64
  .exact absurd (kC (KU (by omega) (by omega) g)) h0
  .have hd:=F9 (n:=n) (b0:=b0) (b1:=b1) (b2:=b2) (b3:=b3) (by omega) (by omega) (by omega) (by omega) (by omega) (by omega) (by omega) (by omega) (by omega) (by omega) (by omega);have hs:lX n b0 b1 b2 b3=4:=by rw [uH hd (by omega)]
   obtain rfl:=h1 (by omega);obtain rfl:=h2 (by omega);obtain rfl:=h3 (by omega);rw [hd,F9 (n:=n') (b0:=b0) (b1:=b1) (b2:=b2) (b3:=b3) (by omega) (by omega) (by omega) (by omega) (by omega) (by omega) (by omega) (by omega) (by omega) (by omega) (by omega)]
theorem IY {x:ByteArray}{a b c:Nat}(hb:b<=x.size)(h:c<b)(ha:a<=c):(x.extract a b).get! (c - a)=x.get! c:=by
 have h1:c - a<(x.extract a b).size:=by simp;omega
 rw [get_eq _ _ h1,get_eq _ _ (by omega:c<x.size),ByteArray.getElem_extract]
 congr 1
 omega
theorem acA {x:ByteArray}{a b c:Nat}(hb:b<=x.size)(ha:a<=c)(h:c<b)(h0:aJ x c≠0)(hk:c+aJ x c<=b):Utf8.decode (x.extract a b) (c - a)=Utf8.decode x c:=by
 rw [Lib.decode_at,Lib.decode_at];have hsz:(x.extract a b).size=b - a:=by simp;omega
 rw [hsz,IY hb h ha];have hs:aJ x c=lX (x.size - c) (x.get! c).toNat (x.get! (c+1)).toNat (x.get! (c+2)).toNat (x.get! (c+3)).toNat:=rfl;refine acw (x.size - c) _ _ _ _ _ _ _ _ (x.get! c).toNat_lt (x.get! (c+1)).toNat_lt (x.get! (c+2)).toNat_lt (x.get! (c+3)).toNat_lt (by rw [<-hs];exact h0) (by rw [<-hs];omega) (fun h1=> ?_) (fun h1=> ?_) (fun h1=> ?_)
 .rw [<-hs]at h1;rw [show c - a+1=c+1 - a by omega,IY hb (by omega) (by omega)]
 .rw [<-hs]at h1;rw [show c - a+2=c+2 - a by omega,IY hb (by omega) (by omega)]
 .rw [<-hs]at h1;rw [show c - a+3=c+3 - a by omega,IY hb (by omega) (by omega)]
def RX(x:ByteArray):Nat->Nat->List Int->Prop
 |a,b,[]=>a=b
 |a,b,r::rs=>a<x.size/\aJ x a≠0/\r=gJ x a/\RX x (a+aJ x a) b rs
theorem Cs {x:ByteArray}:∀{rs:List Int}{a b:Nat},RX x a b rs->a<=b
 |[],a,b,h=>Nat.le_of_eq h
 |r::rs,a,b,h=>by have:=Cs h.2.2.2;omega
theorem Sa {x:ByteArray}{p q:Nat}(hp:p<x.size)(h0:aJ x p≠0)(h1:p<q)(h2:q<p+aJ x p):¬Asc x q:=by
 have hle:=Cz x p hp h0;have key:∀j,j<aJ x p->1<aJ x p->¬bt x (p+j)<128:=by
  intro j hj hs;have hj2:p+j<x.size:=by omega
  have e:bt x (p+j)=((x.get! (p+j)).toNat:Int):=by unfold bt;rw [if_pos hj2]
  rw [e];rcases Ff x p hp h0 with⟨e1,_⟩|⟨e1,_,c1,c2,c3,c4,_⟩|⟨e1,_,c1,c2,c3,c4,c5,c6,_⟩|⟨e1,_,c1,c2,c3,c4,c5,c6,c7,c8,_⟩
  .omega
  .match j,(by omega:j<2)with
   |0,_=>simp only [Nat.add_zero];omega
   |1,_=>omega
  .match j,(by omega:j<3)with
   |0,_=>simp only [Nat.add_zero];omega
   |1,_=>omega
   |2,_=>omega
  .match j,(by omega:j<4)with
   |0,_=>simp only [Nat.add_zero];omega
   |1,_=>omega
   |2,_=>omega
   |3,_=>omega
 intro ha;rcases ha with h|h|⟨_,h⟩
 .omega
 .exact key (q - p) (by omega) (by omega) (by rw [show p+(q - p)=q by omega];exact h)
 .exact key (q - 1 - p) (by omega) (by omega) (by rw [show p+(q - 1 - p)=q - 1 by omega];exact h)
theorem EP {x:ByteArray}{q:Nat}(hq:q<=x.size)(ha:Asc x q):∀(rs:List Int)(p:Nat),RA x p rs->p<=q->∃r1 r2,rs=r1++r2/\RX x p q r1/\RA x q r2
 |rs,p,h,hp=>by
  by_cases he:p=q
  .subst he;exact⟨[],rs,rfl,rfl,h⟩
  .cases rs with
   |nil=>have:p=x.size:=h;omega
   |cons r rs=>
    obtain⟨h1,h2,h3,h4⟩:=h;by_cases hin:q<p+aJ x p
    .exact absurd ha (Sa h1 h2 (by omega) hin)
    .obtain⟨r1,r2,e1,e2,e3⟩:=EP hq ha rs (p+aJ x p) h4 (by omega);exact⟨r::r1,r2,by rw [e1];rfl,⟨h1,h2,h3,e2⟩,e3⟩
theorem Oj {t:ByteArray}:∀(f:Nat)(rs:List Int)(p:Nat),RA t p rs->t.size<=p+f->runesFrom t f p=some rs
 |0,rs,p,h,hf=>by
  cases rs with
  |nil=>exact runesFrom_end t 0 p (by omega)
  |cons r rs=>have:=h.1;omega
 |f+1,rs,p,h,hf=>by
  cases rs with
  |nil=>have:p=t.size:=h;exact runesFrom_end t (f+1) p (by omega)
  |cons r rs=>
   obtain⟨h1,h2,h3,h4⟩:=h;have he:runesFrom t (f+1) p=(runesFrom t f (p+aJ t p)).map (gJ t p::·):=by simp [runesFrom,h1,h2]
   rw [he,Oj f rs _ h4 (by omega),h3];rfl
theorem Y9 {x:ByteArray}{a b:Nat}(hb:b<=x.size):∀(rs:List Int)(c:Nat),a<=c->RX x c b rs->RA (x.extract a b) (c - a) rs
 |[],c,ha,h=>by
  have:c=b:=h;show c - a=(x.extract a b).size;simp;omega
 |r::rs,c,ha,h=>by
  obtain⟨h1,h2,h3,h4⟩:=h;have hle:=Cs h4;have hd:=acA hb ha (by omega) h2 hle;have hs:aJ (x.extract a b) (c - a)=aJ x c:=by rw [OY,OY,hd]
  have hr:gJ (x.extract a b) (c - a)=gJ x c:=by unfold gJ;rw [hd]
  refine⟨by simp;omega,by rw [hs];exact h2,by rw [hr];exact h3,?_⟩;rw [hs,show c - a+aJ x c=c+aJ x c - a by omega];exact Y9 hb rs (c+aJ x c) (by omega) h4
theorem EU {x:ByteArray}{a b:Nat}{rs:List Int}(hb:b<=x.size)(h:RX x a b rs):dh (x.extract a b)=some rs:=by
 have:=Y9 hb rs a (Nat.le_refl _) h;rw [Nat.sub_self]at this;exact Oj _ rs 0 this (by omega)
theorem YG {x:ByteArray}{rs:List Int}{a b:Nat}(h:RA x 0 rs)(hab:a<=b)(hb:b<=x.size)(ha:Asc x a)(hb2:Asc x b):∃r0 r1 r2,rs=r0++(r1++r2)/\RX x 0 a r0/\RX x a b r1/\RA x b r2:=by
 obtain⟨r0,r',e1,e2,e3⟩:=EP (by omega:a<=x.size) ha rs 0 h (by omega);obtain⟨r1,r2,e4,e5,e6⟩:=EP hb hb2 r' a e3 hab;exact⟨r0,r1,r2,by rw [e1,e4],e2,e5,e6⟩
def Ar(line:ByteArray)(x:PR):List Int:=(dh (line.extract x.from_ x.di)).getD []
def fU(line:ByteArray):List PR->Nat->List Int
 |[],_=>[]
 |x::xs,k=>List.replicate (Ar line x).length (k:Int)++fU line xs (k+1)
theorem EO {s:ByteArray}:∀{rs:List Int}{p:Nat},RA s p rs->rs.length<=s.size - p
 |[],_,_=>by simp
 |r::rs,p,h=>by
  obtain⟨h1,h2,_,h4⟩:=h;have:=EO h4;have:=Cz s p h1 h2;simp only [List.length_cons];omega
theorem Yr(line:ByteArray):∀(l:List PR)(k:Nat),(∀x∈l,rG line x)->(fU line l k).length<=l.length*line.size
 |[],_,_=>by simp [fU]
 |x::xs,k,h=>by
  have ih:=Yr line xs (k+1) (fun y hy=>h y (List.mem_cons_of_mem _ hy));obtain⟨h1,h2,⟨rs,hrs⟩,_⟩:=h x List.mem_cons_self;have h3:=EO (si hrs);have h4:(line.extract x.from_ x.di).size<=line.size:=by simp;omega
  have h5:(Ar line x).length<=line.size:=by unfold Ar;rw [hrs,Option.getD_some];omega
  rw [fU,List.length_append,List.length_replicate,List.length_cons,Nat.add_mul,Nat.one_mul];omega
theorem ag6(line:ByteArray)(l:List PR)(v:Value)(w:World)(hs:line.size<=600)(hl:l.length<=600)(hv:uS w v l)(hx:∀x∈l,rG line x):
  Calls prog 184 #[.string line,v] w fun e w'=>∃v',e= .returned v'/\w'.ownsRow w.heap.size 3 1 v' (fU line l 0).length ((fU line l 0).map (Value.int .i64))/\Below w.heap.size w w':=by
 obtain⟨iI,p8,p9,qb,qd⟩:=info_parts Tryz.VT;obtain⟨x,c,rfl,Aa⟩:=hv;have vV:Hid ((fU line l 0).length<=360000):=by
  show _<=_;have h1:=Yr line l 0 hx;have h2:l.length*line.size<=600*600:=Nat.mul_le_mul hl hs;omega
 obtain⟨n,hn⟩:∃n,n=l.length:=⟨_,rfl⟩
 have HN:Hid (n=l.length):=hn;rw [<-hn]at hl Aa ⊢;have HX:Hid (0<n->∃g,x=some ⟨g,0,none⟩/\n<=c/\zB w g l):=Aa;have jQ:Hid (∀x∈l,rG line x):=hx;obtain⟨R,hR⟩:∃R,R=fU line l 0:=⟨_,rfl⟩
 rw [<-hR]at vV ⊢;have HR:Hid (fU line l 0=R):=hR.symm;clear hn Aa hx hR;go_enter func184,ntmps184;go_wp2;go_loopg [5,6,7,10] n (fun gk NK _ _ uo W=>∃(i:Nat)(o:List Int),i<=n/\gk=n - i/\uo= .int .i64 i/\o++fU line (l.drop i) i=R/\W.ownsRow w.heap.size 3 1 NK o.length (o.map (Value.int .i64))/\Below w.heap.size w W);case atStart=>exact⟨0,[],by omega,rfl,rfl,HR.out,World.ownsRow_nil _ _ _ _,Below.refl _ _⟩
 case round=>
  rename World=>wa
  obtain⟨i,o,hi,rfl,rfl,hj,hown,hb⟩:=hrel;obtain⟨oa,oc,rfl⟩:=xH hown;have AX:Hid (Below w.heap.size w wa):=hb;have hbz:=hb.size;have hol:o.length<=360000:=by
   have h1:=vV.out;rw [<-hj,List.length_append]at h1;omega
  by_cases hlt:i<n
  .have hil:i<l.length:=by rw [<-HN.out];exact hlt
   obtain⟨g,rfl,hcn,hP⟩:=HX.out (by omega);obtain⟨p0,p1,p2,p3,p4⟩:=(hP.below hb) i hil;obtain⟨k1,k2,⟨rk,yM⟩,_⟩:=jQ.out (l[i]'hil) (List.getElem_mem hil);rw [List.drop_eq_getElem_cons hil,fU]at hj;have hgl:=UT p0;have hrl:Ar line (l[i]'hil)=rk:=by unfold Ar;rw [yM];rfl
   rw [hrl]at hj;generalize l[i]'hil=y at*;obtain⟨yl,yk,yf,yt,yb,ye⟩:=y;simp only at p0 p1 p2 p3 p4 k1 k2 yM;have sZ:Hid (RA (line.extract yf yt) 0 rk):=si yM;obtain⟨t,ht⟩:∃t,t=line.extract yf yt:=⟨_,rfl⟩
   have hts:t.size<=600:=by rw [ht];simp;omega
   have HT:Hid (line.extract yf yt=t):=ht.symm;rw [<-ht]at sZ;have HJ0:Hid (o++(List.replicate rk.length (i:Int)++fU line (l.drop (i+1)) (i+1))=R):=hj;have akm:=EO sZ.out;have JB:Hid (wa.ownsRow w.heap.size 3 1 (.slice oa o.length oc) o.length (o.map (Value.int .i64))):=hown;have hin:(i:Int)<(n:Int):=by omega
   have h1:(yf:Int)<=(yt:Int):=by omega
   have h2:(yt:Int)<=(line.size:Int):=by omega
   clear hP hil hb hj yM hrl ht hown;go_wp2;rw [HT.out];have hsz0:(wa.alloc (.cells #[.int .i64 yk,.int .i64 yf,.int .i64 yt,.int .i64 yb,.int .i64 ye] 75)).heap.size=wa.heap.size+1:=by simp
   go_loopg [5] t.size (fun gk NK W=>∃(p m:Nat)(rt:List Int),p<=t.size/\gk=t.size - p/\RA t p rt/\m+rt.length=rk.length/\W.heap[wa.heap.size+1]? =some (.stringIter t p)/\W.ownsRow w.heap.size 3 1 NK (o.length+m) ((o++List.replicate m (i:Int)).map (Value.int .i64))/\Below w.heap.size w W);case atStart=>
    refine⟨0,0,rk,by omega,rfl,sZ.out,by omega,?_,?_,(AX.out.alloc hbz _).alloc (by simp;omega) _⟩
    .have:=World.iter_heap (wa.alloc (.cells #[.int .i64 yk,.int .i64 yf,.int .i64 yt,.int .i64 yb,.int .i64 ye] 75)) t 0;rw [hsz0]at this;exact this
    .have:=(JB.out.alloc (.cells #[.int .i64 yk,.int .i64 yf,.int .i64 yt,.int .i64 yb,.int .i64 ye] 75)).alloc (.stringIter t 0);rw [List.replicate_zero,List.append_nil];exact this
   case round=>
    obtain⟨p,m,rt,hp,rfl,hra,hm,hit,hown,hb⟩:=hrel;obtain⟨qa,qc,rfl⟩:=xH hown;have aj9:=hb.size;by_cases hpl:p<t.size
    .cases rt with
     |nil=>exact absurd hra (by show¬p=t.size;omega)
     |cons r rt=>
      obtain⟨_,hz,_,nK⟩:=hra;have oD:Hid (RA t (p+aJ t p) rt):=nK;have hle:p+aJ t p<=t.size:=Cz t p hpl hz;have VO:0<aJ t p:=by omega
      have hw:=Cy t p hz;have hnx:∀ty,(Instr.next (.pointer (some ⟨wa.heap.size+1,0,none⟩)) true ty).run prog wr= .ok (.tuple #[.bool true,.int .i64 p,.int .i32 (gJ t p)]) (wr.iterAt (wa.heap.size+1) t (p+aJ t p)):=fun ty=>by
       rw [Lib.run_next_any_at wr (wa.heap.size+1) t p ty hit hpl,hw];rfl
      simp only [List.length_cons]at hm;generalize aJ t p=q at*;generalize gJ t p=r' at*;obtain⟨wi,hwi⟩:∃wi,wi=wr.iterAt (wa.heap.size+1) t (p+q):=⟨_,rfl⟩
      have HI1:Hid (wi.heap[wa.heap.size+1]? =some (.stringIter t (p+q))):=by show _=_;rw [hwi];exact Lib.iterAt_heap wr _ t p _ hit
      have HB1:Hid (Below w.heap.size w wi):=by show Below _ _ _;rw [hwi];exact Lib.below_iterAt hb (by omega) _ _
      have hown1:wi.ownsRow w.heap.size 3 1 (.slice qa (o.length+m) qc) (o.length+m) ((o++List.replicate m (i:Int)).map (Value.int .i64)):=kK hown fun k ob hk ho=>by
       rw [hwi,Lib.iterAt_other]
       .exact ho
       .rintro rfl;exact own_ne_iter hown hit hk
      rw [<-hwi]at hnx;have UM:=HB1.out.size;have hmk:o.length+m<=1000000:=by omega
      clear hwi hown hit nK hz hw hb;go_wp2_with(at_builtin;refine zf _ rfl _ _ 31 rfl w.heap.size 3 iI (.int .i64 0) 8 underlying31 p8 p9 qb qd rfl (by decide) _ _ _ rfl hown1 _ _ rfl rfl hmk UM ?_);intro v2 w2 hown2 hg2;have HI2:Hid (w2.heap[wa.heap.size+1]? =some (.stringIter t (p+q))):=by
       show _=_;rw [hg2.block _ (bJ HI1.out) (own_ne_iter hown1 HI1.out).symm];exact HI1.out
      have HB2:Hid (Below w.heap.size w w2):=HB1.out.grown hg2 UM (fun y hy=>(hown1.lt y hy).1);have iL:Hid (w2.ownsRow w.heap.size 3 1 v2 (o.length+(m+1)) ((o++List.replicate (m+1) (i:Int)).map (Value.int .i64))):=by
       show World.ownsRow _ _ _ _ _ _ _;rw [List.replicate_succ',<-List.append_assoc,List.map_append,<-Nat.add_assoc];simpa [List.append_assoc]using hown2
      clear hnx hown1 hown2 hg2;go_wp2;go_roundg (t.size - (p+q));case measure=>omega
      case rel=>exact⟨p+q,m+1,rt,hle,rfl,oD.out,by omega,HI2.out,iL.out,HB2.out⟩
    .have hnx:∀ty,(Instr.next (.pointer (some ⟨wa.heap.size+1,0,none⟩)) true ty).run prog wr= .ok (.tuple #[.bool false]) wr:=fun ty=>Lib.run_next_end_at wr (wa.heap.size+1) t p ty hit hpl
     cases rt with
     |cons r rt=>exact absurd hra.1 hpl
     |nil=>
      have hmr:m=rk.length:=by simpa using hm
      have HB2:Hid (Below w.heap.size w wr):=hb;have iL:Hid (wr.ownsRow w.heap.size 3 1 (.slice qa (o.length+m) qc) (o++List.replicate m (i:Int)).length ((o++List.replicate m (i:Int)).map (Value.int .i64))):=by
       show World.ownsRow _ _ _ _ _ _ _;rw [List.length_append,List.length_replicate];exact hown
      have HJ2:Hid ((o++List.replicate m (i:Int))++fU line (l.drop (i+1)) (i+1)=R):=by
       show _=_;rw [<-HJ0.out,hmr,List.append_assoc]
      clear hra hit hown hb hmr;go_wp2;go_roundg (n - (i+1));case measure=>omega
      case rel=>exact⟨i+1,o++List.replicate m (i:Int),by omega,rfl,by go_num,HJ2.out,iL.out,HB2.out⟩
  .obtain rfl:i=n:=by omega
   have hin:¬(i:Int)<(i:Int):=by omega
   rw [List.drop_of_length_le (by rw [HN.out];exact Nat.le_refl _),fU,List.append_nil]at hj;subst hj;have JB:Hid (wa.ownsRow w.heap.size 3 1 (.slice oa o.length oc) o.length (o.map (Value.int .i64))):=hown;clear hown hb;go_wp2;go_ret;exact⟨_,rfl,JB.out,AX.out⟩
def rR(l:List Int):Bool:=if l.length=0 then true else Lib.downOK (fun x y=>decide (x<y)) l.toArray (l.length - 1)
theorem ae3(l:List Int)(v:Value)(w:World)(hl:l.length<=1000)(hv:tH w v l):
  Calls prog 185 #[v] w fun e w'=>e= .returned (.bool (rR l))/\Below w.heap.size w w':=by
 unfold rR;by_cases h0:l.length=0
 .rw [if_pos h0];obtain⟨x,c,rfl,_⟩:=hv.form;rw [h0];exact(AnyO.slices_IsSorted_int_none Tryz.laysSorted x c w).mono fun e w' ⟨he,hw⟩=>⟨he,by rw [hw];exact Below.refl _ _⟩
 .rw [if_neg h0];obtain⟨x,c,rfl,hx⟩:=hv.form;obtain⟨b,off,rfl,hi⟩:=hx (by omega);refine(AnyO.slices_IsSorted_int Tryz.laysSorted b off c l.toArray w (fun i hi'=> ?_) (by simp;omega)).mono ?_
  .have hil:i<l.length:=by simpa using hi'
   rw [hi i hil]
   congr 2
   rw [List.getD_eq_getElem?_getD,List.getElem?_eq_getElem hil];simp [hil]
  .rintro e w' ⟨he,q,hw⟩;exact⟨he,by rw [hw];exact Go.Proofs.below_drewN w q⟩
def vP(rs nums:List Int):List Int:=(oZ (gB rs (rs.map cls) 0)).map fun j=>nums.getD j.toNat 0
theorem aiD(line:ByteArray)(rs:List Int)(l:List PR)(v:Value)(w:World)(aL aT aC:Addr)(hs:line.size<=600)(hr:dh line=some rs)(hr3:rs.length<=300)(hl:l.length<=600)(hE:Env w aL aT aC)(hB:Br w)(hv:uS w v l)(hx:∀x∈l,rG line x)(hM:(fU line l 0).length=rs.length):
  Calls prog 109 #[.string line,v] w fun e w'=>e= .returned (.bool (rR (vP rs (fU line l 0))))/\Below w.heap.size w w':=by
 obtain⟨iI,p8,p9,qb,qd⟩:=info_parts Tryz.VT;have HP:=ag6 line l v w hs hl hv hx;have Jv:Hid (∀W,Below w.heap.size w W->Calls prog 55 #[.string line,.int .i64 0] W fun e w'=>∃g,e= .returned (.slice (some ⟨g,0,none⟩) rs.length rs.length)/\aK w' W.heap.size 3 g rs.length (iv (gB rs (rs.map cls) 0))/\Below W.heap.size W w'):=fun W hW=>aa5 line rs 0 W aL aT aC hs hr hr3 (hE.below hW) (hB.below hW)
 have HOr:Hid (∀W g B,aK W B 3 g rs.length (iv (gB rs (rs.map cls) 0))->Calls prog 59 #[.slice (some ⟨g,0,none⟩) rs.length rs.length] W fun e w'=>∃g,e= .returned (.slice (some ⟨g,0,none⟩) rs.length rs.length)/\aK w' W.heap.size 3 g rs.length (iv (oZ (gB rs (rs.map cls) 0)))/\Below W.heap.size W w'):=fun W g B h=>by
  rw [<-agL (Wt rs)];exact aa8 _ g 0 rs.length rs.length W (Na rs) (by omega) (h.lt g rfl).2 (fun k hk=>by rw [Nat.zero_add];exact jZ h k hk) (Wt rs)
 have Qt:Hid (∀j∈oZ (gB rs (rs.map cls) 0),0<=j/\j<rs.length):=XV rs;have hol:(oZ (gB rs (rs.map cls) 0)).length=rs.length:=by rw [agJ,Na]
 have cK:Hid (vP rs (fU line l 0)=(oZ (gB rs (rs.map cls) 0)).map fun j=>(fU line l 0).getD j.toNat 0):=rfl;rw [hM]at HP;obtain⟨SH,Uz⟩:∃SH,SH=vP rs (fU line l 0):=⟨_,rfl⟩
 rw [<-Uz]at cK ⊢;have CR:Hid (∀W v,tH W v SH->Calls prog 185 #[v] W fun e w'=>e= .returned (.bool (rR SH))/\Below W.heap.size W w'):=fun W v h=>ae3 SH v W (by rw [cK.out,List.length_map,hol];omega) h
 generalize rR SH=R at*;generalize gB rs (rs.map cls) 0=LV at*;generalize oZ LV=OV at*;generalize fU line l 0=NU at*;obtain⟨n,hN⟩:∃n,n=rs.length:=⟨_,rfl⟩
 rw [<-hN]at hr3 HP Jv HOr Qt hol hM;have kR:Hid (NU.length=n):=hM;have Qs:Hid (OV.length=n):=hol;clear hN hol hM Uz hE hB hv hx hr;go_enter func109,ntmps109;go_wp2_with fail;refine HP.mono ?_;clear HP;rintro ev W1 ⟨nv1,rfl,hrn,hb1⟩;obtain⟨na,nc,rfl⟩:=xH hrn;have Qo:Hid (W1.ownsRow w.heap.size 3 1 (.slice na n nc) n (NU.map (Value.int .i64))):=hrn;have HB1:Hid (Below w.heap.size w W1):=hb1;have hz1:=hb1.size;clear hrn hb1;go_wp2_with(at_make;refine wpList_make_own _ rfl _ _ 31 rfl W1.heap.size 3 iI (.int .i64 0) 1 underlying31 p8 p9 qb .i64 .i64 _ n rfl rfl (by omega) (by rw [qd];omega) (by unfold maxLen;omega) (by omega) ?_);intro W2 hown2 hg2;have HB2:Hid (Below W1.heap.size W1 W2):=(Below.refl _ _).grown hg2 (Nat.le_refl _) (fun k hk=>by cases hk);have hz2:=HB2.out.size;have PL:Hid (Below w.heap.size w W2):=HB1.out.trans (HB2.out.mono hz1);have iL:Hid (W2.ownsRow W1.heap.size 3 1 (.slice (some ⟨W1.heap.size,0,none⟩) 0 n) 0 []):=hown2;clear hown2 hg2;go_wp2_with fail;refine(Jv.out _ PL.out).mono ?_;rintro ev W3 ⟨gl,rfl,hrl,hb3⟩;have HRl:Hid (aK W3 W2.heap.size 3 gl n (iv LV)):=hrl;have HB3:Hid (Below W2.heap.size W2 W3):=hb3;have hz3:=hb3.size;clear hrl hb3;go_wp2_with fail;refine(HOr.out _ _ _ HRl.out).mono ?_;rintro ev W4 ⟨go,rfl,hro,hb4⟩;have JJ:Hid (W4.ownsRow W3.heap.size 3 1 (.slice (some ⟨go,0,none⟩) n n) n (iv OV)):=hro;have dL:Hid (Below W2.heap.size W2 W4):=HB3.out.trans (hb4.mono hz3);have yO:=dL.out.size;have xY:Hid (W4.ownsRow W1.heap.size 3 1 (.slice (some ⟨W1.heap.size,0,none⟩) 0 n) 0 []):=qw iL.out dL.out;have HN4:Hid (W4.ownsRow w.heap.size 3 1 (.slice na n nc) n (NU.map (Value.int .i64))):=qw (qw Qo.out HB2.out) dL.out;have aaC:Hid (Below w.heap.size w W4):=PL.out.trans (dL.out.mono (by omega));clear hro hb4 Jv HOr;have aaB:Hid (∀g,(Value.slice na n nc).ownBlock=some g->g<W1.heap.size):=fun g hg=>(Qo.out.lt g hg).2
 have PD:Hid (go<W4.heap.size/\W3.heap.size<=go):=⟨(JJ.out.lt go rfl).2,(JJ.out.lt go rfl).1⟩
 have aku:W1.heap.size<W2.heap.size:=(iL.out.lt W1.heap.size rfl).2;have akv:W1.heap.size<W3.heap.size:=by omega
 go_wp2;go_loopg [6,8,19] n (fun gk sv _ uo W=>∃(i:Nat),i<=n/\gk=n - i/\uo= .int .i64 i/\W.ownsRow W1.heap.size 3 1 sv i ((SH.take i).map (Value.int .i64))/\(∀k,sv.ownBlock=some k->k=W1.heap.size∨W4.heap.size<=k)/\W4.heap.size<=W.heap.size/\Below w.heap.size w W/\(∀k,k<W4.heap.size->k≠W1.heap.size->W.heap[k]? =W4.heap[k]?));case atStart=>exact⟨0,by omega,rfl,rfl,by simpa using xY.out,fun k hk=> .inl (by simpa [Value.ownBlock]using hk.symm),Nat.le_refl _,aaC.out,fun _ _ _=>rfl⟩
 case round=>
  rename World=>wa
  obtain⟨i,hi,rfl,rfl,hown,hap,hsz,hb,hfr⟩:=hrel;obtain⟨sa,sc,rfl⟩:=xH hown;have hbz:=hb.size;by_cases hlt:i<n
  .have hil:i<OV.length:=by rw [Qs.out];exact hlt
   obtain⟨jm0,jm1⟩:=Qt.out (OV[i]'hil) (List.getElem_mem hil);have hrow:wa.ownsRow W3.heap.size 3 1 (.slice (some ⟨go,0,none⟩) n n) n (iv OV):=kK JJ.out fun k o hk ho=>by
    obtain rfl:go=k:=by simpa [Value.ownBlock]using hk
    rw [hfr go PD.out.1 (by have:=PD.out.2;omega)];exact ho
   have hco:wa.cell? ⟨go,i,none⟩=some (.int .i64 (OV[i]'hil)):=by rw [World.ownsRow.cellAt hrow i (by omega)];simp [iv,hil]
   obtain⟨jj,hjj⟩:∃jj:Nat,OV[i]'hil=(jj:Int):=⟨(OV[i]'hil).toNat,by omega⟩
   have hrn:wa.ownsRow w.heap.size 3 1 (.slice na n nc) n (NU.map (Value.int .i64)):=kK HN4.out fun k o hk ho=>by
    have hk1:=aaB.out k hk;rw [hfr k (by omega) (by omega)];exact ho
   obtain⟨ng,nd,hne,hnd,_,akl⟩:=IK hrn (by omega);simp only [Value.slice.injEq,true_and]at hne;obtain⟨rfl,rfl⟩:=hne;have hjn:jj<n:=by omega
   have wY:jj<NU.length:=by rw [kR.out];exact hjn
   have hcn:wa.cell? ⟨ng,jj,none⟩=some (.int .i64 (NU.getD jj 0)):=by
    rw [World.ownsRow.cellAt hrn jj (by omega),List.getElem?_map,List.getElem?_eq_getElem wY,List.getD_eq_getElem?_getD,List.getElem?_eq_getElem wY];rfl
   have htk:SH.take (i+1)=SH.take i++[NU.getD jj 0]:=by
    have LQ:i<SH.length:=by rw [cK.out,List.length_map];exact hil
    rw [List.take_succ_eq_append_getElem LQ]
    congr 2
    simp only [cK.out,List.getElem_map,hjj,Int.toNat_natCast]
   rw [hjj]at hco;have wz:Hid (SH.take (i+1)=SH.take i++[NU.getD jj 0]):=htk;generalize NU.getD jj 0=q at*;have hin:(i:Int)<(n:Int):=by omega
   have hji:(jj:Int)<(n:Int):=by omega
   have vU:Hid (∀k,(Value.slice sa i sc).ownBlock=some k->k=W1.heap.size∨W4.heap.size<=k):=hap;have HFr:Hid (∀k,k<W4.heap.size->k≠W1.heap.size->wa.heap[k]? =W4.heap[k]?):=hfr;have HB:Hid (Below w.heap.size w wa):=hb;clear hjj htk hrow hrn hil wY jm0 jm1 hap hfr hb;have hbW:W1.heap.size<=wa.heap.size:=by omega
   go_wp2_with(at_builtin;refine Pn _ rfl _ _ 31 rfl W1.heap.size 3 iI (.int .i64 0) 8 underlying31 p8 p9 qb qd rfl (by decide) _ _ _ rfl hown _ _ _ rfl rfl rfl (by omega) hbW ?_);intro v5 w5 hown5 hg5 hv5;have bW:Hid (Below w.heap.size w w5):=HB.out.grown hg5 hbz (fun y hy=>by have:=(hown.lt y hy).1;omega);have uQ:Hid (w5.ownsRow W1.heap.size 3 1 v5 (i+1) ((SH.take (i+1)).map (Value.int .i64))):=by
    show World.ownsRow _ _ _ _ _ _ _;rw [wz.out,List.map_append,List.map_take];exact hown5
   have AV:Hid (∀k,v5.ownBlock=some k->k=W1.heap.size∨W4.heap.size<=k):=fun k hk=>by
    rcases hv5 with h|h
    .rw [h]at hk;exact vU.out k hk
    .rw [h]at hk;have:=Option.some.inj hk
     first|omega|(simp at this;omega)
   have CK:Hid (∀k,k<W4.heap.size->k≠W1.heap.size->w5.heap[k]? =W4.heap[k]?):=fun k h1 h2=>by
    rw [hg5.block k (by omega) (fun e=>by rcases vU.out k e.symm with h|h<;>omega)];exact HFr.out k h1 h2
   have hsz5:W4.heap.size<=w5.heap.size:=by have:=hg5.size;omega
   clear hown hown5 hg5 hv5;go_wp2;go_roundg (n - (i+1));case measure=>omega
   case rel=>exact⟨i+1,by omega,rfl,by go_num,uQ.out,AV.out,hsz5,bW.out,CK.out⟩
  .obtain rfl:i=n:=by omega
   have hin:¬(i:Int)<(i:Int):=by omega
   have LQ:SH.length=i:=by rw [cK.out,List.length_map];exact Qs.out
   rw [List.take_of_length_le (by omega)]at hown;have zw:Hid (tH wa (.slice sa i sc) SH):=tH.agA hown;have HB:Hid (Below w.heap.size w wa):=hb;clear hown hap hb hfr LQ;go_wp2_with fail;refine(CR.out _ _ zw.out).mono ?_;rintro ev w6 ⟨rfl,hb6⟩;have bO:Hid (Below w.heap.size w w6):=HB.out.trans (hb6.mono hbz);clear hb6;go_wp2;go_ret;exact⟨rfl,bO.out⟩
def EW(line:ByteArray)(rs:List Int)(l:List PR):Bool:=(found (rs.map cls)==0)&&rR (vP rs (fU line l 0))&&l.all (kX line)
theorem ae1(line:ByteArray)(rs:List Int)(l:List PR)(v:Value)(w:World)(aL aT aC:Addr)(hs:line.size<=600)(hr:dh line=some rs)(hr3:rs.length<=300)(hl:l.length<=600)(hE:Env w aL aT aC)(hB:Br w)(hv:uS w v l)(hx:∀x∈l,rG line x)(hM:(fU line l 0).length=rs.length):
  Calls prog 64 #[.string line,v] w fun e w'=>e= .returned (.bool (EW line rs l))/\Below w.heap.size w w':=by
 have HP:Hid (Calls prog 108 #[.string line] w fun e w'=>e= .returned (.int .i64 (found (rs.map cls)))/\Below w.heap.size w w'):=ag2 line rs w aL aT aC hs hr hE;have HS:Hid (∀W,Below w.heap.size w W->Calls prog 109 #[.string line,v] W fun e w'=>e= .returned (.bool (rR (vP rs (fU line l 0))))/\Below W.heap.size W w'):=fun W hW=>aiD line rs l v W aL aT aC hs hr hr3 hl (hE.below hW) (hB.below hW) (hv.below hW) hx hM
 have HI:Hid (∀W,Below w.heap.size w W->Calls prog 110 #[.string line,v] W fun e w'=>e= .returned (.bool (l.all (kX line)))/\Below W.heap.size W w'):=fun W hW=>aeK line l v W aL aT aC hs hl (hE.below hW) (hv.below hW) hx
 have HR:Hid (EW line rs l=((found (rs.map cls)==0)&&rR (vP rs (fU line l 0))&&l.all (kX line))):=rfl;generalize EW line rs l=R at*;generalize rR (vP rs (fU line l 0))=D at*;generalize l.all (kX line)=C at*;generalize found (rs.map cls)=F at*;have hR:=HR.out;clear hE hB hv hx hM hr;by_cases hF:F=0
 .subst hF;cases D
  .simp at hR;subst hR;go_enter func64,ntmps64;go_wp2_with fail;refine HP.out.mono ?_;rintro ev w1 ⟨rfl,hb1⟩;have HB1:Hid (Below w.heap.size w w1):=hb1;have hz1:=hb1.size;clear hb1;go_wp2_with fail;refine(HS.out _ HB1.out).mono ?_;rintro ev w2 ⟨rfl,hb2⟩;have HB2:Hid (Below w.heap.size w w2):=HB1.out.trans (hb2.mono hz1);clear hb2;go_wp2;go_ret;exact⟨rfl,HB2.out⟩
  .simp at hR;subst hR;go_enter func64,ntmps64;go_wp2_with fail;refine HP.out.mono ?_;rintro ev w1 ⟨rfl,hb1⟩;have HB1:Hid (Below w.heap.size w w1):=hb1;have hz1:=hb1.size;clear hb1;go_wp2_with fail;refine(HS.out _ HB1.out).mono ?_;rintro ev w2 ⟨rfl,hb2⟩;have HB2:Hid (Below w.heap.size w w2):=HB1.out.trans (hb2.mono hz1);have hz2:=HB2.out.size;clear hb2;go_wp2_with fail;refine(HI.out _ HB2.out).mono ?_;rintro ev w3 ⟨rfl,hb3⟩;have HB3:Hid (Below w.heap.size w w3):=HB2.out.trans (hb3.mono hz2);clear hb3;go_wp2;go_ret;exact⟨rfl,HB3.out⟩
 .have hF':(F==0)=false:=by simpa using hF
  rw [hF']at hR;simp at hR;subst hR;go_enter func64,ntmps64;go_wp2_with fail;refine HP.out.mono ?_;rintro ev w1 ⟨rfl,hb1⟩;have HB1:Hid (Below w.heap.size w w1):=hb1;clear hb1;go_wp2;go_ret;exact⟨rfl,HB1.out⟩
def lT:Nat->List Int->List Nat
 |_,[]=>[]
 |p,r::rs=>p::lT (p+wd r) rs
theorem Ob(p:Nat)(rs:List Int):(lT p rs).length=rs.length:=by
 induction rs generalizing p with
 |nil=>rfl
 |cons r rs ih=>simp [lT,ih]
theorem ahm(p:Nat)(rs:List Int)(j:Nat)(hj:j<rs.length):(o7 p rs).getD j 0=(lT p rs).getD j 0:=by
 induction rs generalizing p j with
 |nil=>simp at hj
 |cons r rs ih=>
  cases j with
  |zero=>simp [o7,lT]
  |succ j=>simpa [o7,lT]using ih (p+wd r) j (by simpa using hj)
theorem Au {x:ByteArray}{a:Nat}{r:Int}(h1:a<x.size)(h2:aJ x a≠0)(h3:r=gJ x a):wd r=aJ x a:=by rw [h3];exact ai7 x a h1 h2
theorem Yk {x:ByteArray}:∀(r1:List Int)(a b:Nat)(r2:List Int),RX x a b r1->lT a (r1++r2)=lT a r1++lT b r2
 |[],a,b,r2,h=>by have:a=b:=h;subst this;rfl
 |r::r1,a,b,r2,h=>by
  obtain⟨h1,h2,h3,h4⟩:=h;have hw:=Au h1 h2 h3;rw [List.cons_append,lT,lT,hw,Yk r1 _ b r2 h4];rfl
theorem Yl {x:ByteArray}:∀(r1:List Int)(a b:Nat),RX x a b r1->∀q∈lT a r1,a<=q/\q<b
 |[],a,b,_,q,hq=>by cases hq
 |r::r1,a,b,h,q,hq=>by
  obtain⟨h1,h2,h3,h4⟩:=h;have hw:=Au h1 h2 h3;have hle:=Cs h4;rw [lT,hw]at hq;rcases List.mem_cons.1 hq with rfl|hq
  .omega
  .have:=Yl r1 _ b h4 q hq;omega
theorem Ym {x:ByteArray}:∀(r1:List Int)(a:Nat),RA x a r1->∀q∈lT a r1,a<=q
 |[],a,_,q,hq=>by cases hq
 |r::r1,a,h,q,hq=>by
  obtain⟨h1,h2,h3,h4⟩:=h;have hw:=Au h1 h2 h3;rw [lT,hw]at hq;rcases List.mem_cons.1 hq with rfl|hq
  .omega
  .have:=Ym r1 _ h4 q hq;omega
theorem NJ {x:ByteArray}:∀(ps:List PR)(a k:Nat)(rs:List Int),uY a x.size ps->RA x a rs->(∀y∈ps,PX x y)->fU x ps k=(lT a rs).map (fun q=>pI q ps k)
 |[],a,k,rs,hc,hr,_=>by
  have hc':a=x.size:=hc;cases rs with
  |nil=>rfl
  |cons r rs=>have:=hr.1;omega
 |y::ys,a,k,rs,hc,hr,hx=>by
  obtain⟨c1,c2,c3⟩:=hc;have px:=hx y List.mem_cons_self;obtain⟨r1,r2,e1,e2,e3⟩:=EP px.tl px.aT rs a hr (by omega);have hrx:Ar x y=r1:=by unfold Ar;rw [c1,EU px.tl e2];rfl
  rw [fU,hrx,e1,Yk r1 a y.di r2 e2,List.map_append]
  congr 1
  .have h1:∀q∈lT a r1,pI q (y::ys) k=(k:Int):=fun q hq=>by
    have:=Yl r1 a y.di e2 q hq;rw [pI,if_pos ⟨by omega,this.2⟩]
   rw [List.map_congr_left h1,List.map_const',Ob]
  .rw [NJ ys y.di (k+1) r2 c3 e3 (fun z hz=>hx z (List.mem_cons_of_mem _ hz))];refine List.map_congr_left fun q hq=> ?_
   have:=Ym r2 y.di e3 q hq;rw [pI,if_neg (fun h=>by omega)]
theorem Ex {x:ByteArray}{ps:List PR}{rs:List Int}(hc:uY 0 x.size ps)(hr:RA x 0 rs)(hx:∀y∈ps,PX x y):(fU x ps 0).length=rs.length:=by
 rw [NJ ps 0 0 rs hc hr hx,List.length_map,Ob]
theorem aiE {x:ByteArray}{ps:List PR}{rs:List Int}(hc:uY 0 x.size ps)(hr:RA x 0 rs)(hx:∀y∈ps,PX x y):vP rs (fU x ps 0)=IU rs ps:=by
 unfold vP IU;refine List.map_congr_left fun j hj=> ?_
 obtain⟨j0,j1⟩:=XV rs j hj;have hjl:j.toNat<rs.length:=by omega
 rw [ahm 0 rs _ hjl,NJ ps 0 0 rs hc hr hx];have hl:j.toNat<(lT 0 rs).length:=by rw [Ob];exact hjl
 rw [List.getD_eq_getElem?_getD,List.getElem?_map,List.getD_eq_getElem?_getD,List.getElem?_eq_getElem hl];rfl
theorem aaf:∀(l:List Int)(a:Int),vR a l=true↔(∀x,l[0]? =some x->a<=x)/\∀i,i+1<l.length->l.getD i 0<=l.getD (i+1) 0
 |[],a=>by simp [vR]
 |k::ks,a=>by
  rw [vR];by_cases h:k<a
  .rw [if_pos h];constructor
   .intro h';cases h'
   .intro⟨h1,_⟩;have:=h1 k rfl;omega
  .rw [if_neg h,aaf ks k];constructor
   .rintro⟨h1,h2⟩;refine⟨fun x hx=>by have:k=x:=(by simpa using hx);omega,fun i hi=> ?_⟩;cases i with
    |zero=>
     cases ks with
     |nil=>simp at hi
     |cons b bs=>simpa using h1 b rfl
    |succ i=>simpa using h2 i (by simpa using hi)
   .rintro⟨_,h2⟩;refine⟨fun x hx=> ?_,fun i hi=> ?_⟩
    .cases ks with
     |nil=>cases hx
     |cons b bs=>
      have hb:b=x:=by simpa using hx
      subst hb;simpa using h2 0 (by simp)
    .simpa using h2 (i+1) (by simpa using hi)
theorem down_up {l:List Int}(h:∀x∈l, -1<=x):rR l=vR (-1) l:=by
 rw [Bool.eq_iff_iff,aaf];unfold rR;by_cases h0:l.length=0
 .have:l=[]:=List.length_eq_zero_iff.1 h0;subst this;simp
 .rw [if_neg h0,Lib.downOK_iff];have hg:∀i,i<l.length->l.toArray[i]! =l.getD i 0:=fun i hi=>by
   rw [List.getD_eq_getElem?_getD,List.getElem?_eq_getElem hi];simp [hi]
  constructor
  .intro h1;refine⟨fun x hx=>h x (List.mem_of_getElem? hx),fun i hi=> ?_⟩;have:=h1 i (by omega);rw [hg _ (by omega),hg _ (by omega)]at this;simp at this;exact this
  .rintro⟨_,h2⟩ i hi;rw [hg _ (by omega),hg _ (by omega)];have:=h2 i (by omega);simp;exact this
theorem X4(q:Nat):∀(l:List PR)(k:Nat), -1<=pI q l k
 |[],_=>by simp [pI]
 |x::xs,k=>by
  rw [pI];split
  .omega
  .exact X4 q xs (k+1)
theorem agM {x:ByteArray}{ps:List PR}{rs:List Int}(hc:uY 0 x.size ps)(hr:RA x 0 rs)(hx:∀y∈ps,PX x y):rR (vP rs (fU x ps 0))=ED rs ps:=by
 rw [aiE hc hr hx];unfold ED;refine down_up fun z hz=> ?_
 obtain⟨j,_,rfl⟩:=List.mem_map.1 hz;exact X4 _ _ _
theorem Yt {x:ByteArray}{rs:List Int}{y:PR}(hr:RA x 0 rs)(hx:PX x y):rG x y:=by
 obtain⟨r0,r1,r2,_,_,h1,_⟩:=YG hr (Nat.le_of_lt hx.ft) hx.tl hx.aF hx.aT;refine⟨Nat.le_of_lt hx.ft,hx.tl,⟨r1,EU hx.tl h1⟩,fun hk=> ?_⟩;obtain⟨b1,b2,b3,b4,b5,_,_⟩:=hx.bd hk;have htl:=hx.tl;obtain⟨q0,q1,q2,_,_,h2,_⟩:=YG hr b2 (by omega:y.end_<=x.size) b4 b5;exact⟨b2,by omega,q1,EU (by omega) h2⟩
theorem MU {w wr:World}{B b p:Nat}{z:ByteArray}{r:Int}{rt:List Int}(hra:RA z p (r::rt))(hit:wr.heap[b]? =some (.stringIter z p))(hb:Below B w wr)(hB:B<=b):
  ∃wi n,(∀ty,(Instr.next (.pointer (some ⟨b,0,none⟩)) true ty).run prog wr= .ok (.tuple #[.bool true,.int .i64 p,.int .i32 r]) wi)/\RA z (p+n) rt/\p+n<=z.size/\0<n/\wd r=n
   /\Hid (wi.heap[b]? =some (.stringIter z (p+n)))/\Hid (Below B w wi)/\wi=wr.iterAt b z (p+n):=by
 obtain⟨hlt,hz,hr0,nK⟩:=hra;refine⟨_,aJ z p,fun ty=> ?_,nK,Cz z p hlt hz,by omega,Au hlt hz hr0,Lib.iterAt_heap wr _ z p _ hit,Lib.below_iterAt hb hB _ _,rfl⟩;rw [Lib.run_next_any_at wr b z p ty hit hlt,Cy z p hz,hr0];rfl
def oU:List Int->Nat->Int
 |[],_=> -1
 |r::rs,p=>if bI r then(p:Int)else oU rs (p+wd r)
def oQ:List Int->Bool->Nat->Int
 |[],_,_=> -1
 |r::rs,e,p=>if e&&bI r then(p:Int)else oQ rs (r==92&& !e) (p+wd r)
theorem TE(s:ByteArray)(f t:Nat)(rs:List Int)(w:World)(hf:f<=t)(ht:t<=s.size)(hs:s.size<=100000)(hr:dh (s.extract f t)=some rs)(hE:Sp w):
  Calls prog 167 #[.string s,.int .i64 f,.int .i64 t] w fun e w'=>e= .returned (.int .i64 (oU rs f))/\Below w.heap.size w w':=by
 have HH:Hid (∀(r:Int)(W:World),Below w.heap.size w W->Calls prog 170 #[.int .i32 r] W fun e w'=>e= .returned (.bool (bI r))/\Below W.heap.size W w'):=fun r W hW=>MO r W (hE.below hW)
 have hzs:(s.extract f t).size<=t - f:=by rw [ByteArray.size_extract];omega
 have sZ:Hid (RA (s.extract f t) 0 rs):=si hr;obtain⟨R,hR⟩:∃R,R=oU rs f:=⟨_,rfl⟩
 rw [<-hR];have HR:Hid (oU rs (f+0)=R):=hR.symm;clear hE hr hR;go_enter func167,ntmps167;go_wp2;generalize s.extract f t=z at*;go_loopg [7,8] z.size (fun gk _ _ W=>∃(p:Nat)(rt:List Int),p<=z.size/\gk=z.size - p/\RA z p rt/\oU rt (f+p)=R/\W.heap[w.heap.size]? =some (.stringIter z p)/\Below w.heap.size w W);case atStart=>exact⟨0,rs,by omega,rfl,sZ.out,HR.out,World.iter_heap w z 0,(Below.refl _ _).alloc (Nat.le_refl _) _⟩
 case round=>
  obtain⟨p,yZ,hp,rfl,hra,hj,hit,hb⟩:=hrel;cases yZ with
  |cons r rt=>
   obtain⟨wi,n,hnx,nK,hle,hn,hwd,HI1,HB1, -⟩:=MU hra hit hb (Nat.le_refl _);have oD:Hid (RA z (p+n) rt):=nK;rw [oU,hwd]at hj;have rz:=HH.out r wi HB1.out;clear hra nK hwd hit hb;go_wp2_with fail;refine rz.mono ?_;rintro ev w3 ⟨rfl,hb3⟩;have HI3:Hid (w3.heap[w.heap.size]? =some (.stringIter z (p+n))):=aR hb3 HI1.out;have HB3:Hid (Below w.heap.size w w3):=HB1.out.trans (hb3.mono HB1.out.size);clear hnx hb3 rz;cases hh:bI r
   .rw [hh,if_neg (by simp)]at hj;have HJ:Hid (oU rt (f+p+n)=R):=hj;clear hj;go_wp2;go_roundg (z.size - (p+n));case measure=>omega
    case rel=>exact⟨p+n,rt,hle,rfl,oD.out,by rw [<-Nat.add_assoc];exact HJ.out,HI3.out,HB3.out⟩
   .rw [hh,if_pos rfl]at hj;have HJ:Hid (((f+p:Nat):Int)=R):=hj;clear hj;go_wp2;go_ret;exact⟨kM (by rw [<-HJ.out];omega),HB3.out⟩
  |nil=>
   have HB:Hid (Below w.heap.size w wr):=hb;have HJ:Hid (-1=R):=hj;have hnx:∀ty,(Instr.next (.pointer (some ⟨w.heap.size,0,none⟩)) true ty).run prog wr= .ok (.tuple #[.bool false]) wr:=fun ty=>Lib.run_next_end_at wr w.heap.size z p ty hit (by have:p=z.size:=hra;omega)
   clear hb hj hit hra;go_wp2;go_ret;exact⟨kM HJ.out,HB.out⟩
theorem ac0(s:ByteArray)(f t:Nat)(rs:List Int)(w:World)(hf:f<=t)(ht:t<=s.size)(hs:s.size<=100000)(hr:dh (s.extract f t)=some rs)(hE:Sp w):
  Calls prog 168 #[.string s,.int .i64 f,.int .i64 t] w fun e w'=>e= .returned (.int .i64 (oQ rs false f))/\Below w.heap.size w w':=by
 have HH:Hid (∀(r:Int)(W:World),Below w.heap.size w W->Calls prog 170 #[.int .i32 r] W fun e w'=>e= .returned (.bool (bI r))/\Below W.heap.size W w'):=fun r W hW=>MO r W (hE.below hW)
 have hzs:(s.extract f t).size<=t - f:=by rw [ByteArray.size_extract];omega
 have sZ:Hid (RA (s.extract f t) 0 rs):=si hr;obtain⟨R,hR⟩:∃R,R=oQ rs false f:=⟨_,rfl⟩
 rw [<-hR];have HR:Hid (oQ rs false (f+0)=R):=hR.symm;clear hE hr hR;go_enter func168,ntmps168;go_wp2;generalize s.extract f t=z at*;go_loopg [7,8,9] z.size (fun gk ev _ _ W=>∃(p:Nat)(rt:List Int)(x:Bool),ev= .bool x/\p<=z.size/\gk=z.size - p/\RA z p rt/\oQ rt x (f+p)=R/\W.heap[w.heap.size]? =some (.stringIter z p)/\Below w.heap.size w W);case atStart=>exact⟨0,rs,false,rfl,by omega,rfl,sZ.out,HR.out,World.iter_heap w z 0,(Below.refl _ _).alloc (Nat.le_refl _) _⟩
 case round=>
  obtain⟨p,yZ,x,rfl,hp,rfl,hra,hj,hit,hb⟩:=hrel;cases yZ with
  |cons r rt=>
   obtain⟨wi,n,hnx,nK,hle,hn,hwd,HI1,HB1, -⟩:=MU hra hit hb (Nat.le_refl _);have oD:Hid (RA z (p+n) rt):=nK;rw [oQ,hwd]at hj;have rz:=HH.out r wi HB1.out;clear hra nK hwd hit hb;cases x
   .rw [Bool.false_and,if_neg (by simp)]at hj;cases mq:r==92;all_goals
     rw [mq]at hj;have HJ:Hid (oQ rt _ (f+p+n)=R):=hj;clear hj rz;go_wp2;go_roundg (z.size - (p+n));case measure=>omega
     case rel=>exact⟨p+n,rt,_,rfl,hle,rfl,oD.out,by rw [<-Nat.add_assoc];exact HJ.out,HI1.out,HB1.out⟩
   .go_wp2_with fail;refine rz.mono ?_;rintro ev w3 ⟨rfl,hb3⟩;have HI3:Hid (w3.heap[w.heap.size]? =some (.stringIter z (p+n))):=aR hb3 HI1.out;have HB3:Hid (Below w.heap.size w w3):=HB1.out.trans (hb3.mono HB1.out.size);clear hnx hb3 rz;cases hh:bI r
    .rw [hh,Bool.and_false,if_neg (by simp),Bool.not_true,Bool.and_false]at hj;have HJ:Hid (oQ rt false (f+p+n)=R):=hj;clear hj;cases mq:r==92;all_goals
      go_wp2;go_roundg (z.size - (p+n));case measure=>omega
      case rel=>exact⟨p+n,rt,_,rfl,hle,rfl,oD.out,by rw [<-Nat.add_assoc];exact HJ.out,HI3.out,HB3.out⟩
    .rw [hh,Bool.and_self,if_pos rfl]at hj;have HJ:Hid (((f+p:Nat):Int)=R):=hj;clear hj;go_wp2;go_ret;exact⟨kM (by rw [<-HJ.out];omega),HB3.out⟩
  |nil=>
   have HB:Hid (Below w.heap.size w wr):=hb;have HJ:Hid (-1=R):=hj;have hnx:∀ty,(Instr.next (.pointer (some ⟨w.heap.size,0,none⟩)) true ty).run prog wr= .ok (.tuple #[.bool false]) wr:=fun ty=>Lib.run_next_end_at wr w.heap.size z p ty hit (by have:p=z.size:=hra;omega)
   clear hb hj hit hra;go_wp2;go_ret;exact⟨kM HJ.out,HB.out⟩
