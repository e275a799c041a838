import Derived.Test.YtkbinfhclaafhaaGreatDoorH23
import Derived.Test.YtkbinfhclaafhaaGreatDoorH26
import Derived.Test.YtkbinfhclaafhaaGreatDoorH04
import Derived.Test.YtkbinfhclaafhaaGreatDoorH17
import Derived.Test.YtkbinfhclaafhaaGreatDoorH21
import Derived.Test.YtkbinfhclaafhaaGreatDoorH22
import Derived.Test.YtkbinfhclaafhaaGreatDoorH19
import Derived.Deep.DrawnRows
import Derived.Deep.DeepCutAuto
namespace Go.Proofs.YtkbinfhclaafhaaGreatDoor
open Go.RowKit
open Go.Proofs.Tryz
set_option maxRecDepth 100000
set_option maxHeartbeats 32000000
def jK(s:ByteArray)(bg i:Nat):List Nat:=
 if i<s.size then if bt s i=10 then(i - bg)::jK s (i+1) (i+1)else jK s bg (i+1)else [i - bg]
termination_by s.size - i
theorem M9 {s:ByteArray}{bg i:Nat}(h:i<s.size)(hb:bt s i=10):jK s bg i=(i - bg)::jK s (i+1) (i+1):=by rw [jK,if_pos h,if_pos hb]
theorem Ws {s:ByteArray}{bg i:Nat}(h:i<s.size)(hb:¬bt s i=10):jK s bg i=jK s bg (i+1):=by rw [jK,if_pos h,if_neg hb]
theorem Wq {s:ByteArray}{bg i:Nat}(h:¬i<s.size):jK s bg i=[i - bg]:=by rw [jK,if_neg h]
theorem aft(s:ByteArray)(bg i:Nat):∃m ms,jK s bg i=m::ms/\i - bg<=m:=by
 fun_induction jK s bg i with
 |case1 bg i h1 h2 ih=>exact⟨_,_,rfl,Nat.le_refl _⟩
 |case2 bg i h1 h2 ih=>
  obtain⟨m,ms,h,hm⟩:=ih;exact⟨m,ms,h,by omega⟩
 |case3 bg i h1=>exact⟨_,_,rfl,Nat.le_refl _⟩
def jn(L:List Nat)(line p:Nat):List PR->Prop
 |[]=>line<L.length/\p=L.getD line 0/\∀k,line<k->k<L.length->L.getD k 0=0
 |x::xs=>line<=x.line/\x.line<L.length/\(line<x.line->p=L.getD line 0/\∀k,line<k->k<x.line->L.getD k 0=0)/\x.from_=(if line<x.line then 0 else p)/\x.from_<x.di/\x.di<=L.getD x.line 0/\jn L x.line x.di xs
def JR(L:List Nat)(line pc ln bg fr:Nat):Prop:=bg<=fr/\((line=ln/\pc=fr - bg)∨(line<ln/\pc=L.getD line 0/\(∀k,line<k->k<ln->L.getD k 0=0)/\fr=bg))
theorem Gc {L:List Nat}{ln m:Nat}{ms:List Nat}(h:L.drop ln=m::ms):ln<L.length/\L.getD ln 0=m/\L.drop (ln+1)=ms:=by
 have hl:ln<L.length:=by
  rcases Nat.lt_or_ge ln L.length with h1|h1
  .exact h1
  .rw [List.drop_of_length_le h1]at h;cases h
 rw [List.drop_eq_getElem_cons hl]at h;injection h with h1 h2
 exact⟨hl,by rw [List.getD_eq_getElem?_getD,List.getElem?_eq_getElem hl];exact h1,h2⟩
theorem SV {s:ByteArray}{L:List Nat}{line pc ln bg fr p k B E:Nat}{R:List PR}(h:JR L line pc ln bg fr)(hf:fr<=p)(hL:L.drop ln=jK s bg p)(hR:∀line' pc',JR L line' pc' ln bg p->jn L line' pc' R):jn L line pc (kG ln k bg fr p B E++R):=by
 obtain⟨hb,h⟩:=h;obtain⟨m,ms,hm,hmp⟩:=aft s bg p;obtain⟨h1,h2,_⟩:=Gc (hL.trans hm);unfold kG;by_cases hfp:fr<p
 .rw [if_pos hfp];refine⟨?_,h1,?_,?_,?_,?_,hR _ _ ⟨by omega,.inl ⟨rfl,rfl⟩⟩⟩
  .show line<=ln;omega
  .intro hlt;have hlt':line<ln:=hlt;rcases h with⟨h3,_⟩|⟨_,h4,h5,_⟩
   .omega
   .exact⟨h4,h5⟩
  .show fr - bg=if line<ln then 0 else pc
   rcases h with⟨h3,h4⟩|⟨h3,_,_,h4⟩
   .rw [if_neg (by omega),h4]
   .rw [if_pos h3];omega
  .show fr - bg<p - bg;omega
  .show p - bg<=L.getD ln 0;omega
 .rw [if_neg hfp];obtain rfl:fr=p:=by omega
  exact hR line pc ⟨hb,h⟩
theorem JR.feed {s:ByteArray}{L:List Nat}{line pc ln bg p:Nat}(h:JR L line pc ln bg p)(hp:p<s.size)(hb:bt s p=10)(hL:L.drop ln=jK s bg p):JR L line pc (ln+1) (p+1) (p+1):=by
 rw [M9 hp hb]at hL;obtain⟨h1,h2,_⟩:=Gc hL;obtain⟨h0,h⟩:=h;refine⟨Nat.le_refl _,.inr ?_⟩;rcases h with⟨rfl,h4⟩|⟨h3,h4,h5,h6⟩
 .exact⟨by omega,by omega,fun k _ _=>by omega,rfl⟩
 .refine⟨by omega,h4,fun k k1 k2=> ?_,rfl⟩;by_cases hk:k=ln
  .rw [hk,h2];omega
  .exact h5 k k1 (by omega)
theorem OG {s:ByteArray}{L:List Nat}{k T B E ln bg fr p line pc:Nat}{R:List PR}(hT:T<=s.size)(h:JR L line pc ln bg fr)(hf:fr<=p)(hp:p<=T)(hL:L.drop ln=jK s bg p)
  (hR:∀line' pc' Nk Kn,gu s T ln bg p=(Nk,Kn)->L.drop Nk=jK s Kn T->JR L line' pc' Nk Kn T->jn L line' pc' R):jn L line pc (ko s k T B E ln bg fr p++R):=by
 by_cases hlt:p<T
 .by_cases hb:bt s p=10
  .rw [Av hlt hb,List.append_assoc];refine SV h hf hL fun line' pc' hJ=> ?_
   have hL2:=hL;rw [M9 (by omega) hb]at hL2;exact OG hT (hJ.feed (by omega) hb hL) (Nat.le_refl _) hlt (Gc hL2).2.2 (fun l2 p2 n2 b2 he hd hj=>hR l2 p2 n2 b2 (by rw [BD hlt hb];exact he) hd hj)
  .rw [vN hlt hb];rw [Ws (by omega) hb]at hL;exact OG hT h (by omega) hlt hL (fun l2 p2 n2 b2 he hd hj=>hR l2 p2 n2 b2 (by rw [wO hlt hb];exact he) hd hj)
 .obtain rfl:p=T:=by omega
  rw [vM hlt];exact SV h hf hL fun line' pc' hJ=>hR line' pc' ln bg (BC hlt) hL hJ
termination_by T - p
theorem Pm {s:ByteArray}{p:Nat}(hp:p<s.size):(eP s p).T<=s.size:=by
 unfold eP;split
 .exact Oi (by omega)
 .split
  .exact Hy (by omega)
  .split
   .rename_i h;have:=l8 (s:=s) (i:=p+1) (by rw [h.2];decide);exact abb (by omega)
   .simp only;omega
def CC(s:ByteArray):Nat->List Tk->Prop
 |p,[]=>p=s.size
 |p,t::ts=>t.F=p/\t.F<t.T/\t.T<=s.size/\CC s t.T ts
theorem CC.cons {s:ByteArray}{t:Tk}{ts:List Tk}(h:CC s t.T ts)(h2:t.F<t.T)(h3:t.T<=s.size):CC s t.F (oO t ts):=by
 unfold oO;split
 .cases ts with
  |nil=>exact⟨rfl,h2,h3,h⟩
  |cons u us=>
   obtain⟨k1,k2,k3,k4⟩:=h;simp only;split
   .exact⟨rfl,by simp only;omega,k3,k4⟩
   .exact⟨rfl,h2,h3,k1,k2,k3,k4⟩
 .exact⟨rfl,h2,h3,h⟩
theorem Jf(s:ByteArray)(p:Nat)(hp:p<=s.size):CC s p (fD s p):=by
 rw [fD];split
 .rename_i h;have h0:=Jf s (eP s p).T (Pm h);have hF:=aam s p;have:=CC.cons h0 (by have:=AO s p;omega) (Pm h);rw [hF]at this;exact this
 .show p=s.size;omega
termination_by s.size - p
decreasing_by have:=AO s p;omega
theorem Sn {s:ByteArray}{L:List Nat}:∀(ts:List Tk)(p ln bg line pc:Nat),CC s p ts->JR L line pc ln bg p->L.drop ln=jK s bg p->jn L line pc (fG s ts ln bg)
 |[],p,ln,bg,line,pc,hc,h,hL=>by
  have hc':p=s.size:=hc;rw [Wq (by omega)]at hL;obtain⟨h1,h2,h3⟩:=Gc hL;have h4:L.length=ln+1:=by have:=congrArg List.length hL;simp at this;omega
  obtain⟨h0,h⟩:=h;rcases h with⟨rfl,h6⟩|⟨h6,h7,h8,h9⟩
  .exact⟨h1,by omega,fun k _ _=>by omega⟩
  .refine⟨by omega,h7,fun k k1 k2=> ?_⟩;by_cases hk:k=ln
   .rw [hk,h2];omega
   .exact h8 k k1 (by omega)
 |t::ts,p,ln,bg,line,pc,hc,h,hL=>by
  obtain⟨h1,h2,h3,h4⟩:=hc;rw [fG];subst h1;refine OG h3 h (Nat.le_refl _) (by omega) hL fun l2 p2 n2 b2 he hd hj=> ?_
  rw [he];exact Sn ts t.T n2 b2 l2 p2 h4 hj hd
theorem afc(s:ByteArray):jn (jK s 0 0) 0 0 (fG s (fD s 0) 0 0):=
 Sn _ 0 0 0 0 0 (Jf s 0 (by omega)) ⟨Nat.le_refl _,.inl ⟨rfl,rfl⟩⟩ rfl
theorem ai7(s:ByteArray)(p:Nat)(_h:p<s.size)(h0:aJ s p≠0):wd (gJ s p)=aJ s p:=by
 unfold gJ;rw [Lib.decode_at];unfold aJ at h0 ⊢;have l0:=(s.get! p).toNat_lt;have l1:=(s.get! (p+1)).toNat_lt;have l2:=(s.get! (p+2)).toNat_lt;have l3:=(s.get! (p+3)).toNat_lt;generalize(s.get! p).toNat=b0 at*;generalize(s.get! (p+1)).toNat=b1 at*;generalize(s.get! (p+2)).toNat=b2 at*;generalize(s.get! (p+3)).toNat=b3 at*;obtain⟨n,hn⟩:∃n,n=s.size - p:=⟨_,rfl⟩
 rw [<-hn]at h0 ⊢;by_cases a:b0<128
 .rw [uH (BA a) (by omega),BA a];unfold wd;rw [if_pos (by simp only;omega)]
 by_cases b:b0<194
 .exact absurd (kC (KV (by omega) b)) h0
 by_cases c:245<=b0
 .exact absurd (kC (KW c (by omega))) h0
 by_cases d:b0<224
 .by_cases e:n<2∨b1<128∨191<b1
  .exact absurd (kC (KQ (by omega) d (by omega) e)) h0
  .have hd:=F7 (n:=n) (b0:=b0) (b1:=b1) (b2:=b2) (b3:=b3) (by omega) d (by omega) (by omega) (by omega);rw [uH hd (by omega),hd];unfold wd;rw [if_neg (by simp only;omega),if_pos (by simp only;omega)]
 by_cases f:b0<240
 .by_cases e:n<3∨b1<128∨191<b1∨b2<128∨191<b2
  .exact absurd (kC (KR (by omega) f (by omega) (by omega) e)) h0
  .by_cases g:b0%16*4096+b1%64*64+b2%64<2048∨(55296<=b0%16*4096+b1%64*64+b2%64/\b0%16*4096+b1%64*64+b2%64<=57343)
   .exact absurd (kC (KS (by omega) f g)) h0
   .have hd:=F8 (n:=n) (b0:=b0) (b1:=b1) (b2:=b2) (b3:=b3) (by omega) f (by omega) (by omega) (by omega) (by omega) (by omega) (by omega) (by omega);rw [uH hd (by omega),hd];unfold wd;rw [if_neg (by simp only;omega),if_neg (by simp only;omega),if_pos (by simp only;omega)]
 by_cases e:n<4∨b1<128∨191<b1∨b2<128∨191<b2∨b3<128∨191<b3
 .exact absurd (kC (KT (by omega) (by omega) (by omega) (by omega) (by omega) e)) h0
 .by_cases g:b0%8*262144+b1%64*4096+b2%64*64+b3%64<65536∨1114111<b0%8*262144+b1%64*4096+b2%64*64+b3%64
  .exact absurd (kC (KU (by omega) (by omega) g)) h0
  .have hd:=F9 (n:=n) (b0:=b0) (b1:=b1) (b2:=b2) (b3:=b3) (by omega) (by omega) (by omega) (by omega) (by omega) (by omega) (by omega) (by omega) (by omega) (by omega) (by omega);rw [uH hd (by omega),hd];unfold wd;rw [if_neg (by simp only;omega),if_neg (by simp only;omega),if_neg (by simp only;omega)]
theorem Cz(s:ByteArray)(p:Nat)(h:p<s.size)(h0:aJ s p≠0):p+aJ s p<=s.size:=by
 rcases Ff s p h h0 with⟨e1,_⟩|⟨e1,hn,_⟩|⟨e1,hn,_⟩|⟨e1,hn,_⟩<;>omega
def RA(s:ByteArray):Nat->List Int->Prop
 |p,[]=>p=s.size
 |p,r::rs=>p<s.size/\aJ s p≠0/\r=gJ s p/\RA s (p+aJ s p) rs
theorem YF(s:ByteArray):∀(f p:Nat)(rs:List Int),p<=s.size->runesFrom s f p=some rs->s.size<=p+f->RA s p rs
 |0,p,rs,hp,h,hf=>by
  have hn:¬p<s.size:=by omega
  rw [runesFrom_end s 0 p hn]at h;cases h;show p=s.size;omega
 |f+1,p,rs,hp,h,hf=>by
  by_cases hlt:p<s.size
  .by_cases hz:aJ s p=0
   .rw [Oy s (f+1) p hf hlt hz]at h;cases h
   .have he:runesFrom s (f+1) p=(runesFrom s f (p+aJ s p)).map (gJ s p::·):=by simp [runesFrom,hlt,hz]
    rw [he]at h;cases hr:runesFrom s f (p+aJ s p)with
    |none=>rw [hr]at h;cases h
    |some l=>
     rw [hr]at h;simp only [Option.map_some,Option.some.injEq]at h;subst h;exact⟨hlt,hz,rfl,YF s f _ l (Cz s p hlt hz) hr (by omega)⟩
  .rw [runesFrom_end s (f+1) p hlt]at h;cases h;show p=s.size;omega
theorem si {s:ByteArray}{rs:List Int}(h:dh s=some rs):RA s 0 rs:=YF s s.size 0 rs (by omega) h (by omega)
def uY:Nat->Nat->List PR->Prop
 |a,b,[]=>a=b
 |a,b,x::xs=>x.from_=a/\a<x.di/\uY x.di b xs
theorem V5 {L:List Nat}:∀{l:List PR}{line p:Nat},jn L line p l->∀x∈l,line<=x.line
 |[],_,_,_,x,hx=>by cases hx
 |y::ys,line,p,h,x,hx=>by
  obtain⟨h1,h2,h3,h4,h5,h6,h7⟩:=h;rcases List.mem_cons.1 hx with rfl|hx
  .exact h1
  .exact Nat.le_trans h1 (V5 h7 x hx)
theorem agy {l:List PR}{ln:Nat}(h:∀x∈l,ln<x.line):gG l ln=[]:=by
 unfold gG;rw [List.filter_eq_nil_iff];intro x hx;have:=h x hx;simp;omega
theorem agw(x:PR)(xs:List PR)(ln:Nat):gG (x::xs) ln=if x.line=ln then x::gG xs ln else gG xs ln:=by
 unfold gG;by_cases h:x.line=ln<;>simp [h]
theorem MX {L:List Nat}:∀{l:List PR}{line p:Nat},jn L line p l->∀ln,line<=ln->ln<L.length->uY (if ln=line then p else 0) (L.getD ln 0) (gG l ln)
 |[],line,p,h,ln,h1,h2=>by
  obtain⟨j1,j2,j3⟩:=h;show(if ln=line then p else 0)=L.getD ln 0;by_cases he:ln=line
  .rw [if_pos he,he,j2]
  .rw [if_neg he,j3 ln (by omega) h2]
 |x::xs,line,p,h,ln,h1,h2=>by
  obtain⟨j1,j2,j3,j4,j5,j6,j7⟩:=h;rw [agw];by_cases hm:x.line=ln
  .rw [if_pos hm];have ih:=MX j7 ln (by omega) h2;rw [if_pos hm.symm]at ih;refine⟨?_,?_,ih⟩
   .rw [j4];by_cases he:ln=line
    .rw [if_pos he,if_neg (by omega)]
    .rw [if_neg he,if_pos (by omega)]
   .have:x.from_=(if ln=line then p else 0):=by
     rw [j4];by_cases he:ln=line
     .rw [if_pos he,if_neg (by omega)]
     .rw [if_neg he,if_pos (by omega)]
    omega
  .rw [if_neg hm];by_cases hlt:ln<x.line
   .obtain⟨k1,k2⟩:=j3 (by omega);rw [agy (fun y hy=>by have:=V5 j7 y hy;omega)];show(if ln=line then p else 0)=L.getD ln 0;by_cases he:ln=line
    .rw [if_pos he,he,k1]
    .rw [if_neg he,k2 ln (by omega) hlt]
   .have ih:=MX j7 ln (by omega) h2;rw [if_neg (fun e=>hm e.symm)]at ih;rw [if_neg (by omega)];exact ih
theorem afu {s:ByteArray}{bg i:Nat}(h:i<=s.size)(hb:bg<=i):(az s bg i).map (·.size)=jK s bg i:=by
 fun_induction az s bg i with
 |case1 bg i h1 h2 ih=>rw [M9 h1 h2,List.map_cons,ih (by omega) (by omega)];congr 1;simp;omega
 |case2 bg i h1 h2 ih=>rw [Ws h1 h2,ih (by omega) (by omega)]
 |case3 bg i h1=>rw [Wq h1];simp;omega
def r9(s:ByteArray)(i:Nat):List PR:=gG (dw s) i
theorem ahC(s:ByteArray)(hz:s.size<=600)(i:Nat)(hi:i<(az s 0 0).length):uY 0 ((az s 0 0).getD i ⟨#[]⟩).size (r9 s i):=by
 have hj:jn (jK s 0 0) 0 0 (dw s):=by
  unfold dw;rw [if_pos hz];have:=afc s;rw [<-Ye]at this;exact this
 have hm:(az s 0 0).map (·.size)=jK s 0 0:=afu (by omega) (by omega);have h:=MX hj i (by omega) (by rw [<-hm];simpa using hi);have e:(jK s 0 0).getD i 0=((az s 0 0).getD i ⟨#[]⟩).size:=by
  rw [<-hm,List.getD_eq_getElem?_getD,List.getElem?_map,List.getD_eq_getElem?_getD,List.getElem?_eq_getElem hi];rfl
 rw [e]at h;have h0:(if i=0 then 0 else 0)=0:=by split<;>rfl
 rw [h0]at h;exact h
structure dV(w:World)(B s:Nat)(v:Value)(l:List Nat):Prop where
 cell:w.heap[s]? =some (.cells #[v] 296 (0,0))
 row:w.ownsRow B 108 1 v l.length (iv (nl l))
 low:B<=s
structure uM(w w':World)(s:Nat)(v v':Value):Prop where
 os:w'.os=w.os
 tape:w'.tape=w.tape
 output:w'.output=w.output
 size:w.heap.size<=w'.heap.size
 block:∀k,k<w.heap.size->k≠s->v.ownBlock≠some k->w'.heap[k]? =w.heap[k]?
 own:v'.ownBlock=v.ownBlock∨∀k,v'.ownBlock=some k->w.heap.size<=k
theorem uM.below {w w' w0:World}{B s:Nat}{v v':Value}{l:List Nat}(h:uM w w' s v v')(hs:dV w B s v l)(hb:Below B w0 w):Below B w0 w':=
 hb.trans ⟨h.os,h.tape,h.output,h.size,fun k hk=>by
  have hlow:=hs.low;have hlt:k<w.heap.size:=Nat.lt_of_lt_of_le (Nat.lt_of_lt_of_le hk hlow) (Nat.le_of_lt (bK hs.cell));refine h.block k hlt (by omega) ?_;intro e;have:=uB hs.row k e;omega⟩
theorem dV.ne {w:World}{B s:Nat}{v:Value}{l:List Nat}(h:dV w B s v l):v.ownBlock≠some s:=by
 rcases h.row.2 with⟨rfl,_⟩|⟨g,cp,cur,rfl,_,hh,_⟩
 .simp [Value.ownBlock]
 .simp only [Value.ownBlock];intro e;obtain rfl:=Option.some.inj e;rw [h.cell]at hh;simp at hh
theorem dV.grow {w w5:World}{B s:Nat}{v v5:Value}{l l':List Nat}{m:Nat}(h:dV w B s v l)(hown:w5.ownsRow B 108 1 v5 m (iv (nl l')))(hg:w.grownBy w5 v.ownBlock)(hv:v5.ownBlock=v.ownBlock∨v5.ownBlock=some (w.heap.size+1)):
  dV (w5.setCell ⟨s,0,none⟩ v5) B s v5 l'/\uM w (w5.setCell ⟨s,0,none⟩ v5) s v v5/\w5.cell? ⟨s,0,none⟩=some v/\w5.frozen? ⟨s,0,none⟩=false:=by
 have hlt:=bK h.cell;have gV:w5.heap[s]? =some (.cells #[v] 296 (0,0)):=by rw [hg.block s hlt h.ne.symm];exact h.cell
 have hne:v5.ownBlock≠some s:=by
  rcases hv with hv|hv
  .rw [hv];exact h.ne
  .rw [hv];intro e;have:=Option.some.inj e;omega
 have hm:m=l'.length:=by have:=hown.1;rw [vC,jM]at this;omega
 subst hm;refine⟨⟨by rw [Joins.block_setCell gV];rfl,iG hown hne 0 v5,h.low⟩,⟨hg.os,hg.tape,hg.output,?_,?_,?_⟩,au gV 0,bX gV 0⟩
 .have:=hg.size;simpa using this
 .intro k hk hks hkv;rw [Below.heap_setCell]
  .exact hg.block k hk (fun e=>hkv e.symm)
  .exact hks
 .rcases hv with hv|hv
  .exact .inl hv
  .exact .inr fun k hk=>by rw [hv]at hk;have:=Option.some.inj hk;omega
theorem afq(w:World)(B s:Nat)(v:Value)(l:List Nat)(h:dV w B s v l):Calls prog 260 #[.pointer (some ⟨s,0,none⟩)] w fun e w'=>e= .returned (.int .i64 l.length)/\w'=w:=by
 obtain⟨a,c,rfl⟩:=fH h.row;have c0:w.cell? ⟨s,0,none⟩=some (.slice a l.length c):=au h.cell 0;clear h;go_enter func260,ntmps260;go_wp2;go_ret;exact⟨rfl,rfl⟩
theorem aa1(w:World)(B s:Nat)(v:Value)(l:List Nat)(i:Nat)(h:dV w B s v l)(hi:i<l.length):Calls prog 275 #[.pointer (some ⟨s,0,none⟩),.int .i64 i] w fun e w'=>e= .returned (.tuple #[.int .i64 (l.getD i 0:Nat),.bool true])/\w'=w:=by
 obtain⟨g,c,rfl,_,_,_⟩:=kg h.row (by omega);have c0:w.cell? ⟨s,0,none⟩=some (.slice (some ⟨g,0,none⟩) l.length c):=au h.cell 0;have c1:=jZ h.row i (by rw [jM];exact hi);rw [uw _ _ hi]at c1;generalize l.getD i 0=x at*;generalize l.length=n at*;have hi':((i:Int)<(n:Int)):=by omega
 have hg:decide ((i:Int)<0)=false:=by simp
 clear h;go_enter func275,ntmps275;go_wp2;go_ret2;exact⟨rfl,rfl⟩
theorem aa2(w:World)(s:Nat)(i:Int)(hi:i<0):Calls prog 275 #[.pointer (some ⟨s,0,none⟩),.int .i64 i] w fun e w'=>e= .returned (.tuple #[.int .i64 0,.bool false])/\w'=w:=by
 go_enter func275,ntmps275;go_wp2;go_ret2;exact⟨rfl,rfl⟩
theorem YA(w:World)(B s:Nat)(v:Value)(l:List Nat)(i:Nat)(h:dV w B s v l)(hl:l.length<=1000000):Calls prog 258 #[.pointer (some ⟨s,0,none⟩),.int .i64 i] w fun e w'=>e= .returned (.tuple #[])/\∃v',dV w' B s v' (l++[i])/\uM w w' s v v':=by
 obtain⟨iI,p8,p9,qb,qd⟩:=info_parts Tryz.BO;have c0:w.cell? ⟨s,0,none⟩=some v:=au h.cell 0;have f0:w.frozen? ⟨s,0,none⟩=false:=bX h.cell 0;have hrow:=h.row;have hbz:B<=w.heap.size:=Nat.le_trans h.low (Nat.le_of_lt (bK h.cell));have HS:Hid (dV w B s v l):=h;obtain⟨a,c,rfl⟩:=fH hrow;clear h;go_enter func258,ntmps258;go_wp2_with(at_builtin;refine Pn _ rfl _ _ 139 rfl B 108 iI (.int .i64 0) 8 underlying139 p8 p9 qb qd rfl (by decide) _ _ _ rfl hrow _ _ _ rfl rfl rfl hl hbz ?_);intro v5 w5 hown5 hg5 hv5;obtain⟨a5,nV,rfl⟩:=fH hown5;obtain⟨hS5,tX,c5,f5⟩:=HS.out.grow (by rw [BS,Ik]at hown5;exact hown5) hg5 hv5;have lH:Hid _:=hS5;have CK:Hid _:=tX;clear hS5 tX hown5 hg5 hv5 hrow c0 f0;go_wp2;go_end0;exact⟨rfl,_,lH.out,CK.out⟩
theorem dV.cut {w:World}{B s g c n:Nat}{l:List Nat}{vs:List Value}(h:dV w B s (.slice (some ⟨g,0,none⟩) l.length c) l)(hn:n<l.length):
  dV ((w.setCells g n vs).setCell ⟨s,0,none⟩ (.slice (some ⟨g,0,none⟩) n c)) B s (.slice (some ⟨g,0,none⟩) n c) (l.take n)/\uM w ((w.setCells g n vs).setCell ⟨s,0,none⟩ (.slice (some ⟨g,0,none⟩) n c)) s (.slice (some ⟨g,0,none⟩) l.length c) (.slice (some ⟨g,0,none⟩) n c)/\(w.setCells g n vs).cell? ⟨s,0,none⟩=some (.slice (some ⟨g,0,none⟩) l.length c)/\(w.setCells g n vs).frozen? ⟨s,0,none⟩=false:=by
 have hlt:=bK h.cell;have hne:=h.ne;have hgs:g≠s:=by simpa [Value.ownBlock]using hne
 obtain⟨xs',h1,h2,h3⟩:=Iu vs n w _ h.row;have gV:(w.setCells g n vs).heap[s]? =some (.cells #[.slice (some ⟨g,0,none⟩) l.length c] 296 (0,0)):=by rw [h2.block s hlt (by simpa using hgs.symm)];exact h.cell
 have h4:=Iw h1 n (by omega);rw [Nat.mul_one,take_same _ _ n h3,<-Nat.mul_one n,MW,Nat.mul_one]at h4;refine⟨⟨by rw [Joins.block_setCell gV];rfl,?_,h.low⟩,⟨h2.os,h2.tape,h2.output,by simp,?_,.inl rfl⟩,au gV 0,bX gV 0⟩
 .have:=iG h4 (s:=s) (by simpa [Value.ownBlock]using hgs) 0 (.slice (some ⟨g,0,none⟩) n c);simpa [Nat.min_eq_left (Nat.le_of_lt hn)]using this
 .intro k hk hks hkv;rw [Below.heap_setCell]
  .exact h2.block k hk (fun e=>hkv (by rw [e];rfl))
  .exact hks
theorem acr(w:World)(B s:Nat)(v:Value)(l:List Nat)(n:Nat)(h:dV w B s v l)(hn:n<l.length)(hl:l.length<=1000000):Calls prog 276 #[.pointer (some ⟨s,0,none⟩),.int .i64 n] w fun e w'=>e= .returned (.tuple #[])/\∃v',dV w' B s v' (l.take n)/\uM w w' s v v':=by
 obtain⟨g,c,rfl,hcap,hgw,hgB⟩:=kg h.row (by omega);have c0:w.cell? ⟨s,0,none⟩=some (.slice (some ⟨g,0,none⟩) l.length c):=au h.cell 0;have f0:w.frozen? ⟨s,0,none⟩=false:=bX h.cell 0;have UO:=Lib.run_clear_slice (P:=prog) w 139 108 0 (.int .i64 0) underlying139 Tryz.zeroValue108 rfl rfl g n (l.length - n) (c - n) (by omega) (fun j hj=>by
   rw [jZ h.row (n+j) (by rw [jM];omega)];rfl) (fun j _=>World.ownsRow.frozenAt h.row (n+j))
 have Vf:n<=c:=by omega
 have hni:((n:Int)<(l.length:Int)):=by omega
 obtain⟨hS,hF,c5,f5⟩:=h.cut (vs:=List.replicate (l.length - n) (.int .i64 0)) hn;have HS:Hid _:=hS;have HF:Hid _:=hF;clear h hS hF;generalize w.setCells g n (List.replicate (l.length - n) (.int .i64 0))=Wc at*;generalize l.length=L at*;go_enter func276,ntmps276;go_wp2;go_end0;exact⟨rfl,_,HS.out,HF.out⟩
theorem Yu(w:World)(B s:Nat)(v:Value)(l:List Nat)(x:Nat)(h:dV w B s v (l++[x]))(hl:l.length<=100000):Calls prog 259 #[.pointer (some ⟨s,0,none⟩)] w fun e w'=>e= .returned (.tuple #[.int .i64 x,.bool true])/\∃v',dV w' B s v' l/\uM w w' s v v':=by
 have hlen:(l++[x]).length=l.length+1:=by simp
 obtain⟨a,c,rfl⟩:=fH h.row;have c0:w.cell? ⟨s,0,none⟩=some (.slice a (l.length+1) c):=by have:=au h.cell 0;rw [hlen]at this;exact this
 have ji:Hid (Calls prog 275 #[.pointer (some ⟨s,0,none⟩),.int .i64 l.length] w fun e w'=>e= .returned (.tuple #[.int .i64 x,.bool true])/\w'=w):=by
  have:=aa1 w B s _ (l++[x]) l.length h (by omega);have hx:(l++[x]).getD l.length 0=x:=by simp
  rw [hx]at this;exact this
 have vY:Hid (Calls prog 276 #[.pointer (some ⟨s,0,none⟩),.int .i64 l.length] w fun e w'=>e= .returned (.tuple #[])/\∃v',dV w' B s v' l/\uM w w' s (.slice a (l++[x]).length c) v'):=by
  have:=acr w B s _ (l++[x]) l.length h (by omega) (by omega);have hx:(l++[x]).take l.length=l:=by simp
  rw [hx]at this;exact this
 clear h hlen;generalize l.length=L at*;go_enter func259,ntmps259;go_wp2_with fail;refine ji.out.mono ?_;rintro ev wx ⟨rfl,hx⟩;have hx':=hx.symm;subst hx';go_wp2_with fail;refine vY.out.mono ?_;rintro ev w2 ⟨rfl,v',hS,hF⟩;have HS:Hid _:=hS;have HF:Hid _:=hF;clear hS hF;go_wp2;go_ret2;exact⟨rfl,_,HS.out,HF.out⟩
theorem ahr(w:World)(B s:Nat)(v:Value)(h:dV w B s v []):Calls prog 259 #[.pointer (some ⟨s,0,none⟩)] w fun e w'=>e= .returned (.tuple #[.int .i64 0,.bool false])/\w'=w:=by
 obtain⟨a,c,rfl⟩:=fH h.row;have c0:w.cell? ⟨s,0,none⟩=some (.slice a 0 c):=au h.cell 0;clear h;go_enter func259,ntmps259;go_wp2_with fail;refine(aa2 w s (-1) (by omega)).mono ?_;rintro ev wx ⟨rfl,hx⟩;have hx':=hx.symm;subst hx';go_wp2;go_ret2;exact⟨rfl,rfl⟩
def Sp(w:World):Prop:=∃t fr,w.heap[4]? =some (.cells qz t fr)
theorem Sp.below {w w':World}(h:Sp w)(hb:Below w.heap.size w w'):Sp w':=by
 obtain⟨t,fr,h⟩:=h;exact⟨t,fr,aR hb h⟩
theorem Sp.cls {w:World}(h:Sp w)(r:Int):Calls prog 66 #[.int .i32 r] w fun e w'=>e= .returned (.int .i64 (cls r))/\Below w.heap.size w w':=by
 obtain⟨t,fr,hsp⟩:=h;exact RZ r w t fr hsp
theorem R5 {w:World}{aL aT aC:Addr}(h:Env w aL aT aC)(r:Int):Calls prog 66 #[.int .i32 r] w fun e w'=>e= .returned (.int .i64 (cls r))/\Below w.heap.size w w':=Sp.cls h.spans r
def fO(c:Int):Bool:=decide (13<=c)&&decide (c<=21)
theorem Z0(c:Int)(w:World):Calls prog 223 #[.int .i64 c] w fun e w'=>e= .returned (.bool (fO c))/\w'=w:=by
 obtain⟨q,hq⟩:∃q,q=fO c:=⟨_,rfl⟩
 rw [<-hq];have HQ:Hid (q=fO c):=hq;clear hq;by_cases h1:13<=c
 .have h1':c ≥ 13:=h1;by_cases h2:c<=21
  .go_enter func223,ntmps223;go_wp2;go_ret;exact⟨jO (by rw [HQ.out,fO];simp [h1,h2]),rfl⟩
  .go_enter func223,ntmps223;go_wp2;go_ret;exact⟨jO (by rw [HQ.out,fO];simp [h1,h2]),rfl⟩
 .have h1':¬c ≥ 13:=h1;go_enter func223,ntmps223;go_wp2;go_ret;exact⟨jO (by rw [HQ.out,fO,decide_eq_false (by omega)];rfl),rfl⟩
theorem MQ(r:Int)(w:World)(hE:Sp w):Calls prog 172 #[.int .i32 r] w fun e w'=>e= .returned (.bool (fO (cls r)))/\Below w.heap.size w w':=by
 have HC:Hid (Calls prog 66 #[.int .i32 r] w fun e w'=>e= .returned (.int .i64 (cls r))/\Below w.heap.size w w'):=hE.cls r;clear hE;go_enter func172,ntmps172;go_wp2_with fail;refine HC.out.mono ?_;rintro ev w1 ⟨rfl,hb⟩;have HB:Hid (Below w.heap.size w w1):=hb;clear hb;go_wp2_with fail;refine(Z0 (cls r) w1).mono ?_;rintro ev wx ⟨rfl,hwx⟩;have mH:=hwx.symm;subst mH;clear hwx;go_wp2;go_ret;exact⟨rfl,HB.out⟩
theorem ae6(r:Int)(w:World)(aL aT aC:Addr)(hE:Env w aL aT aC):Calls prog 172 #[.int .i32 r] w fun e w'=>e= .returned (.bool (fO (cls r)))/\Below w.heap.size w w':=MQ r w hE.spans
theorem ag2(s:ByteArray)(l:List Int)(w:World)(aL aT aC:Addr)(hs:s.size<=600)(hr:dh s=some l)(hE:Env w aL aT aC):
  Calls prog 108 #[.string s] w fun e w'=>e= .returned (.int .i64 (found (l.map cls)))/\Below w.heap.size w w':=by
 have hp:∀cs,dO cs 2=found cs:=fun cs=>by unfold dO;simp
 have HN:Hid (Calls prog 84 #[.string s,.int .i64 2] w fun e w'=>∃lb,e= .returned (.pointer (some ⟨lb,0,none⟩))/\w'.cell? ⟨lb,5,none⟩=some (.int .i64 (found (l.map cls)))/\Below w.heap.size w w'):=by
  by_cases h0:s.size=0
  .obtain rfl:=Y5 hr h0;refine(Xl s 2 w h0).mono ?_;rintro e w' ⟨lb,gc,gl,gm,rfl,hL,_,hb⟩;rw [hp]at hL;exact⟨lb,rfl,(LB.c5 hL).1,hb⟩
  .refine(Xm s l 2 w hs hr (Y4 hr (by omega)) (fun r W hW=>R5 (hE.below hW) r)).mono ?_;rintro e w' ⟨L,rfl,hL,_,_,_,DL,_,hb⟩;refine⟨L.lb,rfl,?_,hb⟩;rw [<-hp,<-DL];exact au hL.cell 5
 clear hE hr hp;go_enter func108,ntmps108;go_wp2_with fail;refine HN.out.mono ?_;rintro ev w1 ⟨lb,rfl,hc,hb⟩;have HB:Hid (Below w.heap.size w w1):=hb;clear hb HN;go_wp2;go_ret;exact⟨rfl,HB.out⟩
def kF:List Int->List Nat->Bool
 |[],st=>st.isEmpty
 |r::rs,st=>
  if ic (cls r)=true then kF rs (st++[17])
  else if aG (cls r)=true then kF rs (st++[21])
  else if fO (cls r)=true then
   match st.getLast? with
   |none=>false
   |some x=>if(x:Int)=cls r then kF rs st.dropLast else false
  else kF rs st
theorem dV.keep {w w':World}{B s:Nat}{v:Value}{l:List Nat}(h:dV w B s v l)(hk:∀k o,w.heap[k]? =some o->(k=s∨v.ownBlock=some k)->w'.heap[k]? =some o):dV w' B s v l:=
 ⟨hk s _ h.cell (.inl rfl),kK h.row fun k o ho hh=>hk k o hh (.inr ho),h.low⟩
theorem dV.below {w w':World}{B s:Nat}{v:Value}{l:List Nat}(h:dV w B s v l)(hb:Below w.heap.size w w'):dV w' B s v l:=h.keep fun _ _ ho _=>aR hb ho
theorem uM.iter {w w':World}{B s K p:Nat}{v v':Value}{l:List Nat}{t:ByteArray}(hf:uM w w' s v v')(h:dV w B s v l)(hit:w.heap[K]? =some (.stringIter t p)):w'.heap[K]? =some (.stringIter t p):=by
 rw [hf.block K (bJ hit) ?_ (own_ne_iter h.row hit)]
 .exact hit
 .rintro rfl;rw [h.cell]at hit;cases hit
def vR:Int->List Int->Bool
 |_,[]=>true
 |a,k::ks=>if k<a then false else vR k ks
def IU(rs:List Int)(ps:List PR):List Int:=(oZ (gB rs (rs.map cls) 0)).map fun j=>pI ((o7 0 rs).getD j.toNat 0) ps 0
def ED(rs:List Int)(ps:List PR):Bool:=vR (-1) (IU rs ps)
theorem Wt(rs:List Int):∀x∈gB rs (rs.map cls) 0,0<=x/\x<=126:=by
 have hp:dO (rs.map cls) 0=0:=by unfold dO;simp
 intro x hx;have:=afx (cs:=rs.map cls) (fun c hc=>by obtain⟨r,_,rfl⟩:=List.mem_map.1 hc;exact wI r) rs 0 (by rw [hp];omega) x hx;rw [hp]at this;exact this
theorem Na(rs:List Int):(gB rs (rs.map cls) 0).length=rs.length:=by rw [afw,List.length_map]
theorem XV(rs:List Int):∀j∈oZ (gB rs (rs.map cls) 0),0<=j/\j<rs.length:=by
 intro j hj;have h1:=(agK (gB rs (rs.map cls) 0)).mem_iff.1 hj;rw [Na]at h1;unfold dM at h1;simp at h1;omega
def jd(ps:List PR):List Int->Nat->List Int->Int->Bool
 |[],_,st,_=>st.isEmpty
 |r::rs,p,st,now=>
  if pI p ps 0≠now/\st≠[]then false
  else if cls r<13 then jd ps rs (p+wd r) st (pI p ps 0)
  else match ps[(pI p ps 0).toNat]? with
   |none=>false
   |some x=>
    if x.kind=0∨p<x.body∨x.end_<=p then false
    else if cls r<17 then jd ps rs (p+wd r) (st++[17]) (pI p ps 0)
    else if 17<cls r/\cls r<21 then jd ps rs (p+wd r) (st++[21]) (pI p ps 0)
    else if st.getLast? =some (cls r)then jd ps rs (p+wd r) st.dropLast (pI p ps 0)else false
theorem FX(ps:List PR)(r:Int)(rs:List Int)(p:Nat)(st:List Int)(now:Int)(k:Nat)(x:PR)(hk:pI p ps 0=(k:Int))(hx:ps[k]? =some x):
  jd ps (r::rs) p st now=if(k:Int)≠now/\st≠[]then false
  else if cls r<13 then jd ps rs (p+wd r) st (k:Int)
  else if x.kind=0∨p<x.body∨x.end_<=p then false
    else if cls r<17 then jd ps rs (p+wd r) (st++[17]) (k:Int)
    else if 17<cls r/\cls r<21 then jd ps rs (p+wd r) (st++[21]) (k:Int)
    else if st.getLast? =some (cls r)then jd ps rs (p+wd r) st.dropLast (k:Int)else false:=by
 rw [jd,hk];simp only [Int.toNat_natCast,hx]
def pq(rs:List Int)(ps:List PR):Bool:=(found (rs.map cls)==0)&&ED rs ps&&jd ps rs 0 [] (-1)
def cB(s:ByteArray):List Bool:=(List.range (az s 0 0).length).map fun i=>pq ((fK (az s 0 0)).getD i []) (r9 s i)
theorem Km:∀{l:List ByteArray}{i:Nat},nA l i=none->∀x∈l,∃rs,dh x=some rs
 |[],_,_,x,hx=>by cases hx
 |y::ys,i,h,x,hx=>by
  rw [nA]at h;cases hr:dh y with
  |none=>rw [hr]at h;cases h
  |some l=>
   rw [hr]at h;rcases List.mem_cons.1 hx with rfl|hx
   .exact⟨l,hr⟩
   .exact Km h x hx
theorem WI:∀{l:List (List Int)}{i:Nat},nY l i=none->∀x∈l,x.length<=300
 |[],_,_,x,hx=>by cases hx
 |y::ys,i,h,x,hx=>by
  rw [nY]at h;by_cases hy:300<y.length
  .rw [if_pos hy]at h;cases h
  .rw [if_neg hy]at h;rcases List.mem_cons.1 hx with rfl|hx
   .omega
   .exact WI h x hx
theorem look_ok {s:ByteArray}(h:(aZ s).1=0):s.size<=600/\aZ s=(0,0,0)/\∀i,i<(az s 0 0).length->dh ((az s 0 0).getD i ⟨#[]⟩)=some ((fK (az s 0 0)).getD i [])/\((fK (az s 0 0)).getD i []).length<=300:=by
 have hz:¬600<s.size:=by
  intro hz;unfold aZ at h;rw [if_pos hz]at h;cases h
 unfold aZ at h ⊢;rw [if_neg hz]at h ⊢;cases hb:nA (az s 0 0) 0 with
 |some x=>rw [hb]at h;cases h
 |none=>
  rw [hb]at h;simp only at h ⊢;cases hl:nY (fK (az s 0 0)) 0 with
  |some x=>rw [hl]at h;cases h
  |none=>
   refine⟨by omega,rfl,fun i hi=> ?_⟩;have hrl:(fK (az s 0 0)).length=(az s 0 0).length:=by simp [fK]
   have e1:(az s 0 0).getD i ⟨#[]⟩=(az s 0 0)[i]:=by rw [List.getD_eq_getElem?_getD,List.getElem?_eq_getElem hi];rfl
   have e2:(fK (az s 0 0)).getD i []=(fK (az s 0 0))[i]'(by omega):=by rw [List.getD_eq_getElem?_getD,List.getElem?_eq_getElem (by omega)];rfl
   obtain⟨rs,hrs⟩:=Km hb _ (List.getElem_mem hi);have e3:(fK (az s 0 0))[i]'(by omega)=rs:=by simp [fK,hrs]
   refine⟨by rw [e1,e2,e3,hrs],?_⟩;rw [e2];exact WI hl _ (List.getElem_mem _)
theorem ahD(s:ByteArray)(i:Nat):(r9 s i).length<=600:=Nat.le_trans (XI _ _) (EK s)
def jo(l:List Bool):List Value:=l.map fun b=> .bool b
def bI(r:Int):Bool:=cls r==1||cls r==2||cls r==6||decide (cls r ≥ 13)||r==8206
theorem MO(r:Int)(w:World)(hE:Sp w):Calls prog 170 #[.int .i32 r] w fun e w'=>e= .returned (.bool (bI r))/\Below w.heap.size w w':=by
 have HT:Hid (∀W,Below w.heap.size w W->Calls prog 172 #[.int .i32 r] W fun e w'=>e= .returned (.bool (decide (cls r ≥ 13)))/\Below W.heap.size W w'):=fun W hW=>by
  have h:=MQ r W (hE.below hW);rw [show fO (cls r)=decide (cls r ≥ 13)by unfold fO;rw [decide_eq_true (wI r).2,Bool.and_true]]at h;exact h
 have HC:Hid (Calls prog 66 #[.int .i32 r] w fun e w'=>e= .returned (.int .i64 (cls r))/\Below w.heap.size w w'):=hE.cls r;clear hE;unfold bI;generalize cls r=c at*;cases h1:c==1<;>cases h2:c==2<;>cases h3:c==6<;>cases h5:r==8206
 all_goals
  go_enter func170,ntmps170;go_wp2_with fail;refine Calls.mono HC.out ?_;rintro ev w1 ⟨rfl,hb⟩;have HB:Hid (Below w.heap.size w w1):=hb;clear hb;go_wp2_with fail
  first
  |refine Calls.mono (HT.out _ HB.out) ?_
   rintro ev w2 ⟨rfl,hb⟩;have HB2:Hid (Below w.heap.size w w2):=HB.out.trans (hb.mono HB.out.size);clear hb;go_wp2;go_ret;exact⟨jO (by simp),HB2.out⟩
  |go_ret
   exact⟨jO (by simp),HB.out⟩
def ve(d:ByteArray)(k:Nat):ByteArray:=d.extract k (k+1)
def jr(d:ByteArray)(r:Nat):ByteArray:=ve d (r / 16 / 16 / 16%16)++(ve d (r / 16 / 16%16)++(ve d (r / 16%16)++(ve d (r%16)++⟨#[]⟩)))
