import Derived.Test.YtkbinfhclaafhaaGreatDoorH02
import Derived.Test.YtkbinfhclaafhaaGreatDoorH01
import Derived.Deep.DeepCutAuto
namespace Go.Proofs.YtkbinfhclaafhaaGreatDoor
open Go.RowKit
open Go.Proofs.Tryz
set_option maxRecDepth 100000
set_option maxHeartbeats 32000000
def iN(l:List aO):Int:=((l.filter (·.i)).length:Int)
theorem ack:iN []=0:=rfl
theorem Bt(l:List aO)(e:aO):iN (l++[e])=iN l+(if e.i=true then 1 else 0):=by
 unfold iN;rw [List.filter_append,List.length_append,List.filter_cons,List.filter_nil];cases e.i<;>simp
theorem FZ(l:List aO):0<=iN l:=by unfold iN;omega
theorem Yw(base:List aO)(e:aO)(he:e.i=true):∀(r:List aO),(∀y∈r,y.i=false)->gI (base++e::r.reverse)=base
 |[],_=>by simpa using Oc base e he
 |y::r,h=>by
  have:base++e::(y::r).reverse=(base++e::r.reverse)++[y]:=by simp
  rw [this,Oe _ _ (h y (by simp))];exact Yw base e he r (fun z hz=>h z (by simp [hz]))
theorem ahv(base:List aO)(e:aO)(he:e.i=true)(s:List aO)(h:∀y∈s,y.i=false):gI (base++e::s)=base:=by
 have:=Yw base e he s.reverse (by simpa using h);simpa using this
theorem Yx(base:List aO):∀(r:List aO),0<iN r.reverse->∃s,gI (base++r.reverse)=base++s/\iN s=iN r.reverse - 1
 |[],h=>by simp [iN]at h
 |y::r,h=>by
  rw [List.reverse_cons]at h ⊢;rw [<-List.append_assoc];cases hy:y.i with
  |true=>
   refine⟨r.reverse,Oc _ _ hy,?_⟩;rw [Bt,hy,if_pos rfl];omega
  |false=>
   rw [Bt,hy,if_neg (by decide)]at h;obtain⟨s,h1,h2⟩:=Yx base r (by omega);refine⟨s,by rw [Oe _ _ hy];exact h1,?_⟩;rw [Bt,hy,if_neg (by decide)];omega
theorem ahu(base s:List aO)(h:0<iN s):∃s',gI (base++s)=base++s'/\iN s'=iN s - 1:=by
 have:=Yx base s.reverse (by simpa using h);simpa using this
inductive jD (base:List aO) (jX:Int) (n:Int) (x:XS):Prop
 |over (h1:x.st=base) (h2:x.bu=jX+n) (h3:0<=jX)
 |val (e:aO) (s:List aO) (h1:x.st=base++e::s) (h2:e.i=true) (h3:x.bu+iN s+1=n) (h4:0<=x.bu)
theorem ZM(a:List aO)(e:aO):aS (a++[e])=e:=by simp [aS]
theorem jD.abg {x:XS}(odd:Int)(h0:0<=x.bu):jD x.st x.bu 1 (jT x odd):=by
 unfold jT;simp only;split
 .rename_i hf;unfold lJ at hf;simp at hf;exact .val ⟨_, -1,true⟩ [] (by simp;rfl) rfl (by simp only;rw [ack];omega) h0
 .exact .over rfl rfl h0
theorem jD.begin {base:List aO}{jX n:Int}{x:XS}(h:jD base jX n x)(hn:1<=n)(odd:Int):jD base jX (n+1) (jT x odd):=by
 unfold jT;simp only;split
 .rename_i hf;unfold lJ at hf;simp at hf;cases h with
  |over h1 h2 h3=>omega
  |val e s h1 h2 h3 h4=>
   refine .val e (s++[⟨_, -1,true⟩]) (by simp only;rw [h1];simp;rfl) h2 ?_ h4;rw [Bt];simp only [if_true];omega
 .cases h with
  |over h1 h2 h3=>exact .over h1 (by simp only;omega) h3
  |val e s h1 h2 h3 h4=>exact .val e s h1 h2 (by simp only;omega) (by simp only;omega)
theorem jD.K8 {base:List aO}{jX n:Int}{x:XS}(h:jD base jX n x)(hn:1<=n)(c:Int):jD base jX n (nW x c):=by
 unfold nW;simp only;generalize(if c=15 then(0:Int)else if c=16 then 1 else -1)=o;generalize iD (aS x.st).l _=nn;split
 .rename_i hf;unfold lJ at hf;simp at hf;cases h with
  |over h1 h2 h3=>omega
  |val e s h1 h2 h3 h4=>
   refine .val e (s++[⟨_,_,false⟩]) (by simp only;rw [h1];simp;exact⟨rfl,rfl⟩) h2 (by simp only;rw [Bt];simp;omega) h4
 .split
  .cases h with
   |over h1 h2 h3=>exact .over h1 h2 h3
   |val e s h1 h2 h3 h4=>exact .val e s h1 h2 h3 h4
  .exact h
theorem jD.pop {base:List aO}{jX n:Int}{x:XS}(h:jD base jX n x)(hn:1<=n):jD base jX n (uC x):=by
 unfold uC;split
 .exact h
 .rename_i hz;cases h with
  |over h1 h2 h3=>omega
  |val e s h1 h2 h3 h4=>
   split
   .exact .val e s h1 h2 h3 h4
   .split
    .rename_i hc;obtain⟨hi,_⟩:=hc;rcases List.eq_nil_or_concat s with rfl|⟨s',y,rfl⟩
     .rw [h1,ZM]at hi;rw [h2]at hi;cases hi
     .have e1:x.st=(base++e::s')++[y]:=by rw [h1];simp
      rw [e1,ZM]at hi;refine .val e s' (by simp only;rw [e1,List.dropLast_concat]) h2 ?_ h4;have:=Bt s' y;rw [hi,if_neg (by decide)]at this;simp only [List.concat_eq_append]at h3;simp only;omega
    .exact .val e s h1 h2 h3 h4
theorem jD.end {base:List aO}{jX n m:Int}{x:XS}(h:jD base jX n x)(hn:2<=n)(ho:dH m x):jD base jX (n - 1) (nC x):=by
 unfold nC;split
 .cases h with
  |over h1 h2 h3=>exact .over h1 (by simp only;omega) h3
  |val e s h1 h2 h3 h4=>exact .val e s h1 h2 (by simp only;omega) (by simp only;omega)
 .rename_i hz;cases h with
  |over h1 h2 h3=>omega
  |val e s h1 h2 h3 h4=>
   have hv:x.valid=iN x.st:=ho.cnt;have hc:iN x.st=iN base+1+iN s:=by
    unfold iN;rw [h1,List.filter_append,List.length_append,List.filter_cons,if_pos h2,List.length_cons];omega
   have hb:=FZ base;have hs:=FZ s;rw [if_neg (by omega)];obtain⟨s',e1,e2⟩:=ahu (base++[e]) s (by omega);refine .val e s' ?_ h2 (by simp only;omega) h4;simp only;rw [h1,show base++e::s=(base++[e])++s by simp,e1];simp
theorem jD.out {base:List aO}{jX m:Int}{x:XS}(h:jD base jX 1 x)(ho:dH m x):(nC x).st=base:=by
 unfold nC;cases h with
 |over h1 h2 h3=>rw [if_pos (by omega)];exact h1
 |val e s h1 h2 h3 h4=>
  have hs:=FZ s;have hb:=FZ base;have hv:x.valid=iN x.st:=ho.cnt;have hc:iN x.st=iN base+1+iN s:=by
   unfold iN;rw [h1,List.filter_append,List.length_append,List.filter_cons,if_pos h2,List.length_cons];omega
  rw [if_neg (by omega),if_neg (by omega)];simp only;rw [h1];refine ahv base e h2 s ?_;intro y hy;cases hi:y.i with
  |false=>rfl
  |true=>
   exfalso;have:y∈s.filter (·.i):=List.mem_filter.2 ⟨hy,hi⟩;have:=List.length_pos_of_mem this;unfold iN at h3;omega
theorem VY {c:Int}(h:aG c=true):c=18∨c=19∨c=20:=by unfold aG at h;simp at h;omega
theorem aas(cs:List Int)(i:Nat)(x:XS)(c:Int)(h:aG c=true):∃odd,gK cs i x c=jT x odd:=by
 unfold gK;rcases VY h with rfl|rfl|rfl
 .exact⟨0,by simp⟩
 .exact⟨1,by simp⟩
 .exact⟨_,by simp;rfl⟩
theorem jD.step {cs:List Int}{para:Int}(hp:0<=para/\para<=125){base:List aO}{jX n:Int}{k:Nat}(h:jD base jX n (dZ cs para k))(hn:1<=n)(h2:cs.getD k 0=21->2<=n):
  jD base jX (if cs.getD k 0=21 then n - 1 else if aG (cs.getD k 0)=true then n+1 else n) (dZ cs para (k+1)):=by
 have hok:=vT cs para hp k;rw [dZ];generalize dZ cs para k=x at*;generalize cs.getD k 0=c at*;by_cases h21:c=21
 .subst h21;rw [if_pos rfl,dK,if_pos rfl];have:=h.end (h2 rfl) hok;unfold gK;simpa using this
 .rw [if_neg h21,dK,if_neg h21];by_cases hi:aG c=true
  .rw [if_pos hi];obtain⟨odd,ho⟩:=aas cs k x c hi;rw [ho];exact h.begin hn odd
  .rw [if_neg hi];unfold gK;split
   .exact h.K8 hn c
   .rw [if_neg (by rintro rfl;exact hi rfl),if_neg (by rintro rfl;exact hi rfl),if_neg (by rintro rfl;exact hi rfl)];split
    .exact h.pop hn
    .exact h
theorem ML {cs:List Int}{para:Int}(hp:0<=para/\para<=125){base:List aO}{jX:Int}:∀(f k:Nat)(n:Int)(d:Nat),cs.length<=k+f->1<=n->jD base jX n (dZ cs para k)->bU (cs.drop k) n=some d->(nC (dZ cs para (k+d))).st=base/\cs.getD (k+d) 0=21
 |0,k,n,d,hf,_,_,hm=>by rw [List.drop_eq_nil_of_le (by omega)]at hm;cases hm
 |f+1,k,n,d,hf,hn,h,hm=>by
  rcases Nat.lt_or_ge k cs.length with hk|hk
  .rw [drop_at hk,bU]at hm;by_cases h21:cs.getD k 0=21
   .rw [if_pos h21]at hm;by_cases h1:n - 1=0
    .rw [if_pos h1]at hm;obtain rfl:=Option.some.inj hm;obtain rfl:n=1:=by omega
     exact⟨h.out (vT cs para hp k),h21⟩
    .rw [if_neg h1]at hm;cases hr:bU (cs.drop (k+1)) (n - 1)with
     |none=>rw [hr]at hm;cases hm
     |some d'=>
      rw [hr]at hm;obtain rfl:=Option.some.inj hm;have:=h.step hp hn (fun _=>by omega);rw [if_pos h21]at this;have:=ML hp f (k+1) (n - 1) d' (by omega) (by omega) this hr;rw [show k+(d'+1)=k+1+d' by omega];exact this
   .rw [if_neg h21]at hm;cases hr:bU (cs.drop (k+1)) (if aG (cs.getD k 0)=true then n+1 else n)with
    |none=>rw [hr]at hm;cases hm
    |some d'=>
     rw [hr]at hm;obtain rfl:=Option.some.inj hm;have:=h.step hp hn (fun h'=>absurd h' h21);rw [if_neg h21]at this;have:=ML hp f (k+1) _ d' (by omega) (by split<;>omega) this hr;rw [show k+(d'+1)=k+1+d' by omega];exact this
  .rw [List.drop_eq_nil_of_le hk]at hm;cases hm
theorem Xd {cs:List Int}{para:Int}(hp:0<=para/\para<=125){i:Nat}(hi:i<cs.length)(bG:aG (cs.getD i 0)=true)(hm:mt cs i<cs.length):iJ cs para (mt cs i)=iJ cs para i/\cs.getD (mt cs i) 0=21:=by
 have h21:¬cs.getD i 0=21:=by intro e;rw [e]at bG;cases bG
 obtain⟨odd,ho⟩:=aas cs i (dZ cs para i) (cs.getD i 0) bG;have hstart:jD (dZ cs para i).st (dZ cs para i).bu 1 (dZ cs para (i+1)):=by
  rw [dZ,dK,if_neg h21,ho];exact jD.abg odd (vT cs para hp i).bu.1
 unfold mt at hm ⊢;cases hd:bU (cs.drop i) 0 with
 |none=>rw [hd]at hm;simp at hm
 |some d=>
  simp only;rw [drop_at hi,bU,if_neg h21,if_pos bG]at hd;cases hr:bU (cs.drop (i+1)) (0+1)with
  |none=>rw [hr]at hd;cases hd
  |some d'=>
   rw [hr]at hd;obtain rfl:=Option.some.inj hd;have:=ML hp cs.length (i+1) 1 d' (by omega) (Int.le_refl _) hstart hr;rw [show i+(d'+1)=i+1+d' by omega];refine⟨?_,this.2⟩;unfold iJ;rw [this.2,dK,if_pos rfl,this.1,dK,if_neg h21]
def Ig(cs:List Int)(i:Nat)(x:List Int×List Nat):List Int×List Nat:=
 if aG (cs.getD i 0)=true then(x.1.set i (-1),x.2++[i])
 else if cs.getD i 0=21 then(match x.2.getLast? with
  |some k=>(((x.1.set i (-1)).set k (i:Int)).set i (k:Int),x.2.dropLast)
  |none=>(x.1.set i (-1),x.2))
 else(x.1.set i (-1),x.2)
def lM(cs:List Int):Nat->List Int×List Nat
 |0=>(List.replicate cs.length 0,[])
 |i+1=>Ig cs i (lM cs i)
def jL(cs:List Int):List Int:=(lM cs cs.length).1
structure l5(cs:List Int)(i:Nat)(x:List Int×List Nat):Prop where
 le:i<=cs.length
 len:x.1.length=cs.length
 opn:∀(d k:Nat),x.2[d]? =some k->l6 cs k i ((x.2.length:Int) - d)/\aG (cs.getD k 0)=true/\k<i/\x.1.getD k 0= -1
 qg:∀k,k<i->aG (cs.getD k 0)=true->k∈x.2∨(mt cs k<i/\x.1.getD k 0=mt cs k)
 Ap:∀k,k<i->cs.getD k 0=21->(x.1.getD k 0= -1/\∀j,j<k->aG (cs.getD j 0)=true->mt cs j≠k)∨∃j,j<k/\aG (cs.getD j 0)=true/\mt cs j=k/\x.1.getD k 0=j
 uA:∀k,k<i->aG (cs.getD k 0)=false->cs.getD k 0≠21->x.1.getD k 0= -1
 oW:x.2.Nodup
theorem l5.start(cs:List Int):l5 cs 0 (List.replicate cs.length 0,[]):=
 ⟨Nat.zero_le _,by simp,fun d k h=>by simp at h,fun k h=>by omega,fun k h=>by omega,fun k h=>by omega,by simp⟩
theorem tV {l:List Int}{k:Nat}(h:k<l.length)(v:Int):(l.set k v).getD k 0=v:=by
 rw [List.getD_eq_getElem?_getD,List.getElem?_set_self h];rfl
theorem getD_set_ne {l:List Int}{k j:Nat}(h:k≠j)(v:Int):(l.set k v).getD j 0=l.getD j 0:=by
 rw [List.getD_eq_getElem?_getD,List.getElem?_set_ne h,List.getD_eq_getElem?_getD]
theorem l5.plain {cs:List Int}{i:Nat}{x:List Int×List Nat}(h:l5 cs i x)(hi:i<cs.length)(h1:aG (cs.getD i 0)=false)(h2:cs.getD i 0≠21):l5 cs (i+1) (x.1.set i (-1),x.2):=by
 refine⟨hi,by simp [h.len],?_,?_,?_,?_,h.oW⟩
 .intro d k hk;obtain⟨a,b,c,e⟩:=h.opn d k hk;refine⟨?_,b,by omega,by simp only;rw [getD_set_ne (by omega)];exact e⟩;have:=a.plain hi h2;rw [h1]at this;simpa using this
 .intro k hk hik;rcases Nat.lt_or_ge k i with hk'|hk'
  .rcases h.qg k hk' hik with h'|⟨h',h''⟩
   .exact .inl h'
   .exact .inr ⟨by omega,by simp only;rw [getD_set_ne (by omega)];exact h''⟩
  .obtain rfl:k=i:=by omega
   rw [h1]at hik;cases hik
 .intro k hk h21;rcases Nat.lt_or_ge k i with hk'|hk'
  .simp only;rw [getD_set_ne (by omega)];exact h.Ap k hk' h21
  .obtain rfl:k=i:=by omega
   exact absurd h21 h2
 .intro k hk hik h21;simp only;rcases Nat.lt_or_ge k i with hk'|hk'
  .rw [getD_set_ne (by omega)];exact h.uA k hk' hik h21
  .obtain rfl:k=i:=by omega
   rw [tV (by rw [h.len];exact hi)]
theorem l5.push {cs:List Int}{i:Nat}{x:List Int×List Nat}(h:l5 cs i x)(hi:i<cs.length)(h1:aG (cs.getD i 0)=true):l5 cs (i+1) (x.1.set i (-1),x.2++[i]):=by
 have h2:cs.getD i 0≠21:=by intro e;rw [e]at h1;cases h1
 refine⟨hi,by simp [h.len],?_,?_,?_,?_,?_⟩
 .intro d k hk;simp only at hk;rcases Nat.lt_or_ge d x.2.length with hd|hd
  .rw [List.getElem?_append_left hd]at hk;obtain⟨a,b,c,e⟩:=h.opn d k hk;refine⟨?_,b,by omega,by simp only;rw [getD_set_ne (by omega)];exact e⟩;have:=a.plain hi h2;rw [if_pos h1]at this;simp only [List.length_append,List.length_cons,List.length_nil];rw [show(((x.2.length+(0+1):Nat):Int) - d)=((x.2.length:Int) - d)+1 by omega];exact this
  .rw [List.getElem?_append_right hd]at hk;have hd0:d - x.2.length=0:=by
    rcases Nat.eq_zero_or_pos (d - x.2.length)with h'|h'
    .exact h'
    .rw [List.getElem?_eq_none (by simp;omega)]at hk;cases hk
   rw [hd0]at hk;obtain rfl:i=k:=by simpa using hk
   refine⟨?_,h1,by omega,by simp only;rw [tV (by rw [h.len];exact hi)]⟩;have:=(l6.start cs i (by omega)).plain hi h2;rw [if_pos h1]at this;simp only [List.length_append,List.length_cons,List.length_nil];rw [show(((x.2.length+(0+1):Nat):Int) - d)=0+1 by omega];exact this
 .intro k hk hik;rcases Nat.lt_or_ge k i with hk'|hk'
  .rcases h.qg k hk' hik with h'|⟨h',h''⟩
   .exact .inl (by simp [h'])
   .exact .inr ⟨by omega,by simp only;rw [getD_set_ne (by omega)];exact h''⟩
  .obtain rfl:k=i:=by omega
   exact .inl (by simp)
 .intro k hk h21;rcases Nat.lt_or_ge k i with hk'|hk'
  .simp only;rw [getD_set_ne (by omega)];exact h.Ap k hk' h21
  .obtain rfl:k=i:=by omega
   exact absurd h21 h2
 .intro k hk hik h21;simp only;rcases Nat.lt_or_ge k i with hk'|hk'
  .rw [getD_set_ne (by omega)];exact h.uA k hk' hik h21
  .obtain rfl:k=i:=by omega
   rw [h1]at hik;cases hik
 .simp only;rw [List.nodup_append];refine⟨h.oW,by simp,?_⟩;intro a ha b hb;simp at hb;subst hb;obtain⟨d,hd⟩:=List.getElem?_of_mem ha;have:=(h.opn d a hd).2.2.1;omega
theorem l5.none {cs:List Int}{i:Nat}{x:List Int×List Nat}(h:l5 cs i x)(hi:i<cs.length)(h2:cs.getD i 0=21)(hx:x.2=[]):l5 cs (i+1) (x.1.set i (-1),x.2):=by
 refine⟨hi,by simp [h.len],?_,?_,?_,?_,h.oW⟩
 .intro d k hk;rw [hx]at hk;simp at hk
 .intro k hk hik;rcases Nat.lt_or_ge k i with hk'|hk'
  .rcases h.qg k hk' hik with h'|⟨h',h''⟩
   .exact .inl h'
   .exact .inr ⟨by omega,by simp only;rw [getD_set_ne (by omega)];exact h''⟩
  .obtain rfl:k=i:=by omega
   rw [h2]at hik;cases hik
 .intro k hk h21;rcases Nat.lt_or_ge k i with hk'|hk'
  .simp only;rw [getD_set_ne (by omega)];exact h.Ap k hk' h21
  .obtain rfl:k=i:=by omega
   refine .inl ⟨by simp only;rw [tV (by rw [h.len];exact hi)],fun j hj hij=> ?_⟩;rcases h.qg j hj hij with h'|⟨h',_⟩
   .rw [hx]at h';cases h'
   .omega
 .intro k hk hik h21;simp only;rcases Nat.lt_or_ge k i with hk'|hk'
  .rw [getD_set_ne (by omega)];exact h.uA k hk' hik h21
  .obtain rfl:k=i:=by omega
   exact absurd h2 h21
theorem l5.ahy {cs:List Int}{i o:Nat}{x:List Int×List Nat}{st:List Nat}(h:l5 cs i x)(hi:i<cs.length)(h2:cs.getD i 0=21)(hx:x.2=st++[o]):l5 cs (i+1) (((x.1.set i (-1)).set o (i:Int)).set i (o:Int),st):=by
 have hlen:=h.len;have ho:x.2[st.length]? =some o:=by rw [hx];simp
 obtain⟨a,b,c,e⟩:=h.opn _ _ ho;have hmt:mt cs o=i:=a.hit hi h2 (by rw [hx];simp;omega);have Mt:=h.oW;rw [hx,List.nodup_append]at Mt;have hno:o ∉ st:=fun hm=>Mt.2.2 o hm o (by simp) rfl
 have get:∀k,k<i->k≠o->(((x.1.set i (-1)).set o (i:Int)).set i (o:Int)).getD k 0=x.1.getD k 0:=by
  intro k hk hko;rw [getD_set_ne (by omega),getD_set_ne (by omega),getD_set_ne (by omega)]
 have adE:(((x.1.set i (-1)).set o (i:Int)).set i (o:Int)).getD o 0=i:=by
  rw [getD_set_ne (by omega),tV (by simp;omega)]
 have adD:(((x.1.set i (-1)).set o (i:Int)).set i (o:Int)).getD i 0=o:=by
  rw [tV (by simp;omega)]
 refine⟨hi,by simp [hlen],?_,?_,?_,?_,Mt.1⟩
 .intro d k hk;simp only at hk;have hd:d<st.length:=(List.getElem?_eq_some_iff.1 hk).1;have hk':x.2[d]? =some k:=by rw [hx,List.getElem?_append_left hd];exact hk
  obtain⟨a',b',c',e'⟩:=h.opn d k hk';have hkm:k∈st:=List.mem_of_getElem? hk;refine⟨?_,b',by omega,?_⟩
  .have:=a'.Ap hi h2 (by rw [hx];simp;omega);simp only;rw [show((st.length:Int) - d)=((x.2.length:Int) - d) - 1 by rw [hx];simp;omega];exact this
  .simp only;rw [get k c' (by rintro rfl;exact hno hkm)];exact e'
 .intro k hk hik;rcases Nat.lt_or_ge k i with hk'|hk'
  .by_cases hko:k=o
   .subst hko;exact .inr ⟨by omega,by simp only;rw [adE,hmt]⟩
   .rcases h.qg k hk' hik with h'|⟨h',h''⟩
    .rw [hx]at h';refine .inl ?_;simp at h';rcases h' with h'|h'
     .exact h'
     .exact absurd h' hko
    .exact .inr ⟨by omega,by simp only;rw [get k hk' hko];exact h''⟩
  .obtain rfl:k=i:=by omega
   rw [h2]at hik;cases hik
 .intro k hk h21;rcases Nat.lt_or_ge k i with hk'|hk'
  .have hko:k≠o:=by rintro rfl;rw [h21]at b;cases b
   simp only;rw [get k hk' hko];exact h.Ap k hk' h21
  .obtain rfl:k=i:=by omega
   exact .inr ⟨o,c,b,hmt,by simp only;rw [adD]⟩
 .intro k hk hik h21;rcases Nat.lt_or_ge k i with hk'|hk'
  .have hko:k≠o:=by rintro rfl;rw [hik]at b;cases b
   simp only;rw [get k hk' hko];exact h.uA k hk' hik h21
  .obtain rfl:k=i:=by omega
   exact absurd h2 h21
theorem Er(cs:List Int):∀i,i<=cs.length->l5 cs i (lM cs i)
 |0,_=>l5.start cs
 |i+1,hi=>by
  have h:=Er cs i (by omega);rw [lM,Ig];by_cases h1:aG (cs.getD i 0)=true
  .rw [if_pos h1];exact h.push (by omega) h1
  .rw [if_neg h1];by_cases h2:cs.getD i 0=21
   .rw [if_pos h2];rcases List.eq_nil_or_concat (lM cs i).2 with hx|⟨st,o,hx⟩
    .have:=h.none (by omega) h2 hx;rw [hx]at this ⊢;exact this
    .rw [List.concat_eq_append]at hx;have:=h.ahy (by omega) h2 hx;rw [hx];simpa using this
   .rw [if_neg h2];exact h.plain (by omega) (by simpa using h1) h2
theorem WS(cs:List Int):(jL cs).length=cs.length:=(Er cs _ (Nat.le_refl _)).len
theorem Np {cs:List Int}{k:Nat}(hk:k<cs.length)(hi:aG (cs.getD k 0)=true):(jL cs).getD k 0=if mt cs k<cs.length then(mt cs k:Int)else -1:=by
 have h:=Er cs _ (Nat.le_refl _);rcases h.qg k hk hi with h'|⟨h1,h2⟩
 .obtain⟨d,hd⟩:=List.getElem?_of_mem h';obtain⟨a,_,_,e⟩:=h.opn d k hd;rw [if_neg (by rw [a.stop (by omega)];omega)];exact e
 .rw [if_pos h1];exact h2
theorem XL(cs:List Int)(i:Nat):∀n,n<=i->(0<=Ak cs i n↔∃j,i - n<=j/\j<i/\aG (cs.getD j 0)=true/\mt cs j=i)
 |0,_=>by
  rw [Ak];constructor
  .intro h;omega
  .rintro⟨j,h1,h2,_⟩;omega
 |n+1,hn=>by
  rw [Ak];have ih:=XL cs i n (by omega);by_cases h:aG (cs.getD (i - (n+1)) 0)=true/\mt cs (i - (n+1))=i
  .rw [if_pos h];constructor
   .intro _;exact⟨i - (n+1),Nat.le_refl _,by omega,h.1,h.2⟩
   .intro _;omega
  .rw [if_neg h,ih];constructor
   .rintro⟨j,h1,h2⟩;exact⟨j,by omega,h2⟩
   .rintro⟨j,h1,h2,h3,h4⟩;rcases Nat.eq_or_lt_of_le h1 with h'|h'
    .subst h';exact absurd ⟨h3,h4⟩ h
    .exact⟨j,by omega,h2,h3,h4⟩
theorem XN(cs:List Int)(i:Nat):0<=opener cs i↔∃j,j<i/\aG (cs.getD j 0)=true/\mt cs j=i:=by
 unfold opener;rw [XL cs i i (Nat.le_refl _)];constructor
 .rintro⟨j,_,h⟩;exact⟨j,h⟩
 .rintro⟨j,h⟩;exact⟨j,by omega,h⟩
theorem afS {cs:List Int}{k:Nat}(hk:k<cs.length)(hp:cs.getD k 0=21):((jL cs).getD k 0≠ -1↔0<=opener cs k):=by
 rw [XN];have h:=Er cs _ (Nat.le_refl _);rcases h.Ap k hk hp with⟨h1,h2⟩|⟨j,h1,h2,h3,h4⟩
 .constructor
  .intro h';exact absurd h1 h'
  .rintro⟨j,a,b,c⟩;exact absurd c (h2 j a b)
 .constructor
  .intro _;exact⟨j,h1,h2,h3⟩
  .intro _ h';have:(jL cs).getD k 0=j:=h4;omega
def kL(cs:List Int)(to':Nat):Nat->Nat->Int
 |0,_=>0
 |f+1,i=>if i<to' then(if cs.getD i 0=0 then 0 else if cs.getD i 0=1∨cs.getD i 0=2 then 1 else if aG (cs.getD i 0)=true then kL cs to' f (mt cs i+1)else kL cs to' f (i+1))else 0
theorem N9(cs:List Int):∀f i,kL cs cs.length f i=gy cs f i
 |0,i=>rfl
 |f+1,i=>by rw [kL,gy,N9 cs f,N9 cs f]
theorem Ih:∀(l:List Int)(n a:Int)(d:Nat),1<=n->1<=a->bU l (n+a)=some d->∃d',d'<d/\bU l n=some d'
 |[],n,a,d,_,_,h=>by cases h
 |c::r,n,a,d,hn,ha,h=>by
  rw [bU]at h;rw [bU];by_cases hc:c=21
  .rw [if_pos hc]at h ⊢;rw [if_neg (by omega)]at h;cases hr:bU r (n+a - 1)with
   |none=>rw [hr]at h;cases h
   |some d1=>
    rw [hr]at h;obtain rfl:=Option.some.inj h;by_cases h1:n - 1=0
    .rw [if_pos h1];exact⟨0,by simp,rfl⟩
    .rw [if_neg h1];obtain⟨d',h2,h3⟩:=Ih r (n - 1) a d1 (by omega) ha (by rw [show n - 1+a=n+a - 1 by omega];exact hr);rw [h3];exact⟨d'+1,by simp;omega,rfl⟩
  .rw [if_neg hc]at h ⊢;cases hi:aG c with
   |true=>
    rw [hi,if_pos rfl]at h;rw [if_pos rfl];cases hr:bU r (n+a+1)with
    |none=>rw [hr]at h;cases h
    |some d1=>
     rw [hr]at h;obtain rfl:=Option.some.inj h;obtain⟨d',h2,h3⟩:=Ih r (n+1) a d1 (by omega) ha (by rw [show n+1+a=n+a+1 by omega];exact hr);rw [h3];exact⟨d'+1,by simp;omega,rfl⟩
   |false=>
    rw [hi,if_neg (by decide)]at h;rw [if_neg (by decide)];cases hr:bU r (n+a)with
    |none=>rw [hr]at h;cases h
    |some d1=>
     rw [hr]at h;obtain rfl:=Option.some.inj h;obtain⟨d',h2,h3⟩:=Ih r n a d1 hn ha hr;rw [h3];exact⟨d'+1,by simp;omega,rfl⟩
theorem Nw:∀(l:List Int)(n:Int)(d q:Nat),bU l n=some d->d<q->bU (l.take q) n=some d
 |[],n,d,q,h,_=>by cases h
 |c::r,n,d,0,_,hq=>by omega
 |c::r,n,d,q+1,h,hq=>by
  rw [List.take_succ_cons];rw [bU]at h ⊢;by_cases hc:c=21
  .rw [if_pos hc]at h ⊢;by_cases h1:n - 1=0
   .rw [if_pos h1]at h ⊢;exact h
   .rw [if_neg h1]at h ⊢;cases hr:bU r (n - 1)with
    |none=>rw [hr]at h;cases h
    |some d1=>
     rw [hr]at h;obtain rfl:=Option.some.inj h;rw [Nw r (n - 1) d1 q hr (by simp at hq;omega)];rfl
  .rw [if_neg hc]at h ⊢;cases hr:bU r (if aG c=true then n+1 else n)with
   |none=>rw [hr]at h;cases h
   |some d1=>
    rw [hr]at h;obtain rfl:=Option.some.inj h;rw [Nw r _ d1 q hr (by simp at hq;omega)];rfl
theorem Sl {cs:List Int}{i m:Nat}(hi:i<cs.length)(bG:aG (cs.getD i 0)=true)(hm:bU (cs.drop i) 0=some (m - i))(him:i<m):∀j,i+1+j<=m->∃n:Int,1<=n/\bU (cs.drop (i+1+j)) n=some (m - (i+1+j))
 |0,h=>by
  have h21:¬cs.getD i 0=21:=by intro e;rw [e]at bG;cases bG
  rw [drop_at hi,bU,if_neg h21,if_pos bG]at hm;cases hr:bU (cs.drop (i+1)) (0+1)with
  |none=>rw [hr]at hm;cases hm
  |some d=>
   rw [hr]at hm;have:=Option.some.inj hm;simp at this;refine⟨0+1,by omega,?_⟩;rw [show i+1+0=i+1 by omega,hr]
   congr 1
   omega
 |j+1,h=>by
  obtain⟨n,hn,h1⟩:=Sl hi bG hm him j (by omega);have hk:i+1+j<cs.length:=by
   rcases Nat.lt_or_ge (i+1+j) cs.length with h'|h'
   .exact h'
   .rw [List.drop_eq_nil_of_le h']at h1;cases h1
  rw [drop_at hk,bU]at h1;by_cases hc:cs.getD (i+1+j) 0=21
  .rw [if_pos hc]at h1;by_cases h0:n - 1=0
   .rw [if_pos h0]at h1;have:=Option.some.inj h1;omega
   .rw [if_neg h0]at h1;cases hr:bU (cs.drop (i+1+j+1)) (n - 1)with
    |none=>rw [hr]at h1;cases h1
    |some d=>
     rw [hr]at h1;have:=Option.some.inj h1;simp at this;refine⟨n - 1,by omega,?_⟩;rw [show i+1+(j+1)=i+1+j+1 by omega,hr]
     congr 1
     omega
  .rw [if_neg hc]at h1;cases hr:bU (cs.drop (i+1+j+1)) (if aG (cs.getD (i+1+j) 0)=true then n+1 else n)with
   |none=>rw [hr]at h1;cases h1
   |some d=>
    rw [hr]at h1;have:=Option.some.inj h1;simp at this;refine⟨if aG (cs.getD (i+1+j) 0)=true then n+1 else n,?_,?_⟩
    .split<;>omega
    .rw [show i+1+(j+1)=i+1+j+1 by omega,hr]
     congr 1
     omega
theorem Xe {cs:List Int}{i k:Nat}(hi:i<cs.length)(bG:aG (cs.getD i 0)=true)(hm:mt cs i<cs.length)(h1:i<k)(h2:k<mt cs i)(hk:aG (cs.getD k 0)=true):∃d,bU (cs.drop k) 0=some d/\k+d<mt cs i:=by
 have hgt:i<mt cs i:=by omega
 have hd:bU (cs.drop i) 0=some (mt cs i - i):=by
  unfold mt at hm ⊢;cases hd:bU (cs.drop i) 0 with
  |none=>rw [hd]at hm;simp at hm
  |some d=>simp
 obtain⟨n,hn,hj⟩:=Sl hi bG hd hgt (k - (i+1)) (by omega);rw [show i+1+(k - (i+1))=k by omega]at hj;have hkl:k<cs.length:=by omega
 have h21:¬cs.getD k 0=21:=by intro e;rw [e]at hk;cases hk
 rw [drop_at hkl,bU,if_neg h21,if_pos hk]at hj;rw [drop_at hkl,bU,if_neg h21,if_pos hk];cases hr:bU (cs.drop (k+1)) (n+1)with
 |none=>rw [hr]at hj;cases hj
 |some d1=>
  rw [hr]at hj;have e1:=Option.some.inj hj;simp at e1;obtain⟨d',h3,h4⟩:=Ih (cs.drop (k+1)) 1 n d1 (by omega) hn (by rw [show 1+n=n+1 by omega];exact hr);refine⟨d'+1,by rw [show(0:Int)+1=1 by omega,h4];rfl,by omega⟩
theorem af5 {cs:List Int}{i k:Nat}(hi:i<cs.length)(bG:aG (cs.getD i 0)=true)(h1:i<k)(h2:k<mt cs i)(hk:aG (cs.getD k 0)=true):mt ((cs.take (mt cs i)).drop (i+1)) (k - (i+1))+(i+1)=mt cs k:=by
 have hle:=vG cs i (by omega);have hdd:((cs.take (mt cs i)).drop (i+1)).drop (k - (i+1))=(cs.drop k).take (mt cs i - k):=by
  rw [List.drop_drop,show i+1+(k - (i+1))=k by omega,List.drop_take]
 rcases Nat.lt_or_ge (mt cs i) cs.length with hm|hm
 .obtain⟨d,hd,hlt⟩:=Xe hi bG hm h1 h2 hk;have e1:mt cs k=k+d:=by unfold mt;rw [hd]
  have e2:mt ((cs.take (mt cs i)).drop (i+1)) (k - (i+1))=k - (i+1)+d:=by
   have h3:=Nw _ _ _ (mt cs i - k) hd (by omega);rw [<-hdd]at h3;generalize(cs.take (mt cs i)).drop (i+1)=u at*;unfold mt;rw [h3]
  rw [e1,e2];omega
 .have hm':mt cs i=cs.length:=by omega
  have ht:cs.take (mt cs i)=cs:=by rw [hm'];exact List.take_length
  rw [ht]at hdd ⊢;unfold mt;rw [List.drop_drop,show i+1+(k - (i+1))=k by omega];cases hd:bU (cs.drop k) 0 with
  |none=>simp;omega
  |some d=>simp;omega
theorem Oa {cs:List Int}{i:Nat}(hi:i<cs.length)(bG:aG (cs.getD i 0)=true):∀f q,kL cs (mt cs i) f (i+1+q)=gy ((cs.take (mt cs i)).drop (i+1)) f q
 |0,q=>rfl
 |f+1,q=>by
  have hle:=vG cs i (by omega);have hlen:((cs.take (mt cs i)).drop (i+1)).length=mt cs i - (i+1):=by rw [List.length_drop,List.length_take];omega
  rw [kL,gy,hlen];by_cases hq:i+1+q<mt cs i
  .rw [if_pos hq,if_pos (show q<mt cs i - (i+1)by omega)];have hg:((cs.take (mt cs i)).drop (i+1)).getD q 0=cs.getD (i+1+q) 0:=by
    rw [List.getD_eq_getElem?_getD,List.getElem?_drop,List.getElem?_take,if_pos hq,List.getD_eq_getElem?_getD]
   rw [hg];by_cases hk:aG (cs.getD (i+1+q) 0)=true
   .have:=af5 hi bG (show i<i+1+q by omega) hq hk;rw [show i+1+q - (i+1)=q by omega]at this;rw [if_pos hk,if_pos hk,<-this,show mt ((cs.take (mt cs i)).drop (i+1)) q+(i+1)+1=i+1+(mt ((cs.take (mt cs i)).drop (i+1)) q+1)by omega,Oa hi bG f]
   .rw [if_neg hk,if_neg hk,show i+1+q+1=i+1+(q+1)by omega,Oa hi bG f]
  .rw [if_neg hq,if_neg (show¬q<mt cs i - (i+1)by omega)]
theorem adu {cs:List Int}{i:Nat}(hi:i<cs.length)(bG:aG (cs.getD i 0)=true)(f:Nat)(hf:mt cs i - (i+1)<=f):kL cs (mt cs i) f (i+1)=nH cs i:=by
 have:=Oa hi bG f 0;rw [show i+1+0=i+1 by omega]at this;rw [this];unfold nH found;have hle:=vG cs i (by omega);have hlen:((cs.take (mt cs i)).drop (i+1)).length=mt cs i - (i+1):=by rw [List.length_drop,List.length_take];omega
 exact Ls _ _ _ _ (by omega) (by omega)
def jW(lf:List Bool)(p:Nat):Bool:=lf.getD p false
structure yc(lv:List Int)(lf:List Bool)(i:Nat)(x:List (List Nat)×List Nat):Prop where
 flat:x.1.flatten++x.2=(List.range i).filter (jW lf)
 ne:∀r∈x.1,r≠[]
 lvl:∀r∈x.1,∀p∈r,lv.getD p 0=lv.getD (r.headD 0) 0
 cur:∀p∈x.2,lv.getD p 0=lv.getD (x.2.headD 0) 0
theorem yc.start(lv:List Int)(lf:List Bool):yc lv lf 0 ([],[]):=⟨rfl,by simp,by simp,by simp⟩
theorem yc.step {lv:List Int}{lf:List Bool}{i:Nat}{x:List (List Nat)×List Nat}(h:yc lv lf i x):yc lv lf (i+1) (IL lv lf i x):=by
 obtain⟨h1,h2,h3,h4⟩:=h;unfold IL;split
 .rename_i hl;refine⟨?_,h2,h3,h4⟩;rw [h1,List.range_succ,List.filter_append,List.filter_cons,List.filter_nil,jW,hl];simp
 .rename_i hl;have hl':jW lf i=true:=by simpa [jW]using hl
  split
  .rename_i hc;refine⟨?_,?_,?_,by simp⟩
   .simp only [List.flatten_append,List.flatten_cons,List.flatten_nil,List.append_nil];rw [h1,List.range_succ,List.filter_append,List.filter_cons,List.filter_nil,hl'];rfl
   .intro r hr;rcases List.mem_append.1 hr with hr|hr
    .exact h2 r hr
    .simp at hr;subst hr;exact hc.1
   .intro r hr;rcases List.mem_append.1 hr with hr|hr
    .exact h3 r hr
    .simp at hr;subst hr;exact h4
  .rename_i hc;refine⟨?_,h2,h3,?_⟩
   .simp only;rw [<-List.append_assoc,h1,List.range_succ,List.filter_append,List.filter_cons,List.filter_nil,hl'];rfl
   .simp only;by_cases hx:x.2=[]
    .rw [hx];simp
    .have hh:(x.2++[i]).headD 0=x.2.headD 0:=by cases hx2:x.2 with
      |nil=>exact absurd hx2 hx
      |cons a l=>rfl
     rw [hh];intro p hp;rcases List.mem_append.1 hp with hp|hp
     .exact h4 p hp
     .simp at hp;subst hp;rcases Decidable.em (lv.getD (x.2.headD 0) 0=lv.getD p 0)with h'|h'
      .exact h'.symm
      .exact absurd ⟨hx,h'⟩ hc
theorem Y7 {lv:List Int}{lf:List Bool}:∀n i x,yc lv lf i x->∃y,yc lv lf (i+n) y/\Co lv lf n i x=vL y
 |0,i,x,h=>⟨x,h,rfl⟩
 |n+1,i,x,h=>by
  obtain⟨y,h1,h2⟩:=Y7 n (i+1) _ h.step;exact⟨y,by rw [show i+(n+1)=i+1+n by omega];exact h1,by rw [Co];exact h2⟩
theorem Cq(lv:List Int)(lf:List Bool):(eZ lv lf).flatten=(List.range lv.length).filter (jW lf)/\(∀r∈eZ lv lf,r≠[])/\∀r∈eZ lv lf,∀p∈r,lv.getD p 0=lv.getD (r.headD 0) 0:=by
 obtain⟨y,h1,h2⟩:=Y7 lv.length 0 ([],[]) (yc.start lv lf);unfold eZ;rw [h2];unfold vL;rw [Nat.zero_add]at h1;split
 .rename_i hy;refine⟨?_,h1.ne,h1.lvl⟩;have:=h1.flat;rw [hy,List.append_nil]at this;exact this
 .rename_i hy;refine⟨?_,?_,?_⟩
  .rw [<-h1.flat];simp
  .intro r hr;rcases List.mem_append.1 hr with hr|hr
   .exact h1.ne r hr
   .simp at hr;subst hr;exact hy
  .intro r hr;rcases List.mem_append.1 hr with hr|hr
   .exact h1.lvl r hr
   .simp at hr;subst hr;exact h1.cur
theorem Y8(lv:List Int)(lf:List Bool):(eZ lv lf).flatten.Nodup:=by
 rw [(Cq lv lf).1];exact List.Pairwise.filter _ List.nodup_range
theorem Cn {lv:List Int}{lf:List Bool}{r:List Nat}{p:Nat}(hr:r∈eZ lv lf)(hp:p∈r):p<lv.length/\jW lf p=true:=by
 have:p∈(eZ lv lf).flatten:=List.mem_flatten.2 ⟨r,hr,hp⟩;rw [(Cq lv lf).1,List.mem_filter,List.mem_range]at this;exact this
def gz(nx:Nat->Option Nat):Nat->Nat->Option Nat
 |0,i=>some i
 |a+1,i=>(gz nx a i).bind nx
def kJ(nx:Nat->Option Nat):Nat->Nat->List Nat
 |0,i=>[i]
 |f+1,i=>match nx i with
  |none=>[i]
  |some k=>i::kJ nx f k
theorem V3(nx:Nat->Option Nat):∀a i k,nx i=some k->gz nx (a+1) i=gz nx a k
 |0,i,k,h=>by simp [gz,h]
 |a+1,i,k,h=>by rw [gz,V3 nx a i k h,gz]
theorem Io(nx:Nat->Option Nat):∀f i k,k∈kJ nx f i->∃a,gz nx a i=some k
 |0,i,k,h=>by simp [kJ]at h;exact⟨0,by simp [gz,h]⟩
 |f+1,i,k,h=>by
  rw [kJ]at h;split at h
  .simp at h;exact⟨0,by simp [gz,h]⟩
  .rename_i q hq;rcases List.mem_cons.1 h with h|h
   .exact⟨0,by simp [gz,h]⟩
   .obtain⟨a,ha⟩:=Io nx f q k h;exact⟨a+1,by rw [V3 nx a i q hq];exact ha⟩
section
variable{nx:Nat->Option Nat}(inj:∀i j k,nx i=some k->nx j=some k->i=j)
include inj
theorem Hl:∀a b i j k,gz nx a i=some k->gz nx (a+b) j=some k->gz nx b j=some i
 |0,b,i,j,k,h1,h2=>by simp [gz]at h1;subst h1;rw [Nat.zero_add]at h2;exact h2
 |a+1,b,i,j,k,h1,h2=>by
  rw [show a+1+b=(a+b)+1 by omega]at h2;rw [gz]at h1 h2;cases h3:gz nx a i with
  |none=>rw [h3]at h1;cases h1
  |some p=>
   cases h4:gz nx (a+b) j with
   |none=>rw [h4]at h2;cases h2
   |some q=>
    rw [h3]at h1;rw [h4]at h2;have:p=q:=inj p q k h1 h2;subst this;exact Hl a b i j p h3 h4
omit inj in
theorem MV {s:Nat}(hs:∀i,nx i≠some s)(b j:Nat)(h:gz nx b j=some s):b=0/\j=s:=by
 cases b with
 |zero=>simp [gz]at h;exact⟨rfl,h⟩
 |succ b=>
  rw [gz]at h;cases h1:gz nx b j with
  |none=>rw [h1]at h;cases h
  |some q=>rw [h1]at h;exact absurd h (hs q)
theorem agI {s t k:Nat}(hs:∀i,nx i≠some s)(ht:∀i,nx i≠some t){f g:Nat}(h1:k∈kJ nx f s)(h2:k∈kJ nx g t):s=t:=by
 obtain⟨a,ha⟩:=Io nx f s k h1;obtain⟨b,hb⟩:=Io nx g t k h2;rcases Nat.le_total a b with h|h
 .have:=Hl inj a (b - a) s t k ha (by rw [show a+(b - a)=b by omega];exact hb);exact(MV hs _ _ this).2.symm
 .have:=Hl inj b (a - b) t s k hb (by rw [show b+(a - b)=a by omega];exact ha);exact(MV ht _ _ this).2
theorem XT {s:Nat}(hs:∀i,nx i≠some s):∀f i c,gz nx c s=some i->(kJ nx f i).Nodup
 |0,i,c,h=>by simp [kJ]
 |f+1,i,c,h=>by
  rw [kJ];split
  .simp
  .rename_i q hq;rw [List.nodup_cons];refine⟨?_,XT hs f q (c+1) (by rw [gz,h];exact hq)⟩;intro hm;obtain⟨a,ha⟩:=Io nx f q i hm;have h2:gz nx (c+(a+1)) s=some i:=by
    have:∀a i q,gz nx c s=some i->nx i=some q->gz nx (c+(a+1)) s=gz nx a q:=by
     intro a
     induction a with
     |zero=>intro i q h hq;show(gz nx c s).bind nx=some q;rw [h];exact hq
     |succ a ih=>intro i q h hq;rw [show c+(a+1+1)=(c+(a+1))+1 by omega,gz,ih i q h hq];rfl
    rw [this a i q h hq];exact ha
   have:=Hl inj c (a+1) s s i h h2;have:=(MV hs _ _ this).1;omega
theorem XU(f:Nat):∀(l:List Nat),l.Nodup->(∀s∈l,∀i,nx i≠some s)->(l.flatMap (kJ nx f)).Nodup
 |[],_,_=>by simp
 |s::l,hn,hs=>by
  rw [List.flatMap_cons,List.nodup_append];refine⟨XT inj (hs s (by simp)) f s 0 rfl,XU f l (List.nodup_cons.1 hn).2 (fun t ht=>hs t (by simp [ht])),?_⟩;intro a ha b hb hab;subst hab;obtain⟨t,ht,hb⟩:=List.mem_flatMap.1 hb;have:=agI inj (hs s (by simp)) (hs t (by simp [ht])) ha hb;subst this;exact(List.nodup_cons.1 hn).1 ht
end
theorem Pn {P:Program}(w:World){ops:Array Oper}{rest:List Oper}{o:Oper}{a:Act}{Q:Exit->Act->World->Prop}(hgd:o.guard=none)(s x:Operand)(t:TypeId)
  (ho:o.op= .call {callee:= .builtin .append,args:=#[s,x],argTypes:=#[t,t]})
  (base:Nat) (e:TypeId) (i:TypeInfo) (z:Value) (bytes:Nat) (ht:P.underlying t=some (.slice e)) (hi:P.info? e=some i) (hz:i.zero=some z)
  (hsize:i.size=1) (hby:i.bytes=bytes) (hzs:z.cells.size=1) (wU:bytes<=64)
  (v:Value) (n:Nat) (xs:List Value) (hs:a.eval s=v) (hown:w.ownsRow base e 1 v n xs)
  (y:Value) (e':TypeId) (k:Nat) (hx:a.eval x= .slice (some ⟨k,0,none⟩) 1 1) (hk:k=w.heap.size) (h1:y.oneCell'=true) (hn:n<=1000000) (hbase:base<=w.heap.size)
  (h:∀v' w',w'.ownsRow base e 1 v' (n+1) (xs++[y])->w.grownBy w' v.ownBlock->(v'.ownBlock=v.ownBlock∨v'.ownBlock=some (w.heap.size+1))->wpList P ops Q rest (a.put o.dst v') w'):wpList P ops Q (o::rest) a (w.alloc (.cells #[y] e')):=by
 subst hk;refine wpList_append_own_at _ hgd s x t ho base e i z 1 bytes ht hi hz hsize hby hzs (by decide) v n xs hs (hown.alloc _) ⟨w.heap.size,0,none⟩ 1 1 [y] hx rfl ?_ ?_ ?_ ?_ ?_ ?_
 .intro j u hj
  match j,hj with
  |0,hj=>simp at hj;subst hj;simp [Addr.add]
 .intro u hu;simp at hu;subst hu;exact h1
 .unfold maxLen;omega
 .have:(n+1)*bytes<=1000001*64:=Nat.mul_le_mul (by omega) wU;omega
 .simp;omega
 .intro v' w' h2 h3 _ h5;refine h v' w' h2 ⟨h3.os,h3.tape,h3.output,?_,fun k hk hne=> ?_⟩ (by simpa using h5)
  .have:=h3.size;simp at this;omega
  .rw [h3.block k (by simp;omega) hne];exact Below.heap_alloc w _ k hk
theorem zL {w:World}{r:Option Nat}:w.grownBy w.drew r:=⟨rfl,rfl,rfl,Nat.le_refl _,fun _ _ _=>rfl⟩
def lY(a b:Option Nat):Prop:=∀k,a=some k->b=some k->False
theorem lY.symm {a b:Option Nat}(h:lY a b):lY b a:=fun k h1 h2=>h k h2 h1
theorem lY.ne {a b:Option Nat}(h:lY a b):a=none∨a≠b:=by
 cases a with
 |none=>exact .inl rfl
 |some k=>exact .inr fun e=>h k rfl e.symm
theorem yX {w:World}{B:Nat}{e:TypeId}{z n:Nat}{v:Value}{xs:List Value}(h:w.ownsRow B e z v n xs):∀k,v.ownBlock=some k->k<w.heap.size:=fun k hk=>(h.lt k hk).2
theorem lY.push {w:World}{a a' b:Option Nat}(h:lY a b)(h1:a'=a∨a'=some (w.heap.size+1))(hb:∀k,b=some k->k<w.heap.size):lY a' b:=by
 intro k h2 h3;rcases h1 with rfl|h1
 .exact h k h2 h3
 .rw [h1]at h2;have:=Option.some.inj h2;have:=hb k h3;omega
structure oL(w0 w:World)(B:Nat)(tv ov rv:Value)(t o r:List Int):Prop where
 below:Below B w0 w
 base:B<=w.heap.size
 ht:w.ownsRow B 3 1 tv t.length (iv t)
 ho:w.ownsRow B 3 1 ov o.length (iv o)
 hr:w.ownsRow B 3 1 rv r.length (iv r)
 to':lY tv.ownBlock ov.ownBlock
 tr:lY tv.ownBlock rv.ownBlock
 or':lY ov.ownBlock rv.ownBlock
theorem oL.start(w0 w:World)(B:Nat)(hb:Below B w0 w)(hB:B<=w.heap.size):oL w0 w B (.slice none 0 0) (.slice none 0 0) (.slice none 0 0) [] [] []:=
 ⟨hb,hB,⟨rfl,.inl ⟨rfl,rfl⟩⟩,⟨rfl,.inl ⟨rfl,rfl⟩⟩,⟨rfl,.inl ⟨rfl,rfl⟩⟩,fun k h=>(by cases h),fun k h=>(by cases h),fun k h=>(by cases h)⟩
theorem oL.YC {w0 w w':World}{B:Nat}{tv ov rv v':Value}{t o r:List Int}{a:Int}(h:oL w0 w B tv ov rv t o r)(h1:w'.ownsRow B 3 1 v' (t.length+1) (iv t++[.int .i64 a]))(hg:w.grownBy w' tv.ownBlock)(hv:v'.ownBlock=tv.ownBlock∨v'.ownBlock=some (w.heap.size+1)):oL w0 w' B v' ov rv (t++[a]) o r:=
 ⟨h.below.grown hg h.base (uB h.ht),Nat.le_trans h.base hg.size,by rw [BS]at h1;simpa using h1,dJ h.ho hg h.to'.symm.ne,dJ h.hr hg h.tr.symm.ne,h.to'.push hv (yX h.ho),h.tr.push hv (yX h.hr),h.or'⟩
theorem oL.IA {w0 w w':World}{B:Nat}{tv ov rv v':Value}{t o r:List Int}{a:Int}(h:oL w0 w B tv ov rv t o r)(h1:w'.ownsRow B 3 1 v' (r.length+1) (iv r++[.int .i64 a]))(hg:w.grownBy w' rv.ownBlock)(hv:v'.ownBlock=rv.ownBlock∨v'.ownBlock=some (w.heap.size+1)):oL w0 w' B tv ov v' t o (r++[a]):=
 ⟨h.below.grown hg h.base (uB h.hr),Nat.le_trans h.base hg.size,dJ h.ht hg h.tr.ne,dJ h.ho hg h.or'.ne,by rw [BS]at h1;simpa using h1,h.to',(h.tr.symm.push hv (yX h.ht)).symm,(h.or'.symm.push hv (yX h.ho)).symm⟩
theorem Tryz.aeT:(prog.info? 31).map (fun i=>(i.zero,i.size,i.bytes))=some (some (.slice none 0 0),1,24):=by kernel_rfl
structure zC(w0 w:World)(B:Nat)(ov rv:Value)(vs:List Value)(x:List (List Nat)×List Nat):Prop where
 below:Below B w0 w
 base:B<=w.heap.size
 out:w.ownsRow B 31 1 ov x.1.length vs
 cur:w.ownsRow B 3 1 rv x.2.length (iv (nl x.2))
 old:∀i,i<x.1.length->w.ownsRow B 3 1 (vs.getD i .nilFunc) (x.1.getD i []).length (iv (nl (x.1.getD i [])))
 Bh:∀i,i<x.1.length->lY (vs.getD i .nilFunc).ownBlock rv.ownBlock
theorem zC.start(w:World):zC w w w.heap.size (.slice none 0 0) (.slice none 0 0) [] ([],[]):=
 ⟨Below.refl _ _,Nat.le_refl _,⟨rfl,.inl ⟨rfl,rfl⟩⟩,⟨rfl,.inl ⟨rfl,rfl⟩⟩,fun i h=>by simp at h,fun i h=>by simp at h⟩
theorem zC.len {w0 w:World}{B:Nat}{ov rv:Value}{vs:List Value}{x:List (List Nat)×List Nat}(h:zC w0 w B ov rv vs x):vs.length=x.1.length:=by have:=h.out.1;omega
theorem zC.grow {w0 w w':World}{B:Nat}{ov rv rv':Value}{vs:List Value}{x:List (List Nat)×List Nat}{p:Nat}(h:zC w0 w B ov rv vs x)(h1:w'.ownsRow B 3 1 rv' (x.2.length+1) (iv (nl x.2)++[.int .i64 (p:Nat)]))(hg:w.grownBy w' rv.ownBlock)(hv:rv'.ownBlock=rv.ownBlock∨rv'.ownBlock=some (w.heap.size+1)):zC w0 w' B ov rv' vs (x.1,x.2++[p]):=
 ⟨h.below.grown hg h.base (uB h.cur),Nat.le_trans h.base hg.size,dJ h.out hg (lQ h.out h.cur (by decide)),by rw [BS,Ik]at h1;simpa using h1,
  fun i hi=>dJ (h.old i hi) hg (h.Bh i hi).ne,fun i hi=>((h.Bh i hi).symm.push hv (yX (h.old i hi))).symm⟩
theorem wK {w:World}{r:Option Nat}{n:Nat}:w.grownBy (w.drewN n) r:=⟨rfl,rfl,rfl,Nat.le_refl _,fun _ _ _=>rfl⟩
def Je(w:World)(b off:Nat)(l:List Bool):Prop:=∀i,i<l.length->w.cell? ⟨b,off+i,none⟩=some (.bool (l.getD i false))
theorem Je.stay {w w':World}{B b off:Nat}{l:List Bool}(h:Je w b off l)(hb:Below B w w')(hlt:b<B):Je w' b off l:=fun i hi=>by rw [hb.cell (p:=⟨b,off+i,none⟩) hlt];exact h i hi
