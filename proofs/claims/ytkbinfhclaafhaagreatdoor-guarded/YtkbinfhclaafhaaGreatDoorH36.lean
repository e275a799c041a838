import Derived.Test.YtkbinfhclaafhaaGreatDoorH29
import Derived.Lib.MapLaws
import Derived.Test.YtkbinfhclaafhaaGreatDoorH23
import Derived.Test.YtkbinfhclaafhaaGreatDoorH25
namespace Go.Proofs.YtkbinfhclaafhaaGreatDoor
open Go.RowKit
open Go.Proofs.Tryz
set_option maxRecDepth 100000
set_option maxHeartbeats 32000000
def VR(r:Int):Prop:=(0<=r/\r<55296)∨(57344<=r/\r<=1114111)
def en(r:Int):List UInt8:=Lib.encodeRune r
def bs(rs:List Int):List UInt8:=rs.flatMap en
def W(rs:List Int):Nat:=(bs rs).length
def txt(rs:List Int):ByteArray:=⟨(bs rs).toArray⟩
theorem RB:bs []=[]:=rfl
theorem tK(r:Int)(rs:List Int):bs (r::rs)=en r++bs rs:=by simp [bs]
theorem jc(a b:List Int):bs (a++b)=bs a++bs b:=by simp [bs]
theorem bH(a b:List Int):W (a++b)=W a+W b:=by simp [W,jc]
theorem fP:W []=0:=rfl
theorem xL(rs:List Int):(txt rs).data.toList=bs rs:=rfl
theorem u8(z:Int)(n:Nat)(h:z=n)(hn:n<256):z.toNat.toUInt8.toNat=n:=by
 subst h;simp;omega
theorem Gj {r:Int}(h0:0<=r)(h:r<128):en r=[r.toNat.toUInt8]:=by
 unfold en Lib.encodeRune;rw [Lib.encodeRuneZ_one h0 (by omega)];rfl
theorem Gm {r:Int}(h:VR r):(en r).length=wd r:=by
 unfold VR at h;unfold en Lib.encodeRune wd;by_cases h1:r<128
 .rw [Lib.encodeRuneZ_one (by omega) (by omega),if_pos h1];rfl
 .rw [if_neg h1];by_cases h2:r<2048
  .rw [Lib.encodeRuneZ_two (by omega) (by omega),if_pos h2];rfl
  .rw [if_neg h2];by_cases h3:r<65536
   .rw [Lib.encodeRuneZ_three (by omega),if_pos h3];rfl
   .rw [if_neg h3,Lib.encodeRuneZ_four (by omega) (by omega)];rfl
theorem bM {r:Int}(h:VR r)(rs:List Int):W (r::rs)=wd r+W rs:=by
 unfold W;rw [tK,List.length_append,Gm h]
theorem acQ {r:Int}(h:VR r)(h1:128<=r):∀x∈en r,128<=x.toNat:=by
 unfold VR at h;unfold en Lib.encodeRune;by_cases h2:r<2048
 .rw [Lib.encodeRuneZ_two (by omega) (by omega)];intro x hx;simp only [List.map_cons,List.map_nil,List.mem_cons,List.not_mem_nil,or_false]at hx;rcases hx with rfl|rfl
  .rw [u8 _ (192+r / 64).toNat (by omega) (by omega)];omega
  .rw [u8 _ (128+r%64).toNat (by omega) (by omega)];omega
 .by_cases h3:r<65536
  .rw [Lib.encodeRuneZ_three (by omega)];intro x hx;simp only [List.map_cons,List.map_nil,List.mem_cons,List.not_mem_nil,or_false]at hx;rcases hx with rfl|rfl|rfl
   .rw [u8 _ (224+r / 4096).toNat (by omega) (by omega)];omega
   .rw [u8 _ (128+r / 64%64).toNat (by omega) (by omega)];omega
   .rw [u8 _ (128+r%64).toNat (by omega) (by omega)];omega
  .rw [Lib.encodeRuneZ_four (by omega) (by omega)];intro x hx;simp only [List.map_cons,List.map_nil,List.mem_cons,List.not_mem_nil,or_false]at hx;rcases hx with rfl|rfl|rfl|rfl
   .rw [u8 _ (240+r / 262144).toNat (by omega) (by omega)];omega
   .rw [u8 _ (128+r / 4096%64).toNat (by omega) (by omega)];omega
   .rw [u8 _ (128+r / 64%64).toNat (by omega) (by omega)];omega
   .rw [u8 _ (128+r%64).toNat (by omega) (by omega)];omega
theorem acz {r:Int}(h:VR r)(t:List UInt8):Lib.decodeL (en r++t)=(r.toNat,wd r):=by
 unfold VR at h;rw [Lib.decodeL_N];unfold en Lib.encodeRune wd;by_cases h1:r<128
 .rw [Lib.encodeRuneZ_one (by omega) (by omega),if_pos h1];simp only [List.map_cons,List.map_nil,List.cons_append,List.nil_append,List.getD_cons_zero];rw [u8 _ r.toNat (by omega) (by omega)];unfold Lib.decodeN;rw [if_pos (by omega)]
 .rw [if_neg h1];by_cases h2:r<2048
  .rw [Lib.encodeRuneZ_two (by omega) (by omega),if_pos h2];simp only [List.map_cons,List.map_nil,List.cons_append,List.nil_append,List.getD_cons_zero,List.getD_cons_succ,List.length_cons];rw [u8 _ (192+r / 64).toNat (by omega) (by omega),u8 _ (128+r%64).toNat (by omega) (by omega)];unfold Lib.decodeN;rw [if_neg (by omega),if_pos (by omega),if_pos (by omega)]
   congr 1
   omega
  .rw [if_neg h2];by_cases h3:r<65536
   .rw [Lib.encodeRuneZ_three (by omega),if_pos h3];simp only [List.map_cons,List.map_nil,List.cons_append,List.nil_append,List.getD_cons_zero,List.getD_cons_succ,List.length_cons];rw [u8 _ (224+r / 4096).toNat (by omega) (by omega),u8 _ (128+r / 64%64).toNat (by omega) (by omega),u8 _ (128+r%64).toNat (by omega) (by omega)];unfold Lib.decodeN;rw [if_neg (by omega),if_neg (by omega),if_pos (by omega),if_pos (by omega)]
    congr 1
    omega
   .rw [if_neg h3,Lib.encodeRuneZ_four (by omega) (by omega)];simp only [List.map_cons,List.map_nil,List.cons_append,List.nil_append,List.getD_cons_zero,List.getD_cons_succ,List.length_cons];rw [u8 _ (240+r / 262144).toNat (by omega) (by omega),u8 _ (128+r / 4096%64).toNat (by omega) (by omega),u8 _ (128+r / 64%64).toNat (by omega) (by omega),u8 _ (128+r%64).toNat (by omega) (by omega)];unfold Lib.decodeN;rw [if_neg (by omega),if_neg (by omega),if_neg (by omega),if_pos (by omega),if_pos (by omega)]
    congr 1
    omega
theorem ZK(s:ByteArray)(p:Nat):aJ s p=if(Lib.decodeL (s.data.toList.drop p)).1=65533/\(Lib.decodeL (s.data.toList.drop p)).2=1 then 0 else(Lib.decodeL (s.data.toList.drop p)).2:=by
 unfold aJ lX;rw [<-Lib.decode_at,Lib.decodeL_drop]
theorem Y2(s:ByteArray)(p:Nat):gJ s p=((Lib.decodeL (s.data.toList.drop p)).1:Int):=by
 unfold gJ;rw [Lib.decodeL_drop]
theorem uF(s:ByteArray):s.size=s.data.toList.length:=by rw [Array.length_toList];rfl
theorem acC(l:List UInt8)(hv:¬((Lib.decodeL l).1=65533/\(Lib.decodeL l).2=1)):VR ((Lib.decodeL l).1:Int):=by
 rw [Lib.decodeL_N]at hv ⊢;unfold VR;rcases Lib.decodeN_shape l.length (l.getD 0 0).toNat (l.getD 1 0).toNat (l.getD 2 0).toNat (l.getD 3 0).toNat with⟨c,e⟩|⟨c1,c2,c3,cv,e⟩|⟨c1,c2,c3,c4,cv,cs,e⟩|⟨c1,c2,c3,c4,c5,cv,cw,e⟩|e
 .rw [e];simp only;omega
 .rw [e];simp only;omega
 .have k0:=(l.getD 0 0).toNat_lt;rw [e];simp only;omega
 .rw [e];simp only;omega
 .rw [e]at hv;exact absurd ⟨rfl,rfl⟩ hv
theorem YE(s:ByteArray):∀(rs:List Int)(p:Nat),RA s p rs->s.data.toList.drop p=bs rs/\∀r∈rs,VR r
 |[],p,h=>by
  have h':p=s.size:=h;rw [h',uF];exact⟨by simp [bs],by simp⟩
 |r::rs,p,h=>by
  obtain⟨h1,h2,h3,h4⟩:=h;obtain⟨e1,e2⟩:=YE s rs _ h4;rw [ZK]at h2 e1;have hv:¬((Lib.decodeL (s.data.toList.drop p)).1=65533/\(Lib.decodeL (s.data.toList.drop p)).2=1):=by
   intro hc;rw [if_pos hc]at h2;exact h2 rfl
  rw [if_neg hv]at e1;have hne:s.data.toList.drop p≠[]:=by
   intro hc;have:=congrArg List.length hc;rw [List.length_drop,<-uF]at this;simp at this;omega
  rw [Y2]at h3;have:=Lib.encode_decode _ hne hv;rw [<-h3]at this;refine⟨?_,fun x hx=> ?_⟩
  .rw [tK,<-e1,en,this,<-List.drop_drop,List.take_append_drop]
  .rcases List.mem_cons.1 hx with rfl|hx
   .rw [h3];exact acC _ hv
   .exact e2 x hx
theorem RD(s:ByteArray):∀(rs:List Int)(p:Nat),p<=s.size->s.data.toList.drop p=bs rs->(∀r∈rs,VR r)->RA s p rs
 |[],p,hp,h,_=>by
  have:=congrArg List.length h;rw [List.length_drop,<-uF]at this;show p=s.size;simp [bs]at this;omega
 |r::rs,p,hp,h,hv=>by
  have hr:=hv r (by simp);rw [tK]at h;have hl:=congrArg List.length h;rw [List.length_drop,<-uF,List.length_append,Gm hr]at hl;have hw:=AL r;have hd:=acz hr (bs rs);rw [<-h]at hd;have hz:aJ s p=wd r:=by
   rw [ZK,hd,if_neg];rintro⟨a,b⟩;have a:r.toNat=65533:=a;have b:wd r=1:=b;unfold wd at b;rw [if_neg (by omega),if_neg (by omega),if_pos (by omega)]at b;omega
  have h0:0<=r:=by unfold VR at hr;omega
  refine⟨by omega,by omega,by rw [Y2,hd];show r=(r.toNat:Int);omega,?_⟩;rw [hz];refine RD s rs _ (by omega) ?_ (fun x hx=>hv x (by simp [hx]));rw [<-List.drop_drop,h,List.drop_left' (Gm hr)]
theorem I6(rs:List Int):(txt rs).size=W rs:=by rw [uF,xL];rfl
theorem IM {rs:List Int}(h:∀r∈rs,VR r):dh (txt rs)=some rs:=by
 have:RA (txt rs) 0 rs:=RD _ rs 0 (by omega) (by simp [xL]) h;exact Oj _ rs 0 this (by omega)
theorem Y3 {s:ByteArray}{rs:List Int}(h:dh s=some rs):s=txt rs/\∀r∈rs,VR r:=by
 obtain⟨h1,h2⟩:=YE s rs 0 (si h);refine⟨?_,h2⟩;rw [List.drop_zero]at h1;unfold txt;rw [<-h1]
structure Pc where
 k:Nat
 o:List Int
 b:List Int
 c:List Int
def Pc.fl(x:Pc):List Int:=x.o++x.b++x.c
def ai(l:List Pc):List Int:=l.flatMap Pc.fl
theorem zP:ai []=[]:=rfl
theorem eY(x:Pc)(xs:List Pc):ai (x::xs)=x.fl++ai xs:=by simp [ai]
def kz(cl:Bool):List Int->Bool
 |[]=>true
 |[r]=>r !=34&& !(r==92&&cl)
 |r::q::rs=>r !=34&&if r=92 then kz cl rs else kz cl (q::rs)
def gF:List Int->Bool
 |[]=>true
 |r::rs=> !(r==42&&rs.head? ==some 47)&&gF rs
def Ay(q:Option Int):Bool:=q==some 47||q==some 42
def codeOk(nx:Option Int):List Int->Bool
 |[]=>true
 |r::rs=>r !=34&& !(r==47&&Ay (rs.head?.or nx))&&codeOk nx rs
inductive Lx:Bool->List Pc->Bool->Prop
 |nil (b:Bool):Lx b [] b
 |code {o:List Int} {ay:List Pc} {b':Bool}:o≠[]->codeOk (ai ay).head? o=true->(∀y ys,ay=y::ys->y.k≠0)->Lx false ay b'->Lx false (⟨0,o,[],[]⟩::ay) b'
 |str {b:List Int} {ay:List Pc} {b':Bool}:kz true b=true->Lx false ay b'->Lx false (⟨1,[34],b,[34]⟩::ay) b'
 |iH {b:List Int}:kz false b=true->Lx false [⟨1,[34],b,[]⟩] false
 |lc {b:List Int}:Lx false [⟨2,[47,47],b,[]⟩] false
 |blk {b:List Int} {ay:List Pc} {b':Bool}:gF b=true->Lx false ay b'->Lx false (⟨2,[47,42],b,[42,47]⟩::ay) b'
 |zH {b:List Int}:gF b=true->Lx false [⟨2,[47,42],b,[]⟩] true
 |qf {b:List Int} {ay:List Pc} {b':Bool}:gF b=true->Lx false ay b'->Lx true (⟨2,[],b,[42,47]⟩::ay) b'
 |Ei {b:List Int}:gF b=true->b≠[]->Lx true [⟨2,[],b,[]⟩] true
theorem OX:∀(n:Nat)(rs:List Int),rs.length<=n->(∃b rest,rs=b++34::rest/\kz true b=true)∨kz false rs=true
 |0,rs,h=>by
  have:rs=[]:=List.length_eq_zero_iff.1 (by omega);subst this;exact .inr rfl
 |n+1,[],_=> .inr rfl
 |n+1,[r],_=>by
  by_cases h:r=34
  .subst h;exact .inl ⟨[],[],rfl,rfl⟩
  .refine .inr ?_;simp [kz,h]
 |n+1,r::q::rs,hl=>by
  by_cases h:r=34
  .subst h;exact .inl ⟨[],q::rs,rfl,rfl⟩
  .by_cases h2:r=92
   .subst h2;rcases OX n rs (by simp at hl;omega)with⟨b,rest,e,hb⟩|hb
    .exact .inl ⟨92::q::b,rest,by rw [e];rfl,by simp [kz,hb]⟩
    .exact .inr (by simp [kz,hb])
   .rcases OX n (q::rs) (by simp at hl ⊢;omega)with⟨b,rest,e,hb⟩|hb
    .refine .inl ⟨r::b,rest,by rw [e];rfl,?_⟩;cases b with
     |nil=>simp [kz,h,h2]
     |cons a b=>simp only [kz,if_neg h2,hb];simp [h]
    .exact .inr (by simp only [kz,if_neg h2,hb];simp [h])
theorem Ko:∀rs:List Int,(∃b rest,rs=b++42::47::rest/\gF b=true)∨gF rs=true
 |[]=> .inr rfl
 |r::rs=>by
  by_cases h:r=42/\rs.head? =some 47
  .obtain⟨rfl,h2⟩:=h;cases rs with
   |nil=>cases h2
   |cons q rs=>
    simp at h2;subst h2;exact .inl ⟨[],rs,rfl,rfl⟩
  .rcases Ko rs with⟨b,rest,e,hb⟩|hb
   .refine .inl ⟨r::b,rest,by rw [e];rfl,?_⟩;rw [gF,hb];have:¬(r=42/\b.head? =some 47):=by
     rintro⟨h1,h2⟩;refine h ⟨h1,?_⟩;rw [e];cases b with
     |nil=>cases h2
     |cons a b=>exact h2
    simpa using Decidable.not_and_iff_or_not.1 this
   .refine .inr ?_;rw [gF,hb];simpa using Decidable.not_and_iff_or_not.1 h
def Ev(rest:List Int):Prop:=rest=[]∨(∃t,rest=34::t)∨(∃t,rest=47::47::t)∨∃t,rest=47::42::t
theorem R7:∀rs:List Int,∃o rest,rs=o++rest/\codeOk rest.head? o=true/\Ev rest
 |[]=>⟨[],[],rfl,rfl,.inl rfl⟩
 |r::rs=>by
  by_cases h:r=34
  .subst h;exact⟨[],34::rs,rfl,rfl,.inr (.inl ⟨rs,rfl⟩)⟩
  .by_cases h2:r=47/\Ay rs.head? =true
   .obtain⟨rfl,h2⟩:=h2;cases rs with
    |nil=>cases h2
    |cons q rs=>
     refine⟨[],47::q::rs,rfl,rfl,?_⟩;simp [Ay]at h2;rcases h2 with rfl|rfl
     .exact .inr (.inr (.inl ⟨rs,rfl⟩))
     .exact .inr (.inr (.inr ⟨rs,rfl⟩))
   .obtain⟨o,rest,e,hc,hev⟩:=R7 rs;refine⟨r::o,rest,by rw [e];rfl,?_,hev⟩;have hh:o.head?.or rest.head? =rs.head? :=by rw [e];cases o<;>rfl
    rw [codeOk,hc,hh];have:(r==47&&Ay rs.head?)=false:=by
     cases hs:Ay rs.head?
     .simp
     .have:r≠47:=fun e=>h2 ⟨e,hs⟩
      simp [this]
    rw [this];simp [h]
theorem Ie:∀(n:Nat)(rs:List Int)(b:Bool),rs.length<=n->∃ay b',Lx b ay b'/\ai ay=rs
 |0,rs,b,h=>by
  have:rs=[]:=List.length_eq_zero_iff.1 (by omega);subst this;exact⟨[],b,.nil b,rfl⟩
 |n+1,rs,true,h=>by
  rcases Ko rs with⟨b,rest,rfl,hb⟩|hb
  .obtain⟨ay,b',h1,h2⟩:=Ie n rest false (by simp at h;omega);exact⟨_,b',.qf hb h1,by rw [eY,h2];simp [Pc.fl]⟩
  .by_cases hn:rs=[]
   .subst hn;exact⟨[],true,.nil true,rfl⟩
   .exact⟨_,true,.Ei hb hn,by simp [ai,Pc.fl]⟩
 |n+1,rs,false,h=>by
  -- what begins with a sign
  have K:∀rest:List Int,rest.length<=n+1->Ev rest->∃ay b',Lx false ay b'/\ai ay=rest/\∀y ys,ay=y::ys->y.k≠0:=by
   intro rest hr hev;rcases hev with rfl|⟨t,rfl⟩|⟨t,rfl⟩|⟨t,rfl⟩
   .exact⟨[],false,.nil false,rfl,fun y ys e=>by cases e⟩
   .rcases OX t.length t (Nat.le_refl _)with⟨b,u,rfl,hb⟩|hb
    .obtain⟨ay,b',h1,h2⟩:=Ie n u false (by simp at hr;omega);exact⟨_,b',.str hb h1,by rw [eY,h2];simp [Pc.fl],fun y ys e=>by cases e;exact Nat.succ_ne_zero _⟩
    .exact⟨_,false,.iH hb,by simp [ai,Pc.fl],fun y ys e=>by cases e;exact Nat.succ_ne_zero _⟩
   .exact⟨_,false,.lc (b:=t),by simp [ai,Pc.fl],fun y ys e=>by cases e;exact Nat.succ_ne_zero _⟩
   .rcases Ko t with⟨b,u,rfl,hb⟩|hb
    .obtain⟨ay,b',h1,h2⟩:=Ie n u false (by simp at hr;omega);exact⟨_,b',.blk hb h1,by rw [eY,h2];simp [Pc.fl],fun y ys e=>by cases e;exact Nat.succ_ne_zero _⟩
    .exact⟨_,true,.zH hb,by simp [ai,Pc.fl],fun y ys e=>by cases e;exact Nat.succ_ne_zero _⟩
  obtain⟨o,rest,rfl,hc,hev⟩:=R7 rs;obtain⟨ay,b',h1,h2,h3⟩:=K rest (by simp at h;omega) hev;cases o with
  |nil=>exact⟨ay,b',h1,h2⟩
  |cons a o=>exact⟨_,b',.code (o:=a::o) (by simp) (by rw [h2];exact hc) h3 h1,by rw [eY,h2];simp [Pc.fl]⟩
theorem afL {ay:List Pc}{b':Bool}(h:Lx false ay b')(hk:∀y ys,ay=y::ys->y.k≠0):Ev (ai ay):=by
 cases h with
 |nil=>exact .inl rfl
 |code _ _ _ _=>exact absurd rfl (hk _ _ rfl)
 |str _ _=>exact .inr (.inl ⟨_,by rw [eY];rfl⟩)
 |iH _=>exact .inr (.inl ⟨_,by rw [eY];rfl⟩)
 |lc=>exact .inr (.inr (.inl ⟨_,by rw [eY];rfl⟩))
 |blk _ _=>exact .inr (.inr (.inr ⟨_,by rw [eY];rfl⟩))
 |zH _=>exact .inr (.inr (.inr ⟨_,by rw [eY];rfl⟩))
theorem zJ {s:ByteArray}{a:Nat}{x:UInt8}{l:List UInt8}(h:s.data.toList.drop a=x::l):bt s a=(x.toNat:Int)/\a<s.size/\s.data.toList.drop (a+1)=l:=by
 have hl:a<s.data.toList.length:=by
  rcases Nat.lt_or_ge a s.data.toList.length with h'|h'
  .exact h'
  .rw [List.drop_eq_nil_of_le h']at h;cases h
 have hs:a<s.size:=by rw [uF];exact hl
 refine⟨?_,hs,?_⟩
 .rw [uX hs];rw [List.drop_eq_getElem_cons hl]at h;injection h with h1 h2
  rw [<-h1];simp;rfl
 .rw [<-List.drop_drop,h];rfl
theorem FP {s:ByteArray}{a:Nat}(h:s.data.toList.drop a=[]):bt s a=10/\¬a<s.size:=by
 have:s.data.toList.length<=a:=List.drop_eq_nil_iff.1 h;rw [<-uF]at this;exact⟨wH (by omega),by omega⟩
def Te(t:List UInt8):Prop:=t=[]∨∃u,t=10::u
theorem CB {s:ByteArray}{a:Nat}{t:List UInt8}(h:s.data.toList.drop a=t)(ht:Te t):bt s a=10:=by
 rcases ht with rfl|⟨u,rfl⟩
 .exact(FP h).1
 .exact(zJ h).1
theorem gT {s:ByteArray}{a:Nat}{r:Int}{rs:List Int}{t:List UInt8}(h:s.data.toList.drop a=bs (r::rs)++t)(hv:VR r)(h1:r<128):bt s a=r/\a<s.size/\s.data.toList.drop (a+1)=bs rs++t:=by
 have h0:0<=r:=by unfold VR at hv;omega
 rw [tK,Gj h0 h1]at h;obtain⟨e1,e2,e3⟩:=zJ h;refine⟨?_,e2,e3⟩;rw [e1,u8 r r.toNat (by omega) (by omega)];omega
theorem U4:∀(l:List UInt8)(s:ByteArray)(a:Nat)(t:List UInt8),s.data.toList.drop a=l++t->(∀x∈l,128<=x.toNat)->(∀k,k<l.length->128<=bt s (a+k))/\s.data.toList.drop (a+l.length)=t
 |[],s,a,t,h,_=>⟨fun k hk=>by simp at hk,h⟩
 |x::l,s,a,t,h,hx=>by
  obtain⟨e1,e2,e3⟩:=zJ h;obtain⟨i1,i2⟩:=U4 l s (a+1) t e3 fun y hy=>hx y (by simp [hy])
  refine⟨fun k hk=> ?_,by rw [List.length_cons,show a+(l.length+1)=a+1+l.length by omega];exact i2⟩;cases k with
  |zero=>rw [Nat.add_zero,e1];have:=hx x (by simp);omega
  |succ k=>rw [show a+(k+1)=a+1+k by omega];exact i1 k (by simpa using hk)
theorem ym {s:ByteArray}{a:Nat}{r:Int}{rs:List Int}{t:List UInt8}(h:s.data.toList.drop a=bs (r::rs)++t)(hv:VR r)(h1:128<=r):(∀k,k<wd r->128<=bt s (a+k))/\s.data.toList.drop (a+wd r)=bs rs++t:=by
 rw [tK,List.append_assoc]at h;have:=U4 (en r) s a _ h (acQ hv h1)
 rwa [Gm hv]at this
theorem fZ {r:Int}(h:r<128):wd r=1:=by unfold wd;rw [if_pos h]
theorem Ky {s:ByteArray}{a:Nat}{rs:List Int}{t:List UInt8}(h:s.data.toList.drop a=bs rs++t)(hv:∀r∈rs,VR r)(hne:rs≠[])(c:Int)(hc:c<128):bt s a=c->rs.head? =some c:=by
 intro e;cases rs with
 |nil=>exact absurd rfl hne
 |cons r rs=>
  have hr:=hv r (by simp);by_cases h1:r<128
  .rw [(gT h hr h1).1]at e;rw [e];rfl
  .have:=(ym h hr (by omega)).1 0 (by have:=AL r;omega);rw [Nat.add_zero]at this;omega
theorem YV {s:ByteArray}{ln bg fr bo a:Nat}(h1:a<s.size)(h2:bt s a≠34)(h3:bt s a≠10)(h4:¬(bt s a=47/\bt s (a+1)=47))(h5:¬(bt s a=47/\bt s (a+1)=42)):aI s false ⟨ln,bg,fr,bo,a⟩=aI s false ⟨ln,bg,fr,bo,a+1⟩:=by
 rw [aI,if_pos h1,if_neg (by decide),if_neg h2,if_neg h4,if_neg h5,if_neg h3];rfl
theorem YU {s:ByteArray}{ln bg fr bo a:Nat}(h1:a<s.size)(h3:bt s a≠10)(h4:¬(bt s a=42/\bt s (a+1)=47)):aI s true ⟨ln,bg,fr,bo,a⟩=aI s true ⟨ln,bg,fr,bo,a+1⟩:=by
 rw [aI,if_pos h1,if_pos rfl,if_neg h4,if_neg h3];rfl
theorem Ox {s:ByteArray}{b:Bool}{ln bg fr bo:Nat}:∀(n a:Nat),(∀k,k<n->128<=bt s (a+k))->aI s b ⟨ln,bg,fr,bo,a⟩=aI s b ⟨ln,bg,fr,bo,a+n⟩
 |0,_,_=>rfl
 |n+1,a,h=>by
  have h0:=h 0 (by omega);rw [Nat.add_zero]at h0;have hl:=l8 (s:=s) (i:=a) (by omega);have e:aI s b ⟨ln,bg,fr,bo,a⟩=aI s b ⟨ln,bg,fr,bo,a+1⟩:=by
   cases b
   .exact YV hl (by omega) (by omega) (by omega) (by omega)
   .exact YU hl (by omega) (by omega)
  rw [e,Ox n (a+1) fun k hk=>by rw [show a+1+k=a+(k+1)by omega];exact h (k+1) (by omega),show a+1+n=a+(n+1)by omega]
theorem KN {s:ByteArray}{ln bg fr bo:Nat}{nx:Option Int}:∀(o:List Int)(a:Nat)(t:List UInt8),(∀r∈o,VR r/\r≠10)->s.data.toList.drop a=bs o++t->codeOk nx o=true->(bt s (a+W o)=47∨bt s (a+W o)=42->Ay nx=true)->
  aI s false ⟨ln,bg,fr,bo,a⟩=aI s false ⟨ln,bg,fr,bo,a+W o⟩
 |[],a,_,_,_,_,_=>rfl
 |r::o,a,t,hv,hd,hc,hn=>by
  obtain⟨hr,h10⟩:=hv r (by simp);have jw:∀x∈o,VR x/\x≠10:=fun x hx=>hv x (by simp [hx])
  simp only [codeOk,Bool.and_eq_true,bne_iff_ne,ne_eq,Bool.not_eq_true']at hc;obtain⟨⟨c1,c2⟩,c3⟩:=hc;rw [bM hr]at hn ⊢;by_cases h1:r<128
  .obtain⟨e1,e2,e3⟩:=gT hd hr h1;rw [fZ h1]at hn ⊢;have hno:bt s (a+1)=47∨bt s (a+1)=42->Ay (o.head?.or nx)=true:=by
    intro hb;cases o with
    |nil=>exact hn hb
    |cons q o=>
     have hq:∀c:Int,c<128->bt s (a+1)=c->(q::o).head? =some c:=fun c hc=>Ky e3 (fun x hx=>(jw x hx).1) (by simp) c hc
     rcases hb with hb|hb
     .have:=hq 47 (by decide) hb;simp at this;subst this;rfl
     .have:=hq 42 (by decide) hb;simp at this;subst this;rfl
   have hsl:r=47->¬(bt s (a+1)=47∨bt s (a+1)=42):=by
    intro e hb;have:=hno hb;rw [e,this]at c2;cases c2
   rw [YV e2 (by rw [e1];exact c1) (by rw [e1];exact h10) (by rw [e1];exact fun h=>hsl h.1 (.inl h.2)) (by rw [e1];exact fun h=>hsl h.1 (.inr h.2)),
    KN o (a+1) t jw e3 c3 (by rw [show a+1+W o=a+(1+W o)by omega];exact hn),show a+1+W o=a+(1+W o)by omega]
  .obtain⟨e1,e2⟩:=ym hd hr (by omega);rw [Ox (wd r) a e1,KN o (a+wd r) t jw e2 c3 (by rw [show a+wd r+W o=a+(wd r+W o)by omega];exact hn),show a+wd r+W o=a+(wd r+W o)by omega]
theorem Bp {s:ByteArray}{ln bg fr bo:Nat}:∀(o:List Int)(a:Nat)(t:List UInt8),(∀r∈o,VR r/\r≠10)->s.data.toList.drop a=bs o++t->gF o=true->bt s (a+W o)≠47->
  aI s true ⟨ln,bg,fr,bo,a⟩=aI s true ⟨ln,bg,fr,bo,a+W o⟩
 |[],a,_,_,_,_,_=>rfl
 |r::o,a,t,hv,hd,hc,hn=>by
  obtain⟨hr,h10⟩:=hv r (by simp);have jw:∀x∈o,VR x/\x≠10:=fun x hx=>hv x (by simp [hx])
  simp only [gF,Bool.and_eq_true,Bool.not_eq_true']at hc;obtain⟨c2,c3⟩:=hc;rw [bM hr]at hn ⊢;by_cases h1:r<128
  .obtain⟨e1,e2,e3⟩:=gT hd hr h1;rw [fZ h1]at hn ⊢;have hno:¬(bt s a=42/\bt s (a+1)=47):=by
    rintro⟨x1,x2⟩;rw [e1]at x1;cases o with
    |nil=>exact hn x2
    |cons q o=>
     have:=Ky e3 (fun x hx=>(jw x hx).1) (by simp) 47 (by decide) x2;rw [x1,this]at c2;cases c2
   rw [YU e2 (by rw [e1];exact h10) hno,Bp o (a+1) t jw e3 c3 (by rw [show a+1+W o=a+(1+W o)by omega];exact hn),show a+1+W o=a+(1+W o)by omega]
  .obtain⟨e1,e2⟩:=ym hd hr (by omega);rw [Ox (wd r) a e1,Bp o (a+wd r) t jw e2 c3 (by rw [show a+wd r+W o=a+(wd r+W o)by omega];exact hn),show a+wd r+W o=a+(wd r+W o)by omega]
theorem IG {s:ByteArray}:∀(n a:Nat),(∀k,k<n->128<=bt s (a+k))->qR s a=qR s (a+n)
 |0,_,_=>rfl
 |n+1,a,h=>by
  have h0:=h 0 (by omega);rw [Nat.add_zero]at h0;have hl:=l8 (s:=s) (i:=a) (by omega);rw [qR,if_pos ⟨hl,by omega⟩,if_neg (by omega),if_neg (by omega),IG n (a+1) fun k hk=>by rw [show a+1+k=a+(k+1)by omega];exact h (k+1) (by omega),show a+1+n=a+(n+1)by omega]
theorem Cx {s:ByteArray}{cl:Bool}:∀(n:Nat)(b:List Int)(a:Nat)(t:List UInt8),b.length<=n->(∀r∈b,VR r/\r≠10)->s.data.toList.drop a=bs b++t->kz cl b=true->(cl=true∨bt s (a+W b)=10)->qR s a=qR s (a+W b)
 |_,[],a,_,_,_,_,_,_=>rfl
 |0,_::_,_,_,hn,_,_,_,_=>by simp at hn
 |n+1,[r],a,t,_,hv,hd,hs,hq=>by
  obtain⟨hr,h10⟩:=hv r (by simp);simp only [kz,Bool.and_eq_true,bne_iff_ne,ne_eq,Bool.not_eq_true']at hs;rw [bM hr,fP,Nat.add_zero]at hq ⊢;by_cases h1:r<128
  .obtain⟨e1,e2,e3⟩:=gT hd hr h1;rw [fZ h1]at hq ⊢;have mq:¬(bt s a=92/\bt s (a+1)≠10):=by
    rintro⟨x1,x2⟩;rcases hq with hq|hq
    .rw [e1]at x1;rw [x1,hq]at hs;exact absurd hs.2 (by decide)
    .exact x2 hq
   rw [qR,if_pos ⟨e2,by rw [e1];exact h10⟩,if_neg (by rw [e1];exact hs.1),if_neg mq]
  .exact IG (wd r) a (ym hd hr (by omega)).1
 |n+1,r::q::b,a,t,hn,hv,hd,hs,hq=>by
  obtain⟨hr,h10⟩:=hv r (by simp);obtain⟨hrq,aew⟩:=hv q (by simp);simp only [kz,Bool.and_eq_true,bne_iff_ne,ne_eq]at hs;obtain⟨s1,s2⟩:=hs;by_cases mq:r=92
  .rw [if_pos mq]at s2;obtain⟨e1,e2,e3⟩:=gT hd hr (by omega);rw [bM hr,fZ (by omega),bM hrq]at hq ⊢;have hne:bt s (a+1)≠10:=by
    intro e;have:=Ky e3 (fun x hx=>(hv x (List.mem_cons_of_mem _ hx)).1) (by simp) 10 (by decide) e;simp at this;exact aew this
   rw [qR,if_pos ⟨e2,by rw [e1];exact h10⟩,if_neg (by rw [e1];exact s1),if_pos ⟨by rw [e1];exact mq,hne⟩];by_cases h1:q<128
   .obtain⟨f1,f2,f3⟩:=gT e3 hrq h1;rw [fZ h1]at hq ⊢;rw [show a+1+1=a+2 by omega]at f3;rw [Cx n b (a+2) t (by simp at hn;omega) (fun x hx=>hv x (by simp [hx])) f3 s2 (by rw [show a+2+W b=a+(1+(1+W b))by omega];exact hq),show a+2+W b=a+(1+(1+W b))by omega]
   .obtain⟨f1,f2⟩:=ym e3 hrq (by omega);have hw:=AL q;have hw2:2<=wd q:=by unfold wd;rw [if_neg h1];split<;>(try split)<;>omega
    rw [IG (wd q - 1) (a+2) fun k hk=>by rw [show a+2+k=a+1+(k+1)by omega];exact f1 (k+1) (by omega)];rw [show a+2+(wd q - 1)=a+1+wd q by omega];rw [Cx n b (a+1+wd q) t (by simp at hn;omega) (fun x hx=>hv x (by simp [hx])) f2 s2 (by rw [show a+1+wd q+W b=a+(1+(wd q+W b))by omega];exact hq),show a+1+wd q+W b=a+(1+(wd q+W b))by omega]
  .rw [if_neg mq]at s2;rw [bM hr]at hq ⊢;have jw:∀x∈q::b,VR x/\x≠10:=fun x hx=>hv x (List.mem_cons_of_mem _ hx)
   by_cases h1:r<128
   .obtain⟨e1,e2,e3⟩:=gT hd hr h1;rw [fZ h1]at hq ⊢;rw [qR,if_pos ⟨e2,by rw [e1];exact h10⟩,if_neg (by rw [e1];exact s1),if_neg (by rw [e1];exact fun h=>mq h.1)];rw [Cx n (q::b) (a+1) t (by simp at hn ⊢;omega) jw e3 s2 (by rw [show a+1+W (q::b)=a+(1+W (q::b))by omega];exact hq),show a+1+W (q::b)=a+(1+W (q::b))by omega]
   .obtain⟨e1,e2⟩:=ym hd hr (by omega);rw [IG (wd r) a e1,Cx n (q::b) (a+wd r) t (by simp at hn ⊢;omega) jw e2 s2 (by rw [show a+wd r+W (q::b)=a+(wd r+W (q::b))by omega];exact hq),show a+wd r+W (q::b)=a+(wd r+W (q::b))by omega]
theorem WA {s:ByteArray}:∀(n a:Nat),(∀k,k<n->bt s (a+k)≠10)->bf s a=bf s (a+n)
 |0,_,_=>rfl
 |n+1,a,h=>by
  have h0:=h 0 (by omega);rw [Nat.add_zero]at h0;rw [Af h0,WA n (a+1) fun k hk=>by rw [show a+1+k=a+(k+1)by omega];exact h (k+1) (by omega),show a+1+n=a+(n+1)by omega]
theorem Nc {s:ByteArray}:∀(b:List Int)(a:Nat)(t:List UInt8),(∀r∈b,VR r/\r≠10)->s.data.toList.drop a=bs b++t->bf s a=bf s (a+W b)/\s.data.toList.drop (a+W b)=t
 |[],a,t,_,h=>⟨rfl,h⟩
 |r::b,a,t,hv,hd=>by
  obtain⟨hr,h10⟩:=hv r (by simp);have jw:∀x∈b,VR x/\x≠10:=fun x hx=>hv x (List.mem_cons_of_mem _ hx)
  rw [bM hr];by_cases h1:r<128
  .obtain⟨e1,e2,e3⟩:=gT hd hr h1;obtain⟨i1,i2⟩:=Nc b (a+1) t jw e3;rw [fZ h1,Af (by rw [e1];exact h10),i1,show a+1+W b=a+(1+W b)by omega];exact⟨rfl,by rw [show a+(1+W b)=a+1+W b by omega];exact i2⟩
  .obtain⟨e1,e2⟩:=ym hd hr (by omega);obtain⟨i1,i2⟩:=Nc b (a+wd r) t jw e2;rw [WA (wd r) a (fun k hk=>by have:=e1 k hk;omega),i1,show a+wd r+W b=a+(wd r+W b)by omega];exact⟨rfl,by rw [show a+(wd r+W b)=a+wd r+W b by omega];exact i2⟩
def cZ(ln:Nat):Nat->List Pc->List PR
 |_,[]=>[]
 |a,x::xs=>⟨ln,x.k,a,a+W x.fl,if x.k=0 then 0 else a+W x.o,if x.k=0 then 0 else a+W x.o+W x.b⟩::cZ ln (a+W x.fl) xs
theorem tN {k ln bg a:Nat}:aW k 0 ⟨ln,bg,a,a,a⟩=[]:=if_pos rfl
theorem yw {k t ln bg fr bo a:Nat}(h:fr<a+t):aW k t ⟨ln,bg,fr,bo,a⟩=[⟨ln,k,fr - bg,a+t - bg,if k=0 then 0 else bo - bg,if k=0 then 0 else a - bg⟩]:=by
 exact if_neg (by simp only;omega)
theorem Dx {t ln bg fr bo a:Nat}(h:fr<a+t):bq t ⟨ln,bg,fr,bo,a⟩=⟨ln,bg,a+t,a+t,a+t⟩:=by
 exact if_neg (by simp only;omega)
theorem Tu {ln bg fr bo a:Nat}:jq (bq 0 ⟨ln,bg,fr,bo,a⟩)=⟨ln+1,a+1,a+1,a+1,a+1⟩:=by
 unfold jq;rw [gU];have:(bq 0 ⟨ln,bg,fr,bo,a⟩).line=ln:=by unfold bq;split<;>rfl
 rw [this]
section
variable{s:ByteArray}{ln bg fr bo a:Nat}
theorem xI:aI s false ⟨ln,bg,fr,bo,a⟩=if a<s.size then
  if bt s a=34 then aW 0 0 ⟨ln,bg,fr,bo,a⟩++(aW 1 (qT s (a+1)) ⟨ln,bg,a,a+1,(qR s (a+1)).1⟩++aI s false (bq (qT s (a+1)) ⟨ln,bg,a,a+1,(qR s (a+1)).1⟩))
  else if bt s a=47/\bt s (a+1)=47 then aW 0 0 ⟨ln,bg,fr,bo,a⟩++(aW 2 0 ⟨ln,bg,a,a+2,bf s (a+2)⟩++aI s false (bq 0 ⟨ln,bg,a,a+2,bf s (a+2)⟩))
  else if bt s a=47/\bt s (a+1)=42 then aW 0 0 ⟨ln,bg,fr,bo,a⟩++aI s true ⟨ln,bg,a,a+2,a+2⟩
  else if bt s a=10 then aW 0 0 ⟨ln,bg,fr,bo,a⟩++aI s false ⟨ln+1,a+1,a+1,a+1,a+1⟩
  else aI s false ⟨ln,bg,fr,bo,a+1⟩
 else aW 0 0 ⟨ln,bg,fr,bo,a⟩:=by
 rw [aI];simp only [F5,Tu,bB,Bool.false_eq_true,if_false]
theorem runT:aI s true ⟨ln,bg,fr,bo,a⟩=if a<s.size then
  if bt s a=42/\bt s (a+1)=47 then aW 2 2 ⟨ln,bg,fr,bo,a⟩++aI s false (bq 2 ⟨ln,bg,fr,bo,a⟩)
  else if bt s a=10 then aW 2 0 ⟨ln,bg,fr,bo,a⟩++aI s true ⟨ln+1,a+1,a+1,a+1,a+1⟩
  else aI s true ⟨ln,bg,fr,bo,a+1⟩
 else aW 2 0 ⟨ln,bg,fr,bo,a⟩:=by
 rw [aI];simp only [Tu,bB,if_true]
theorem ah9(h:bt s a=34∨(bt s a=47/\bt s (a+1)=47)∨(bt s a=47/\bt s (a+1)=42)∨bt s a=10):
  aI s false ⟨ln,bg,fr,bo,a⟩=aW 0 0 ⟨ln,bg,fr,bo,a⟩++aI s false ⟨ln,bg,a,a,a⟩:=by
 rw [xI,xI (fr:=a) (bo:=a),tN];by_cases hs:a<s.size
 .rw [if_pos hs,if_pos hs];rcases h with h|h|h|h
  .rw [if_pos h,if_pos h];rfl
  .rw [if_neg (by omega),if_pos h,if_neg (by omega),if_pos h];rfl
  .rw [if_neg (by omega),if_neg (by omega),if_pos h,if_neg (by omega),if_neg (by omega),if_pos h];rfl
  .rw [if_neg (by omega),if_neg (by omega),if_neg (by omega),if_pos h,if_neg (by omega),if_neg (by omega),if_neg (by omega),if_pos h];rfl
 .rw [if_neg hs,if_neg hs,List.append_nil]
theorem YW(h:bt s a=10):aI s true ⟨ln,bg,fr,bo,a⟩=aW 2 0 ⟨ln,bg,fr,bo,a⟩++aI s true ⟨ln,bg,a,a,a⟩:=by
 rw [runT,runT (fr:=a) (bo:=a),tN];by_cases hs:a<s.size
 .rw [if_pos hs,if_pos hs,if_neg (by omega),if_pos h,if_neg (by omega),if_pos h];rfl
 .rw [if_neg hs,if_neg hs,List.append_nil]
end
theorem nM {s:ByteArray}{rs:List Int}{a:Nat}{t:List UInt8}(h:s.data.toList.drop a=bs rs++t):s.data.toList.drop (a+W rs)=t:=by
 rw [<-List.drop_drop,h,W,List.drop_left]
theorem ac8 {s:ByteArray}{rest:List Int}{a:Nat}{t:List UInt8}(h:s.data.toList.drop a=bs rest++t)(ht:Te t)(hev:Ev rest):bt s a=34∨(bt s a=47/\bt s (a+1)=47)∨(bt s a=47/\bt s (a+1)=42)∨bt s a=10:=by
 have hv:∀c:Int,0<=c->c<128->VR c:=fun c h0 h1=> .inl ⟨h0,by omega⟩
 rcases hev with rfl|⟨u,rfl⟩|⟨u,rfl⟩|⟨u,rfl⟩
 .exact .inr (.inr (.inr (CB h ht)))
 .exact .inl (gT h (hv _ (by decide) (by decide)) (by decide)).1
 .obtain⟨e1,_,e3⟩:=gT h (hv _ (by decide) (by decide)) (by decide);exact .inr (.inl ⟨e1,(gT e3 (hv _ (by decide) (by decide)) (by decide)).1⟩)
 .obtain⟨e1,_,e3⟩:=gT h (hv _ (by decide) (by decide)) (by decide);exact .inr (.inr (.inl ⟨e1,(gT e3 (hv _ (by decide) (by decide)) (by decide)).1⟩))
theorem Q4 {r:Int}{rs:List Int}(h:VR r):0<W (r::rs):=by rw [bM h];have:=AL r;omega
theorem Be {r:Int}(h:VR r)(h1:r<128):W [r]=1:=by rw [bM h,fZ h1];rfl
theorem yh {r q:Int}(h:VR r)(h1:r<128)(h':VR q)(h2:q<128):W [r,q]=2:=by rw [bM h,fZ h1,Be h' h2]
theorem va(c:Int)(h0:0<=c:=by decide)(h1:c<128:=by decide):VR c:= .inl ⟨h0,by omega⟩
theorem WR {b b':Bool}{ay:List Pc}(h:Lx b ay b'):∀(s:ByteArray)(a ln bg:Nat)(t:List UInt8),(∀r∈ai ay,VR r/\r≠10)->s.data.toList.drop a=bs (ai ay)++t->Te t->bg<=a->
  aI s b ⟨ln,bg,a,a,a⟩=cZ ln (a - bg) ay++aI s b' ⟨ln,bg,a+W (ai ay),a+W (ai ay),a+W (ai ay)⟩:=by
 induction h with
 |nil b=>intro s a ln bg t _ _ _ _;rfl
 |@code o ay b' hne hco hk hl ih=>
  intro s a ln bg t hv hd ht hb;have hf:ai (⟨0,o,[],[]⟩::ay)=o++ai ay:=by rw [eY];simp [Pc.fl]
  rw [hf]at hv hd ⊢;rw [jc,List.append_assoc]at hd;have jw:∀r∈o,VR r/\r≠10:=fun r hr=>hv r (by simp [hr])
  have hd2:=nM hd;have hev:=afL hl hk;have hbt:=ac8 hd2 ht hev;have hW:0<W o:=by
   cases o with
   |nil=>exact absurd rfl hne
   |cons r o=>exact Q4 (jw r (by simp)).1
  rw [KN o a _ jw hd hco ?_,ah9 hbt,yw (by omega),ih s (a+W o) ln bg t (fun r hr=>hv r (by simp [hr])) hd2 ht (by omega),bH]
  .have e:(⟨0,o,[],[]⟩:Pc).fl=o:=by simp [Pc.fl]
   rw [cZ,e,show a+(W o+W (ai ay))=a+W o+W (ai ay)by omega,show a+W o - bg=a - bg+W o by omega,show a+W o+0 - bg=a - bg+W o by omega];rfl
  .intro hh;rcases hev with e|⟨u,e⟩|⟨u,e⟩|⟨u,e⟩
   .rw [e]at hd2;have:=CB hd2 ht;omega
   .rw [e]at hd2;have:=(gT hd2 (va _) (by decide)).1;omega
   .rw [e];rfl
   .rw [e];rfl
 |@str b ay b' hs hl ih=>
  intro s a ln bg t hv hd ht hb;have hf:ai (⟨1,[34],b,[34]⟩::ay)=34::(b++34::ai ay):=by rw [eY];simp [Pc.fl]
  rw [hf]at hv hd ⊢;obtain⟨e1,e2,e3⟩:=gT hd (va _) (by decide);have hvb:∀r∈b,VR r/\r≠10:=fun r hr=>hv r (by simp [hr])
  rw [jc,List.append_assoc]at e3;have e4:=nM e3;obtain⟨f1,f2,f3⟩:=gT e4 (va _) (by decide);have hq:qR s (a+1)=(a+1+W b,true):=by
   rw [Cx (cl:=true) b.length b (a+1) _ (Nat.le_refl _) hvb e3 hs (.inl rfl),qR,if_pos ⟨f2,by rw [f1];decide⟩,if_pos f1]
  have hT:qT s (a+1)=1:=by unfold qT;rw [hq];rfl
  rw [xI,if_pos e2,if_pos e1,hT,hq,tN,List.nil_append];simp only;rw [yw (by omega),Dx (by omega),ih s (a+1+W b+1) ln bg t (fun r hr=>hv r (by simp [hr])) f3 ht (by omega)];have w1:W (34::(b++34::ai ay))=1+(W b+(1+W (ai ay))):=by rw [bM (va _),fZ (by decide),bH,bM (va _),fZ (by decide)]
  have w2:W (⟨1,[34],b,[34]⟩:Pc).fl=1+(W b+1):=by simp only [Pc.fl];rw [bH,bH,Be (va _) (by decide)];omega
  rw [cZ,w2,w1,Be (va _) (by decide),show a+1+W b+1 - bg=a - bg+(1+(W b+1))by omega,show a+(1+(W b+(1+W (ai ay))))=a+1+W b+1+W (ai ay)by omega];simp only [List.cons_append,List.nil_append]
  congr 2
  .simp only [if_neg Nat.one_ne_zero];omega
  .simp only [if_neg Nat.one_ne_zero];omega
 |@iH b hs=>
  intro s a ln bg t hv hd ht hb;have hf:ai [⟨1,[34],b,[]⟩]=34::b:=by simp [ai,Pc.fl]
  rw [hf]at hv hd ⊢;obtain⟨e1,e2,e3⟩:=gT hd (va _) (by decide);have hvb:∀r∈b,VR r/\r≠10:=fun r hr=>hv r (by simp [hr])
  have e4:=nM e3;have f1:=CB e4 ht;have hq:qR s (a+1)=(a+1+W b,false):=by
   rw [Cx (cl:=false) b.length b (a+1) _ (Nat.le_refl _) hvb e3 hs (.inr f1),qR,if_neg (fun h=>h.2 f1)]
  have hT:qT s (a+1)=0:=by unfold qT;rw [hq];rfl
  rw [xI,if_pos e2,if_pos e1,hT,hq,tN,List.nil_append];simp only;rw [yw (by omega),Dx (by omega)];have w1:W (34::b)=1+W b:=by rw [bM (va _),fZ (by decide)]
  have w2:W (⟨1,[34],b,[]⟩:Pc).fl=1+W b:=by simp only [Pc.fl];rw [bH,bH,Be (va _) (by decide),fP,Nat.add_zero]
  rw [cZ,cZ,w2,w1,Be (va _) (by decide)];simp only [List.cons_append,List.nil_append,Nat.add_zero,Nat.one_ne_zero,if_false,<-Nat.add_assoc]
  congr 2<;>omega
 |@lc b=>
  intro s a ln bg t hv hd ht hb;have hf:ai [⟨2,[47,47],b,[]⟩]=47::47::b:=by simp [ai,Pc.fl]
  rw [hf]at hv hd ⊢;obtain⟨e1,e2,e3⟩:=gT hd (va _) (by decide);obtain⟨f1,f2,f3⟩:=gT e3 (va _) (by decide);have hvb:∀r∈b,VR r/\r≠10:=fun r hr=>hv r (by simp [hr])
  obtain⟨l1,l2⟩:=Nc b (a+1+1) t hvb f3;have g1:=CB l2 ht;have hle:bf s (a+2)=a+2+W b:=by rw [show a+2=a+1+1 by omega,l1,bf,if_neg (fun h=>h.2 g1)]
  rw [xI,if_pos e2,if_neg (by rw [e1];decide),if_pos ⟨e1,f1⟩,hle,tN,List.nil_append];rw [yw (by omega),Dx (by omega)];have w1:W (47::47::b)=2+W b:=by rw [bM (va _),bM (va _),fZ (by decide)];omega
  have w2:W (⟨2,[47,47],b,[]⟩:Pc).fl=2+W b:=by simp only [Pc.fl];rw [bH,bH,yh (va _) (by decide) (va _) (by decide),fP,Nat.add_zero]
  rw [cZ,cZ,w2,w1,yh (va _) (by decide) (va _) (by decide)];simp only [List.cons_append,List.nil_append,Nat.add_zero,<-Nat.add_assoc,show(2:Nat)≠0 from by decide,if_false]
  congr 2<;>omega
 |@blk b ay b' hs hl ih=>
  intro s a ln bg t hv hd ht hb;have hf:ai (⟨2,[47,42],b,[42,47]⟩::ay)=47::42::(b++42::47::ai ay):=by rw [eY];simp [Pc.fl]
  rw [hf]at hv hd ⊢;obtain⟨e1,e2,e3⟩:=gT hd (va _) (by decide);obtain⟨f1,f2,f3⟩:=gT e3 (va _) (by decide);have hvb:∀r∈b,VR r/\r≠10:=fun r hr=>hv r (by simp [hr])
  rw [jc,List.append_assoc,show a+1+1=a+2 by omega]at f3;have f4:=nM f3;obtain⟨g1,g2,g3⟩:=gT f4 (va _) (by decide);obtain⟨k1,k2,k3⟩:=gT g3 (va _) (by decide);rw [xI,if_pos e2,if_neg (by rw [e1];decide),if_neg (by rw [e1,f1];decide),if_pos ⟨e1,f1⟩,tN,List.nil_append];rw [Bp b (a+2) _ hvb f3 hs (by rw [g1];decide),runT,if_pos g2,if_pos ⟨g1,k1⟩,yw (by omega),Dx (by omega),ih s (a+2+W b+2) ln bg t (fun r hr=>hv r (by simp [hr])) k3 ht (by omega)];have w1:W (47::42::(b++42::47::ai ay))=2+(W b+(2+W (ai ay))):=by
   rw [bM (va _),bM (va _),bH,bM (va _),bM (va _),fZ (by decide),fZ (by decide)];omega
  have w2:W (⟨2,[47,42],b,[42,47]⟩:Pc).fl=2+(W b+2):=by simp only [Pc.fl];rw [bH,bH,yh (va _) (by decide) (va _) (by decide),yh (va _) (by decide) (va _) (by decide)];omega
  rw [cZ,w2,w1,yh (va _) (by decide) (va _) (by decide),show a+2+W b+2 - bg=a - bg+(2+(W b+2))by omega,show a+(2+(W b+(2+W (ai ay))))=a+2+W b+2+W (ai ay)by omega];simp only [List.cons_append,List.nil_append,show(2:Nat)≠0 from by decide,if_false]
  congr 2<;>omega
 |@zH b hs=>
  intro s a ln bg t hv hd ht hb;have hf:ai [⟨2,[47,42],b,[]⟩]=47::42::b:=by simp [ai,Pc.fl]
  rw [hf]at hv hd ⊢;obtain⟨e1,e2,e3⟩:=gT hd (va _) (by decide);obtain⟨f1,f2,f3⟩:=gT e3 (va _) (by decide);have hvb:∀r∈b,VR r/\r≠10:=fun r hr=>hv r (by simp [hr])
  rw [show a+1+1=a+2 by omega]at f3;have f4:=nM f3;have g1:=CB f4 ht;rw [xI,if_pos e2,if_neg (by rw [e1];decide),if_neg (by rw [e1,f1];decide),if_pos ⟨e1,f1⟩,tN,List.nil_append];rw [Bp b (a+2) _ hvb f3 hs (by rw [g1];decide),YW g1,yw (by omega)];have w1:W (47::42::b)=2+W b:=by rw [bM (va _),bM (va _),fZ (by decide),fZ (by decide)];omega
  have w2:W (⟨2,[47,42],b,[]⟩:Pc).fl=2+W b:=by simp only [Pc.fl];rw [bH,bH,yh (va _) (by decide) (va _) (by decide),fP,Nat.add_zero]
  rw [cZ,cZ,w2,w1,yh (va _) (by decide) (va _) (by decide)];simp only [List.cons_append,List.nil_append,Nat.add_zero,<-Nat.add_assoc,show(2:Nat)≠0 from by decide,if_false]
  congr 2<;>omega
 |@qf b ay b' hs hl ih=>
  intro s a ln bg t hv hd ht hb;have hf:ai (⟨2,[],b,[42,47]⟩::ay)=b++42::47::ai ay:=by rw [eY];simp [Pc.fl]
  rw [hf]at hv hd ⊢;have hvb:∀r∈b,VR r/\r≠10:=fun r hr=>hv r (by simp [hr])
  rw [jc,List.append_assoc]at hd;have f4:=nM hd;obtain⟨g1,g2,g3⟩:=gT f4 (va _) (by decide);obtain⟨k1,k2,k3⟩:=gT g3 (va _) (by decide);rw [Bp b a _ hvb hd hs (by rw [g1];decide),runT,if_pos g2,if_pos ⟨g1,k1⟩,yw (by omega),Dx (by omega),ih s (a+W b+2) ln bg t (fun r hr=>hv r (by simp [hr])) k3 ht (by omega)];have w1:W (b++42::47::ai ay)=W b+(2+W (ai ay)):=by
   rw [bH,bM (va _),bM (va _),fZ (by decide),fZ (by decide)];omega
  have w2:W (⟨2,[],b,[42,47]⟩:Pc).fl=W b+2:=by simp only [Pc.fl];rw [bH,bH,fP,yh (va _) (by decide) (va _) (by decide)];omega
  rw [cZ,w2,w1,fP,show a+W b+2 - bg=a - bg+(W b+2)by omega,show a+(W b+(2+W (ai ay)))=a+W b+2+W (ai ay)by omega];simp only [List.cons_append,List.nil_append,show(2:Nat)≠0 from by decide,if_false]
  congr 2<;>omega
 |@Ei b hs hne=>
  intro s a ln bg t hv hd ht hb;have hf:ai [⟨2,[],b,[]⟩]=b:=by simp [ai,Pc.fl]
  rw [hf]at hv hd ⊢;have hW:0<W b:=by
   cases b with
   |nil=>exact absurd rfl hne
   |cons r o=>exact Q4 (hv r (by simp)).1
  have f4:=nM hd;have g1:=CB f4 ht;rw [Bp b a _ hv hd hs (by rw [g1];decide),YW g1,yw (by omega)];have w2:W (⟨2,[],b,[]⟩:Pc).fl=W b:=by simp only [Pc.fl];rw [bH,bH,fP];omega
  rw [cZ,cZ,w2,fP];simp only [List.cons_append,List.nil_append,Nat.add_zero,show(2:Nat)≠0 from by decide,if_false]
  congr 2<;>omega
theorem aia {s:ByteArray}{b:Bool}{ln bg a:Nat}{u:List UInt8}(h:s.data.toList.drop a=10::u):aI s b ⟨ln,bg,a,a,a⟩=aI s b ⟨ln+1,a+1,a+1,a+1,a+1⟩:=by
 obtain⟨e1,e2,_⟩:=zJ h;have e1:bt s a=10:=e1;cases b
 .rw [xI,if_pos e2,if_neg (by omega),if_neg (by omega),if_neg (by omega),if_pos e1,tN];rfl
 .rw [runT,if_pos e2,if_neg (by omega),if_pos e1,tN];rfl
theorem aid {s:ByteArray}{b:Bool}{ln bg a:Nat}(h:s.data.toList.drop a=[]):aI s b ⟨ln,bg,a,a,a⟩=[]:=by
 cases b
 .rw [xI,if_neg (FP h).2,tN]
 .rw [runT,if_neg (FP h).2,tN]
