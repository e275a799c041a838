import Derived.Test.YtkbinfhclaafhaaGreatDoorH36
import Derived.Test.YtkbinfhclaafhaaGreatDoorH27
import Derived.Test.YtkbinfhclaafhaaGreatDoorH31
import Derived.Test.YtkbinfhclaafhaaGreatDoorH22
namespace Go.Proofs.YtkbinfhclaafhaaGreatDoor
open Go.RowKit
open Go.Proofs.Tryz
set_option maxRecDepth 100000
set_option maxHeartbeats 32000000
def joinL:List (List Int)->List Int
 |[]=>[]
 |[l]=>l
 |l::m::ls=>l++10::joinL (m::ls)
def zz:Bool->List (List Pc)->Prop
 |_,[]=>True
 |b,p::ps=>∃b',Lx b p b'/\zz b' ps
def jy:Nat->List (List Pc)->List PR
 |_,[]=>[]
 |i,p::ps=>cZ i 0 p++jy (i+1) ps
def LR(l:List Int):Prop:=∀r∈l,VR r/\r≠10
theorem Dp(l:List Int):bs (10::l)=10::bs l:=by rw [tK,Gj (by decide) (by decide)];rfl
theorem Gy {s:ByteArray}:∀(l:List Int)(a:Nat)(t:List UInt8),LR l->s.data.toList.drop a=bs l++t->∀k,k<W l->bt s (a+k)≠10
 |[],_,_,_,_,k,hk=>by rw [fP]at hk;omega
 |r::l,a,t,hv,hd,k,hk=>by
  obtain⟨hr,h10⟩:=hv r (by simp);rw [bM hr]at hk;by_cases h1:r<128
  .obtain⟨e1,e2,e3⟩:=gT hd hr h1;rw [fZ h1]at hk;cases k with
   |zero=>rw [Nat.add_zero,e1];exact h10
   |succ k=>rw [show a+(k+1)=a+1+k by omega];exact Gy l (a+1) t (fun x hx=>hv x (by simp [hx])) e3 k (by omega)
  .obtain⟨e1,e2⟩:=ym hd hr (by omega);by_cases hk':k<wd r
   .have:=e1 k hk';omega
   .rw [show a+k=a+wd r+(k - wd r)by omega];exact Gy l (a+wd r) t (fun x hx=>hv x (by simp [hx])) e2 _ (by omega)
theorem Nj {s:ByteArray}{bg:Nat}:∀(n i:Nat),(∀k,k<n->bt s (i+k)≠10)->az s bg i=az s bg (i+n)
 |0,_,_=>rfl
 |n+1,i,h=>by
  have h0:=h 0 (by omega);rw [Nat.add_zero]at h0;rw [Hz (l8 h0) h0,Nj n (i+1) fun k hk=>by rw [show i+1+k=i+(k+1)by omega];exact h (k+1) (by omega),show i+1+n=i+(n+1)by omega]
theorem Gt {s:ByteArray}{a:Nat}{l:List Int}{t:List UInt8}(h:s.data.toList.drop a=bs l++t):s.extract a (a+W l)=txt l:=by
 apply ByteArray.ext;apply Array.ext';have e:(s.extract a (a+W l)).data.toList=(s.data.toList.drop a).take (W l):=by
  simp [List.take_drop]
 rw [e,h,W,List.take_left];rfl
theorem WG {s:ByteArray}:∀(ls:List (List Int))(a:Nat),ls≠[]->(∀l∈ls,LR l)->s.data.toList.drop a=bs (joinL ls)->az s a a=ls.map txt
 |[],_,h,_,_=>absurd rfl h
 |[l],a,_,hv,hd=>by
  have hd':s.data.toList.drop a=bs l++[]:=by rw [List.append_nil];exact hd
  rw [Nj (W l) a (Gy l a [] (hv l (by simp)) hd'),Ng (FP (nM hd')).2,Gt hd'];rfl
 |l::m::ls,a,_,hv,hd=>by
  have hd':s.data.toList.drop a=bs l++10::bs (joinL (m::ls)):=by rw [hd,joinL,jc,Dp]
  obtain⟨e1,e2,e3⟩:=zJ (nM hd');rw [Nj (W l) a (Gy l a _ (hv l (by simp)) hd'),H8 e2 e1,Gt hd',WG (m::ls) _ (by simp) (fun x hx=>hv x (List.mem_cons_of_mem _ hx)) e3];rfl
theorem YT {s:ByteArray}:∀(pl:List (List Pc))(b:Bool)(a ln:Nat),pl≠[]->zz b pl->(∀p∈pl,LR (ai p))->s.data.toList.drop a=bs (joinL (pl.map ai))->aI s b ⟨ln,a,a,a,a⟩=jy ln pl
 |[],_,_,_,h,_,_,_=>absurd rfl h
 |[p],b,a,ln,_,hl,hv,hd=>by
  obtain⟨b',h1,_⟩:=hl;have hd':s.data.toList.drop a=bs (ai p)++[]:=by rw [List.append_nil];exact hd
  rw [WR h1 s a ln a [] (hv p (by simp)) hd' (.inl rfl) (Nat.le_refl _),aid (nM hd'),Nat.sub_self];rfl
 |p::q::pl,b,a,ln,_,hl,hv,hd=>by
  obtain⟨b',h1,h2⟩:=hl;have hd':s.data.toList.drop a=bs (ai p)++10::bs (joinL ((q::pl).map ai)):=by rw [hd,List.map_cons,List.map_cons,joinL,jc,Dp]
  have hp:=nM hd';rw [WR h1 s a ln a _ (hv p (by simp)) hd' (.inr ⟨_,rfl⟩) (Nat.le_refl _),aia hp,YT (q::pl) b' _ (ln+1) (by simp) h2 (fun x hx=>hv x (List.mem_cons_of_mem _ hx)) (zJ hp).2.2,Nat.sub_self];rfl
theorem En(ln:Nat):∀(ay:List Pc)(a:Nat),∀x∈cZ ln a ay,x.line=ln
 |[],_,x,hx=>by cases hx
 |p::ps,a,x,hx=>by
  rw [cZ]at hx;rcases List.mem_cons.1 hx with rfl|hx
  .rfl
  .exact En ln ps _ x hx
theorem Wh:∀(pl:List (List Pc))(i:Nat),∀x∈jy i pl,i<=x.line
 |[],_,x,hx=>by cases hx
 |p::ps,i,x,hx=>by
  rw [jy]at hx;rcases List.mem_append.1 hx with hx|hx
  .rw [En i p 0 x hx];exact Nat.le_refl _
  .have:=Wh ps (i+1) x hx;omega
theorem XG(a b:List PR)(i:Nat):gG (a++b) i=gG a i++gG b i:=by simp [gG]
theorem agx(ln:Nat)(ay:List Pc)(a:Nat):gG (cZ ln a ay) ln=cZ ln a ay:=by
 unfold gG;rw [List.filter_eq_self];intro x hx;rw [En ln ay a x hx];simp
theorem XJ {ln:Nat}{l:List PR}(h:∀x∈l,x.line≠ln):gG l ln=[]:=by
 unfold gG;rw [List.filter_eq_nil_iff];intro x hx;simpa using h x hx
theorem XH:∀(pl:List (List Pc))(j i:Nat),gG (jy j pl) (j+i)=cZ (j+i) 0 (pl.getD i [])
 |[],_,_=>rfl
 |p::ps,j,0=>by
  rw [jy,XG,Nat.add_zero,agx,XJ (fun x hx=>by have:=Wh ps (j+1) x hx;omega),List.append_nil];rfl
 |p::ps,j,i+1=>by
  rw [jy,XG,XJ (fun x hx=>by rw [En j p 0 x hx];omega),List.nil_append,show j+(i+1)=j+1+i by omega,XH ps (j+1) i];rfl
structure TX(s:ByteArray)(pl:List (List Pc)):Prop where
 ne:pl≠[]
 lx:zz false pl
 lr:∀p∈pl,LR (ai p)
 eq:s=txt (joinL (pl.map ai))
section
variable{s:ByteArray}{pl:List (List Pc)}(h:TX s pl)
include h
theorem TX.lines:az s 0 0=pl.map fun p=>txt (ai p):=by
 have:=WG (s:=s) (pl.map ai) 0 (by simp [h.ne]) (fun l hl=>by obtain⟨p,hp,rfl⟩:=List.mem_map.1 hl;exact h.lr p hp) (by rw [h.eq,xL];rfl);rw [this,List.map_map];rfl
theorem TX.runes:fK (az s 0 0)=pl.map ai:=by
 rw [h.lines,fK,List.map_map];refine List.map_congr_left fun p hp=> ?_
 show(dh (txt (ai p))).getD []=ai p;rw [IM fun r hr=>(h.lr p hp r hr).1];rfl
theorem TX.parts(hs:s.size<=600):dw s=jy 0 pl:=by
 unfold dw;rw [if_pos hs];exact YT pl false 0 0 h.ne h.lx h.lr (by rw [h.eq,xL];rfl)
theorem TX.pts(hs:s.size<=600)(i:Nat):r9 s i=cZ i 0 (pl.getD i []):=by
 unfold r9;rw [h.parts hs];have:=XH pl 0 i
 rwa [Nat.zero_add]at this
end
theorem WO:∀(ls:List (List Int))(b:Bool),∃pl:List (List Pc),zz b pl/\pl.map ai=ls
 |[],_=>⟨[],trivial,rfl⟩
 |l::ls,b=>by
  obtain⟨p,b',h1,h2⟩:=Ie l.length l b (Nat.le_refl _);obtain⟨pl,h3,h4⟩:=WO ls b';exact⟨p::pl,⟨b',h1,h3⟩,by rw [List.map_cons,h2,h4]⟩
def BU:List (List UInt8)->List UInt8
 |[]=>[]
 |[l]=>l
 |l::m::ls=>l++10::BU (m::ls)
theorem WC(s:ByteArray)(bg i:Nat):az s bg i≠[]:=by
 fun_induction az s bg i<;>simp_all
theorem afb(l:List UInt8)(ls:List (List UInt8))(h:ls≠[]):BU (l::ls)=l++10::BU ls:=by
 cases ls with
 |nil=>exact absurd rfl h
 |cons m ls=>rfl
theorem ext_list(s:ByteArray)(a b:Nat):(s.extract a b).data.toList=(s.data.toList.drop a).take (b - a):=by
 simp
theorem acH {s:ByteArray}{i:Nat}(h:i<s.size)(hb:bt s i=10):s.data.toList.drop i=10::s.data.toList.drop (i+1):=by
 have hl:i<s.data.toList.length:=by rw [<-uF];exact h
 rw [List.drop_eq_getElem_cons hl]
 congr 1
 rw [uX h]at hb;have:(s.data.toList[i]).toNat=10:=by
  have e:s.data.toList[i]=s[i]:=by simp;rfl
  rw [e];omega
 exact UInt8.toNat_inj.1 this
theorem afG(s:ByteArray)(bg i:Nat)(h:bg<=i)(hi:i<=s.size)(hf:∀k,bg<=k->k<i->bt s k≠10):s.data.toList.drop bg=BU ((az s bg i).map fun x=>x.data.toList)/\∀x∈az s bg i,(10:UInt8) ∉ x.data.toList:=by
 have hno:∀bg i,bg<=i->i<=s.size->(∀k,bg<=k->k<i->bt s k≠10)->(10:UInt8) ∉ (s.extract bg i).data.toList:=by
  intro bg i h hi hf hm;rw [ext_list]at hm;obtain⟨k,hk,he⟩:=List.getElem_of_mem hm;have hk':k<i - bg:=by
   have:=hk;rw [List.length_take]at this;omega
  have hlt:bg+k<s.size:=by omega
  refine hf (bg+k) (by omega) (by omega) ?_;rw [uX hlt];rw [List.getElem_take,List.getElem_drop]at he;have e:s[bg+k]=(10:UInt8):=by rw [<-he];simp;rfl
  rw [e];rfl
 fun_induction az s bg i with
 |case1 bg i h1 h2 ih=>
  obtain⟨i1,i2⟩:=ih (by omega) (by omega) (fun k a b=>by omega);refine⟨?_,fun x hx=> ?_⟩
  .rw [List.map_cons,afb _ _ (by simp [WC]),<-i1,ext_list,<-acH h1 h2];have:s.data.toList.drop i=(s.data.toList.drop bg).drop (i - bg):=by rw [List.drop_drop,show bg+(i - bg)=i by omega]
   rw [this,List.take_append_drop]
  .rcases List.mem_cons.1 hx with rfl|hx
   .exact hno bg i h hi hf
   .exact i2 x hx
 |case2 bg i h1 h2 ih=>exact ih (by omega) (by omega) (fun k a b=>by by_cases e:k=i;rw [e];exact h2;exact hf k a (by omega))
 |case3 bg i h1=>
  refine⟨?_,fun x hx=> ?_⟩
  .have:i=s.size:=by omega
   show _=(s.extract bg i).data.toList;rw [ext_list,List.take_of_length_le];rw [List.length_drop,<-uF];omega
  .rw [List.mem_singleton.1 hx];exact hno bg i h hi hf
theorem V6:∀ls:List (List Int),BU (ls.map bs)=bs (joinL ls)
 |[]=>rfl
 |[l]=>rfl
 |l::m::ls=>by
  have:=V6 (m::ls);rw [List.map_cons]at this;rw [List.map_cons,List.map_cons,BU,this,joinL,jc,Dp]
theorem aji {l:List Int}(h:(10:UInt8) ∉ bs l):(10:Int) ∉ l:=by
 intro hm;apply h;unfold bs;exact List.mem_flatMap.2 ⟨10,hm,by rw [Gj (by decide) (by decide)];simp⟩
theorem aaJ(s:ByteArray)(h:(aZ s).1=0):∃pl,TX s pl:=by
 obtain⟨h1,h2,h3⟩:=look_ok h;obtain⟨j1,j2⟩:=afG s 0 0 (by omega) (by omega) (fun k a b=>by omega);have hall:∀x∈az s 0 0,∃rs,dh x=some rs:=by
  intro x hx;obtain⟨i,hi,rfl⟩:=List.getElem_of_mem hx;have:=(h3 i hi).1;rw [List.getD_eq_getElem?_getD,List.getElem?_eq_getElem hi]at this;exact⟨_,this⟩
 obtain⟨pl,hp1,hp2⟩:=WO (fK (az s 0 0)) false;have hl:(az s 0 0).map (fun x=>x.data.toList)=(fK (az s 0 0)).map bs:=by
  rw [fK,List.map_map];refine List.map_congr_left fun x hx=> ?_
  obtain⟨rs,hr⟩:=hall x hx;show x.data.toList=bs ((dh x).getD []);rw [hr,(Y3 hr).1];rfl
 refine⟨pl,?_,hp1,fun p hp r hr=> ?_,?_⟩
 .rintro rfl;rw [List.map_nil]at hp2;have:=WC s 0 0;rw [fK]at hp2;exact this (List.map_eq_nil_iff.1 hp2.symm)
 .have hm:ai p∈fK (az s 0 0):=by rw [<-hp2];exact List.mem_map.2 ⟨p,hp,rfl⟩
  rw [fK]at hm;obtain⟨x,hx,he⟩:=List.mem_map.1 hm;obtain⟨rs,hrs⟩:=hall x hx;rw [hrs]at he;have he:rs=ai p:=he;obtain⟨e1,e2⟩:=Y3 hrs;rw [<-he]at hr;refine⟨e2 r hr,?_⟩;rintro rfl;have:=j2 x hx;rw [e1,xL]at this;exact aji this hr
 .rw [hp2];rw [List.drop_zero,hl,V6]at j1;unfold txt;rw [<-j1]
def xq(k:Nat):Int:=if k<10 then 48+k else 87+k
def za(k:Nat):Int:=if k<10 then 48+k else 55+k
def wW(d:Nat->Int)(r:Nat):List Int:=[d (r / 16 / 16 / 16%16),d (r / 16 / 16%16),d (r / 16%16),d (r%16)]
def zO(r:Int):List Int:=92::117::wW xq r.toNat
def xw(r:Int):List Int:=60::85::43::(wW za r.toNat++[62])
def mS(r:Int):List Int:=if bI r=true then zO r else [r]
def mC(r:Int):List Int:=if jC r=true then xw r else [r]
def dQ(x:Pc):Pc:=
 if x.k=1 then⟨1,x.o,x.b.flatMap mS,x.c⟩
 else if x.k=2/\x.b.any bI=true then⟨2,x.o,8296::(x.b.flatMap mC++[8297]),x.c⟩
 else x
def Pl(c:Int):Prop:=(48<=c/\c<=57)∨(65<=c/\c<=90)∨(97<=c/\c<=122)∨c=60∨c=62∨c=43∨c=92
theorem WL(k:Nat)(h:k<16):(48<=xq k/\xq k<=57)∨(97<=xq k/\xq k<=102):=by unfold xq;split<;>omega
theorem aae(k:Nat)(h:k<16):(48<=za k/\za k<=57)∨(65<=za k/\za k<=70):=by unfold za;split<;>omega
theorem UW(r:Nat):∀c∈wW xq r,(48<=c/\c<=57)∨(97<=c/\c<=102):=by
 intro c hc;simp only [wW,List.mem_cons,List.not_mem_nil,or_false]at hc;rcases hc with rfl|rfl|rfl|rfl<;>exact WL _ (Nat.mod_lt _ (by decide))
theorem aeh(r:Nat):∀c∈wW za r,(48<=c/\c<=57)∨(65<=c/\c<=70):=by
 intro c hc;simp only [wW,List.mem_cons,List.not_mem_nil,or_false]at hc;rcases hc with rfl|rfl|rfl|rfl<;>exact aae _ (Nat.mod_lt _ (by decide))
theorem La(r:Int):∀c∈zO r,Pl c:=by
 intro c hc;unfold zO at hc;unfold Pl;rcases List.mem_cons.1 hc with rfl|hc
 .omega
 .rcases List.mem_cons.1 hc with rfl|hc
  .omega
  .have:=UW _ c hc;omega
theorem Il(r:Int):∀c∈xw r,Pl c/\c≠92:=by
 intro c hc;unfold xw at hc;unfold Pl;rcases List.mem_cons.1 hc with rfl|hc
 .omega
 .rcases List.mem_cons.1 hc with rfl|hc
  .omega
  .rcases List.mem_cons.1 hc with rfl|hc
   .omega
   .rcases List.mem_append.1 hc with hc|hc
    .have:=aeh _ c hc;omega
    .rw [List.mem_singleton.1 hc];omega
theorem Yo {c:Int}(h:Pl c):bI c=false/\cls c<=12:=by
 have:cls c=0∨cls c=3∨cls c=4∨cls c=5∨cls c=7∨cls c=12:=by
  unfold Pl at h;unfold cls
  repeat' split
  all_goals omega
 have h8:c≠8206:=by unfold Pl at h;omega
 refine⟨?_,by omega⟩;unfold bI;rcases this with e|e|e|e|e|e<;>rw [e]<;>simp [h8]
theorem Yq {c:Int}(h:Pl c):VR c/\c≠10:=by unfold Pl at h;unfold VR;omega
theorem UJ {r:Int}(h:bI r=true):256<=r/\r<55296:=by
 by_cases h8:r=8206
 .omega
 .refine Bq r ?_;unfold bI at h;simp only [Bool.or_eq_true,beq_iff_eq,decide_eq_true_eq]at h;omega
theorem akK {r:Int}(h:jC r=true):bI r=true:=by
 unfold jC fO at h;simp only [Bool.and_eq_true,decide_eq_true_eq]at h;unfold bI;simp [h.1]
def iH(cl:Bool):Bool->List Int->Bool
 |e,[]=> !(e&&cl)
 |true,_::rs=>iH cl false rs
 |false,r::rs=>r !=34&&iH cl (r==92) rs
theorem OW(cl:Bool):∀(n:Nat)(b:List Int),b.length<=n->kz cl b=iH cl false b
 |_,[],_=>by simp [kz,iH]
 |0,_::_,h=>by simp at h
 |n+1,[r],_=>by
  simp only [kz,iH]
 |n+1,r::q::b,h=>by
  have h1:b.length<=n:=by simp at h;omega
  have h2:(q::b).length<=n:=by simp at h ⊢;omega
  simp only [kz];rw [iH];by_cases mq:r=92
  .rw [if_pos mq,OW cl n b h1,mq];rfl
  .rw [if_neg mq,OW cl n (q::b) h2,show(r==92)=false by simpa using mq]
theorem Zz(cl:Bool):∀(l t:List Int),(∀c∈l,c≠34/\c≠92)->iH cl false (l++t)=iH cl false t
 |[],_,_=>rfl
 |c::l,t,h=>by
  obtain⟨h1,h2⟩:=h c (by simp);rw [List.cons_append,iH,show(c==92)=false by simpa using h2,show(c !=34)=true by simpa using h1,Bool.true_and,Zz cl l t fun x hx=>h x (by simp [hx])]
theorem Zy(cl:Bool):∀(b:List Int)(e:Bool)(p:Nat),oQ b e p= -1->iH cl e (b.flatMap mS)=iH cl e b
 |[],_,_,_=>rfl
 |r::b,e,p,h=>by
  rw [oQ]at h;have hne:¬(e&&bI r)=true:=by
   intro hc;rw [if_pos hc]at h;omega
  rw [if_neg hne]at h;have ih:=Zy cl b _ _ h;rw [List.flatMap_cons];cases e with
  |true=>
   have hz:bI r=false:=by simpa using hne
   rw [show mS r=[r]from if_neg (by rw [hz];decide),List.singleton_append,iH,iH];simpa using ih
  |false=>
   by_cases hz:bI r=true
   .have hb:=UJ hz;have mq:(r==92)=false:=by simp;omega
    have rT:(r !=34)=true:=by simp;omega
    rw [show mS r=92::117::wW xq r.toNat from if_pos hz,iH.eq_3 (r:=r),mq,rT,Bool.true_and];rw [mq]at ih;rw [List.cons_append,List.cons_append,iH.eq_3,show((92:Int)==92)=true from rfl,iH.eq_2,Zz cl _ _ fun c hc=>by have:=UW _ c hc;omega];simpa using ih
   .rw [show mS r=[r]from if_neg hz,List.singleton_append,iH,iH];have:(r==92&& !false)=(r==92):=by simp
    rw [this]at ih;rw [<-ih]
theorem ZA {cl:Bool}{b:List Int}{p:Nat}(h:kz cl b=true)(he:oQ b false p= -1):kz cl (b.flatMap mS)=true:=by
 rw [OW cl _ _ (Nat.le_refl _)]at h ⊢;rw [Zy cl b false p he];exact h
theorem NC {r:Int}{l t:List Int}(h:(l++t).head? ≠some 47∨r≠42):gF (r::(l++t))=gF (l++t):=by
 rw [gF];have:(r==42&&(l++t).head? ==some 47)=false:=by
  rcases h with h|h
  .rw [show((l++t).head? ==some 47)=false by simpa using h,Bool.and_false]
  .rw [show(r==42)=false by simpa using h,Bool.false_and]
 rw [this];rfl
theorem Xx:∀(l t:List Int),(∀c∈l,c≠42)->gF (l++t)=gF t
 |[],_,_=>rfl
 |c::l,t,h=>by
  rw [List.cons_append,NC (.inr (h c (by simp))),Xx l t fun x hx=>h x (by simp [hx])]
theorem afP(r:Int)(t:List Int)(h:r≠47):(mC r++t).head? ≠some 47:=by
 unfold mC;split
 .simp [xw]
 .simp [h]
theorem Xw:∀(b t:List Int),gF (b++t)=true->t.head? ≠some 47->gF t=true->gF (b.flatMap mC++t)=true
 |[],_,_,_,ht=>ht
 |r::b,t,h,h47,ht=>by
  rw [List.cons_append,gF,Bool.and_eq_true]at h;have ih:=Xw b t h.2 h47 ht;rw [List.flatMap_cons,List.append_assoc];by_cases hz:jC r=true
  .rw [show mC r=xw r from if_pos hz,Xx _ _ fun c hc=>by have:=Il r c hc;unfold Pl at this;omega];exact ih
  .rw [show mC r=[r]from if_neg hz,List.singleton_append,NC ?_]
   .exact ih
   .by_cases Ue:r=42
    .left;cases b with
     |nil=>exact h47
     |cons q b=>
      rw [List.flatMap_cons,List.append_assoc];refine afP q _ ?_;intro e;rw [Ue,e]at h;simp at h
    .exact .inr Ue
theorem Xv {t:List Int}:∀(b:List Int),gF b=true->t.head? ≠some 47->gF t=true->gF (b++t)=true
 |[],_,_,ht=>ht
 |r::b,h,h47,ht=>by
  rw [gF,Bool.and_eq_true]at h;rw [List.cons_append,gF,Xv b h.2 h47 ht,Bool.and_true];cases b with
  |nil=>
   rw [List.nil_append];have:(t.head? ==some 47)=false:=by simpa using h47
   rw [this,Bool.and_false];rfl
  |cons q b=>exact h.1
theorem abo {b:List Int}(h:gF b=true):gF (8296::(b.flatMap mC++[8297]))=true:=by
 rw [NC (.inr (by decide))];exact Xw b [8297] (Xv b h (by decide) (by decide)) (by decide) (by decide)
def CF(x:Pc):Prop:=x.k=1->∃p,oQ x.b false p= -1
theorem afX(o:List Int):dQ ⟨0,o,[],[]⟩=⟨0,o,[],[]⟩:=by
 unfold dQ;rw [if_neg (by show¬0=1;decide),if_neg (fun h=>absurd h.1 (by show¬0=2;decide))]
theorem WW(o b c:List Int):dQ ⟨1,o,b,c⟩=⟨1,o,b.flatMap mS,c⟩:=by unfold dQ;rw [if_pos rfl]
theorem Es(o b c:List Int):dQ ⟨2,o,b,c⟩=⟨2,o,if b.any bI=true then 8296::(b.flatMap mC++[8297])else b,c⟩:=by
 unfold dQ;rw [if_neg (by show¬2=1;decide)];by_cases h:b.any bI=true
 .rw [if_pos ⟨rfl,h⟩,if_pos h]
 .rw [if_neg (fun h'=>h h'.2),if_neg h]
theorem F4 {b:List Int}(h:gF b=true):gF (if b.any bI=true then 8296::(b.flatMap mC++[8297])else b)=true:=by
 split
 .exact abo h
 .exact h
theorem Ns(x:Pc):(dQ x).k=x.k/\(dQ x).o=x.o/\(dQ x).c=x.c:=by
 unfold dQ;split
 .rename_i h;exact⟨h.symm,rfl,rfl⟩
 .split
  .rename_i h;exact⟨h.1.symm,rfl,rfl⟩
  .exact⟨rfl,rfl,rfl⟩
theorem afN {ay:List Pc}{b':Bool}(h:Lx false ay b')(hk:∀y ys,ay=y::ys->y.k≠0):(ai (ay.map dQ)).head? =(ai ay).head? :=by
 have K:∀(x:Pc)(xs:List Pc)(a:Int)(o:List Int),x.o=a::o->(ai ((x::xs).map dQ)).head? =(ai (x::xs)).head? :=by
  intro x xs a o hx;rw [List.map_cons,eY,eY];unfold Pc.fl;rw [(Ns x).2.1,hx];rfl
 cases h with
 |nil=>rfl
 |code _ _ _ _=>exact absurd rfl (hk _ _ rfl)
 |str _ _=>exact K _ _ _ _ rfl
 |iH _=>exact K _ _ _ _ rfl
 |lc=>exact K _ _ _ _ rfl
 |blk _ _=>exact K _ _ _ _ rfl
 |zH _=>exact K _ _ _ _ rfl
theorem afO {b b':Bool}{ay:List Pc}(h:Lx b ay b'):(∀x∈ay,CF x)->Lx b (ay.map dQ) b':=by
 induction h with
 |nil b=>intro _;exact .nil b
 |@code o ay b' hne hco hk hl ih=>
  intro he;rw [List.map_cons,afX];refine .code hne (by rw [afN hl hk];exact hco) ?_ (ih fun x hx=>he x (by simp [hx]));intro y ys e;cases ay with
  |nil=>cases e
  |cons z zs=>
   rw [List.map_cons]at e;injection e with e1 e2
   rw [<-e1,(Ns z).1];exact hk z zs rfl
 |@str b ay b' hs hl ih=>
  intro he;rw [List.map_cons,WW];obtain⟨p,hp⟩:=he _ (List.mem_cons_self ..) rfl;exact .str (ZA hs hp) (ih fun x hx=>he x (by simp [hx]))
 |@iH b hs=>
  intro he;rw [List.map_cons,WW];obtain⟨p,hp⟩:=he _ (List.mem_cons_self ..) rfl;exact .iH (ZA hs hp)
 |@lc b=>intro _;rw [List.map_cons,Es];exact .lc
 |@blk b ay b' hs hl ih=>intro he;rw [List.map_cons,Es];exact .blk (F4 hs) (ih fun x hx=>he x (by simp [hx]))
 |@zH b hs=>intro _;rw [List.map_cons,Es];exact .zH (F4 hs)
 |@qf b ay b' hs hl ih=>intro he;rw [List.map_cons,Es];exact .qf (F4 hs) (ih fun x hx=>he x (by simp [hx]))
 |@Ei b hs hne=>
  intro _;rw [List.map_cons,Es];refine .Ei (F4 hs) ?_;split
  .simp
  .exact hne
def Am(c:Int):Bool:=c==0||(c==3||(c==4||(c==5||(c==7||(c==8||(c==9||(c==10||(c==11||c==12))))))))
def dF(cs:List Int):Nat->Bool
 |0=>false
 |i+1=>if cs.getD i 0=20 then true else if cs.getD i 0=21 then false else dF cs i
structure GS(cs:List Int):Prop where
 out:∀i,i<cs.length->dF cs i=false->Am (cs.getD i 0)=true∨cs.getD i 0=20
 qf:∀i,i<cs.length->dF cs i=true->(0<=cs.getD i 0/\cs.getD i 0<=12)∨cs.getD i 0=21
 fin:dF cs cs.length=false
theorem Ao {c:Int}(h:Am c=true):c=0∨c=3∨c=4∨c=5∨c=7∨c=8∨c=9∨c=10∨c=11∨c=12:=by
 simpa [Am]using h
def xN:XS:=⟨[⟨0, -1,false⟩],0,0,0⟩
def Jb(l:Int):XS:=⟨[⟨0, -1,false⟩,⟨l, -1,true⟩],0,0,1⟩
theorem Pv(cs:List Int)(i:Nat)(x:XS)(c:Int)(h:c<=12∨c=21):gK cs i x c=x:=by
 unfold gK;rw [if_neg (by omega),if_neg (by omega),if_neg (by omega),if_neg (by omega),if_neg (by omega)]
theorem Xp(odd:Int):iD 0 odd=1∨iD 0 odd=2:=by
 unfold iD;split<;>omega
theorem ajU(cs:List Int)(i:Nat):∃l:Int,(l=1∨l=2)/\gK cs i xN 20=Jb l:=by
 refine⟨iD 0 (nH cs i),Xp _,?_⟩;have h:=Xp (nH cs i);have e:gK cs i xN 20=jT xN (nH cs i):=by
  unfold gK;rw [if_neg (by omega),if_neg (by omega),if_neg (by omega),if_pos rfl]
 rw [e];unfold jT;have ht:(aS xN.st).l=0:=rfl;simp only [ht];have hf:lJ xN (iD 0 (nH cs i))=true:=by
  unfold lJ xN;simp;omega
 rw [if_pos hf];rfl
theorem aat(l:Int):dK (Jb l) 21=xN:=by
 unfold dK nC Jb;simp [gI,xN]
theorem Fb {cs:List Int}{i:Nat}(h:¬dF cs i=false):dF cs i=true:=by simpa using h
section
variable{cs:List Int}(h:GS cs)
include h
theorem T9:∀i,i<=cs.length->(dF cs i=false->dZ cs 0 i=xN)/\(dF cs i=true->∃l:Int,(l=1∨l=2)/\dZ cs 0 i=Jb l)
 |0,_=>⟨fun _=>rfl,fun e=>by cases e⟩
 |i+1,hi=>by
  obtain⟨h1,h2⟩:=T9 i (by omega);rw [dZ,dF];by_cases hs:dF cs i=false
  .rw [h1 hs];rcases h.out i (by omega) hs with hc|hc
   .have hc':=Ao hc;rw [if_neg (by omega),if_neg (by omega),hs];refine⟨fun _=> ?_,fun e=>by cases e⟩;unfold dK;rw [if_neg (by omega),Pv _ _ _ _ (by omega)]
   .rw [hc,if_pos rfl];refine⟨fun e=>(by cases e),fun _=> ?_⟩;unfold dK;rw [if_neg (by omega)];exact ajU cs i
  .have hs':=Fb hs;obtain⟨l,hl,e⟩:=h2 hs';rw [e];rcases h.qf i (by omega) hs' with hc|hc
   .rw [if_neg (by omega),if_neg (by omega),hs'];refine⟨fun e=>(by cases e),fun _=>⟨l,hl,?_⟩⟩;unfold dK;rw [if_neg (by omega),Pv _ _ _ _ (by omega)]
   .rw [hc,if_neg (by omega),if_pos rfl];refine⟨fun _=> ?_,fun e=>by cases e⟩;rw [aat,Pv _ _ _ _ (by omega)]
theorem LC(i:Nat)(hi:i<cs.length):(iJ cs 0 i).o= -1/\(dF cs i=false∨cs.getD i 0=21->(iJ cs 0 i).l=0)/\(dF cs i=true->cs.getD i 0≠21->1<=(iJ cs 0 i).l):=by
 obtain⟨h1,h2⟩:=T9 h i (by omega);unfold iJ;by_cases hs:dF cs i=false
 .rw [h1 hs];have h21:cs.getD i 0≠21:=by
   rcases h.out i hi hs with hc|hc
   .have:=Ao hc;omega
   .omega
  unfold dK;rw [if_neg h21];exact⟨rfl,fun _=>rfl,fun e=>by rw [hs]at e;cases e⟩
 .have hs':=Fb hs;obtain⟨l,hl,e⟩:=h2 hs';rw [e];by_cases h21:cs.getD i 0=21
  .rw [h21,aat];exact⟨rfl,fun _=>rfl,fun _ e=>absurd rfl e⟩
  .unfold dK;rw [if_neg h21];refine⟨rfl,fun e=> ?_,fun _ _=> ?_⟩
   .rcases e with e|e
    .exact absurd e hs
    .exact absurd e h21
   .show 1<=l;omega
theorem adO:iX cs 0=cs:=by
 apply List.ext_getElem
 .simp [iX]
 .intro i h1 h2;have hi:i<cs.length:=by simpa [iX]using h1
  have e:=(LC h i hi).1;simp only [iX,List.getElem_map,List.getElem_range];unfold kindOf;rw [if_neg (by rw [e];omega),List.getD_eq_getElem?_getD,List.getElem?_eq_getElem h2];rfl
theorem GJ(i:Nat)(hi:i<cs.length)(ho:dF cs i=false∨cs.getD i 0=21):(aH cs 0).getD i 0=0:=by
 rw [aH,sj _ _ _ _ hi];exact(LC h i hi).2.1 ho
theorem Ua(i:Nat)(hi:i<cs.length)(h0:(aH cs 0).getD i 0=0):dF cs i=false∨cs.getD i 0=21:=by
 rw [aH,sj _ _ _ _ hi]at h0;by_cases hs:dF cs i=false
 .exact .inl hs
 .by_cases h21:cs.getD i 0=21
  .exact .inr h21
  .have:=(LC h i hi).2.2 (Fb hs) h21;omega
end
theorem adU {σ:Type}{f:σ->Int->List Int->Int}{g:σ->Int->List Int->σ}{P Q:Int->Prop}{S:σ->Prop}(h:∀s c r,S s->P c->Q (f s c r)/\S (g s c r)):∀(t:List Int)(s:σ),S s->(∀c∈t,P c)->∀c∈pass f g s t,Q c
 |[],_,_,_,c,hc=>by cases hc
 |x::t,s,hs,ht,c,hc=>by
  obtain⟨h1,h2⟩:=h s x t hs (ht x (by simp));rw [pass]at hc;rcases List.mem_cons.1 hc with rfl|hc
  .exact h1
  .exact adU h t _ h2 (fun y hy=>ht y (by simp [hy])) c hc
def C0(c:Int):Prop:=c=0∨c=3∨c=4∨c=5∨c=7∨c=8∨c=10∨c=11∨c=12∨c=20∨c=21
def C1(c:Int):Prop:=c=0∨c=3∨c=4∨c=5∨c=7∨c=10∨c=11∨c=12∨c=20∨c=21
def C2(c:Int):Prop:=c=0∨c=3∨c=10∨c=11∨c=12∨c=20∨c=21
def C3(c:Int):Prop:=c=0∨c=10∨c=11∨c=12∨c=20∨c=21
theorem XC:∀(t:List Int),(∀c∈t,C1 c)->jA 2 6 0 t=t
 |[],_=>rfl
 |c::t,h=>by
  have hc:=h c (by simp);unfold C1 at hc;have e:(if c=0∨c=1∨c=2 then c else 0)=0:=by split<;>omega
  rw [jA,e,if_neg (by omega),XC t fun x hx=>h x (by simp [hx])]
theorem XB:∀(t:List Int),(∀c∈t,C2 c)->∀c∈jA 0 0 0 t,C3 c
 |[],_,c,hc=>by cases hc
 |x::t,h,c,hc=>by
  have hx:=h x (by simp);unfold C2 at hx;have e:(if x=0∨x=1∨x=2 then x else 0)=0:=by split<;>omega
  rw [jA,e]at hc;rcases List.mem_cons.1 hc with rfl|hc
  .unfold C3;split<;>omega
  .exact XB t (fun y hy=>h y (by simp [hy])) c hc
theorem ajK(t:List Int)(h:∀c∈t,C0 c):∀c∈xM 0 t,C3 c:=by
 unfold xM;have h1:∀c∈pass (f1 0) (g1 0) none t,C1 c:=by
  refine adU (P:=C0) (Q:=C1) (S:=fun s=>∀p,s=some p->C1 p) ?_ t none (fun p e=>by cases e) h;intro s c r hs hc;have:C1 (f1 0 s c r):=by
   unfold f1;unfold C0 at hc;by_cases h8:c=8
   .rw [if_pos h8];cases s with
    |none=>exact .inl rfl
    |some p=>
     simp only;split
     .unfold C1;omega
     .exact hs p rfl
   .rw [if_neg h8];unfold C1;omega
  exact⟨this,fun p e=>by unfold g1 at e;cases e;exact this⟩
 rw [XC _ h1];refine XB _ ?_;refine adU (P:=C1) (Q:=C2) (S:=fun _=>True) (fun s c r _ hc=>⟨?_,trivial⟩) _ _ trivial ?_
 .unfold f6 C2;unfold C1 at hc;split<;>omega
 refine adU (P:=C1) (Q:=C1) (S:=fun _=>True) (fun s c r _ hc=>⟨?_,trivial⟩) _ _ trivial ?_
 .unfold f5;split
  .exact .inr (.inl rfl)
  .exact hc
 refine adU (P:=C1) (Q:=C1) (S:=fun s=>∀p,s=some p->C1 p) ?_ _ none (fun p e=>by cases e) ?_
 .intro s c r hs hc;have:C1 (f4 s c r):=by
   cases s with
   |none=>rw [Le];exact hc
   |some a=>
    cases r with
    |nil=>rw [Tp];exact hc
    |cons d r=>
     rw [Lf];split
     .exact hs a rfl
     .exact hc
  exact⟨this,fun p e=>by unfold g4 at e;cases e;exact this⟩
 refine adU (P:=C1) (Q:=C1) (S:=fun _=>True) (fun s c r _ hc=>⟨?_,trivial⟩) _ _ trivial h1;unfold f3 C1;unfold C1 at hc;split<;>omega
theorem RF {c:Int}(h:C3 c):bC c<0∨(c=0/\bC c=0):=by
 rcases h with rfl|rfl|rfl|rfl|rfl|rfl
 .exact .inr ⟨rfl,rfl⟩
 all_goals exact .inl (by decide)
theorem abG {t:List Int}(h:∀c∈t,C3 c)(i:Nat):C3 (t.getD i 0):=by
 rcases Nat.lt_or_ge i t.length with hi|hi
 .exact h _ (dB hi)
 .rw [List.getD_eq_getElem?_getD,List.getElem?_eq_none hi];exact .inl rfl
theorem last_zero {t:List Int}(h:∀c∈t,C3 c):∀m,jJ 0 t m=0
 |0=>rfl
 |m+1=>by
  rw [jJ];rcases RF (abG h m)with h1|⟨_,h1⟩
  .rw [if_pos h1,last_zero h m]
  .rw [if_neg (by omega),h1]
theorem Lj {t:List Int}(h:∀c∈t,C3 c)(k:Nat):∀m,∀c∈dI t k 0 m,C3 c
 |0,c,hc=>h c hc
 |m+1,c,hc=>by
  rw [dI]at hc;rcases mem_set hc with hc|rfl
  .exact Lj h k m c hc
  .exact .inl rfl
theorem Xi(orig:List Int):∀(ps:List (Nat×Nat))(t:List Int),(∀c∈t,C3 c)->∀c∈xu t orig ps 0 0,C3 c
 |[],_,h=>h
 |p::ps,t,h=>by
  rw [xu,List.foldl_cons];refine Xi orig ps _ ?_;unfold vJ;split
  .exact h
  .have e:xB t p 0 0=0:=by
    unfold xB;split
    .rfl
    .exact last_zero h _
   rw [e];unfold pz;exact Lj (Lj h _ _) _ _
theorem agj(aj:Int)(t:List Int)(h:∀c∈t,C3 c):∀c∈Et 0 aj 0 t,c=0:=by
 unfold Et;refine adU (P:=C3) (Q:=fun c=>c=0) (S:=fun s=>s=0) ?_ t 0 rfl h;rintro s c r rfl hc;unfold fN gN;rcases RF hc with h1|⟨h1,h2⟩
 .rw [if_pos h1,if_pos h1];refine⟨?_,rfl⟩;split<;>rfl
 .rw [if_neg (by omega),if_neg (by omega)];exact⟨h1,h2⟩
theorem aiN(rs kinds:List Int)(s:Sq)(hl:s.level=0)(hs:s.aa=0)(h:∀p∈s.at',C0 (kinds.getD p 0)):∀c∈Az rs kinds s,c=0:=by
 unfold Az;rw [hl,hs];refine agj _ _ (Xi _ _ _ (ajK _ ?_));intro c hc;obtain⟨p,hp,rfl⟩:=List.mem_map.1 (show c∈s.at'.map fun p=>kinds.getD p 0 from hc);exact h p hp
theorem fold_zero(p:Nat):∀(xs:List (Nat×Int×Int))(l:List Int),l.getD p 0=0->(∀x∈xs,x.1=p->um x.2.2 x.2.1=0)->(xs.foldl mM l).getD p 0=0
 |[],_,h,_=>h
 |x::xs,l,h,hx=>by
  rw [List.foldl_cons];refine fold_zero p xs _ ?_ fun y hy=>hx y (by simp [hy])
  unfold mM;by_cases e:x.1=p
  .rw [hx x (by simp) e,e];rcases Nat.lt_or_ge p l.length with hp|hp
   .rw [List.getD_eq_getElem?_getD,List.getElem?_set_self hp];rfl
   .rw [List.set_eq_of_length_le hp];exact h
  .rw [getD_set_ne e];exact h
theorem RQ {cs:List Int}{rs:List (List Nat)}:∀(f:Nat)(r:List Nat),r≠[]->(bP cs rs f r).headD 0=r.headD 0
 |0,_,_=>rfl
 |f+1,r,h=>by
  rw [bP];cases fT cs rs (r.getLastD 0)with
  |none=>rfl
  |some k=>
   simp only;rw [RQ f _ (by simp [h])];cases r with
   |nil=>exact absurd rfl h
   |cons a r=>rfl
theorem XM {cs:List Int}{i j:Nat}(hj:j<i)(hi:aG (cs.getD j 0)=true)(hm:mt cs j=i):∀n,i<=j+n->n<=i->0<=Ak cs i n
 |0,h,_=>by omega
 |n+1,h,hn=>by
  rw [Ak];split
  .omega
  .rename_i hc;by_cases e:i - (n+1)=j
   .rw [e]at hc;exact absurd ⟨hi,hm⟩ hc
   .exact XM hj hi hm n (by omega) (by omega)
theorem Rq {lv:List Int}{lf:List Bool}:∀k,kW lv lf 0 k≠0->∃j,j<k/\lf.getD j false=true/\lv.getD j 0≠0/\∀m,j<m->m<k->lf.getD m false=false
 |0,h=>absurd rfl h
 |k+1,h=>by
  rw [kW]at h;by_cases hl:lf.getD k false=true
  .rw [if_pos hl]at h;exact⟨k,by omega,hl,h,fun m h1 h2=>by omega⟩
  .rw [if_neg hl]at h;obtain⟨j,h1,h2,h3,h4⟩:=Rq k h;refine⟨j,by omega,h2,h3,fun m k1 k2=> ?_⟩;by_cases e:m=k
   .rw [e];simpa using hl
   .exact h4 m k1 (by omega)
theorem Zu {cs:List Int}:∀k,dF cs k=true->∃i,i<k/\cs.getD i 0=20/\∀m,i<m->m<k->cs.getD m 0≠20/\cs.getD m 0≠21/\dF cs m=true
 |0,h=>by cases h
 |k+1,h=>by
  have h':=h;rw [dF]at h;by_cases h20:cs.getD k 0=20
  .exact⟨k,by omega,h20,fun m h1 h2=>by omega⟩
  .rw [if_neg h20]at h;by_cases h21:cs.getD k 0=21
   .rw [if_pos h21]at h;cases h
   .rw [if_neg h21]at h;obtain⟨i,h1,h2,h3⟩:=Zu k h;refine⟨i,by omega,h2,fun m k1 k2=> ?_⟩;by_cases e:m=k
    .rw [e];exact⟨h20,h21,h⟩
    .exact h3 m k1 (by omega)
theorem ae7 {c:Int}(h:c<=12):aG c=false:=by
 unfold aG;rw [beq_eq_false_iff_ne.2 (show c≠18 by omega),beq_eq_false_iff_ne.2 (show c≠19 by omega),beq_eq_false_iff_ne.2 (show c≠20 by omega)];rfl
theorem akL {cs:List Int}{m:Nat}(h:m<cs.length):(aD cs).getD m false=dm (cs.getD m 0):=by
 rw [aD,List.getD_eq_getElem?_getD,List.getElem?_map,List.getElem?_eq_getElem h,List.getD_eq_getElem?_getD,List.getElem?_eq_getElem h];rfl
section
variable{cs:List Int}(h:GS cs)
include h
theorem adL {k:Nat}(hk:k<cs.length)(hs:dF cs k=true)(h21:cs.getD k 0=21):∃i,i<k/\aG (cs.getD i 0)=true/\mt cs i=k:=by
 obtain⟨i,h1,h2,h3⟩:=Zu k hs;refine⟨i,h1,by rw [h2];decide,?_⟩;have hstep:∀d,i+1+d<=k->l6 cs i (i+1+d) 1:=by
  intro d
  induction d with
  |zero=>
   intro _;have:=(l6.start cs i (by omega)).plain (by omega) (by rw [h2];decide);rw [h2]at this;exact this
  |succ d ih=>
   intro hd;have hm:=h3 (i+1+d) (by omega) (by omega);have:=(ih (by omega)).plain (by omega) hm.2.1;rcases h.qf (i+1+d) (by omega) hm.2.2 with hc|hc
   .rw [ae7 hc.2,if_neg (by decide)]at this;exact this
   .exact absurd hc hm.2.1
 have:=hstep (k - (i+1)) (by omega);rw [show i+1+(k - (i+1))=k by omega]at this;exact this.hit hk h21 (by omega)
theorem adK {p:Nat}(hp:p<cs.length)(ho:dF cs p=false∨cs.getD p 0=21)(hl:dm (cs.getD p 0)=true):C0 (cs.getD p 0):=by
 unfold C0;rcases ho with hs|h21
 .rcases h.out p hp hs with hc|hc
  .have:=Ao hc;have h9:cs.getD p 0≠9:=by intro e;rw [e]at hl;cases hl
   omega
  .omega
 .omega
theorem adR {s:Sq}(hs:s∈iV cs (aH cs 0) (aD cs) 0)(h0:s.level=0):s.aa=0:=by
 unfold iV at hs;obtain⟨r,hr,rfl⟩:=List.mem_map.1 hs;obtain⟨hr1,hr2⟩:=List.mem_filter.1 hr;have hne:=(Cq (aH cs 0) (aD cs)).2.1 r hr1;have hh:(bP cs (eZ (aH cs 0) (aD cs)) cs.length r).headD 0=r.headD 0:=RQ _ _ hne;unfold Gp at h0 ⊢;simp only [hh]at h0 ⊢;have hlt:=Cn hr1 (head_mem hne);obtain⟨hk,_⟩:=Hw hlt.2;unfold fQ at hr2;generalize r.headD 0=k at*;rw [h0];by_cases hb:kW (aH cs 0) (aD cs) 0 k=0
 .rw [hb];rfl
 .exfalso;obtain⟨j,j1,j2,j3,j4⟩:=Rq k hb;have hjl:j<cs.length:=by omega
  have hj:dF cs j=true/\cs.getD j 0≠21:=by
   refine⟨?_,fun e=>j3 (GJ h j hjl (.inr e))⟩;by_cases hs:dF cs j=false
   .exact absurd (GJ h j hjl (.inl hs)) j3
   .exact Fb hs
  have hst:∀d,j+1+d<=k->dF cs (j+1+d)=true:=by
   intro d
   induction d with
   |zero=>
    intro _;rw [Nat.add_zero,dF];rcases h.qf j hjl hj.1 with hc|hc
    .rw [if_neg (by omega),if_neg (by omega)];exact hj.1
    .exact absurd hc hj.2
   |succ d ih=>
    intro hd;have hs:=ih (by omega);rw [show j+1+(d+1)=(j+1+d)+1 by omega,dF];have hm:=j4 (j+1+d) (by omega) (by omega);rw [akL (by omega)]at hm;rcases h.qf (j+1+d) (by omega) hs with hc|hc
    .rw [if_neg (by omega),if_neg (by omega)];exact hs
    .rw [hc]at hm;cases hm
  have hsk:=hst (k - (j+1)) (by omega);rw [show j+1+(k - (j+1))=k by omega]at hsk;rcases Ua h k hk h0 with hz|h21
  .rw [hz]at hsk;cases hsk
  .obtain⟨i,i1,i2,i3⟩:=adL h hk hsk h21;have ho:0<=opener cs k:=XM i1 i2 i3 k (by omega) (by omega);rw [h21,decide_eq_true ho]at hr2;cases hr2
theorem adM:∀c∈cs,0<=c/\c<=21:=by
 intro c hc;obtain⟨i,hi,rfl⟩:=List.getElem_of_mem hc;have e:cs[i]=cs.getD i 0:=by rw [List.getD_eq_getElem?_getD,List.getElem?_eq_getElem hi];rfl
 rw [e];by_cases hs:dF cs i=false
 .rcases h.out i hi hs with hc|hc
  .have:=Ao hc;omega
  .omega
 .rcases h.qf i hi (Fb hs)with hc|hc<;>omega
theorem adN(rs:List Int)(p:Nat)(hp:p<cs.length)(ho:dF cs p=false∨cs.getD p 0=21):(((iV cs (aH cs 0) (aD cs) 0).flatMap (vO rs (iX cs 0))).foldl mM (aH cs 0)).getD p 0=0:=by
 refine fold_zero p _ _ (GJ h p hp ho) fun x hx hxp=> ?_
 obtain⟨s,hs,hx⟩:=List.mem_flatMap.1 hx;obtain⟨b1,b2,b3⟩:=O3 hx;obtain⟨_,_,_,_,a5⟩:=EZ (adM h) (by omega) hs;have hl:s.level=0:=by
  rw [<-(a5 _ b1).2,hxp];exact GJ h p hp ho
 have hz:x.2.2=0:=by
  refine aiN rs (iX cs 0) s hl (adR h hs hl) (fun q hq=> ?_) _ b3;rw [adO h];obtain⟨q1,q2⟩:=a5 q hq;have hlf:jW (aD cs) q=true:=by
   unfold iV at hs;obtain⟨r,hr,rfl⟩:=List.mem_map.1 hs;have hr1:=(List.mem_filter.1 hr).1;exact KH _ _ (fun p hp=>(Cn hr1 hp).2) q hq
  exact adK h q1 (Ua h q q1 (by rw [q2,hl])) (Hw hlf).2
 rw [hz,b2,hl];rfl
omit h in
theorem TZ(os:List Int)(ho:∀p,p<cs.length->dF cs p=false∨cs.getD p 0=21->os.getD p 0=0)(hl:os.length=cs.length):
  ∀(d k:Nat)(prev:Int),cs.length - k=d->k<=cs.length->(dF cs k=false->prev=0)->∀j,k+j<cs.length->(dF cs (k+j)=false∨cs.getD (k+j) 0=21)->(l9 0 prev (cs.drop k) (os.drop k)).getD j 0=0
 |0,k,prev,hd,hk,_,j,hj,_=>by omega
 |d+1,k,prev,hd,hk,hp,j,hj,hout=>by
  have U9:k<cs.length:=by omega
  rw [drop_at U9,drop_at (cs:=os) (by omega),l9];obtain⟨v,hv⟩:∃v,v=(if xG (cs.getD k 0) (cs.drop (k+1))=true then 0 else if dm (cs.getD k 0)=false then prev else os.getD k 0):=⟨_,rfl⟩
  rw [<-hv];have hv0:dF cs k=false∨cs.getD k 0=21->v=0:=by
   intro hok;rw [hv];split
   .rfl
   .split
    .rename_i hlf;refine hp ?_;rcases hok with hok|h21
     .exact hok
     .rw [h21]at hlf;cases hlf
    .exact ho k U9 hok
  cases j with
  |zero=>exact hv0 hout
  |succ j=>
   show(l9 0 v (cs.drop (k+1)) (os.drop (k+1))).getD j 0=0;refine TZ os ho hl d (k+1) v (by omega) (by omega) (fun hs=>hv0 ?_) j (by omega) ?_
   .rw [dF]at hs;by_cases h20:cs.getD k 0=20
    .rw [if_pos h20]at hs;cases hs
    .rw [if_neg h20]at hs;by_cases h21:cs.getD k 0=21
     .exact .inr h21
     .rw [if_neg h21]at hs;exact .inl hs
   .rw [show k+1+j=k+(j+1)by omega];exact hout
theorem adP(rs:List Int)(p:Nat)(hp:p<cs.length)(ho:dF cs p=false∨cs.getD p 0=21):(gB rs cs 0).getD p 0=0:=by
 have e:dO cs 0=0:=by unfold dO;simp
 unfold gB;rw [e];have:=TZ _ (fun q hq hqo=>adN h rs q hq hqo) ?_ cs.length 0 0 (by omega) (by omega) (fun _=>rfl) p (by omega) (by rw [Nat.zero_add];exact ho)
 .simpa using this
 .have hlen:∀(xs:List (Nat×Int×Int))(l:List Int),(xs.foldl mM l).length=l.length:=by
   intro xs
   induction xs with
   |nil=>intro l;rfl
   |cons x xs ih=>intro l;rw [List.foldl_cons,ih];simp [mM]
  rw [hlen];simp [aH]
theorem LA:∀(f i:Nat),i<=cs.length->dF cs i=false->gy cs f i=0
 |0,_,_,_=>rfl
 |f+1,i,hi,hs=>by
  rw [gy];by_cases hlt:i<cs.length
  .rw [if_pos hlt];rcases h.out i hlt hs with hc|hc
   .have hc':=Ao hc;by_cases h0:cs.getD i 0=0
    .rw [if_pos h0]
    .rw [if_neg h0,if_neg (by omega)];have bG:aG (cs.getD i 0)=false:=by
      rcases hc' with e|e|e|e|e|e|e|e|e|e<;>rw [e]<;>rfl
     rw [bG,if_neg (by decide)];refine LA f (i+1) (by omega) ?_;rw [dF,if_neg (by omega),if_neg (by omega)];exact hs
   .rw [hc,if_neg (by decide),if_neg (by decide),if_pos (by decide)];have hm:=vG cs i (by omega);by_cases hml:mt cs i<cs.length
    .have h21:=(Xd (cs:=cs) (para:=0) (by omega) hlt (by rw [hc];decide) hml).2;refine LA f _ (by omega) ?_;rw [dF,h21];rfl
    .have:∀g,gy cs g (mt cs i+1)=0:=fun g=>by
      cases g with
      |zero=>rfl
      |succ g=>rw [gy,if_neg (by omega)]
     exact this f
  .rw [if_neg hlt]
theorem adQ:found cs=0:=LA h _ 0 (by omega) rfl
end
