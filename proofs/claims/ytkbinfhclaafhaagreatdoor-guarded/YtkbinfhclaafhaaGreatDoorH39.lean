import Derived.Test.YtkbinfhclaafhaaGreatDoorH38
import Derived.Test.YtkbinfhclaafhaaGreatDoorH31
import Derived.Test.YtkbinfhclaafhaaGreatDoorH26
import Derived.Test.YtkbinfhclaafhaaGreatDoorH25
import Derived.Deep.DrawnRows
import Derived.BigQuiet
namespace Go.Proofs.YtkbinfhclaafhaaGreatDoor
open Go.RowKit
open Go.Proofs.Tryz
set_option maxRecDepth 100000
set_option maxHeartbeats 32000000
theorem KZ(sf:Nat->Bool)(ln:Nat->ByteArray)(st:Nat->Nat):∀(ps:List PR)(l:List Ed),(dY sf ln st ps l).2.2= -1->
  (∀x∈ps,sf x.line=false->nG (ln x.line) x= -1)/\(dY sf ln st ps l).1=l++ps.flatMap fun x=>if sf x.line=true then []else(lg (ln x.line) x).map (lu (st x.line))
 |[],l,_=>⟨fun x hx=>(by cases hx),by simp [dY]⟩
 |x::ps,l,h=>by
  rw [dY]at h ⊢;by_cases hs:sf x.line=true
  .rw [if_pos hs]at h ⊢;obtain⟨h1,h2⟩:=KZ sf ln st ps l h;refine⟨fun y hy hn=> ?_,?_⟩
   .rcases List.mem_cons.1 hy with rfl|hy
    .rw [hs]at hn;cases hn
    .exact h1 y hy hn
   .rw [h2,List.flatMap_cons,if_pos hs];rfl
  .rw [if_neg hs]at h ⊢;by_cases hf:nG (ln x.line) x≠ -1
   .rw [if_pos hf]at h;exact absurd h hf
   .rw [if_neg hf]at h ⊢;obtain⟨h1,h2⟩:=KZ sf ln st ps _ h;refine⟨fun y hy hn=> ?_,?_⟩
    .rcases List.mem_cons.1 hy with rfl|hy
     .exact Decidable.not_not.1 hf
     .exact h1 y hy hn
    .rw [h2,List.flatMap_cons,if_neg hs,List.append_assoc]
theorem Oq {A u B:List Int}(h:∀r∈u,VR r):o9 (txt (A++(u++B))) (W A) (W A+W u)=u:=by
 unfold o9;have hd:(txt (A++(u++B))).data.toList.drop (W A)=bs u++bs B:=by rw [xL,jc,jc,W,List.drop_left]
 rw [Gt hd,IM h];rfl
theorem afe {x:Pc}(h:x.k=0∨x.k=1∨x.k=2)(h1:¬x.k=1)(h2:¬x.k=2):x.k=0:=by omega
theorem aiC(a b:Nat)(c:Int)(n:ByteArray):lu b ⟨(a:Nat),c,n⟩=⟨((b+a:Nat):Int),c,n⟩:=by
 unfold lu;simp only;rw [Int.add_comm];rfl
theorem ahd(ln a:Nat)(done rest:List Pc)(x:Pc)(hv:∀r∈x.fl,VR r):
  (lg (txt (ai (done++x::rest))) ⟨ln,x.k,W (ai done),W (ai done)+W x.fl,if x.k=0 then 0 else W (ai done)+W x.o,if x.k=0 then 0 else W (ai done)+W x.o+W x.b⟩).map (lu a)=xE x (a+W (ai done)):=by
 have hvb:∀r∈x.b,VR r:=fun r hr=>hv r (by simp [Pc.fl,hr])
 have e:ai (done++x::rest)=(ai done++x.o)++(x.b++(x.c++ai rest)):=by simp [ai,Pc.fl]
 have hb:o9 (txt (ai (done++x::rest))) (W (ai done)+W x.o) (W (ai done)+W x.o+W x.b)=x.b:=by
  rw [e,<-bH];exact Oq hvb
 unfold lg xE;simp only;by_cases k1:x.k=1
 .have k0:¬x.k=0:=by omega
  rw [if_pos k1,if_pos k1,if_neg k0,if_neg k0,hb,Ku]
  congr 1
  omega
 .rw [if_neg k1,if_neg k1];by_cases k2:x.k=2
  .have k0:¬x.k=0:=by omega
   rw [if_neg k0,if_neg k0,hb];by_cases ha:x.b.any bI=true
   .rw [if_pos ⟨k2,(Gv _ _).2 ha⟩,if_pos ⟨k2,ha⟩];simp only [List.map_append,List.map_cons,List.map_nil,Ku,aiC];rw [show W (ai done)+W x.o+a=a+W (ai done)+W x.o by omega,show a+(W (ai done)+W x.o)=a+W (ai done)+W x.o by omega,show a+(W (ai done)+W x.o+W x.b)=a+W (ai done)+W x.o+W x.b by omega]
   .rw [if_neg (fun h=>ha ((Gv _ _).1 h.2)),if_neg (fun h=>ha h.2)];rfl
  .rw [if_neg (fun h=>k2 h.1),if_neg (fun h=>k2 h.1)];rfl
theorem WB(sf:Nat->Bool)(ln:Nat->ByteArray)(st:Nat->Nat)(i:Nat)(all:List Pc)(hl:ln i=txt (ai all))(hv:∀r∈ai all,VR r):∀(ay done:List Pc),all=done++ay->
  (cZ i (W (ai done)) ay).flatMap (fun x=>if sf x.line=true then []else(lg (ln x.line) x).map (lu (st x.line)))=if sf i=true then []else o6 ay (st i+W (ai done))
 |[],done,_=>by rw [cZ,o6];simp
 |x::xs,done,e=>by
  have hn:ai (done++[x])=ai done++x.fl:=by simp [ai]
  have ih:=WB sf ln st i all hl hv xs (done++[x]) (by rw [e];simp);rw [hn,bH]at ih;rw [cZ,List.flatMap_cons,ih];simp only;by_cases hs:sf i=true
  .simp [hs]
  .rw [if_neg hs,if_neg hs,if_neg hs,hl,e,ahd i (st i) done xs x fun r hr=>hv r (by rw [e];simp only [ai,List.flatMap_append,List.flatMap_cons];simp [hr]),o6,Nat.add_assoc]
theorem Z9(sf:Nat->Bool)(ln:Nat->ByteArray)(st:Nat->Nat):∀(pl:List (List Pc))(i a:Nat),(∀p∈pl,LR (ai p))->(∀j,j<pl.length->ln (i+j)=txt (ai (pl.getD j []))/\st (i+j)=(ku (pl.map fun p=>txt (ai p)) a).getD j 0)->
  (jy i pl).flatMap (fun x=>if sf x.line=true then []else(lg (ln x.line) x).map (lu (st x.line)))=mR sf i a pl
 |[],_,_,_,_=>rfl
 |p::pl,i,a,hv,h=>by
  obtain⟨h1,h2⟩:=h 0 (by simp);rw [Nat.add_zero]at h1 h2;have h1:ln i=txt (ai p):=h1;have h2:st i=a:=h2;have hp:=WB sf ln st i p h1 (fun r hr=>(hv p (by simp) r hr).1) p [] rfl;rw [zP,fP,Nat.add_zero,h2]at hp;rw [jy,List.flatMap_append,hp,mR,Z9 sf ln st pl (i+1) (a+W (ai p)+1) (fun q hq=>hv q (by simp [hq])) fun j hj=> ?_];have:=h (j+1) (by simpa using hj);rw [show i+(j+1)=i+1+j by omega]at this;refine⟨this.1,?_⟩;rw [this.2,List.map_cons,ku,I6];rfl
theorem adm(ln:Nat)(done rest:List Pc)(x:Pc)(hv:∀r∈x.fl,VR r)(hf:nG (txt (ai (done++x::rest))) ⟨ln,x.k,W (ai done),W (ai done)+W x.fl,if x.k=0 then 0 else W (ai done)+W x.o,if x.k=0 then 0 else W (ai done)+W x.o+W x.b⟩= -1):
  (x.k=0->iy x.o)/\CF x:=by
 unfold nG at hf;simp only at hf;refine⟨fun k0=> ?_,fun k1=> ?_⟩
 .rw [if_pos k0]at hf;have e:ai (done++x::rest)=ai done++(x.fl++ai rest):=by simp [ai]
  rw [e,Oq hv]at hf;have hno:¬x.fl.any bI=true:=fun h=>(Gv x.fl (W (ai done))).2 h hf
  intro r hr;cases hz:bI r
  .rfl
  .exact absurd (List.any_eq_true.2 ⟨r,by simp [Pc.fl,hr],hz⟩) hno
 .have k0:¬x.k=0:=by omega
  rw [if_neg k0,if_pos k1,if_neg k0,if_neg k0]at hf;have e:ai (done++x::rest)=(ai done++x.o)++(x.b++(x.c++ai rest)):=by simp [ai,Pc.fl]
  rw [e,<-bH,Oq fun r hr=>hv r (by simp [Pc.fl,hr])]at hf;exact⟨_,hf⟩
theorem afW(ln:Nat)(done rest:List Pc)(x:Pc):(⟨ln,x.k,W (ai done),W (ai done)+W x.fl,if x.k=0 then 0 else W (ai done)+W x.o,if x.k=0 then 0 else W (ai done)+W x.o+W x.b⟩:PR)∈cZ ln 0 (done++x::rest):=by
 have:=M5 ln done x rest 0;rw [Nat.zero_add]at this;exact List.mem_of_getElem? this
theorem WT:∀(pl:List (List Pc))(i j:Nat)(x:PR),j<pl.length->x∈cZ (i+j) 0 (pl.getD j [])->x∈jy i pl
 |[],_,_,_,h,_=>by simp at h
 |p::pl,i,0,x,_,hx=>by rw [jy];exact List.mem_append.2 (.inl hx)
 |p::pl,i,j+1,x,h,hx=>by
  rw [jy];refine List.mem_append.2 (.inr (WT pl (i+1) j x (by simpa using h) ?_));rw [show i+1+j=i+(j+1)by omega];exact hx
theorem WN:∀(pl:List (List Pc))(b:Bool)(j:Nat),zz b pl->j<pl.length->∃c c',Lx c (pl.getD j []) c'
 |[],_,_,_,h=>by simp at h
 |p::pl,b,0,h,_=>by obtain⟨b',h1,_⟩:=h;exact⟨b,b',h1⟩
 |p::pl,b,j+1,h,hj=>by obtain⟨b',_,h2⟩:=h;exact WN pl b' j h2 (by simpa using hj)
theorem WQ(sf:Nat->Bool):∀(pl:List (List Pc))(b:Bool)(i:Nat),zz b pl->(∀j,j<pl.length->sf (i+j)=false->∀x∈pl.getD j [],CF x)->zz b (gD sf i pl)
 |[],_,_,_,_=>trivial
 |p::pl,b,i,h,he=>by
  obtain⟨b',h1,h2⟩:=h;rw [gD];refine⟨b',?_,WQ sf pl b' (i+1) h2 fun j hj hs=>by have:=he (j+1) (by simpa using hj);rw [show i+(j+1)=i+1+j by omega]at this;exact this hs⟩;by_cases hs:sf i=true
  .rw [if_pos hs];exact h1
  .rw [if_neg hs];exact afO h1 (he 0 (by simp) (by rw [Nat.add_zero];simpa using hs))
theorem Ah(sf:Nat->Bool):∀(pl:List (List Pc))(i:Nat),(gD sf i pl).length=pl.length
 |[],_=>rfl
 |p::pl,i=>by rw [gD,List.length_cons,Ah sf pl,List.length_cons]
theorem Nr(sf:Nat->Bool):∀(pl:List (List Pc))(i j:Nat),j<pl.length->(gD sf i pl).getD j []=if sf (i+j)=true then pl.getD j []else(pl.getD j []).map dQ
 |[],_,_,h=>by simp at h
 |p::pl,i,0,_=>rfl
 |p::pl,i,j+1,h=>by
  rw [gD,List.getD_cons_succ,List.getD_cons_succ,Nr sf pl (i+1) j (by simpa using h),show i+1+j=i+(j+1)by omega]
theorem WV(sf:Nat->Bool):∀(pl:List (List Pc))(i:Nat),∀q∈gD sf i pl,∃p∈pl,q=p∨q=p.map dQ
 |[],_,q,hq=>by cases hq
 |p::pl,i,q,hq=>by
  rw [gD]at hq;rcases List.mem_cons.1 hq with rfl|hq
  .refine⟨p,by simp,?_⟩;split
   .exact .inl rfl
   .exact .inr rfl
  .obtain⟨p',h1,h2⟩:=WV sf pl (i+1) q hq;exact⟨p',by simp [h1],h2⟩
structure MG(s:ByteArray)(pl:List (List Pc)):Prop where
 tx:TX s pl
 sz:s.size<=600
 sf:∀i,i<pl.length->dP s i=pq (ai (pl.getD i [])) (cZ i 0 (pl.getD i []))
 ed:(aQ s).1=mR (dP s) 0 0 pl
 ok:∀i,i<pl.length->dP s i=false->∀x∈pl.getD i [],Fit x/\CF x
 mt:TX (dA s (aQ s).1) (gD (dP s) 0 pl)
theorem Ag {α β:Type}(f:α->β)(l:List α)(i:Nat)(d:α)(e:β)(h:i<l.length):(l.map f).getD i e=f (l.getD i d):=by
 rw [List.getD_eq_getElem?_getD,List.getElem?_map,List.getD_eq_getElem?_getD,List.getElem?_eq_getElem h];rfl
theorem TX.Ct {s:ByteArray}{pl:List (List Pc)}(h:TX s pl)(hz:s.size<=600):cB s=(List.range pl.length).map fun i=>pq (ai (pl.getD i [])) (cZ i 0 (pl.getD i [])):=by
 unfold cB;have hl:(az s 0 0).length=pl.length:=by rw [h.lines];simp
 rw [hl];refine List.map_congr_left fun i hi=> ?_
 rw [h.runes,h.pts hz,Ag ai pl i [] [] (List.mem_range.1 hi)]
theorem QM {s:ByteArray}{pl:List (List Pc)}(h:TX s pl)(h0:(aZ s).1=0)(h1:(aQ s).2.2= -1):MG s pl:=by
 have hz:=(look_ok h0).1;have VB:∀i,i<pl.length->dP s i=pq (ai (pl.getD i [])) (cZ i 0 (pl.getD i [])):=fun i hi=>by
  unfold dP;rw [h.Ct hz,sj _ _ _ _ hi]
 have hln:∀i,i<pl.length->gW s i=txt (ai (pl.getD i [])):=fun i hi=>by
  unfold gW;rw [h.lines,Ag (fun p=>txt (ai p)) pl i [] _ hi]
 have hO:aQ s=dY (dP s) (gW s) (nO s) (jy 0 pl) []:=by unfold aQ;rw [h.parts hz]
 have yE:=h1;rw [hO]at yE;obtain⟨e1,e2⟩:=KZ _ _ _ _ _ yE;have UU:(aQ s).1=mR (dP s) 0 0 pl:=by
  rw [hO,e2,List.nil_append];refine Z9 _ _ _ pl 0 0 h.lr fun j hj=> ?_
  rw [Nat.zero_add];refine⟨hln j hj,?_⟩;unfold nO;rw [h.lines]
 have hok:∀i,i<pl.length->dP s i=false->∀x∈pl.getD i [],Fit x/\CF x:=by
  intro i hi hs x hx;obtain⟨c,c',hlx⟩:=WN pl false i h.lx hi;obtain⟨done,rest,e⟩:=List.append_of_mem hx;have hvl:=h.lr _ (dB (d:=[]) hi);have xg:∀r∈x.fl,VR r:=fun r hr=>(hvl r (by rw [e];simp only [ai,List.flatMap_append,List.flatMap_cons];simp [hr])).1
  have hm:=WT pl 0 i _ hi (by rw [Nat.zero_add,e];exact afW i done rest x);have hf:=e1 _ hm hs;simp only at hf;rw [hln i hi,e]at hf;obtain⟨f1,f2⟩:=adm i done rest x xg hf;exact⟨afM hlx x hx f1,f2⟩
 refine⟨h,hz,VB,UU,hok,?_⟩;obtain⟨a1,a2⟩:=Z8 (s:=s) (dP s) pl 0 0 h.ne h.lr (by rw [h.eq,xL];rfl) (Nat.zero_le _);refine⟨?_,WQ _ pl false 0 h.lx fun j hj hs x hx=> ?_,fun q hq=> ?_,?_⟩
 .intro e;have:=congrArg List.length e;rw [Ah]at this;exact h.ne (List.length_eq_zero_iff.1 this)
 .rw [Nat.zero_add]at hs;exact(hok j hj hs x hx).2
 .obtain⟨p,hp,rfl|rfl⟩:=WV _ pl 0 q hq
  .exact h.lr _ hp
  .exact Nt (h.lr _ hp)
 .rw [<-UU]at a1 a2;have:=Rf s _ a1;rw [a2]at this;unfold txt;rw [<-this]
theorem aaI(s:ByteArray)(h0:(aZ s).1=0)(h1:(aQ s).2.2= -1):∃pl,MG s pl:=by
 obtain⟨pl,h⟩:=aaJ s h0;exact⟨pl,QM h h0 h1⟩
section
variable{s:ByteArray}{pl:List (List Pc)}(h:MG s pl)
include h
theorem MG.lines:az s 0 0=pl.map fun p=>txt (ai p):=h.tx.lines
theorem MG.Ni:az (dA s (aQ s).1) 0 0=(gD (dP s) 0 pl).map fun p=>txt (ai p):=h.mt.lines
theorem MG.len:(az (dA s (aQ s).1) 0 0).length=(az s 0 0).length:=by
 rw [h.lines,h.Ni,List.length_map,List.length_map,Ah]
theorem MG.afs:(az s 0 0).length=pl.length:=by rw [h.lines,List.length_map]
theorem MG.same(i:Nat)(hi:i<pl.length)(hs:dP s i=true):(az (dA s (aQ s).1) 0 0).getD i ⟨#[]⟩=(az s 0 0).getD i ⟨#[]⟩:=by
 rw [h.lines,h.Ni,Ag (fun p=>txt (ai p)) _ i [] _ (by rw [Ah];exact hi),Ag (fun p=>txt (ai p)) _ i [] _ hi,Nr _ _ _ _ hi,Nat.zero_add,if_pos hs]
theorem MG.Za(hz:(dA s (aQ s).1).size<=600):∀i,i<pl.length->(cB (dA s (aQ s).1)).getD i false=true:=by
 intro i hi;rw [h.mt.Ct hz,Ah,sj _ _ _ _ hi,Nr _ _ _ _ hi,Nat.zero_add];by_cases hs:dP s i=true
 .rw [if_pos hs,<-h.sf i hi];exact hs
 .rw [if_neg hs];refine MZ i _ (fun r hr=>(Nt (h.tx.lr _ (dB (d:=[]) hi)) r hr).1) fun x hx=> ?_
  obtain⟨y,hy,rfl⟩:=List.mem_map.1 hx;exact afY (h.ok i hi (by simpa using hs) y hy).1
theorem MG.Wp(hz:(dA s (aQ s).1).size<=600):(cB (dA s (aQ s).1)).length=pl.length:=by
 rw [h.mt.Ct hz,Ah];simp
theorem MG.look:(600<(dA s (aQ s).1).size->(aZ (dA s (aQ s).1)).1=1)/\((aZ (dA s (aQ s).1)).1=0∨(aZ (dA s (aQ s).1)).1=1):=by
 have hb:∀(l:List ByteArray)(i:Nat),(∀x∈l,∃rs,dh x=some rs)->nA l i=none:=by
  intro l
  induction l with
  |nil=>intro i _;rfl
  |cons x l ih=>
   intro i hx;obtain⟨rs,hr⟩:=hx x (by simp);rw [nA,hr];exact ih _ fun y hy=>hx y (by simp [hy])
 unfold aZ;by_cases hz:600<(dA s (aQ s).1).size
 .rw [if_pos hz];exact⟨fun _=>rfl,.inr rfl⟩
 .rw [if_neg hz,hb _ 0 ?_]
  .refine⟨fun h=>absurd h hz,?_⟩;simp only;split
   .exact .inr rfl
   .exact .inl rfl
  .intro x hx;rw [h.Ni]at hx;obtain⟨p,hp,rfl⟩:=List.mem_map.1 hx;exact⟨_,IM fun r hr=>(h.mt.lr p hp r hr).1⟩
end
theorem SA(sf:Nat->Bool)(ln:Nat->ByteArray)(st:Nat->Nat):∀(ps:List PR)(l:List Ed),(∀x∈ps,sf x.line=true)->dY sf ln st ps l=(l, -1, -1)
 |[],_,_=>rfl
 |x::ps,l,h=>by
  rw [dY,if_pos (h x (by simp))];exact SA sf ln st ps l fun y hy=>h y (by simp [hy])
theorem Wl:∀(pl:List (List Pc))(i:Nat),∀x∈jy i pl,x.line<i+pl.length
 |[],_,x,hx=>by cases hx
 |p::pl,i,x,hx=>by
  rw [jy]at hx;rw [List.length_cons];rcases List.mem_append.1 hx with hx|hx
  .rw [En i p 0 x hx];omega
  .have:=Wl pl (i+1) x hx;omega
theorem MG.again {s:ByteArray}{pl:List (List Pc)}(h:MG s pl)(hz:(dA s (aQ s).1).size<=600):aQ (dA s (aQ s).1)=([], -1, -1):=by
 have hp:=h.mt.parts hz;have hs:=h.Za hz;generalize dA s (aQ s).1=t at*;unfold aQ;rw [hp];refine SA _ _ _ _ _ fun x hx=> ?_
 have:=Wl _ 0 x hx;rw [Nat.zero_add,Ah]at this;exact hs _ this
theorem Rh(s:ByteArray):dA s []=s:=by
 have:=Rf s [] (Nat.zero_le _);apply ByteArray.ext;apply Array.ext';rw [this];show oP s 0 s.size=_;unfold oP;rw [List.drop_zero,Nat.sub_zero,uF,List.take_length]
theorem aaj {r:Int}(h:bI r=true):wd r<=3:=by
 have:=UJ h;unfold wd;rw [if_neg (by omega)];split
 .omega
 .rw [if_pos (by omega)];omega
theorem QU(d:Nat->Int)(r:Nat)(h:∀k,k<16->0<=d k/\d k<128):W (wW d r)=4:=by
 have v:∀k,VR (d (k%16))/\d (k%16)<128:=fun k=>by have:=h (k%16) (Nat.mod_lt _ (by decide));exact⟨.inl (by omega),by omega⟩
 unfold wW;rw [bM (v _).1,bM (v _).1,bM (v _).1,bM (v _).1,fP,fZ (v _).2,fZ (v _).2,fZ (v _).2,fZ (v _).2]
theorem QS(r:Int):W (zO r)=6:=by
 unfold zO;rw [bM (va _),bM (va _),fZ (by decide),fZ (by decide),QU _ _ fun k hk=>by have:=WL k hk;omega]
theorem QY(r:Int):W (xw r)=8:=by
 unfold xw;rw [bM (va _),bM (va _),bM (va _),fZ (by decide),fZ (by decide),fZ (by decide),bH,QU _ _ fun k hk=>by have:=aae k hk;omega,Be (va _) (by decide)]
theorem Kc {r:Int}(h:VR r):W [r]<=W (mS r)/\(bI r=true->W [r]<W (mS r)):=by
 rw [bM h,fP];unfold mS;by_cases hz:bI r=true
 .rw [if_pos hz,QS];have:=aaj hz;omega
 .rw [if_neg hz,bM h,fP];exact⟨Nat.le_refl _,fun h=>absurd h hz⟩
theorem aaK {r:Int}(h:VR r):W [r]<=W (mC r):=by
 rw [bM h,fP];unfold mC;by_cases hz:jC r=true
 .rw [if_pos hz,QY];have:=aaj (akK hz);omega
 .rw [if_neg hz,bM h,fP];exact Nat.le_refl _
theorem FI {r:Int}(h:VR r)(l:List Int):W (r::l)=W [r]+W l:=by rw [bM h,bM h,fP];rfl
theorem FJ(m:Int->List Int):∀(b:List Int),(∀r∈b,VR r/\W [r]<=W (m r))->W b<=W (b.flatMap m)
 |[],_=>Nat.le_refl _
 |r::b,h=>by
  obtain⟨h1,h2⟩:=h r (by simp);have:=FJ m b fun x hx=>h x (by simp [hx])
  rw [FI h1,List.flatMap_cons,bH];omega
theorem QT:∀(b:List Int),(∀r∈b,VR r)->b.any bI=true->W b<W (b.flatMap mS)/\∀p,dW bI pX b p≠[]
 |[],_,h=>by simp at h
 |r::b,hv,h=>by
  have hr:=hv r (by simp);have hm:=Kc hr;have hl:=FJ mS b fun x hx=>⟨hv x (by simp [hx]),(Kc (hv x (by simp [hx]))).1⟩
  rw [FI hr,List.flatMap_cons,bH];by_cases hz:bI r=true
  .have:=hm.2 hz;exact⟨by omega,fun p=>by rw [dW,if_pos hz];simp⟩
  .have h':b.any bI=true:=by rw [List.any_cons]at h;simpa [hz]using h
   obtain⟨i1,i2⟩:=QT b (fun x hx=>hv x (by simp [hx])) h';exact⟨by omega,fun p=>by rw [dW,if_neg hz];exact i2 _⟩
theorem aaL {x:Pc}(hv:∀r∈x.fl,VR r):W x.fl<=W (dQ x).fl/\(Fit x->¬iy x.fl->W x.fl<W (dQ x).fl/\∀a,xE x a≠[]):=by
 have hvb:∀r∈x.b,VR r:=fun r hr=>hv r (by simp [Pc.fl,hr])
 have hW:W x.fl=W x.o+W x.b+W x.c:=by unfold Pc.fl;rw [bH,bH]
 have hany:Fit x->¬iy x.fl->x.b.any bI=true:=by
  intro hf hn;cases ha:x.b.any bI
  .exfalso;apply hn;intro r hr;unfold Pc.fl at hr;rcases List.mem_append.1 hr with hr|hr
   .rcases List.mem_append.1 hr with hr|hr
    .exact hf.1 r (by simp [hr])
    .cases hz:bI r
     .rfl
     .have:x.b.any bI=true:=List.any_eq_true.2 ⟨r,hr,hz⟩;rw [ha]at this;cases this
   .exact hf.1 r (by simp [hr])
  .rfl
 unfold dQ;by_cases k1:x.k=1
 .rw [if_pos k1];have e:W (⟨1,x.o,x.b.flatMap mS,x.c⟩:Pc).fl=W x.o+W (x.b.flatMap mS)+W x.c:=by unfold Pc.fl;rw [bH,bH]
  rw [e,hW];have hl:=FJ mS x.b fun r hr=>⟨hvb r hr,(Kc (hvb r hr)).1⟩
  refine⟨by omega,fun hf hn=> ?_⟩;obtain⟨i1,i2⟩:=QT x.b hvb (hany hf hn);exact⟨by omega,fun a=>by unfold xE;rw [if_pos k1];exact i2 _⟩
 .rw [if_neg k1];by_cases k2:x.k=2/\x.b.any bI=true
  .rw [if_pos k2];have e:W (⟨2,x.o,8296::(x.b.flatMap mC++[8297]),x.c⟩:Pc).fl=W x.o+(3+(W (x.b.flatMap mC)+3))+W x.c:=by
    unfold Pc.fl;rw [bH,bH,bM (.inl (by decide)),bH,bM (.inl (by decide)),fP];rfl
   rw [e,hW];have hl:=FJ mC x.b fun r hr=>⟨hvb r hr,aaK (hvb r hr)⟩
   exact⟨by omega,fun _ _=>⟨by omega,fun a=>by unfold xE;rw [if_neg k1,if_pos k2];simp⟩⟩
  .rw [if_neg k2];refine⟨Nat.le_refl _,fun hf hn=> ?_⟩;exfalso;have ha:=hany hf hn;have k0:x.k=0:=afe hf.2.2 k1 (fun h=>k2 ⟨h,ha⟩);rw [hf.2.1 k0]at ha;cases ha
theorem Q0:∀(ay:List Pc),(∀r∈ai ay,VR r)->W (ai ay)<=W (ai (ay.map dQ))/\((∀x∈ay,Fit x)->(∃x∈ay,¬iy x.fl)->W (ai ay)<W (ai (ay.map dQ))/\∀a,o6 ay a≠[])
 |[],_=>⟨Nat.le_refl _,fun _ h=>by obtain⟨x,hx,_⟩:=h;cases hx⟩
 |x::xs,hv=>by
  rw [eY]at hv;obtain⟨a1,a2⟩:=aaL (x:=x) fun r hr=>hv r (by simp [hr])
  obtain⟨b1,b2⟩:=Q0 xs fun r hr=>hv r (by simp [hr])
  rw [List.map_cons,eY,eY,bH,bH];refine⟨by omega,fun hf hn=> ?_⟩;by_cases hx:iy x.fl
  .obtain⟨y,hy,hyn⟩:=hn;have hy':y∈xs:=by
    rcases List.mem_cons.1 hy with rfl|hy
    .exact absurd hx hyn
    .exact hy
   obtain⟨c1,c2⟩:=b2 (fun z hz=>hf z (by simp [hz])) ⟨y,hy',hyn⟩;exact⟨by omega,fun a=>by rw [o6];simp [c2]⟩
  .obtain⟨c1,c2⟩:=a2 (hf x (by simp)) hx;exact⟨by omega,fun a=>by rw [o6];simp [c2]⟩
theorem Di:∀(ls:List (List Int)),ls≠[]->W (joinL ls)+1=(ls.map fun l=>W l+1).sum
 |[],h=>absurd rfl h
 |[l],_=>by simp [joinL]
 |l::m::ls,_=>by
  have:=Di (m::ls) (by simp);rw [joinL,bH,bM (va _),fZ (by decide),List.map_cons,List.sum_cons,<-this];omega
theorem Z7(sf:Nat->Bool):∀(pl:List (List Pc))(i a:Nat),(∀j,j<pl.length->sf (i+j)=true)->mR sf i a pl=[]
 |[],_,_,_=>rfl
 |p::pl,i,a,h=>by
  have h0:=h 0 (by simp);rw [Nat.add_zero]at h0;rw [mR,if_pos h0,List.nil_append];refine Z7 sf pl _ _ fun j hj=> ?_
  have:=h (j+1) (by simpa using hj)
  rwa [show i+(j+1)=i+1+j by omega]at this
theorem QV(sf:Nat->Bool):∀(pl:List (List Pc))(i:Nat),(∀p∈pl,LR (ai p))->(∀j,j<pl.length->sf (i+j)=false->(∀x∈pl.getD j [],Fit x)/\∃x∈pl.getD j [],¬iy x.fl)->
  ((pl.map ai).map fun l=>W l+1).sum<=(((gD sf i pl).map ai).map fun l=>W l+1).sum/\((∃j,j<pl.length/\sf (i+j)=false)->((pl.map ai).map fun l=>W l+1).sum<(((gD sf i pl).map ai).map fun l=>W l+1).sum/\∀a,mR sf i a pl≠[])
 |[],_,_,_=>⟨Nat.le_refl _,fun h=>by obtain⟨j,hj,_⟩:=h;simp at hj⟩
 |p::pl,i,hv,h=>by
  have hr:∀j,j<pl.length->sf (i+1+j)=false->(∀x∈pl.getD j [],Fit x)/\∃x∈pl.getD j [],¬iy x.fl:=fun j hj hs=>by
   have:=h (j+1) (by simpa using hj);rw [show i+(j+1)=i+1+j by omega]at this;exact this hs
  obtain⟨b1,b2⟩:=QV sf pl (i+1) (fun q hq=>hv q (by simp [hq])) hr;obtain⟨a1,a2⟩:=Q0 p fun r hr=>(hv p (by simp) r hr).1
  simp only [gD,List.map_cons,List.sum_cons];by_cases hs:sf i=true
  .rw [if_pos hs];refine⟨by omega,fun hex=> ?_⟩;obtain⟨j,hj,hjs⟩:=hex;cases j with
   |zero=>rw [Nat.add_zero,hs]at hjs;cases hjs
   |succ j=>
    obtain⟨c1,c2⟩:=b2 ⟨j,by simpa using hj,by rw [show i+1+j=i+(j+1)by omega];exact hjs⟩;exact⟨by omega,fun a=>by rw [mR,if_pos hs];simpa using c2 _⟩
  .rw [if_neg hs];have h0:=h 0 (by simp) (by rw [Nat.add_zero];simpa using hs);obtain⟨c1,c2⟩:=a2 h0.1 h0.2;exact⟨by omega,fun _=>⟨by omega,fun a=>by rw [mR,if_neg hs];simp [c2]⟩⟩
section
variable{s:ByteArray}{pl:List (List Pc)}(h:MG s pl)
include h
theorem MG.aed(i:Nat)(hi:i<pl.length)(hs:dP s i=false):∃x∈pl.getD i [],¬iy x.fl:=by
 cases Classical.em (∃x∈pl.getD i [],¬iy x.fl)with
 |inl hx=>exact hx
 |inr hx=>
  exfalso;have:=MZ i (pl.getD i []) (fun r hr=>(h.tx.lr _ (dB (d:=[]) hi) r hr).1) fun x hm=> .inl (by
   cases Classical.em (iy x.fl)with
   |inl a=>exact a
   |inr a=>exact absurd ⟨x,hm,a⟩ hx)
  rw [<-h.sf i hi,hs]at this;cases this
theorem MG.aaP(ha:∀i,i<pl.length->dP s i=true):(aQ s).1=[]/\dA s (aQ s).1=s:=by
 have e:(aQ s).1=[]:=by rw [h.ed];exact Z7 _ pl 0 0 fun j hj=>by rw [Nat.zero_add];exact ha j hj
 exact⟨e,by rw [e,Rh]⟩
theorem MG.agq(i:Nat)(hi:i<pl.length)(hs:dP s i=false):(aQ s).1≠[]/\dA s (aQ s).1≠s:=by
 obtain⟨_,w2⟩:=QV (dP s) pl 0 h.tx.lr fun j hj hsj=>by
  rw [Nat.zero_add]at hsj;exact⟨fun x hx=>(h.ok j hj hsj x hx).1,h.aed j hj hsj⟩
 obtain⟨w3,w4⟩:=w2 ⟨i,hi,by rw [Nat.zero_add];exact hs⟩;refine⟨by rw [h.ed];exact w4 0,fun e=> ?_⟩;have n1:pl.map ai≠[]:=by simp [h.tx.ne]
 have n2:(gD (dP s) 0 pl).map ai≠[]:=by simp [h.mt.ne]
 have z1:=congrArg ByteArray.size h.tx.eq;have z2:=congrArg ByteArray.size h.mt.eq;rw [I6]at z1 z2;have j1:=Di _ n1;have j2:=Di _ n2;rw [e]at z2;omega
end
theorem Ka(m:Int->List Int):∀(b:List Int),(∀r∈b,VR r/\W (m r)<=8*W [r])->W (b.flatMap m)<=8*W b
 |[],_=>Nat.le_refl _
 |r::b,h=>by
  obtain⟨h1,h2⟩:=h r (by simp);have:=Ka m b fun x hx=>h x (by simp [hx])
  rw [FI h1,List.flatMap_cons,bH];omega
theorem QZ {r:Int}(h:VR r):1<=W [r]:=by rw [bM h,fP];have:=AL r;omega
theorem QX {r:Int}(h:VR r):W (mS r)<=8*W [r]/\W (mC r)<=8*W [r]:=by
 have h1:=QZ h;constructor
 .unfold mS;split
  .rw [QS];omega
  .omega
 .unfold mC;split
  .rw [QY];omega
  .omega
theorem aaM {x:Pc}(hv:∀r∈x.fl,VR r):W (dQ x).fl<=14*W x.fl:=by
 have hvb:∀r∈x.b,VR r:=fun r hr=>hv r (by simp [Pc.fl,hr])
 have hW:W x.fl=W x.o+W x.b+W x.c:=by unfold Pc.fl;rw [bH,bH]
 unfold dQ;by_cases k1:x.k=1
 .rw [if_pos k1];have e:W (⟨1,x.o,x.b.flatMap mS,x.c⟩:Pc).fl=W x.o+W (x.b.flatMap mS)+W x.c:=by unfold Pc.fl;rw [bH,bH]
  rw [e,hW];have:=Ka mS x.b fun r hr=>⟨hvb r hr,(QX (hvb r hr)).1⟩
  omega
 .rw [if_neg k1];by_cases k2:x.k=2/\x.b.any bI=true
  .rw [if_pos k2];have e:W (⟨2,x.o,8296::(x.b.flatMap mC++[8297]),x.c⟩:Pc).fl=W x.o+(3+(W (x.b.flatMap mC)+3))+W x.c:=by
    unfold Pc.fl;rw [bH,bH,bM (.inl (by decide)),bH,bM (.inl (by decide)),fP];rfl
   rw [e,hW];have:=Ka mC x.b fun r hr=>⟨hvb r hr,(QX (hvb r hr)).2⟩
   have h1:1<=W x.b:=by
    cases hb:x.b with
    |nil=>rw [hb]at k2;exact absurd k2.2 (by decide)
    |cons r b=>rw [FI (hvb r (by rw [hb];simp))];have:=QZ (hvb r (by rw [hb];simp));omega
   omega
  .rw [if_neg k2];omega
theorem Q3:∀(ay:List Pc),(∀r∈ai ay,VR r)->W (ai (ay.map dQ))<=14*W (ai ay)
 |[],_=>Nat.le_refl _
 |x::xs,hv=>by
  rw [eY]at hv;have a:=aaM (x:=x) fun r hr=>hv r (by simp [hr])
  have b:=Q3 xs fun r hr=>hv r (by simp [hr])
  rw [List.map_cons,eY,eY,bH,bH];omega
theorem QW(sf:Nat->Bool):∀(pl:List (List Pc))(i:Nat),(∀p∈pl,LR (ai p))->(((gD sf i pl).map ai).map fun l=>W l+1).sum<=14*((pl.map ai).map fun l=>W l+1).sum
 |[],_,_=>Nat.le_refl _
 |p::pl,i,hv=>by
  have b:=QW sf pl (i+1) fun q hq=>hv q (by simp [hq])
  have a:=Q3 p fun r hr=>(hv p (by simp) r hr).1
  simp only [gD,List.map_cons,List.sum_cons];split<;>omega
theorem MG.size {s:ByteArray}{pl:List (List Pc)}(h:MG s pl):(dA s (aQ s).1).size<=14*(s.size+1):=by
 have n1:pl.map ai≠[]:=by simp [h.tx.ne]
 have n2:(gD (dP s) 0 pl).map ai≠[]:=by simp [h.mt.ne]
 have z1:=congrArg ByteArray.size h.tx.eq;have z2:=congrArg ByteArray.size h.mt.eq;rw [I6]at z1 z2;have j1:=Di _ n1;have j2:=Di _ n2;have:=QW (dP s) pl 0 h.tx.lr;omega
def Bv(LS:List ByteArray)(t:ByteArray)(x:PR):ByteArray:=
 if x.kind=0 then t++(LS.getD x.line ⟨#[]⟩).extract x.from_ x.di++⟨#[124]⟩
 else t++(LS.getD x.line ⟨#[]⟩).extract x.from_ x.body++⟨#[126]⟩++(LS.getD x.line ⟨#[]⟩).extract x.end_ x.di++⟨#[124]⟩
def yo(LS:List ByteArray)(l:List PR):ByteArray:=l.foldl (Bv LS) ⟨#[]⟩
def De(LS:List ByteArray)(x:PR):Prop:=x.line<LS.length/\x.from_<=x.di/\x.di<=(LS.getD x.line ⟨#[]⟩).size/\(x.kind≠0->x.from_<=x.body/\x.body<=x.end_/\x.end_<=x.di)
def FH(w:World)(g:Nat)(l:List PR):Prop:=∀i x,l[i]? =some x->w.cell? ⟨g,i*5,none⟩=some (.int .i64 x.kind)/\w.cell? ⟨g,i*5+1,none⟩=some (.int .i64 x.from_)/\w.cell? ⟨g,i*5+2,none⟩=some (.int .i64 x.di)/\w.cell? ⟨g,i*5+3,none⟩=some (.int .i64 x.body)/\w.cell? ⟨g,i*5+4,none⟩=some (.int .i64 x.end_)
def FE(w:World)(g:Nat)(l:List PR):Prop:=∀i x,l[i]? =some x->w.cell? ⟨g,i,none⟩=some (.int .i64 x.line)
def wE(w:World)(g:Nat)(L:List ByteArray):Prop:=∀k,k<L.length->w.cell? ⟨g,k,none⟩=some (.string (L.getD k ⟨#[]⟩))
theorem FH.below {w w':World}{g:Nat}{l:List PR}(h:FH w g l)(hb:Below w.heap.size w w'):FH w' g l:=fun i x hx=>⟨cO hb (h i x hx).1,cO hb (h i x hx).2.1,cO hb (h i x hx).2.2.1,cO hb (h i x hx).2.2.2.1,cO hb (h i x hx).2.2.2.2⟩
theorem FE.below {w w':World}{g:Nat}{l:List PR}(h:FE w g l)(hb:Below w.heap.size w w'):FE w' g l:=fun i x hx=>cO hb (h i x hx)
theorem wE.below {w w':World}{g:Nat}{L:List ByteArray}(h:wE w g L)(hb:Below w.heap.size w w'):wE w' g L:=fun k hk=>cO hb (h k hk)
theorem ag8:∀(l:List PR)(i:Nat)(x:PR),l[i]? =some x->(gH l)[i*5]? =some (.int .i64 x.kind)/\(gH l)[i*5+1]? =some (.int .i64 x.from_)/\(gH l)[i*5+2]? =some (.int .i64 x.di)/\(gH l)[i*5+3]? =some (.int .i64 x.body)/\(gH l)[i*5+4]? =some (.int .i64 x.end_):=by
 intro l
 induction l with
 |nil=>intro i x hx;simp at hx
 |cons a l ih=>
  intro i x hx;have e:gH (a::l)=[.int .i64 a.kind,.int .i64 a.from_,.int .i64 a.di,.int .i64 a.body,.int .i64 a.end_]++gH l:=by simp [gH,lS]
  cases i with
  |zero=>
   simp at hx;subst hx;rw [e];simp
  |succ i=>
   have:=ih i x (by simpa using hx);rw [e,show(i+1)*5=i*5+5 by omega];simpa using this
theorem uD {w:World}{B:Nat}{e:TypeId}{z n:Nat}{v:Value}{xs:List Value}(h:w.ownsRow B e z v n xs)(hn:0<n):∃g cap,v= .slice (some ⟨g,0,none⟩) n cap/\n<=cap:=by
 rcases h.2 with⟨_,h0⟩|⟨g,cap,cur,rfl,hb,hh,hc,_⟩
 .omega
 .exact⟨g,cap,rfl,hc⟩
theorem ES {w:World}{B:Nat}{e:TypeId}{z n:Nat}{v:Value}{xs:List Value}(h:w.ownsRow B e z v n xs):∃x c,v= .slice x n c:=by
 rcases h.2 with⟨rfl,h0⟩|⟨g,cap,cur,rfl,hb,hh,hc,_⟩
 .exact⟨none,0,by rw [h0]⟩
 .exact⟨_,_,rfl⟩
theorem zF(g j:Nat):(⟨g,0,none⟩:Addr).add j=⟨g,j,none⟩:=by
 unfold Addr.add;split
 .rename_i h;subst h;rfl
 .simp
def Du(LS:List ByteArray)(x:PR):List UInt8:=
 if x.kind=0 then((LS.getD x.line ⟨#[]⟩).extract x.from_ x.di).data.toList++[124]
 else((LS.getD x.line ⟨#[]⟩).extract x.from_ x.body).data.toList++([126]++(((LS.getD x.line ⟨#[]⟩).extract x.end_ x.di).data.toList++[124]))
theorem R6(LS:List ByteArray):∀(l:List PR)(t:ByteArray),(l.foldl (Bv LS) t).data.toList=t.data.toList++l.flatMap (Du LS)
 |[],t=>by simp
 |x::l,t=>by
  rw [List.foldl_cons,R6 LS l,List.flatMap_cons];unfold Bv Du;split
  .simp only [zG,List.append_assoc]
  .simp only [zG,List.append_assoc]
def xD(x:Pc):List UInt8:=if x.k=0 then bs x.fl++[124]else bs x.o++([126]++(bs x.c++[124]))
theorem Ld {A u B:List Int}:((txt (A++(u++B))).extract (W A) (W A+W u)).data.toList=bs u:=by
 have hd:(txt (A++(u++B))).data.toList.drop (W A)=bs u++bs B:=by rw [xL,jc,jc,W,List.drop_left]
 rw [Gt hd,xL]
theorem Wy(LS:List ByteArray)(i:Nat)(all:List Pc)(hl:LS.getD i ⟨#[]⟩=txt (ai all)):∀(ay done:List Pc),all=done++ay->(cZ i (W (ai done)) ay).flatMap (Du LS)=ay.flatMap xD
 |[],done,_=>rfl
 |x::xs,done,e=>by
  have hn:ai (done++[x])=ai done++x.fl:=by simp [ai]
  have ih:=Wy LS i all hl xs (done++[x]) (by rw [e];simp);rw [hn,bH]at ih;have e1:ai all=ai done++(x.fl++ai xs):=by rw [e];simp [ai]
  have e2:ai all=ai done++(x.o++(x.b++x.c++ai xs)):=by rw [e];simp [ai,Pc.fl]
  have e3:ai all=(ai done++(x.o++x.b))++(x.c++ai xs):=by rw [e];simp [ai,Pc.fl]
  have hW:W x.fl=W x.o+W x.b+W x.c:=by unfold Pc.fl;rw [bH,bH]
  rw [cZ,List.flatMap_cons,ih,List.flatMap_cons]
  congr 1
  unfold Du xD;simp only [hl];by_cases hk:x.k=0
  .rw [if_pos hk,if_pos hk,e1,Ld]
  .rw [if_neg hk,if_neg hk,if_neg hk,if_neg hk];have f1:((txt (ai all)).extract (W (ai done)) (W (ai done)+W x.o)).data.toList=bs x.o:=by rw [e2,Ld]
   have f2:((txt (ai all)).extract (W (ai done)+W x.o+W x.b) (W (ai done)+W x.fl)).data.toList=bs x.c:=by
    have:=Ld (A:=ai done++(x.o++x.b)) (u:=x.c) (B:=ai xs);rw [<-e3,bH,bH]at this;rw [hW,show W (ai done)+W x.o+W x.b=W (ai done)+(W x.o+W x.b)by omega,show W (ai done)+(W x.o+W x.b+W x.c)=W (ai done)+(W x.o+W x.b)+W x.c by omega];exact this
   rw [f1,f2]
theorem ZL(LS:List ByteArray):∀(pl:List (List Pc))(i:Nat),(∀j,j<pl.length->LS.getD (i+j) ⟨#[]⟩=txt (ai (pl.getD j [])))->(jy i pl).flatMap (Du LS)=pl.flatMap fun p=>p.flatMap xD
 |[],_,_=>rfl
 |p::pl,i,h=>by
  have h0:=h 0 (by simp);rw [Nat.add_zero]at h0;have hp:=Wy LS i p h0 p [] rfl;rw [zP,fP]at hp;rw [jy,List.flatMap_append,hp,List.flatMap_cons,ZL LS pl (i+1) fun j hj=>by rw [show i+1+j=i+(j+1)by omega];exact h (j+1) (by simpa using hj)]
theorem TX.code {s:ByteArray}{pl:List (List Pc)}(h:TX s pl)(hz:s.size<=600):(yo (az s 0 0) (dw s)).data.toList=pl.flatMap fun p=>p.flatMap xD:=by
 unfold yo;rw [R6,h.parts hz,ZL (az s 0 0) pl 0 fun j hj=>by rw [Nat.zero_add,h.lines,Ag (fun p=>txt (ai p)) pl j [] _ hj]];rfl
theorem ahi(x:Pc):xD (dQ x)=xD x:=by
 obtain⟨h1,h2,h3⟩:=Ns x;unfold xD;by_cases hk:x.k=0
 .have e:dQ x=x:=by unfold dQ;rw [if_neg (by omega),if_neg (by omega)]
  rw [e]
 .rw [h1,h2,h3,if_neg hk,if_neg hk]
theorem WU(sf:Nat->Bool):∀(pl:List (List Pc))(i:Nat),((gD sf i pl).flatMap fun p=>p.flatMap xD)=pl.flatMap fun p=>p.flatMap xD
 |[],_=>rfl
 |p::pl,i=>by
  rw [gD,List.flatMap_cons,List.flatMap_cons,WU sf pl]
  congr 1
  split
  .rfl
  .rw [List.flatMap_map]
   congr 1
   funext x
   exact ahi x
theorem MG.code {s:ByteArray}{pl:List (List Pc)}(h:MG s pl)(hz:(dA s (aQ s).1).size<=600):yo (az (dA s (aQ s).1) 0 0) (dw (dA s (aQ s).1))=yo (az s 0 0) (dw s):=by
 apply ByteArray.ext;apply Array.ext';rw [h.mt.code hz,h.tx.code h.sz,WU]
theorem Wm(LS:List ByteArray)(i:Nat)(all:List Pc)(hi:i<LS.length)(hl:LS.getD i ⟨#[]⟩=txt (ai all)):∀(ay done:List Pc),all=done++ay->∀x∈cZ i (W (ai done)) ay,De LS x
 |[],_,_,x,hx=>by cases hx
 |y::ys,done,e,x,hx=>by
  have hn:ai (done++[y])=ai done++y.fl:=by simp [ai]
  have hsz:(LS.getD i ⟨#[]⟩).size=W (ai done)+(W y.fl+W (ai ys)):=by
   rw [hl,I6,e,show ai (done++y::ys)=ai done++(y.fl++ai ys)by simp [ai],bH,bH]
  have hW:W y.fl=W y.o+W y.b+W y.c:=by unfold Pc.fl;rw [bH,bH]
  rw [cZ]at hx;rcases List.mem_cons.1 hx with rfl|hx
  .refine⟨hi,by simp only;omega,by simp only;omega,fun hk=> ?_⟩;simp only at hk ⊢;rw [if_neg hk,if_neg hk];omega
  .refine Wm LS i all hi hl ys (done++[y]) (by rw [e];simp) x ?_;rw [hn,bH];exact hx
theorem Wj(LS:List ByteArray):∀(pl:List (List Pc))(i:Nat),(∀j,j<pl.length->i+j<LS.length/\LS.getD (i+j) ⟨#[]⟩=txt (ai (pl.getD j [])))->∀x∈jy i pl,De LS x
 |[],_,_,x,hx=>by cases hx
 |p::pl,i,h,x,hx=>by
  obtain⟨h0,h1⟩:=h 0 (by simp);rw [Nat.add_zero]at h0 h1;rw [jy]at hx;rcases List.mem_append.1 hx with hx|hx
  .refine Wm LS i p h0 h1 p [] rfl x ?_;rw [zP,fP];exact hx
  .exact Wj LS pl (i+1) (fun j hj=>by rw [show i+1+j=i+(j+1)by omega];exact h (j+1) (by simpa using hj)) x hx
theorem TX.qf {s:ByteArray}{pl:List (List Pc)}(h:TX s pl)(hz:s.size<=600):∀x∈dw s,De (az s 0 0) x:=by
 rw [h.parts hz];refine Wj _ pl 0 fun j hj=> ?_
 rw [Nat.zero_add,h.lines];exact⟨by simpa using hj,Ag (fun p=>txt (ai p)) pl j [] _ hj⟩
theorem TX.Wu {s:ByteArray}{pl:List (List Pc)}(h:TX s pl):0<(az s 0 0).length:=by
 rw [h.lines,List.length_map];exact List.length_pos_iff.2 h.ne
theorem acm(s:ByteArray)(l:List PR)(LS:List ByteArray)(w:World)
  (hP:Calls prog 43 #[.string s,.int .i64 0] w fun e w'=>∃v1 v2,e= .returned (.tuple #[v1,v2])/\w'.ownsRow w.heap.size 3 1 v1 l.length (vE l)/\w'.ownsRow w.heap.size 75 5 v2 l.length (gH l)/\Below w.heap.size w w')
  (hL:∀W,Calls prog 23 #[.string s] W fun e w'=>∃v,e= .returned v/\w'.ownsRow W.heap.size 9 1 v LS.length (dN LS)/\Below W.heap.size W w')
  (zU:l.length<=1000) (h0:0<LS.length) (hz:∀k,(LS.getD k ⟨#[]⟩).size<=1000000) (hx:∀x∈l,De LS x):
  Calls prog 25 #[.string s] w fun e w'=>e= .returned (.string (yo LS l))/\Below w.heap.size w w':=by
 have HL:Hid (∀W,Calls prog 23 #[.string s] W fun e w'=>∃v,e= .returned v/\w'.ownsRow W.heap.size 9 1 v LS.length (dN LS)/\Below W.heap.size W w'):=hL;have HP:Hid _:=hP;obtain⟨n,hn⟩:∃n,n=l.length:=⟨_,rfl⟩
 have kR:Hid (n=l.length):=hn;rw [<-hn]at zU;obtain⟨R,hR⟩:∃R,R=yo LS l:=⟨_,rfl⟩
 rw [<-hR];have HR:Hid (l.foldl (Bv LS) ⟨#[]⟩=R):=hR.symm;have HX:Hid (∀x∈l,De LS x):=hx;have HZ:Hid (∀k,(LS.getD k ⟨#[]⟩).size<=1000000):=hz;obtain⟨N,LG⟩:∃N,N=LS.length:=⟨_,rfl⟩
 have HN:Hid (N=LS.length):=LG;rw [<-LG]at h0;clear hP hL hn hR hx LG hz;go_enter func25,ntmps25;go_wp2_with fail;refine Calls.mono HP.out ?_;rintro ev W1 ⟨v1,v2,rfl,ho1,ho2,hb1⟩;rw [<-kR.out]at ho1 ho2;obtain⟨x1,c1,rfl⟩:=ES ho1;obtain⟨x2,c2,rfl⟩:=ES ho2;have HRw:Hid (0<n->∃g1 g2,x1=some ⟨g1,0,none⟩/\x2=some ⟨g2,0,none⟩/\n<=c1/\n<=c2/\FE W1 g1 l/\FH W1 g2 l):=by
  intro hpos;obtain⟨g1,d1,e1,k1⟩:=uD ho1 hpos;obtain⟨g2,d2,e2,k2⟩:=uD ho2 hpos;simp only [Value.slice.injEq,true_and]at e1 e2;obtain⟨rfl,rfl⟩:=e1;obtain⟨rfl,rfl⟩:=e2;have q1:=ho1.cells (g:=g1) rfl;have q2:=ho2.cells (g:=g2) rfl;refine⟨g1,g2,rfl,rfl,k1,k2,fun i x hx=> ?_,fun i x hx=> ?_⟩
  .have:=q1 i (.int .i64 x.line) (by rw [vE,List.getElem?_map,hx];rfl)
   rwa [zF]at this
  .obtain⟨p0,p1,p2,p3,p4⟩:=ag8 l i x hx;have p0:=q2 _ _ p0;have p1:=q2 _ _ p1;have p2:=q2 _ _ p2;have p3:=q2 _ _ p3;have p4:=q2 _ _ p4;rw [zF]at p0 p1 p2 p3 p4;exact⟨p0,p1,p2,p3,p4⟩
 have HB1:Hid (Below w.heap.size w W1):=hb1;clear ho1 ho2 hb1 HP;go_wp2_with fail;refine(HL.out W1).mono ?_;clear HL;rintro ev W2 ⟨v3,rfl,ho3,hb2⟩;rw [<-HN.out]at ho3;obtain⟨g3,c3,rfl,hc3⟩:=uD ho3 h0;have HS:Hid (wE W2 g3 LS):=by
  intro k hk;have:=ho3.cells (g:=g3) rfl k (.string (LS.getD k ⟨#[]⟩)) (by rw [dN,List.getElem?_map,List.getD_eq_getElem?_getD,List.getElem?_eq_getElem hk];rfl)
  rwa [zF]at this
 have HB2:Hid (Below W1.heap.size W1 W2):=hb2;clear ho3 hb2;go_wp2;go_loopg [6,7,8,9] n (fun gk tv iv _ _ W=>∃(i:Nat)(t:ByteArray),i<=n/\gk=n - i/\tv= .string t/\iv= .int .i64 i/\t.size<=i*3000000/\(l.drop i).foldl (Bv LS) t=R/\Below W2.heap.size W2 W);case atStart=>exact⟨0,⟨#[]⟩,by omega,rfl,rfl,rfl,by decide,HR.out,Below.refl _ _⟩
 case round=>
  rename World=>wo
  obtain⟨i,t,hi,rfl,rfl,rfl,htz,hj,hb⟩:=hrel;have HB:Hid (Below W2.heap.size W2 wo):=hb;have hbz:=hb.size;by_cases hlt:i<n
  .have hil:i<l.length:=by rw [<-kR.out];exact hlt
   obtain⟨g1,g2,rfl,rfl,hc1,hc2,Uo,hPa⟩:=HRw.out (by omega);have L8:Below W1.heap.size W1 wo:=HB2.out.trans (hb.mono HB2.out.size);have hdr:l.drop i=l[i]'hil::l.drop (i+1):=List.drop_eq_getElem_cons hil;obtain⟨x,hx⟩:∃x,x=l[i]'hil:=⟨_,rfl⟩
   rw [<-hx]at hdr;have hxi:l[i]? =some x:=by rw [List.getElem?_eq_getElem hil,hx]
   have r0:=(Uo.below L8) i x hxi;obtain⟨p0,p1,p2,p3,p4⟩:=(hPa.below L8) i x hxi;obtain⟨q0,q1,q2,q3⟩:=HX.out x (by rw [hx];exact List.getElem_mem hil);have s0:=(HS.out.below hb) x.line q0;have z0:=HZ.out x.line;rw [hdr,List.foldl_cons]at hj;unfold Bv at hj;have HJ:Hid _:=hj;rw [<-HN.out]at q0;clear hx hdr Uo hPa L8 hxi hil hj hb;obtain⟨xl,xk,xf,xt,xb,xe⟩:=x;simp only at r0 p0 p1 p2 p3 p4 q0 q1 q2 q3 s0 z0 HJ;generalize LS.getD xl ⟨#[]⟩=tx at*;have hin:(i:Int)<(n:Int):=by omega
   have a1:¬(xl:Int)<0:=by omega
   have a2:¬(xl:Int) ≥ (N:Int):=by omega
   have a3:¬(xf:Int)<0:=by omega
   have a4:¬(xt:Int)>(tx.size:Int):=by omega
   have a5:¬(xf:Int)>(xt:Int):=by omega
   have a6:(xf:Int)<=(xt:Int):=by omega
   have a7:(xt:Int)<=(tx.size:Int):=by omega
   have zi:i*3000000<=3000000000:=by omega
   have ze:∀a b,(tx.extract a b).size<=1000000:=fun a b=>by rw [ByteArray.size_extract];omega
   by_cases hk:xk=0
   .subst hk;have HJ2:=HJ.out;rw [if_pos rfl]at HJ2;have vZ:Hid _:=HJ2;have z1:=ze xf xt;clear HJ HJ2 q3;go_wp2;go_roundg (n - (i+1));case measure=>omega
    case rel=>exact⟨i+1,_,by omega,rfl,rfl,by go_num,by rw [ByteArray.size_append,ByteArray.size_append];show t.size+_+1<=_;omega,vZ.out,HB.out.alloc (by omega) _⟩
   .obtain⟨b1,b2,b3⟩:=q3 hk;have hk':((xk:Int)==0)=false:=by simpa using hk
    have HJ2:=HJ.out;rw [if_neg hk]at HJ2;have vZ:Hid _:=HJ2;have d1:¬(xb:Int)<(xf:Int):=by omega
    have d2:¬(xe:Int)<(xb:Int):=by omega
    have d3:¬(xe:Int)>(xt:Int):=by omega
    have d4:(xf:Int)<=(xb:Int):=by omega
    have d5:(xb:Int)<=(tx.size:Int):=by omega
    have d6:(xe:Int)<=(xt:Int):=by omega
    have z1:=ze xf xb;have z2:=ze xe xt;clear HJ HJ2 q3 hk;go_wp2;go_quiet(fail);go_wp2;go_roundg (n - (i+1));case measure=>omega
    case rel=>exact⟨i+1,_,by omega,rfl,rfl,by go_num,by rw [ByteArray.size_append,ByteArray.size_append,ByteArray.size_append,ByteArray.size_append];show t.size+_+1+_+1<=_;omega,vZ.out,Go.below_drewN (HB.out.alloc (by omega) _) _⟩
  .obtain rfl:i=n:=by omega
   have hin:¬(i:Int)<(i:Int):=by omega
   rw [List.drop_of_length_le (by rw [kR.out];exact Nat.le_refl _)]at hj;have hj:t=R:=hj;subst hj;have HB3:Hid (Below w.heap.size w wo):=HB1.out.trans (HB2.out.mono HB1.out.size|>.trans (hb.mono (Nat.le_trans HB1.out.size HB2.out.size)));clear hb;go_wp2;go_ret;exact⟨rfl,HB3.out⟩
