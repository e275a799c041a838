import Derived.Test.YtkbinfhclaafhaaGreatDoorH14
import Derived.Deep.RegionWith
import Derived.Test.YtkbinfhclaafhaaGreatDoorH10
namespace Go.Proofs.YtkbinfhclaafhaaGreatDoor
open Go.RowKit
open Go.Proofs.Tryz
set_option maxRecDepth 100000
set_option maxHeartbeats 32000000
theorem ajo {c:Int}(h:0<=c/\c<=21):AA c=nL c:=by
 rw [Bool.eq_iff_iff];simp only [AA,nL,aG,dm,Bool.or_eq_true,beq_iff_eq,Bool.not_eq_true',Bool.and_eq_false_iff,bne_eq_false_iff_eq,Bool.or_eq_false_iff,decide_eq_false_iff_not,decide_eq_true_eq];omega
theorem ZQ {cs:List Int}{b:Nat}(hb:b<=cs.length):∀m a,a+m=b->(∀q,a<=q->q<b->nL (cs.getD q 0)=true)->mQ (cs.drop a)=mQ (cs.drop b)
 |0,a,h,_=>by rw [<-h];rfl
 |m+1,a,h,hr=>by
  have h1:=hr a (Nat.le_refl _) (by omega);rw [drop_at (show a<cs.length by omega),mQ,if_pos h1,if_neg (by intro e;rw [e]at h1;cases h1)];exact ZQ hb m (a+1) (by omega) (fun q h1 h2=>hr q (by omega) h2)
theorem ZP {cs:List Int}{b:Nat}(hb:b<cs.length)(h:nL (cs.getD b 0)=false):mQ (cs.drop b)=decide (cs.getD b 0=10):=by
 rw [drop_at hb,mQ];by_cases h1:cs.getD b 0=10
 .rw [if_pos h1,decide_eq_true h1]
 .rw [if_neg h1,if_neg (by rw [h];decide),decide_eq_false h1]
theorem ajn {cs:List Int}{b:Nat}(hb:¬b<cs.length):mQ (cs.drop b)=true:=by rw [List.drop_eq_nil_of_le (by omega)];rfl
theorem Ej(p:Int):∀cs os:List Int,cs.length=os.length->(l1 p cs os).length=cs.length
 |[],_,_=>rfl
 |_::_,[],h=>by cases h
 |c::cs,o::os,h=>by rw [l1,List.length_cons,Ej p cs os (by simpa using h)];rfl
theorem We(p:Int):∀(cs os:List Int)(j:Nat),cs.length=os.length->j<cs.length->(l1 p cs os).getD j 0=vD p (cs.getD j 0) (cs.drop (j+1)) (xm p (cs.getD j 0) (os.getD j 0))
 |[],_,j,_,hj=>by cases hj
 |_::_,[],_,h,_=>by cases h
 |c::cs,o::os,0,_,_=>rfl
 |c::cs,o::os,j+1,h,hj=>by
  have:=We p cs os j (by simpa using h) (by simpa using hj);rw [l1];simpa using this
theorem afg(p:Int)(cs os:List Int)(h:cs.length=os.length):(List.range cs.length).map (fun j=>vD p (cs.getD j 0) (cs.drop (j+1)) (xm p (cs.getD j 0) (os.getD j 0)))=l1 p cs os:=by
 apply List.ext_getElem?;intro j;rcases Nat.lt_or_ge j cs.length with hj|hj
 .rw [List.getElem?_map,List.getElem?_range hj,List.getElem?_eq_getElem (by rw [Ej p cs os h];exact hj)];have:=We p cs os j h hj;have e2:(l1 p cs os).getD j 0=(l1 p cs os)[j]'(by rw [Ej p cs os h];exact hj):=by rw [List.getD_eq_getElem?_getD,List.getElem?_eq_getElem (by rw [Ej p cs os h];exact hj)];rfl
  rw [e2]at this;exact congrArg some this.symm
 .rw [List.getElem?_eq_none (by simp;exact hj),List.getElem?_eq_none (by rw [Ej p cs os h];exact hj)]
theorem jR.more {n k:Nat}{l:List Int}{f g:Nat->Int}(h:jR n k l f g){b:Nat}(hkb:k<=b)(he:∀j,k<=j->j<b->j<n->f j=g j):jR n b l f g:=by
 refine⟨h.1,fun j hj=> ?_⟩;rw [h.2 j hj];by_cases h1:j<k
 .rw [if_pos h1,if_pos (by omega)]
 .rw [if_neg h1];by_cases h2:j<b
  .rw [if_pos h2,he j (by omega) h2 hj]
  .rw [if_neg h2]
theorem jR.fill {n k:Nat}{l:List Int}{f g:Nat->Int}(h:jR n k l f g){b:Nat}(hkb:k<=b)(hb:b<=n)(v:Int)(he:∀j,k<=j->j<b->f j=v):jR n b (dI l k v (b - k)) f g:=by
 refine⟨by rw [Gw];exact h.1,fun j hj=> ?_⟩;rw [Tx _ _ _ _ _ (by rw [h.1];omega)];by_cases h1:k<=j/\j<k+(b - k)
 .rw [if_pos h1,if_pos (by omega),he j h1.1 (by omega)]
 .rw [if_neg h1,h.2 j hj];by_cases h2:j<k
  .rw [if_pos h2,if_pos (by omega)]
  .rw [if_neg h2,if_neg (by omega)]
theorem aaV(a b c d:Value):(#[a,b]++#[c,d]:Array Value)=#[a,b,c,d]:=rfl
def tL(L:LP)(o:List Int)(j:Nat):Int:=vD L.p (L.cs.getD j 0) (L.cs.drop (j+1)) (xm L.p (L.cs.getD j 0) (o.getD j 0))
def aL(L:LP)(o:List Int)(j:Nat):Int:=xm L.p (L.cs.getD j 0) (o.getD j 0)
section
variable(w:World)(L:LP)(ks ls:List Int)(go bl bv:Nat)(o:List Int)
def JL(a:Nat)(o':List Int)(W:World):Prop:=FS W L ks ls go o'/\nP W L bl/\ow W L go bv/\w.grownBy W (some go)/\jR L.n (min a L.n) o' (tL L o) (aL L o)
theorem afj(hn:L.n<=1000)(hl:L.cs.length=L.n)(hcs:∀c∈L.cs,0<=c/\c<=21):Bd L.n 161 163 #[.pointer (some ⟨bl,0,none⟩)] #[.pointer (some ⟨bv,0,none⟩),.pointer (some ⟨bl,0,none⟩)] (JL w L ks ls go bl bv o) (fun _ i=>AA (L.cs.getD i 0)):=by
 have hlo:∀j,j<L.n->AA (L.cs.getD j 0)=nL (L.cs.getD j 0):=fun j hj=>ajo (hcs _ (dB (by rw [hl];exact hj)))
 have hnl:∀j,nL (L.cs.getD j 0)=false->tL L o j=aL L o j:=fun j h=>by
  rw [tL,vD,if_neg (fun hh=>by rw [h]at hh;cases hh.1)];rfl
 refine⟨?_,?_,?_⟩
 .rintro o' a W i ⟨hS,hB,hV,hG,hK⟩ _ hi;rw [app1];refine(ae5 W L ks ls go bl o' hS hB i hi).mono ?_;rintro e W' ⟨rfl,rfl⟩;exact⟨rfl,hS,hB,hV,hG,hK⟩
 .rintro o' a W ⟨hS,hB,hV,hG,hK⟩ ha hq;rw [Nat.min_eq_left (by omega)]at hK;refine⟨o',hS,hB,hV,hG,?_⟩;rw [Nat.min_eq_left (by omega)];refine hK.more (by omega) fun j h1 h2 _=> ?_
  rw [show j=a by omega];exact hnl a (by rw [<-hlo a ha];exact hq)
 .rintro o' a b W ⟨hS,hB,hV,hG,hK⟩ hab hbn hall hend;rw [Nat.min_eq_left (by omega)]at hK;rw [aaV];refine(ajh W L ks ls go bl bv o' hS hn hB hV a b (by omega) hbn).mono ?_;rintro e W' ⟨rfl,hS',hB',hV',hG'⟩;have hrun:∀q,a<=q->q<b->nL (L.cs.getD q 0)=true:=fun q h1 h2=>by rw [<-hlo q (by omega)];exact hall q h1 h2
  have hon:∀j,a<=j->j<b->mQ (L.cs.drop (j+1))=mQ (L.cs.drop b):=fun j h1 h2=>ZQ (by omega) (b - (j+1)) (j+1) (by omega) fun q h3 h4=>hrun q (by omega) h4
  have fin:∀o2,jR L.n b o2 (tL L o) (aL L o)->jR L.n (min (b+1) L.n) o2 (tL L o) (aL L o):=fun o2 h=>by
   by_cases hb:b<L.n
   .rw [Nat.min_eq_left (by omega)];refine h.more (by omega) fun j h1 h2 _=> ?_
    rw [show j=b by omega];exact hnl b (by rw [<-hlo b hb];exact hend hb)
   .rw [show min (b+1) L.n=b by omega];exact h
  refine⟨rfl,_,hS',hB',hV',hG.trans hG',fin _ ?_⟩;by_cases hc:b<L.n/\L.cs.getD b 0≠10
  .rw [if_pos hc];have hf:nL (L.cs.getD b 0)=false:=by rw [<-hlo b hc.1];exact hend hc.1
   refine hK.more (by omega) fun j h1 h2 _=> ?_
   have hne:¬(nL (L.cs.getD j 0)=true/\mQ (L.cs.drop (j+1))=true):=fun hh=>by
    rw [hon j h1 h2,ZP (by omega) hf,decide_eq_false hc.2]at hh;cases hh.2
   rw [tL,vD,if_neg hne];rfl
  .rw [if_neg hc];refine hK.fill (by omega) hbn L.p fun j h1 h2=> ?_
   have hyes:mQ (L.cs.drop (j+1))=true:=by
    rw [hon j h1 h2];by_cases hb:b<L.n
    .have h10:L.cs.getD b 0=10:=Decidable.byContradiction fun h=>hc ⟨hb,h⟩
     rw [ZP (by omega) (by rw [<-hlo b hb];exact hend hb),h10];rfl
    .exact ajn (by omega)
   rw [tL,vD,if_pos ⟨hrun j h1 h2,hyes⟩]
end
theorem aiA(w:World)(L:LP)(ks ls:List Int)(go:Nat)(o:List Int)(h:FS w L ks ls go o)(hn:L.n<=1000)(hcs:∀c∈L.cs,0<=c/\c<=21):
  Calls prog 89 #[.pointer (some ⟨L.lb,0,none⟩),.slice (some ⟨go,0,none⟩) L.n L.n] w fun e w'=>e= .returned (.tuple #[])/\FS w' L ks ls go (tT L.p (l1 L.p L.cs o))/\w.grownBy w' (some go):=by
 have BI:∀(fn:Fn)(first cap:Array Value)(w:World),(Instr.makeFunc fn first cap).run prog w= .ok (.func fn first cap) w:=fun _ _ _ _=>rfl
 obtain⟨W1,hW1⟩:∃W1,W1=(w.alloc (.cells #[.pointer (some ⟨L.lb,0,none⟩)] 136)).alloc (.cells #[.slice (some ⟨go,0,none⟩) L.n L.n] 31):=⟨_,rfl⟩
 have hb1:Below w.heap.size w W1:=by rw [hW1];exact((Below.refl _ _).alloc (Nat.le_refl _) _).alloc (by simp) _
 have gQ:Hid (FS W1 L ks ls go o):=h.below hb1;have PM:Hid (nP W1 L w.heap.size):=by
  show _=_;rw [hW1,Below.heap_alloc _ _ _ (by simp)];exact Array.getElem?_push_size
 have PN:Hid (ow W1 L go (w.heap.size+1)):=by
  show _=_;rw [hW1,show w.heap.size+1=(w.alloc (.cells #[.pointer (some ⟨L.lb,0,none⟩)] 136)).heap.size by simp];exact Array.getElem?_push_size
 have uO:Hid (w.grownBy W1 (some go)):=⟨hb1.os,hb1.tape,hb1.output,hb1.size,fun k hk _=>hb1.block k hk⟩
 have iZ:Hid (L.cs.length=L.n/\o.length=L.n):=⟨h.ln.len,h.len⟩
 have HCs:Hid (∀c∈L.cs,0<=c/\c<=21):=hcs;have nR:Hid (go≠w.heap.size):=by have:=(World.ownsRow.lt h.row go rfl).2;show _≠_;omega
 have nS:Hid (go≠w.heap.size+1):=by have:=(World.ownsRow.lt h.row go rfl).2;show _≠_;omega
 have a1:((w.alloc (.cells #[.pointer (some ⟨L.lb,0,none⟩)] 136)).alloc (.cells #[.slice (some ⟨go,0,none⟩) L.n L.n] 31)).cell? ⟨L.lb,1,none⟩=some (.slice (some ⟨L.gt,0,none⟩) L.n L.ct):=by rw [<-hW1];exact gQ.out.ln.f1
 clear h hb1 hcs;go_enter func89,ntmps89;go_wp2;rw [<-hW1];clear a1 hW1;generalize w.heap.size+1=bv at*;generalize w.heap.size=bl at*;go_loopg [12] L.n (fun gk iv W=>∃(k:Nat)(o':List Int),k<=L.n/\gk=L.n - k/\iv= .int .i64 k/\FS W L ks ls go o'/\(nP W L bl/\ow W L go bv)/\w.grownBy W (some go)/\jR L.n k o' (aL L o) (fun j=>o.getD j 0));case atStart=>exact⟨0,o,by omega,rfl,rfl,gQ.out,⟨PM.out,PN.out⟩,uO.out,⟨iZ.out.2,fun j _=>by rw [if_neg (by omega)]⟩⟩
 case round=>
  clear gQ PM PN uO;obtain⟨k,o',hk,rfl,rfl,hS,iO,hG,hK⟩:=hrel;have cl:wr.cell? ⟨bl,0,none⟩=some (.pointer (some ⟨L.lb,0,none⟩)):=au iO.1 0;have cv:wr.cell? ⟨bv,0,none⟩=some (.slice (some ⟨go,0,none⟩) L.n L.n):=au iO.2 0;by_cases hlt:k<L.n
  .have ct:=hS.ln.ct k hlt;have hcell:=hS.row.cell k hlt;have hfr:=hS.row.frozen k;have c5:=hS.ln.f5;have hkn:(k:Int)<(L.n:Int):=by omega
   have ek:o'.getD k 0=o.getD k 0:=by have:=hK.2 k hlt;rw [if_neg (by omega)]at this;exact this
   have HS:Hid (FS wr L ks ls go o'):=hS;have xS:Hid (nP wr L bl/\ow wr L go bv):=iO;have HG:Hid (w.grownBy wr (some go)):=hG;have bY:∀v,aL L o k=v->Hid (jR L.n (k+1) (o'.set k v) (aL L o) (fun j=>o.getD j 0)):=fun v e=>by subst e;exact hK.step hlt
   have bQ:aL L o k=o.getD k 0->Hid (jR L.n (k+1) o' (aL L o) (fun j=>o.getD j 0)):=fun e=>hK.more (by omega) fun j h1 h2 _=>by rw [show j=k by omega];exact e
   have HB2:Hid (∀v:Int,nP (wr.setCell ⟨go,k,none⟩ (.int .i64 v)) L bl/\ow (wr.setCell ⟨go,k,none⟩ (.int .i64 v)) L go bv):=fun v=>⟨(Below.heap_setCell _ _ _ _ nR.out.symm).trans iO.1,(Below.heap_setCell _ _ _ _ nS.out.symm).trans iO.2⟩
   unfold aL xm at bY bQ;clear hS iO hG hK ek;generalize L.cs.getD k 0=c at*;generalize o'.getD k 0=q at*;by_cases h10:c=10
   .subst h10;have HK:=bY L.p (if_pos rfl);clear bY bQ;go_wp2_with fail;refine(sw 10 _).mono ?_;rintro ev wx ⟨rfl,hx⟩;have hx':=hx.symm;subst hx';rw [show(!dm 10)=false from rfl];go_wp2;go_region;all_goals
     go_wp2;go_roundg (L.n - (k+1));case measure=>omega
     case rel=>exact⟨k+1,_,by omega,rfl,by go_num,(HS.out.set k L.p).drew,HB2.out L.p,(HG.out.trans (HS.out.grown k L.p)).trans zL,HK.out⟩
   .have lU:(c==10)=false:=by simpa using h10
    cases hl:dm c
    .have HK:=bY (-1) (by rw [if_neg h10,if_pos hl]);have HL:Hid ((!dm c)=true):=by show _=_;rw [hl];rfl
     clear bY bQ hl;go_wp2_with fail;refine(sw c _).mono ?_;rintro ev wx ⟨rfl,hx⟩;have hx':=hx.symm;subst hx';rw [HL.out];go_wp2;go_roundg (L.n - (k+1));case measure=>omega
     case rel=>exact⟨k+1,_,by omega,rfl,by go_num,HS.out.set k (-1),HB2.out (-1),HG.out.trans (HS.out.grown k (-1)),HK.out⟩
    .have HK:=bQ (by rw [if_neg h10,if_neg (by rw [hl];decide)]);have HL:Hid ((!dm c)=false):=by show _=_;rw [hl];rfl
     clear bY bQ hl;go_wp2_with fail;refine(sw c _).mono ?_;rintro ev wx ⟨rfl,hx⟩;have hx':=hx.symm;subst hx';rw [HL.out];go_wp2;go_roundg (L.n - (k+1));case measure=>omega
     case rel=>exact⟨k+1,_,by omega,rfl,by go_num,HS.out,xS.out,HG.out,HK.out⟩
  .obtain rfl:k=L.n:=by omega
   have hkn:¬(L.n:Int)<(L.n:Int):=by omega
   have HC:Hid (Calls prog 97 #[.int .i64 L.n,.func (.func 161) #[] #[.pointer (some ⟨bl,0,none⟩)],.func (.func 163) #[] #[.pointer (some ⟨bv,0,none⟩),.pointer (some ⟨bl,0,none⟩)]] wr fun e w'=>e= .returned (.tuple #[])/\∃k x,L.n<=k/\JL w L ks ls go bl bv o k x w'):=
    Gd L.n _ _ _ _ _ _ hn (afj w L ks ls go bl bv o hn iZ.out.1 HCs.out) (iB func161 (by kernel_rfl) (by kernel_rfl)) (iB func163 (by kernel_rfl) (by kernel_rfl)) o' wr
     ⟨hS,iO.1,iO.2,hG,by rw [Nat.zero_min];exact⟨hK.1,fun j hj=>by rw [if_neg (by omega)];have:=hK.2 j hj;rw [if_pos hj]at this;exact this⟩⟩
   clear hS iO hG hK;go_wp2_with fail;refine HC.out.mono ?_;rintro ev w3 ⟨rfl,k3,o3,hk3,iQ,hB3,zR,hG3,hK3⟩;rw [Nat.min_eq_right hk3]at hK3;have e3:o3=l1 L.p L.cs o:=by rw [hK3.done,<-afg L.p L.cs o (by rw [iZ.out.1,iZ.out.2]),iZ.out.1];rfl
   have gY:Hid (FS w3 L ks ls go (l1 L.p L.cs o)):=by rw [<-e3];exact iQ
   have CQ:Hid (w.grownBy w3 (some go)):=hG3;have cl3:w3.cell? ⟨bl,0,none⟩=some (.pointer (some ⟨L.lb,0,none⟩)):=au hB3 0;have cv3:w3.cell? ⟨bv,0,none⟩=some (.slice (some ⟨go,0,none⟩) L.n L.n):=au zR 0;clear iQ hB3 zR hG3 hK3 e3 HC cl cv;go_wp2_with fail;refine(adh w3 L ks ls go _ gY.out hn).mono ?_;rintro ev w4 ⟨rfl,ig,hG4⟩;have rE:Hid _:=ig;have Fv:Hid _:=CQ.out.trans hG4;clear ig hG4;go_wp2;go_end0;exact⟨rfl,rE.out,Fv.out⟩
theorem ahW(l c:Int)(w:World)(hl:0<=l):Calls prog 159 #[.int .i64 l,.int .i64 c] w fun e w'=>e= .returned (.int .i64 (fV l c))/\w'=w:=by
 have HS:Hid (∀W,Calls prog 96 #[.int .i64 l] W fun e w'=>e= .returned (.int .i64 (l%2))/\w'=W):=fun W=>xJ l W hl
 have h2:l%2=0∨l%2=1:=by omega
 obtain⟨m,hm⟩:∃m,m=l%2:=⟨_,rfl⟩
 have hr:fV l c=if(c=3∨c=6)/\m=0 then 2 else if(c=3∨c=6)∨c≠m then 1 else 0:=by
  unfold fV;rw [<-hm];rcases h2 with h|h
  .rw [show m=0 by omega];simp
  .rw [show m=1 by omega];simp
 rw [hr];rw [<-hm]at HS;clear hr h2 hm;by_cases hc:c=3∨c=6
 .by_cases hm0:m=0
  .rw [if_pos ⟨hc,hm0⟩];subst hm0;rcases hc with rfl|rfl
   all_goals
    go_enter func159,ntmps159;go_wp2_with fail;refine(HS.out _).mono ?_;rintro ev wx ⟨rfl,hx⟩;have hx':=hx.symm;subst hx';go_wp2;go_ret;exact⟨rfl,rfl⟩
  .rw [if_neg (fun h=>hm0 h.2),if_pos (.inl hc)];have q:(m==0)=false:=by simpa using hm0
   rcases hc with rfl|rfl
   all_goals
    go_enter func159,ntmps159;go_wp2_with fail;refine(HS.out _).mono ?_;rintro ev wx ⟨rfl,hx⟩;have hx':=hx.symm;subst hx';go_wp2;go_ret;exact⟨rfl,rfl⟩
 .rw [if_neg (fun h=>hc h.1)];have q3:(c==3)=false:=by simp;omega
  have q6:(c==6)=false:=by simp;omega
  by_cases hcm:c=m
  .rw [if_neg (by omega)];have q:(c !=m)=false:=by simp [hcm]
   have HQ:Hid ((c !=m)=false):=q;clear hc hcm;go_enter func159,ntmps159;go_wp2_with fail;refine(HS.out _).mono ?_;rintro ev wx ⟨rfl,hx⟩;have hx':=hx.symm;subst hx';go_wp2;go_ret;exact⟨rfl,rfl⟩
  .rw [if_pos (.inr hcm)];have q:(c !=m)=true:=by simpa using hcm
   clear hc hcm;go_enter func159,ntmps159;go_wp2_with fail;refine(HS.out _).mono ?_;rintro ev wx ⟨rfl,hx⟩;have hx':=hx.symm;subst hx';go_wp2;go_ret;exact⟨rfl,rfl⟩
theorem ahV(l c:Int):0<=fV l c/\fV l c<=2:=by
 unfold fV;split
 .omega
 .split<;>omega
theorem ajp(at':List Nat)(ah:Int)(t:List Int)(j:Nat)(h1:j<at'.length)(h2:j<t.length):(lD at' ah t).take (j+1)=(lD at' ah t).take j++[(at'.getD j 0,ah,t.getD j 0)]:=by
 have hl:j<(lD at' ah t).length:=by rw [lD,List.length_map,List.length_zip];omega
 rw [List.take_add_one,List.getElem?_eq_getElem hl];simp [lD,List.getD_eq_getElem?_getD,List.getElem?_eq_getElem h1,List.getElem?_eq_getElem h2]
theorem aA.setOther {w:World}{B sb gc n cc:Nat}{pv rv bv:Value}{ah aa aj:Int}{t:List Int}(h:aA w B sb gc n cc pv rv bv ah aa aj t){g:Nat}(h1:sb≠g)(h2:gc≠g)(k:Nat)(u:Value):aA (w.setCell ⟨g,k,none⟩ u) B sb gc n cc pv rv bv ah aa aj t:=
 ⟨by rw [Below.heap_setCell _ _ _ _ h1];exact h.cell,iG h.row (by simpa [Value.ownBlock]using h2) k u⟩
theorem aiy(w:World)(B sb gc m cc gp op cp:Nat)(rv bv:Value)(ah aa aj:Int)(t:List Int)(at':List Nat)(B' go n:Nat)(o:List Int)(hS:aA w B sb gc m cc (.slice (some ⟨gp,op,none⟩) m cp) rv bv ah aa aj t)(hP:dz w gp op (nl at'))(hl:at'.length=m)(hR:dx w B' go n n o)(hap:sb≠go/\gc≠go/\gp≠go)
  (hat:∀p∈at',p<n) (hm:m<=1000) (mG:0<=ah) (ho:∀p,0<=o.getD p 0/\o.getD p 0<=1000):
  Calls prog 88 #[.pointer (some ⟨sb,0,none⟩),.slice (some ⟨go,0,none⟩) n n] w fun e w'=>e= .returned (.tuple #[])/\dx w' B' go n n ((lD at' ah t).foldl fE o)/\w.grownBy w' (some go):=by
 have c0:w.cell? ⟨sb,0,none⟩=some (.slice (some ⟨gp,op,none⟩) m cp):=au hS.cell 0;have cK:Hid (aA w B sb gc m cc (.slice (some ⟨gp,op,none⟩) m cp) rv bv ah aa aj t):=hS;have Qv:Hid (dz w gp op (nl at')):=hP;have x8:Hid (dx w B' go n n o):=hR;have HL:Hid (at'.length=m/\t.length=m):=⟨hl,hS.len⟩
 have HA:Hid (∀p∈at',p<n):=hat;have HO:Hid (∀p,0<=o.getD p 0/\o.getD p 0<=1000):=ho;have HN:Hid (sb≠go/\gc≠go/\gp≠go):=hap;clear hS hP hR hl hat ho hap;go_enter func88,ntmps88;go_wp2;clear c0;go_loopg [11] m (fun gk iv W=>∃(j:Nat)(o':List Int),j<=m/\gk=m - j/\iv= .int .i64 j/\aA W B sb gc m cc (.slice (some ⟨gp,op,none⟩) m cp) rv bv ah aa aj t/\dz W gp op (nl at')/\dx W B' go n n o'/\w.grownBy W (some go)/\o'=((lD at' ah t).take j).foldl fE o/\∀p,0<=o'.getD p 0/\o'.getD p 0<=1000+2*j);case atStart=>exact⟨0,o,by omega,rfl,rfl,cK.out,Qv.out,x8.out,World.grownBy.refl _ _,rfl,fun p=>by have:=HO.out p;omega⟩
 case round=>
  clear cK Qv x8 HO;obtain⟨j,o',hj,rfl,rfl,hS,hP,hR,hG,hE,hB⟩:=hrel;by_cases hlt:j<m
  .have hja:j<at'.length:=by rw [HL.out.1];exact hlt
   have cp':wr.cell? ⟨gp,op+j,none⟩=some (.int .i64 ((at'.getD j 0:Nat):Int)):=by
    have:=hP j (by rw [jM];exact hja);rw [uw _ _ hja]at this;exact this
   have hpn:at'.getD j 0<n:=HA.out _ (dB hja);have cr:=hR.cell _ hpn;have fr:=hR.frozen (at'.getD j 0);have c2:=hS.f2;have c4:=hS.f4;have ck:=hS.at j hlt;have hq:=hB (at'.getD j 0);have hjn:(j:Int)<(m:Int):=by omega
   have aet:((at'.getD j 0:Nat):Int)<(n:Int):=by omega
   have hrs:=ahV ah (t.getD j 0);have HRi:Hid (∀W,Calls prog 159 #[.int .i64 ah,.int .i64 (t.getD j 0)] W fun e w'=>e= .returned (.int .i64 (fV ah (t.getD j 0)))/\w'=W):=fun W=>ahW ah _ W mG
   have hE2:((lD at' ah t).take (j+1)).foldl fE o=o'.set (at'.getD j 0) (o'.getD (at'.getD j 0) 0+fV ah (t.getD j 0)):=by
    rw [ajp at' ah t j hja (by rw [HL.out.2];exact hlt),List.foldl_append,<-hE];rfl
   have hR2:dx (wr.setCell ⟨go,at'.getD j 0,none⟩ (.int .i64 (o'.getD (at'.getD j 0) 0+fV ah (t.getD j 0)))) B' go n n (o'.set (at'.getD j 0) (o'.getD (at'.getD j 0) 0+fV ah (t.getD j 0))):=hR.set _ _;have hS2:aA (wr.setCell ⟨go,at'.getD j 0,none⟩ (.int .i64 (o'.getD (at'.getD j 0) 0+fV ah (t.getD j 0)))) B sb gc m cc (.slice (some ⟨gp,op,none⟩) m cp) rv bv ah aa aj t:=hS.setOther HN.out.1 HN.out.2.1 _ _;have hP2:dz (wr.setCell ⟨go,at'.getD j 0,none⟩ (.int .i64 (o'.getD (at'.getD j 0) 0+fV ah (t.getD j 0)))) gp op (nl at'):=hP.Ai (Below.heap_setCell _ _ _ _ HN.out.2.2);have hG2:w.grownBy (wr.setCell ⟨go,at'.getD j 0,none⟩ (.int .i64 (o'.getD (at'.getD j 0) 0+fV ah (t.getD j 0)))) (some go):=hG.trans (hR.grown _ _);have hB2:∀p,0<=(o'.set (at'.getD j 0) (o'.getD (at'.getD j 0) 0+fV ah (t.getD j 0))).getD p 0/\(o'.set (at'.getD j 0) (o'.getD (at'.getD j 0) 0+fV ah (t.getD j 0))).getD p 0<=1000+2*((j+1:Nat):Int):=fun p=>by
    by_cases hp:at'.getD j 0=p
    .rw [<-hp,tV (by rw [hR.len];exact hpn)];omega
    .rw [getD_set_ne hp];have:=hB p;omega
   have H2:Hid (aA (wr.setCell ⟨go,at'.getD j 0,none⟩ (.int .i64 (o'.getD (at'.getD j 0) 0+fV ah (t.getD j 0)))) B sb gc m cc (.slice (some ⟨gp,op,none⟩) m cp) rv bv ah aa aj t/\dz (wr.setCell ⟨go,at'.getD j 0,none⟩ (.int .i64 (o'.getD (at'.getD j 0) 0+fV ah (t.getD j 0)))) gp op (nl at')/\dx (wr.setCell ⟨go,at'.getD j 0,none⟩ (.int .i64 (o'.getD (at'.getD j 0) 0+fV ah (t.getD j 0)))) B' go n n (o'.set (at'.getD j 0) (o'.getD (at'.getD j 0) 0+fV ah (t.getD j 0)))/\w.grownBy (wr.setCell ⟨go,at'.getD j 0,none⟩ (.int .i64 (o'.getD (at'.getD j 0) 0+fV ah (t.getD j 0)))) (some go)):=⟨hS2,hP2,hR2,hG2⟩
   have HE2:Hid (o'.set (at'.getD j 0) (o'.getD (at'.getD j 0) 0+fV ah (t.getD j 0))=((lD at' ah t).take (j+1)).foldl fE o/\∀p,0<=(o'.set (at'.getD j 0) (o'.getD (at'.getD j 0) 0+fV ah (t.getD j 0))).getD p 0/\(o'.set (at'.getD j 0) (o'.getD (at'.getD j 0) 0+fV ah (t.getD j 0))).getD p 0<=1000+2*((j+1:Nat):Int)):=⟨hE2.symm,hB2⟩
   have hq1:=hq.1;have hq2:o'.getD (at'.getD j 0) 0<=3000:=by omega
   have hr1:=hrs.1;have hr2:=hrs.2;clear hS hP hR hG hE hB hE2 hR2 hS2 hP2 hG2 hB2 hq hrs;generalize fV ah (t.getD j 0)=ri at*;generalize t.getD j 0=c at*;generalize o'.getD (at'.getD j 0) 0=q at*;generalize at'.getD j 0=p at*;go_wp2_with fail
   go_region_with (go_at_call 159;refine(HRi.out _).mono ?_;rintro ev wx ⟨rfl,hx⟩;subst hx)
   all_goals
    go_wp2;go_roundg (m - (j+1));case measure=>omega
    case rel=>exact⟨j+1,_,by omega,rfl,by go_num,H2.out.1.below (Below.refl _ _).drew,H2.out.2.1,dJ H2.out.2.2.1 (zL (r:=none)) (.inr (by simp [Value.ownBlock])),H2.out.2.2.2.trans zL,HE2.out.1,HE2.out.2⟩
  .obtain rfl:j=m:=by omega
   have hkn:¬(j:Int)<(j:Int):=by omega
   have e:o'=(lD at' ah t).foldl fE o:=by rw [hE,List.take_of_length_le (by rw [lD,List.length_map,List.length_zip,HL.out.1,HL.out.2];omega)]
   have HR:Hid (dx wr B' go n n ((lD at' ah t).foldl fE o)):=by rw [<-e];exact hR
   have HG:Hid (w.grownBy wr (some go)):=hG;clear hS hP hR hG hE hB e;go_wp2;go_end0;exact⟨rfl,HR.out,HG.out⟩
theorem NM {aj:Int}{td:List Int}{j:Nat}(hj:j<=td.length):∀m a,a+m=j->(∀q,a<=q->q<j->jY (td.getD q 0)=true)->qj aj (td.drop a)=qj aj (td.drop j)
 |0,a,h,_=>by rw [<-h];rfl
 |m+1,a,h,hr=>by
  rw [drop_at (show a<td.length by omega),qj,if_pos (hr a (Nat.le_refl _) (by omega))];exact NM hj m (a+1) (by omega) (fun q h1 h2=>hr q (by omega) h2)
theorem YQ {aj aa:Int}{td t':List Int}{k j:Nat}{s:Int}(h:bz (fM aj) gM aa td k s t')(hrun:∀q,k<=q->q<j->jY (td.getD q 0)=true)(hj:j<=td.length)(hd:s=qj aj (td.drop j)):
  ∀m,k+m<=j->bz (fM aj) gM aa td (k+m) s (dI t' k s m)
 |0,_=>h
 |m+1,hm=>by
  have h1:=YQ h hrun hj hd m (by omega);have hs:=hrun (k+m) (by omega) (by omega);refine h1.step (by omega) s s ?_ ?_
  .rw [fM,if_pos hs,NM hj (j - (k+m+1)) (k+m+1) (by omega) (fun q h1 h2=>hrun q (by omega) h2),if_pos hd]
  .rw [gM,if_pos hs]
theorem YR {aj aa:Int}{td t':List Int}{k j:Nat}{s:Int}(h:bz (fM aj) gM aa td k s t')(hrun:∀q,k<=q->q<j->jY (td.getD q 0)=true)(hj:j<=td.length)(hd:¬s=qj aj (td.drop j)):
  ∀m,k+m<=j->bz (fM aj) gM aa td (k+m) s t'
 |0,_=>h
 |m+1,hm=>by
  have h1:=YR h hrun hj hd m (by omega);have hs:=hrun (k+m) (by omega) (by omega);refine h1.stay (by omega) s ?_ ?_
  .rw [fM,if_pos hs,NM hj (j - (k+m+1)) (k+m+1) (by omega) (fun q h1 h2=>hrun q (by omega) h2),if_neg hd]
  .rw [gM,if_pos hs]
theorem YS {aj aa:Int}{td t':List Int}{k:Nat}{s:Int}(h:bz (fM aj) gM aa td k s t')(hk:k<td.length)(hs:¬jY (td.getD k 0)=true):bz (fM aj) gM aa td (k+1) (bC (td.getD k 0)) t':=
 h.stay hk _ (by rw [fM,if_neg hs]) (by rw [gM,if_neg hs])
section
variable(w:World)(B sb gc n cc bx:Nat)(pv rv bv:Value)(ah aa aj:Int)(t:List Int)
def JN(a:Nat)(t':List Int)(W:World):Prop:=∃s,aA W B sb gc n cc pv rv bv ah aa aj t'/\W.heap[bx]? =some (.cells #[.pointer (some ⟨sb,0,none⟩)] 146 (0,0))/\w.grownBy W (some gc)/\bz (fM aj) gM aa t (min a n) s t'/\((a=0/\s=aa)∨(0<a/\(a<=n->s=bC (t'.getD (a - 1) 0))))
theorem af6(hn:n<=1000)(hl:t.length=n)(hso:bC aa=aa)(hbz:bx<w.heap.size):Bd n 214 216 #[.pointer (some ⟨bx,0,none⟩)] #[.pointer (some ⟨bx,0,none⟩)] (JN w B sb gc n cc bx pv rv bv ah aa aj t) (fun t' i=>jY (t'.getD i 0)):=by
 refine⟨?_,?_,?_⟩
 .rintro t' a W i ⟨s,hS,hB,hG,hN,hA⟩ _ hi;rw [app1];refine(ae0 W B sb gc n cc bx pv rv bv ah aa aj t' hS hB i hi).mono ?_;rintro e W' ⟨rfl,rfl⟩;exact⟨rfl,s,hS,hB,hG,hN,hA⟩
 .rintro t' a W ⟨s,hS,hB,hG,hN,hA⟩ ha hq;rw [Nat.min_eq_left (by omega)]at hN;have e:=hN.at a (Nat.le_refl _);have h5:¬jY (t.getD a 0)=true:=by
   rw [<-e];simpa using hq
  exact⟨t',bC (t.getD a 0),hS,hB,hG,by rw [Nat.min_eq_left (by omega)];exact YS hN (by omega) h5,.inr ⟨by omega,fun _=>by rw [Nat.add_sub_cancel,e]⟩⟩
 .rintro t' a b W ⟨s,hS,hB,hG,hN,hA⟩ hab hbn hall hend;rw [Nat.min_eq_left (by omega)]at hN;have hrun:∀q,a<=q->q<b->jY (t.getD q 0)=true:=fun q h1 h2=>by
   rw [<-hN.at q h1];exact hall q h1 h2
  have hb5:b<n->¬jY (t.getD b 0)=true:=fun h=>by
   rw [<-hN.at b (by omega)];simpa using hend h
  have hx:bC (dS aa aj t' ((a:Int) - 1))=s:=by
   rcases hA with⟨rfl,rfl⟩|⟨h0,h1⟩
   .rw [show((0:Nat):Int) - 1= -1 from rfl,dS,if_pos (by decide)];exact hso
   .rw [h1 (by omega),dS,if_neg (by omega),if_neg (by rw [hS.len];omega),show((a:Int) - 1).toNat=a - 1 by omega]
  have hy:bC (dS aa aj t' (b:Int))=qj aj (t.drop b):=by
   by_cases hb:b<n
   .rw [dS,if_neg (by omega),if_neg (by rw [hS.len];omega),Int.toNat_natCast,hN.at b (by omega),drop_at (show b<t.length by omega),qj,if_neg (hb5 hb)]
   .rw [dS,if_neg (by omega),if_pos (by rw [hS.len];omega),List.drop_eq_nil_of_le (by omega)];rfl
  rw [Re];refine(ajf W B sb gc n cc bx pv rv bv ah aa aj t' hS hn hB a b (by omega) hbn).mono ?_;rintro e W' ⟨rfl,hS',hG'⟩;have hB':W'.heap[bx]? =some (.cells #[.pointer (some ⟨sb,0,none⟩)] 146 (0,0)):=by
   rw [hG'.block bx (Nat.lt_of_lt_of_le hbz hG.size) (fun e=>(hS.boxed hB) (Option.some.inj e).symm)];exact hB
  have key:∀t2,t2=(if bC (dS aa aj t' ((a:Int) - 1))=bC (dS aa aj t' (b:Int))then dI t' a (bC (dS aa aj t' ((a:Int) - 1))) (b - a)else t')->bz (fM aj) gM aa t b s t2->∃x',JN w B sb gc n cc bx pv rv bv ah aa aj t (b+1) x' W':=by
   rintro t2 rfl h1;by_cases hb:b<n
   .refine⟨_,bC (t.getD b 0),hS',hB',hG.trans hG',by rw [Nat.min_eq_left (by omega)];exact YS h1 (by omega) (hb5 hb),.inr ⟨by omega,fun _=> ?_⟩⟩;rw [Nat.add_sub_cancel,h1.at b (Nat.le_refl _)]
   .have e:min (b+1) n=b:=by omega
    exact⟨_,s,hS',hB',hG.trans hG',by rw [e];exact h1,.inr ⟨by omega,fun h=>by omega⟩⟩
  refine⟨rfl,?_⟩;by_cases hc:s=qj aj (t.drop b)
  .have:=YQ hN hrun (by omega) hc (b - a) (by omega);rw [show a+(b - a)=b by omega]at this;exact key _ (by rw [if_pos (by rw [hx,hy];exact hc),hx]) this
  .have:=YR hN hrun (by omega) hc (b - a) (by omega);rw [show a+(b - a)=b by omega]at this;exact key _ (by rw [if_neg (by rw [hx,hy];exact hc)]) this
end
theorem af7(w:World)(B sb gc n cc:Nat)(pv rv bv:Value)(ah aa aj:Int)(t:List Int)(h:aA w B sb gc n cc pv rv bv ah aa aj t)(hn:n<=1000)(hso:bC aa=aa):
  Calls prog 152 #[.pointer (some ⟨sb,0,none⟩)] w fun e w'=>e= .returned (.tuple #[])/\aA w' B sb gc n cc pv rv bv ah aa aj (pass (fM aj) gM aa t)/\w.grownBy w' (some gc):=by
 have BI:∀(fn:Fn)(first cap:Array Value)(w:World),(Instr.makeFunc fn first cap).run prog w= .ok (.func fn first cap) w:=fun _ _ _ _=>rfl
 have hb1:Below w.heap.size w (w.alloc (.cells #[.pointer (some ⟨sb,0,none⟩)] 146)):=(Below.refl _ _).alloc (Nat.le_refl _) _;have hS1:=h.below hb1;have c2:=hS1.f2;have hl:=h.len;have HC:Hid (Calls prog 97 #[.int .i64 n,.func (.func 214) #[] #[.pointer (some ⟨w.heap.size,0,none⟩)],.func (.func 216) #[] #[.pointer (some ⟨w.heap.size,0,none⟩)]] (w.alloc (.cells #[.pointer (some ⟨sb,0,none⟩)] 146)) fun e w'=>e= .returned (.tuple #[])/\∃k x,n<=k/\JN (w.alloc (.cells #[.pointer (some ⟨sb,0,none⟩)] 146)) B sb gc n cc w.heap.size pv rv bv ah aa aj t k x w'):=
  Gd n _ _ _ _ _ _ hn (af6 _ B sb gc n cc w.heap.size pv rv bv ah aa aj t hn hl hso (by simp)) (iB func214 (by kernel_rfl) (by kernel_rfl)) (iB func216 (by kernel_rfl) (by kernel_rfl)) t _
   ⟨aa,hS1,Array.getElem?_push_size,World.grownBy.refl _ _,by rw [Nat.zero_min];exact bz.start _ _ _ _,.inl ⟨rfl,rfl⟩⟩
 have AZ:Hid (w.grownBy (w.alloc (.cells #[.pointer (some ⟨sb,0,none⟩)] 146)) (some gc)):=⟨rfl,rfl,rfl,by simp,fun k hk _=>Below.heap_alloc w _ k hk⟩
 have HL:Hid (t.length=n):=hl;clear h hb1 hS1 hl;go_enter func152,ntmps152;go_wp2_with fail;refine HC.out.mono ?_;rintro ev w2 ⟨rfl,k,t',hk,s,hS,_,hG,hN,_⟩;rw [Nat.min_eq_right hk]at hN;have e:=hN.stop (by rw [HL.out];omega);have HS:Hid (aA w2 B sb gc n cc pv rv bv ah aa aj (pass (fM aj) gM aa t)):=by rw [<-e];exact hS
 have HG:Hid (w.grownBy w2 (some gc)):=AZ.out.trans hG;clear hS hG hN e HC c2;go_wp2;go_end0;exact⟨rfl,HS.out,HG.out⟩
