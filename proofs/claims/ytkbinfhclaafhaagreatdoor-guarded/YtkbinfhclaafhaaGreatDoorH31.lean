import Derived.Test.YtkbinfhclaafhaaGreatDoorH30
import Derived.Test.YtkbinfhclaafhaaGreatDoorH27
import Derived.Test.YtkbinfhclaafhaaGreatDoorH29
import Derived.Test.YtkbinfhclaafhaaGreatDoorH26
import Derived.Test.YtkbinfhclaafhaaGreatDoorH01
import Derived.Great.Frames
namespace Go.Proofs.YtkbinfhclaafhaaGreatDoor
open Go.RowKit
open Go.Proofs.Tryz
set_option maxRecDepth 100000
set_option maxHeartbeats 32000000
def lu(b:Nat)(e:Ed):Ed:=⟨e.a+b,e.c,e.n⟩
def dY(sf:Nat->Bool)(ln:Nat->ByteArray)(st:Nat->Nat):List PR->List Ed->List Ed×Int×Int
 |[],l=>(l, -1, -1)
 |x::xs,l=>if sf x.line=true then dY sf ln st xs l
  else if nG (ln x.line) x≠ -1 then([],x.line,nG (ln x.line) x)
  else dY sf ln st xs (l++(lg (ln x.line) x).map (lu (st x.line)))
theorem ab9:∀r:Fin 128,cls (r.val:Int)<13:=by decide+kernel
theorem acd {r:Int}(h0:0<=r)(h:r<128):cls r<13:=by
 obtain⟨n,rfl⟩:∃n:Nat,r=(n:Int):=⟨r.toNat,by omega⟩
 exact ab9 ⟨n,by omega⟩
def jF(y:PR):List Int->Nat->List Int->Option (List Int)
 |[],_,st=>some st
 |r::rs,p,st=>
  if cls r<13 then jF y rs (p+wd r) st
  else if y.kind=0∨p<y.body∨y.end_<=p then none
  else if cls r<17 then jF y rs (p+wd r) (st++[17])
  else if 17<cls r/\cls r<21 then jF y rs (p+wd r) (st++[21])
  else if st.getLast? =some (cls r)then jF y rs (p+wd r) st.dropLast else none
def NP:Option (List Int)->Bool
 |some []=>true
 |_=>false
theorem RY {x:ByteArray}{ps:List PR}{k:Nat}{y:PR}(hy:ps[k]? =some y):∀(r1:List Int)(a b:Nat)(r2 st:List Int)(now:Int),RX x a b r1->(∀q,a<=q->q<b->pI q ps 0=(k:Int))->(st=[]∨now=(k:Int))->
  jd ps (r1++r2) a st now=match jF y r1 a st with
   |none=>false
   |some st'=>jd ps r2 b st' (if r1=[]then now else(k:Int))
 |[],a,b,r2,st,now,h,_,_=>by
  have:a=b:=h;subst this;simp [jF]
 |r::r1,a,b,r2,st,now,h,hp,hn=>by
  obtain⟨h1,h2,h3,h4⟩:=h;have hle:=Cs h4;have hw:=Au h1 h2 h3;have hpa:=hp a (Nat.le_refl _) (by omega);have hne:¬((k:Int)≠now/\st≠[]):=by
   rintro⟨u1,u2⟩;rcases hn with hn|hn
   .exact u2 hn
   .exact u1 hn.symm
  rw [List.cons_append,FX ps r _ a st now k y hpa hy,if_neg hne,jF];have ih:=fun st'=>RY hy r1 (a+aJ x a) b r2 st' (k:Int) h4 (fun q q1 q2=>hp q (by omega) q2) (.inr rfl)
  rw [<-hw]at ih;simp only [ite_self]at ih;by_cases c1:cls r<13
  .rw [if_pos c1,if_pos c1,ih];simp
  .rw [if_neg c1,if_neg c1];by_cases c2:y.kind=0∨a<y.body∨y.end_<=a
   .rw [if_pos c2,if_pos c2]
   .rw [if_neg c2,if_neg c2];by_cases c3:cls r<17
    .rw [if_pos c3,if_pos c3,ih];simp
    .rw [if_neg c3,if_neg c3];by_cases c4:17<cls r/\cls r<21
     .rw [if_pos c4,if_pos c4,ih];simp
     .rw [if_neg c4,if_neg c4];by_cases c5:st.getLast? =some (cls r)
      .rw [if_pos c5,if_pos c5,ih];simp
      .rw [if_neg c5,if_neg c5]
theorem KL {x:ByteArray}(y:PR):∀(r1:List Int)(a b:Nat)(r2 st:List Int),RX x a b r1->jF y (r1++r2) a st=match jF y r1 a st with
   |none=>none
   |some st'=>jF y r2 b st'
 |[],a,b,r2,st,h=>by
  have:a=b:=h;subst this;rfl
 |r::r1,a,b,r2,st,h=>by
  obtain⟨h1,h2,h3,h4⟩:=h;have hw:=Au h1 h2 h3;have ih:=fun st'=>KL y r1 (a+aJ x a) b r2 st' h4
  rw [<-hw]at ih;rw [List.cons_append,jF,jF];by_cases c1:cls r<13
  .rw [if_pos c1,if_pos c1,ih]
  .rw [if_neg c1,if_neg c1];by_cases c2:y.kind=0∨a<y.body∨y.end_<=a
   .rw [if_pos c2,if_pos c2]
   .rw [if_neg c2,if_neg c2];by_cases c3:cls r<17
    .rw [if_pos c3,if_pos c3,ih]
    .rw [if_neg c3,if_neg c3];by_cases c4:17<cls r/\cls r<21
     .rw [if_pos c4,if_pos c4,ih]
     .rw [if_neg c4,if_neg c4];by_cases c5:st.getLast? =some (cls r)
      .rw [if_pos c5,if_pos c5,ih]
      .rw [if_neg c5,if_neg c5]
theorem KM(y:PR):∀(rs:List Int)(a:Nat)(st:List Int),(∀r∈rs,cls r<13)->jF y rs a st=some st
 |[],_,_,_=>rfl
 |r::rs,a,st,h=>by rw [jF,if_pos (h r List.mem_cons_self)];exact KM y rs _ st (fun z hz=>h z (List.mem_cons_of_mem _ hz))
theorem RU(y:PR)(hk:y.kind=0):∀(rs:List Int)(a:Nat)(st:List Int),jF y rs a st=if uI rs=true then none else some st
 |[],_,_=>rfl
 |r::rs,a,st=>by
  have hb:=wI r;rw [jF];unfold uI;rw [List.any_cons];by_cases c1:cls r<13
  .rw [if_pos c1,RU y hk rs];have:fO (cls r)=false:=by unfold fO;rw [decide_eq_false (by omega)];rfl
   rw [this];rfl
  .rw [if_neg c1,if_pos (.inl hk)];have:fO (cls r)=true:=by unfold fO;rw [decide_eq_true (by omega),decide_eq_true (by omega)];rfl
   rw [this];rfl
theorem RS {x:ByteArray}(y:PR)(hk:y.kind≠0):∀(rs:List Int)(a b:Nat)(st:List Nat),RX x a b rs->y.body<=a->b<=y.end_->NP (jF y rs a (st.map (fun(n:Nat)=>(n:Int))))=kF rs st
 |[],a,b,st,_,_,_=>by
  rw [jF,kF];cases st with
  |nil=>rfl
  |cons s ss=>rfl
 |r::rs,a,b,st,h,hb,he=>by
  obtain⟨h1,h2,h3,h4⟩:=h;have hle:=Cs h4;have hw:=Au h1 h2 h3;have hcb:=wI r;have ih:=fun st'=>RS y hk rs (a+aJ x a) b st' h4 (by omega) he
  rw [<-hw]at ih;rw [jF,kF];by_cases c1:cls r<13
  .have e1:ic (cls r)=false:=by unfold ic;simp;omega
   have e2:aG (cls r)=false:=by unfold aG;simp;omega
   have e3:fO (cls r)=false:=by unfold fO;rw [decide_eq_false (by omega)];rfl
   rw [if_pos c1,e1,e2,e3,ih];simp
  .rw [if_neg c1,if_neg (fun h=>by rcases h with h|h|h;exact hk h;omega;omega)];by_cases c3:cls r<17
   .have e1:ic (cls r)=true:=by unfold ic;simp;omega
    rw [if_pos c3,if_pos e1,<-ih,List.map_append];rfl
   .have e1:¬ic (cls r)=true:=by unfold ic;simp;omega
    rw [if_neg c3,if_neg e1];by_cases c4:17<cls r/\cls r<21
    .have e2:aG (cls r)=true:=by unfold aG;simp;omega
     rw [if_pos c4,if_pos e2,<-ih,List.map_append];rfl
    .have e2:¬aG (cls r)=true:=by unfold aG;simp;omega
     have e3:fO (cls r)=true:=by unfold fO;rw [decide_eq_true (by omega),decide_eq_true (by omega)];rfl
     rw [if_neg c4,if_neg e2,if_pos e3];rcases List.eq_nil_or_concat st with rfl|⟨st',u,rfl⟩
     .rfl
     .rw [List.concat_eq_append,List.map_append];simp only [List.map_cons,List.map_nil,List.getLast?_append,List.getLast?_singleton,Option.some_or,List.dropLast_concat,Option.some.injEq];by_cases hu:(u:Int)=cls r
      .rw [if_pos hu,if_pos hu,ih]
      .rw [if_neg hu,if_neg hu];rfl
theorem OA {x:ByteArray}:∀(rs:List Int)(a b:Nat),RX x a b rs->(∀q,a<=q->q<b->bt x q<128)->∀r∈rs,cls r<13
 |[],_,_,_,_,r,hr=>by cases hr
 |r0::rs,a,b,h,hl,r,hr=>by
  obtain⟨h1,h2,h3,h4⟩:=h;have hle:=Cs h4;rcases List.mem_cons.1 hr with rfl|hr
  .have hb:=hl a (Nat.le_refl _) (by omega);have e:bt x a=((x.get! a).toNat:Int):=by unfold bt;rw [if_pos h1]
   rw [e]at hb;rcases Ff x a h1 h2 with⟨_,c1,c2⟩|⟨_,_,c1,_⟩|⟨_,_,c1,_⟩|⟨_,_,c1,_⟩
   .rw [h3,c2];exact acd (by omega) (by omega)
   .omega
   .omega
   .omega
  .exact OA rs _ b h4 (fun q q1 q2=>hl q (by omega) q2) r hr
theorem OB {x:ByteArray}{q:Nat}(hq:q<=x.size)(ha:Asc x q):∀(rs:List Int)(p b:Nat),RX x p b rs->p<=q->q<=b->∃r1 r2,rs=r1++r2/\RX x p q r1/\RX x q b r2
 |rs,p,b,h,hp,Mw=>by
  by_cases he:p=q
  .subst he;exact⟨[],rs,rfl,rfl,h⟩
  .cases rs with
   |nil=>have:p=b:=h;omega
   |cons r rs=>
    obtain⟨h1,h2,h3,h4⟩:=h;by_cases hin:q<p+aJ x p
    .exact absurd ha (Sa h1 h2 (by omega) hin)
    .obtain⟨r1,r2,e1,e2,e3⟩:=OB hq ha rs (p+aJ x p) b h4 (by omega) Mw;exact⟨r::r1,r2,by rw [e1];rfl,⟨h1,h2,h3,e2⟩,e3⟩
theorem ahb {x:ByteArray}{y:PR}{r1:List Int}(hx:PX x y)(h:RX x y.from_ y.di r1):NP (jF y r1 y.from_ [])=kX x y:=by
 unfold kX;by_cases hk:y.kind=0
 .rw [if_pos hk,EU hx.tl h,RU y hk];simp only [Option.getD_some];cases uI r1<;>rfl
 .rw [if_neg hk];obtain⟨b1,b2,b3,b4,b5,b6,b7⟩:=hx.bd hk;have htl:=hx.tl;obtain⟨ra,r',e1,e2,e3⟩:=OB (by omega:y.body<=x.size) b4 r1 y.from_ y.di h b1 (by omega);obtain⟨rb,rc,e4,e5,e6⟩:=OB (by omega:y.end_<=x.size) b5 r' y.body y.di e3 b2 b3;rw [EU (by omega) e5];simp only [Option.getD_some];rw [e1,KL y ra _ y.body r' [] e2,KM y ra _ [] (OA ra _ _ e2 b6)];simp only;rw [e4,KL y rb _ y.end_ rc [] e5];have hb:=RS (x:=x) y hk rb y.body y.end_ [] e5 (Nat.le_refl _) (Nat.le_refl _);rw [List.map_nil]at hb;rw [<-hb];cases jF y rb y.body []with
  |none=>rfl
  |some st=>
   simp only;rw [KM y rc _ st (OA rc _ _ e6 b7)]
theorem R3 {x:ByteArray}{ps:List PR}:∀(qs:List PR)(a k:Nat)(rs:List Int)(now:Int),uY a x.size qs->RA x a rs->(∀y∈qs,PX x y)->(∀q,a<=q->pI q ps 0=pI q qs k)->(∀j,qs[j]? =ps[k+j]?)->jd ps rs a [] now=qs.all (kX x)
 |[],a,k,rs,now,hc,hr,_,_,_=>by
  have hc':a=x.size:=hc;cases rs with
  |nil=>rfl
  |cons r rs=>have:=hr.1;omega
 |y::ys,a,k,rs,now,hc,hr,hx,hp,hj=>by
  obtain⟨c1,c2,c3⟩:=hc;have px:=hx y List.mem_cons_self;obtain⟨r1,r2,e1,e2,e3⟩:=EP px.tl px.aT rs a hr (by omega);have hy:ps[k]? =some y:=by have:=hj 0;simpa using this.symm
  have hin:∀q,a<=q->q<y.di->pI q ps 0=(k:Int):=fun q q1 q2=>by rw [hp q q1,pI,if_pos ⟨by omega,q2⟩]
  have hne:r1≠[]:=by
   rintro rfl;have:a=y.di:=e2;omega
  have hout:∀q,y.di<=q->pI q ps 0=pI q ys (k+1):=fun q q1=>by rw [hp q (by omega),pI,if_neg (fun h=>by omega)]
  have hj2:∀j,ys[j]? =ps[k+1+j]? :=fun j=>by have:=hj (j+1);rw [show k+1+j=k+(j+1)by omega,<-this];simp
  have ih:=R3 ys y.di (k+1) r2 (k:Int) c3 e3 (fun z hz=>hx z (List.mem_cons_of_mem _ hz)) hout hj2;have hb:=ahb px (by rw [c1];exact e2);rw [c1]at hb;rw [e1,RY hy r1 a y.di r2 [] now e2 hin (.inl rfl),List.all_cons,<-hb,if_neg hne];cases hq:jF y r1 a []with
  |none=>rfl
  |some st=>
   cases st with
   |nil=>simp only;rw [ih];rfl
   |cons u us=>
    simp only;have hd:NP (some (u::us))=false:=rfl;rw [hd,Bool.false_and];cases r2 with
    |nil=>rfl
    |cons r r2=>
     rw [jd,if_pos];refine⟨?_,by simp⟩;rw [hout y.di (Nat.le_refl _)];intro he;have:∀(l:List PR)(m q:Nat),k<m->pI q l m≠(k:Int):=by
      intro l
      induction l with
      |nil=>intro m q _ h;rw [pI]at h;omega
      |cons z zs ihz=>
       intro m q hm h;rw [pI]at h;split at h
       .omega
       .exact ihz (m+1) q (by omega) h
     exact this ys (k+1) y.di (by omega) he
theorem abW {x:ByteArray}{ps:List PR}{rs:List Int}(hc:uY 0 x.size ps)(hr:RA x 0 rs)(hx:∀y∈ps,PX x y):jd ps rs 0 [] (-1)=ps.all (kX x):=
 R3 ps 0 0 rs (-1) hc hr hx (fun _ _=>rfl) (fun j=>by rw [Nat.zero_add])
theorem aiq {x:ByteArray}{ps:List PR}{rs:List Int}(hc:uY 0 x.size ps)(hr:RA x 0 rs)(hx:∀y∈ps,PX x y):EW x rs ps=pq rs ps:=by
 unfold EW pq;rw [agM hc hr hx,abW hc hr hx]
theorem Yz {s:ByteArray}(hz:s.size<=600)(i:Nat):∀y∈r9 s i,PX ((az s 0 0).getD i ⟨#[]⟩) y:=by
 intro y hy;unfold r9 gG at hy;obtain⟨h1,h2⟩:=List.mem_filter.1 hy;have h3:y.line=i:=by simpa using h2
 rw [NY s hz]at h1;obtain⟨x,h4,h5⟩:=NZ s y h1;rw [h3]at h4;rw [List.getD_eq_getElem?_getD,h4];exact h5
theorem Nf {s:ByteArray}(hz:s.size<=600)(i:Nat)(hi:i<(az s 0 0).length):((az s 0 0).getD i ⟨#[]⟩).size<=600:=by
 have e:(az s 0 0).getD i ⟨#[]⟩=(az s 0 0)[i]:=by rw [List.getD_eq_getElem?_getD,List.getElem?_eq_getElem hi];rfl
 rw [e];have:=Nb s 0 0 _ (List.getElem_mem hi);omega
theorem ae2(s:ByteArray)(h:(aZ s).1=0)(i:Nat)(hi:i<(az s 0 0).length)(v:Value)(w:World)(aL aT aC:Addr)(hE:Env w aL aT aC)(hB:Br w)(hv:uS w v (r9 s i)):
  Calls prog 64 #[.string ((az s 0 0).getD i ⟨#[]⟩),v] w fun e w'=>e= .returned (.bool ((cB s).getD i false))/\Below w.heap.size w w':=by
 obtain⟨hz,_,hl⟩:=look_ok h;obtain⟨hr,hr3⟩:=hl i hi;have hc:=ahC s hz i hi;have hx:=Yz hz i;have hra:=si hr;have hs:=ae1 _ _ (r9 s i) v w aL aT aC (Nf hz i hi) hr hr3 (ahD s i) hE hB hv (fun y hy=>Yt hra (hx y hy)) (Ex hc hra hx);rw [aiq hc hra hx]at hs;have e:(cB s).getD i false=pq ((fK (az s 0 0)).getD i []) (r9 s i):=by
  unfold cB;rw [List.getD_eq_getElem?_getD,List.getElem?_map,List.getElem?_range hi];rfl
 rw [e];exact hs
def ku:List ByteArray->Nat->List Nat
 |[],_=>[]
 |l::ls,p=>p::ku ls (p+l.size+1)
theorem Zw:∀(ls:List ByteArray)(p:Nat),(ku ls p).length=ls.length
 |[],_=>rfl
 |l::ls,p=>by simp [ku,Zw ls]
def qi(l:List Nat):List Value:=l.map fun k=> .int .i64 (k:Nat)
def mP(ls:List ByteArray):Nat:=(ls.map fun l=>l.size+1).sum
theorem aiX(ls:List ByteArray):∀(k p:Nat)(hk:k<ls.length),ku (ls.drop k) p=p::ku (ls.drop (k+1)) (p+(ls[k]'hk).size+1):=fun k p hk=>by
 rw [List.drop_eq_getElem_cons hk,ku]
theorem ai2(ls:List ByteArray)(k:Nat)(hk:k<ls.length):mP (ls.drop k)=(ls[k]'hk).size+1+mP (ls.drop (k+1)):=by
 rw [List.drop_eq_getElem_cons hk];unfold mP;rw [List.map_cons,List.sum_cons]
theorem afD(ls:List ByteArray)(g n:Nat)(w:World)(hn:n=ls.length)(hm:n<=1000000)(hsum:mP ls<=1000000000)(hg:w.heap[g]? =some (.cells (dN ls).toArray 9 (0,0))):
  Calls prog 101 #[.slice (some ⟨g,0,none⟩) n n] w fun e w'=>∃q,e= .returned (.slice (some ⟨q,0,none⟩) n n)/\aK w' w.heap.size 3 q n (qi (ku ls 0))/\Below w.heap.size w w':=by
 have hmk:=run_make_row' (P:=prog) 31 3 (.int .i64 0) 8 underlying31 Tryz.xh rfl .i64 .i64 n (by omega) (by omega);have HG:Hid (w.heap[g]? =some (.cells (dN ls).toArray 9 (0,0))):=hg;have hgl:=bJ hg;have HN:Hid (n=ls.length):=hn;have HS:Hid (mP ls<=1000000000):=hsum;clear hg hn hsum;go_enter func101,ntmps101;go_wp2;have HO:Hid (aK (w.alloc (.cells (madeCells #[.int .i64 0] n) 3)) w.heap.size 3 w.heap.size n (List.replicate n (.int .i64 0))):=aK.made (Nat.le_refl _) (by omega);have HB:Hid (Below w.heap.size w (w.alloc (.cells (madeCells #[.int .i64 0] n) 3))):=(Below.refl _ _).alloc (Nat.le_refl _) _;generalize w.alloc (.cells (madeCells #[.int .i64 0] n) 3)=W1 at*;clear hmk;go_loopg [4,5,6,12] n (fun gk sv _ _ iv W=>∃(k p:Nat)(xs:List Value),k<=n/\gk=n - k/\iv= .int .i64 k/\sv= .int .i64 p/\p+mP (ls.drop k)<=1000000000/\aK W w.heap.size 3 w.heap.size n xs/\xs.take k++qi (ku (ls.drop k) p)=qi (ku ls 0)/\Below w.heap.size w W);case atStart=>exact⟨0,0,_,by omega,rfl,rfl,rfl,by simpa using HS.out,HO.out,by simp,HB.out⟩
 case round=>
  obtain⟨k,p,xs,hk,rfl,rfl,rfl,hp,hO,hj,hb⟩:=hrel;by_cases hlt:k<n
  .have hkl:k<ls.length:=by rw [<-HN.out];exact hlt
   have hkn:(k:Int)<(n:Int):=by omega
   rw [aiX ls k p hkl]at hj;rw [ai2 ls k hkl]at hp;have cs:wr.cell? ⟨g,k,none⟩=some (.string (ls[k]'hkl)):=by
    rw [au (aR hb HG.out) k,List.getElem?_toArray,dN,List.getElem?_map,List.getElem?_eq_getElem hkl];rfl
   have hxl:xs.length=n:=by have:=hO.1;simpa using this
   have hfr:=hO.frozen k;have hcl:wr.cell? ⟨w.heap.size,k,none⟩=some (xs[k]'(by omega)):=by rw [hO.cell k hlt,List.getElem?_eq_getElem (by omega)]
   have iL:Hid (aK (wr.setCell ⟨w.heap.size,k,none⟩ (.int .i64 p)) w.heap.size 3 w.heap.size n (xs.set k (.int .i64 p))):=hO.set k _;have HB2:Hid (Below w.heap.size w (wr.setCell ⟨w.heap.size,k,none⟩ (.int .i64 p))):=hb.setCell (p:=⟨w.heap.size,k,none⟩) (Nat.le_refl _) _;have HJ:Hid ((xs.set k (.int .i64 p)).take (k+1)++qi (ku (ls.drop (k+1)) (p+(ls[k]'hkl).size+1))=qi (ku ls 0)):=by
    show _=_;rw [<-hj,List.take_succ_eq_append_getElem (by rw [List.length_set];omega),List.getElem_set_self,List.take_set_of_le (Nat.le_refl _)];simp [qi]
   have HP:Hid (p+(ls[k]'hkl).size+1+mP (ls.drop (k+1))<=1000000000):=by show _<=_;omega
   have hlz:p+(ls[k]'hkl).size+1<=1000000000:=by omega
   generalize xs[k]'(by omega)=y at*;generalize ls[k]'hkl=l at*;clear hj hO hb hp;go_wp2;go_roundg (n - (k+1));case measure=>omega
   case rel=>exact⟨k+1,p+l.size+1,_,by omega,rfl,by go_num,by go_num,HP.out,iL.out,HJ.out,HB2.out⟩
  .obtain rfl:k=n:=by omega
   have hkn:¬(k:Int)<(k:Int):=by omega
   rw [List.drop_of_length_le (by rw [<-HN.out];exact Nat.le_refl _)]at hj;have hxl:xs.length=k:=by have:=hO.1;simpa using this
   have iL:Hid (aK wr w.heap.size 3 w.heap.size k (qi (ku ls 0))):=by
    show aK _ _ _ _ _ _;rw [<-hj,ku,List.take_of_length_le (by omega)];simpa [qi]using hO
   have HB2:Hid (Below w.heap.size w wr):=hb;clear hj hO hb hp;go_wp2;go_ret;exact⟨_,rfl,iL.out,HB2.out⟩
def EB(e:Ed):Prop:=0<=e.a/\e.a<=1000000/\e.n.size<=12
theorem TK(d:ByteArray)(r:Nat):(jr d r).size<=4:=by
 have h:∀k,(ve d k).size<=1:=fun k=>by unfold ve;rw [ByteArray.size_extract];omega
 unfold jr;simp only [ByteArray.size_append];have h1:=h (r / 16 / 16 / 16%16);have h2:=h (r / 16 / 16%16);have h3:=h (r / 16%16);have h4:=h (r%16);have h5:(⟨#[]⟩:ByteArray).size=0:=rfl;omega
theorem Kt(mB:Int->Bool)(wS:Nat->ByteArray)(hw:∀r,(wS r).size<=12):∀(rs:List Int)(p:Nat),∀e∈dW mB wS rs p,0<=e.a/\e.a<=p+4*rs.length/\e.n.size<=12
 |[],_,e,he=>by cases he
 |r::rs,p,e,he=>by
  have hd:wd r<=4:=by unfold wd;(repeat' split)<;>omega
  have ih:=Kt mB wS hw rs (p+wd r) e;rw [dW]at he;simp only [List.length_cons];split at he
  .rcases List.mem_cons.1 he with rfl|he
   .exact⟨Int.natCast_nonneg _,by simp;omega,hw _⟩
   .obtain⟨a,b,c⟩:=ih he;exact⟨a,by push_cast at*;omega,c⟩
  .obtain⟨a,b,c⟩:=ih he;exact⟨a,by push_cast at*;omega,c⟩
theorem ac1(r:Nat):(pX r).size<=12:=by
 unfold pX;rw [ByteArray.size_append];have:=TK qh r;have h:(⟨#[92,117]⟩:ByteArray).size=2:=rfl;omega
theorem aga(r:Nat):(nZ r).size<=12:=by
 unfold nZ;rw [ByteArray.size_append,ByteArray.size_append];have:=TK vS r;have h:(⟨#[60,85,43]⟩:ByteArray).size=3:=rfl;have h':(⟨#[62]⟩:ByteArray).size=1:=rfl;omega
theorem ahY(s:ByteArray)(f t:Nat)(hs:s.size<=600):(o9 s f t).length<=600:=by
 unfold o9;cases h:dh (s.extract f t)with
 |none=>simp
 |some rs=>
  have h1:=EO (si h);have h2:(s.extract f t).size<=s.size:=by rw [ByteArray.size_extract];omega
  simp only [Option.getD_some];omega
theorem X9 {s:ByteArray}(hs:s.size<=600){x:PR}(hx:rG s x):(lg s x).length<=602/\∀e∈lg s x,0<=e.a/\e.a<=3000/\e.n.size<=12:=by
 have hl:=ahY s x.body x.end_ hs;have hb:=fun h=>(hx.be h).1
 have he:=fun h=>(hx.be h).2.1
 unfold lg;split
 .rename_i hk;have b1:=hb (by omega);have b2:=he (by omega);refine⟨by have:=FN bI pX (o9 s x.body x.end_) x.body;omega,fun e h=> ?_⟩;obtain⟨a,b,c⟩:=Kt bI pX ac1 _ _ e h;exact⟨a,by omega,c⟩
 .split
  .rename_i hk;have b1:=hb (by omega);have b2:=he (by omega);refine⟨by have:=FN jC nZ (o9 s x.body x.end_) x.body;simp;omega,fun e h=> ?_⟩;simp only [List.mem_append,List.mem_singleton]at h;rcases h with(rfl|h)|rfl
   .exact⟨Int.natCast_nonneg _,by simp;omega,show 3<=12 by omega⟩
   .obtain⟨a,b,c⟩:=Kt jC nZ aga _ _ e h;exact⟨a,by omega,c⟩
   .exact⟨Int.natCast_nonneg _,by simp;omega,show 3<=12 by omega⟩
  .exact⟨by simp,by simp⟩
theorem Gf(sf:Nat->Bool)(ln:Nat->ByteArray)(st:Nat->Nat)(q:List PR):∀(p:List PR)(l:List Ed),dY sf ln st (p++q) l=if(dY sf ln st p l).2.2= -1 then dY sf ln st q (dY sf ln st p l).1 else dY sf ln st p l
 |[],l=>by simp [dY]
 |x::p,l=>by
  rw [List.cons_append,dY,dY];split
  .exact Gf sf ln st q p l
  .split
   .simp only
   .exact Gf sf ln st q p _
theorem KX(sf:Nat->Bool)(ln:Nat->ByteArray)(st:Nat->Nat)(B:Ed->Prop):∀(p:List PR)(l:List Ed),(∀e∈l,B e)->(∀x∈p,(lg (ln x.line) x).length<=602/\∀e∈lg (ln x.line) x,B (lu (st x.line) e))->(dY sf ln st p l).1.length<=l.length+602*p.length/\∀e∈(dY sf ln st p l).1,B e
 |[],l,h,_=>⟨by simp [dY],h⟩
 |x::p,l,h,hp=>by
  obtain⟨p1,p2⟩:=hp x (by simp);have hp':=fun y hy=>hp y (List.mem_cons_of_mem _ hy)
  rw [dY,List.length_cons];split
  .obtain⟨i1,i2⟩:=KX sf ln st B p l h hp';exact⟨by omega,i2⟩
  .split
   .exact⟨by simp,by simp⟩
   .obtain⟨i1,i2⟩:=KX sf ln st B p (l++(lg (ln x.line) x).map (lu (st x.line))) (fun e he=>by
     rcases List.mem_append.1 he with he|he
     .exact h e he
     .obtain⟨y,hy,rfl⟩:=List.mem_map.1 he;exact p2 y hy) hp'
    refine⟨?_,i2⟩;rw [List.length_append,List.length_map]at i1;omega
theorem Zv:∀(ls:List ByteArray)(p:Nat),∀k∈ku ls p,k<=p+mP ls
 |[],_,k,h=>by cases h
 |l::ls,p,k,h=>by
  have e:mP (l::ls)=l.size+1+mP ls:=by unfold mP;rw [List.map_cons,List.sum_cons]
  rcases List.mem_cons.1 h with rfl|h
  .omega
  .have:=Zv ls _ k h;omega
theorem ZE:∀(ls:List ByteArray)(m:Nat),(∀l∈ls,l.size<=m)->mP ls<=ls.length*(m+1)
 |[],_,_=>by simp [mP]
 |l::ls,m,h=>by
  have e:mP (l::ls)=l.size+1+mP ls:=by unfold mP;rw [List.map_cons,List.sum_cons]
  have:=ZE ls m (fun x hx=>h x (List.mem_cons_of_mem _ hx));have:=h l (by simp);rw [e,List.length_cons,Nat.succ_mul];omega
def dP(s:ByteArray)(i:Nat):Bool:=(cB s).getD i false
def gW(s:ByteArray)(i:Nat):ByteArray:=(az s 0 0).getD i ⟨#[]⟩
def nO(s:ByteArray)(i:Nat):Nat:=(ku (az s 0 0) 0).getD i 0
def aQ(s:ByteArray):List Ed×Int×Int:=dY (dP s) (gW s) (nO s) (dw s) []
theorem ZI {s:ByteArray}(hs:s.size<=600):mP (az s 0 0)<=400000:=by
 have h1:=ZE (az s 0 0) 600 (fun l hl=>by
  obtain⟨i,hi,rfl⟩:=List.getElem_of_mem hl;have:=Nf hs i hi
  rwa [List.getD_eq_getElem?_getD,List.getElem?_eq_getElem hi]at this)
 have h2:=Ep s 0 0 (by omega);have:(az s 0 0).length*(600+1)<=601*601:=Nat.mul_le_mul (by omega) (Nat.le_refl _);omega
theorem Zr {s:ByteArray}(hs:s.size<=600)(i:Nat):nO s i<=400000:=by
 unfold nO;rw [List.getD_eq_getElem?_getD];cases h:(ku (az s 0 0) 0)[i]? with
 |none=>simp
 |some k=>
  have:=Zv _ _ k (List.mem_of_getElem? h);have:=ZI hs;simp only [Option.getD_some];omega
theorem Yc {s:ByteArray}(h0:(aZ s).1=0){x:PR}(hx:x∈dw s):x.line<(az s 0 0).length/\PX (gW s x.line) x/\rG (gW s x.line) x/\(gW s x.line).size<=600:=by
 obtain⟨hs,_,hl⟩:=look_ok h0;have hn:x.line<(az s 0 0).length:=by
  rw [NY s hs]at hx;obtain⟨y,h4,_⟩:=NZ s x hx;exact(List.getElem?_eq_some_iff.1 h4).1
 have hp:=Yz hs x.line x (by unfold r9 gG;exact List.mem_filter.2 ⟨hx,by simp⟩);exact⟨hn,hp,Yt (si (hl _ hn).1) hp,Nf hs _ hn⟩
theorem Sz {s:ByteArray}(h0:(aZ s).1=0){p:List PR}(hp:p<+:dw s):(dY (dP s) (gW s) (nO s) p []).1.length<=602*600/\∀e∈(dY (dP s) (gW s) (nO s) p []).1,EB e:=by
 have hs:=(look_ok h0).1;obtain⟨a,b⟩:=KX (dP s) (gW s) (nO s) EB p [] (by simp) (fun x hx=>by
  obtain⟨_,_,h3,h4⟩:=Yc h0 (hp.subset hx);obtain⟨q1,q2⟩:=X9 h4 h3;refine⟨q1,fun e he=> ?_⟩;obtain⟨r1,r2,r3⟩:=q2 e he;have:=Zr hs x.line;exact⟨by show 0<=e.a+_;omega,by show e.a+_<=_;omega,r3⟩)
 have h1:=hp.length_le;have h2:=EK s;refine⟨?_,b⟩;simp only [List.length_nil]at a;omega
theorem ZG:∀(l:List Ed),(∀e∈l,EB e)->jB l<=12*l.length
 |[],_=>by simp [jB]
 |e::l,h=>by
  have h1:=ZG l (fun x hx=>h x (List.mem_cons_of_mem _ hx));have h2:=(h e (by simp)).2.2;have:jB (e::l)=e.n.size+jB l:=by simp [jB]
  rw [this,List.length_cons];omega
theorem SC(s:ByteArray)(h0:(aZ s).1=0):(aQ s).1.length<=1000000/\s.size+jB (aQ s).1<=140737488355328/\∀e∈(aQ s).1,e.a<=9223372036854775807:=by
 obtain⟨a,b⟩:=Sz h0 (List.prefix_refl _);have hs:=(look_ok h0).1;have hN:=ZG _ b;unfold aQ;exact⟨by omega,by omega,fun e he=>by have:=(b e he).2.1;omega⟩
theorem abH {A B:World}{k:Nat}(h:A.heap[k]? =B.heap[k]?)(i:Nat):A.cell? ⟨k,i,none⟩=B.cell? ⟨k,i,none⟩:=by
 unfold World.cell?;simp only [h]
section
attribute [local go_sem] Oper.semAt_some
theorem aaU {F:Fence}{n:Nat}{P:Program}{md:Region.Mode}{ops:Array Oper}{Q:Exit->Act->World->Prop}(Inv:Array Bool->Act->World->Prop)
  (hend:∀L a w,Inv L a w->Region.ready md ops L=[]->Q .normal a w)
  (hstep:∀L a w i,Inv L a w->i∈Region.ready md ops L->wpOpIn F n P ops Q i (Inv (L.setIfInBounds i true)) a w):
  ∀(fuel:Nat)(L:Array Bool)(a:Act)(w:World),L.toList.count false<=fuel->Inv L a w->wpAnyIn F n P md ops Q fuel L a w:=by
 have key:∀(L:Array Bool)(j:Nat),j∈Region.ready md ops L->∃h:j<L.size,L[j]=false:=fun L j hj=>by
  have h1:=(mem_ready.1 hj).1;by_cases h:j<L.size
  .exact⟨h,by simpa [Array.getD,h]using h1⟩
  .simp [Array.getD,h]at h1
 intro fuel
 induction fuel with
 |zero=>
  intro L a w hc h;have hr:Region.ready md ops L=[]:=List.eq_nil_iff_forall_not_mem.2 fun j hj=>by
   obtain⟨h1,h2⟩:=key L j hj;have:0<L.toList.count false:=List.count_pos_iff.2 (by rw [<-h2];exact Array.getElem_mem_toList h1);omega
  exact⟨hr,hend L a w h hr⟩
 |succ fuel ih=>
  intro L a w hc h;refine⟨hend L a w h,fun i hi=>wpOpIn_mono (fun a' w' h'=>ih _ a' w' ?_ h') (hstep L a w i h hi)⟩;obtain⟨h1,h2⟩:=key L i hi;have:0<L.toList.count false:=List.count_pos_iff.2 (by rw [<-h2];exact Array.getElem_mem_toList h1);rw [Array.toList_setIfInBounds,List.count_set (by simpa using h1)];have e1:(L.toList[i]'(by simpa using h1)==false)=true:=by simp [h2]
  rw [if_pos e1,if_neg (by decide)];omega
theorem vQ {F:Fence}{n l:Nat}{P:Program}{ops:Array Oper}{Q:Exit->Act->World->Prop}{K:Act->World->Prop}{a:Act}{w w':World}{i:Nat}{v:Value}(hF:F.round=some l)(o:Oper)(ho:ops[i]? =some o)(hg:o.guard=none)(hd:∀c,o.op≠.defer c)(hab:o.about P w a.eval=none)
  (hr:(execOp a.eval o).run P w= .ok (.value v) w') (h:K (a.put o.dst v) w'):wpOpIn F n P ops Q i K a w:=by
 unfold wpOpIn;rw [ho];have hw:Region.wanted o (yielded ops a.tmps)=true:=by simp [Region.wanted,hg]
 simp only [hw,if_true];refine⟨(fun f hf=>by rw [hab]at hf;cases hf),?_⟩;rw [hF,Oper.semAt_some l _ _ hd,hr];exact h
theorem step_skip {F:Fence}{n l:Nat}{P:Program}{ops:Array Oper}{Q:Exit->Act->World->Prop}{K:Act->World->Prop}{a:Act}{w w':World}{i:Nat}(hF:F.round=some l)(o:Oper)(ho:ops[i]? =some o)(hg:o.guard=none)(hd:∀c,o.op≠.defer c)(hab:o.about P w a.eval=none)
  (hr:(execOp a.eval o).run P w= .ok .skip w') (h:K (a.put o.dst undef) w'):wpOpIn F n P ops Q i K a w:=by
 unfold wpOpIn;rw [ho];have hw:Region.wanted o (yielded ops a.tmps)=true:=by simp [Region.wanted,hg]
 simp only [hw,if_true];refine⟨(fun f hf=>by rw [hab]at hf;cases hf),?_⟩;rw [hF,Oper.semAt_some l _ _ hd,hr];exact h
section
variable(ρ:Operand->Value)(w:World)(bx rb pb n i:Nat)(d:Option Tmp)
theorem aaw(hc:w.cell? ⟨bx,0,none⟩=some (.slice (some ⟨rb,0,none⟩) n n))(h6:ρ (.tmp 6)= .pointer (some ⟨bx,0,none⟩)):
  (execOp ρ {dst:=d,op:=Op.load 103 (Operand.tmp 6),type:=103,pos:= "guard.go:66",after:=#[],guard:=none}).run prog w= .ok (.value (.slice (some ⟨rb,0,none⟩) n n)) w:=by
 go_simp
theorem aax(h7:ρ (.tmp 7)= .int .i64 i):
  (execOp ρ {dst:=d,op:=Op.move (Operand.tmp 7),type:=3,pos:= "guard.go:66",after:=#[],guard:=none}).run prog w= .ok (.value (.int .i64 i)) w:=by
 go_simp
theorem aav(j k:Nat)(af:Array Edge)(hj:ρ (.tmp j)= .slice (some ⟨rb,0,none⟩) n n)(hk:ρ (.tmp k)= .int .i64 i)(hi:i<n):
  (execOp ρ {dst:=d,op:=Op.indexAddr 103 (Operand.tmp j) (Operand.tmp k),type:=0,pos:= "guard.go:66",after:=af,guard:=none}).run prog w= .ok (.value (.pointer (some ⟨rb,i,none⟩))) w:=by
 have h0:(0:Int)<=(i:Int):=by omega
 have h1:(i:Int)<(n:Int):=by omega
 go_simp
theorem aj0(rv:Value)(af:Array Edge)(hj:ρ (.tmp 30)= .pointer (some ⟨rb,i,none⟩))(hc:w.cell? ⟨rb,i,none⟩=some rv):
  (execOp ρ {dst:=d,op:=Op.load 71 (Operand.tmp 30),type:=71,pos:= "guard.go:66",after:=af,guard:=none}).run prog w= .ok (.value rv) w:=by
 go_simp
theorem ajZ(y0 y1 y2 y3 y4:Value)(hj:ρ (.tmp 8)= .pointer (some ⟨pb,0,none⟩))(h0:w.cell? ⟨pb,0,none⟩=some y0)(h1:w.cell? ⟨pb,1,none⟩=some y1)(h2:w.cell? ⟨pb,2,none⟩=some y2)(h3:w.cell? ⟨pb,3,none⟩=some y3)(h4:w.cell? ⟨pb,4,none⟩=some y4):
  (execOp ρ {dst:=d,op:=Op.load 75 (Operand.tmp 8),type:=75,pos:= "guard.go:66",after:=#[],guard:=none}).run prog w= .ok (.value (.agg #[y0,y1,y2,y3,y4])) w:=by
 go_simp
theorem ajY(a b c e f:Int)(af:Array Edge)(hj:ρ (.tmp 32)= .agg #[.int .i64 a,.int .i64 b,.int .i64 c,.int .i64 e,.int .i64 f]):
  (execOp ρ {dst:=d,op:=Op.buildSlice 71 1 #[(0,Operand.tmp 32)],type:=71,pos:= "guard.go:66",after:=af,guard:=none}).run prog w= .ok (.value (.slice (some ⟨w.heap.size,0,none⟩) 1 1)) (w.alloc (.cells #[.int .i64 a,.int .i64 b,.int .i64 c,.int .i64 e,.int .i64 f] 75)):=by
 go_simp
theorem aj1(rv:Value)(q:Option Addr)(m c:Nat)(af:Array Edge)(Ud:ρ (.tmp 35)= .pointer (some ⟨rb,i,none⟩))(rT:ρ (.tmp 34)= .slice q m c)(hc:w.cell? ⟨rb,i,none⟩=some rv)(hf:w.frozen? ⟨rb,i,none⟩=false):
  (execOp ρ {dst:=none,op:=Op.store 71 (Operand.tmp 35) (Operand.tmp 34),type:=0,pos:= "guard.go:66",after:=af,guard:=none}).run prog w= .ok .skip (w.setCell ⟨rb,i,none⟩ (.slice q m c)):=by
 go_simp
theorem ajX(W:World)(base k:Nat)(rv:Value)(xs news:List Value)(af:Array Edge)(g:Nat)(hx:ρ (.tmp 31)=rv)(hy:ρ (.tmp 33)= .slice (some ⟨g,0,none⟩) 1 1)(hown:W.ownsRow base 75 5 rv k xs)(hl:news.length=5)(hnews:∀j u,news[j]? =some u->W.cell? ((⟨g,0,none⟩:Addr).add j)=some u)(h1:∀u∈news,u.oneCell'=true)(hk:k<=1000000)(hb:base<=W.heap.size):
  ∃v' w',(execOp ρ {dst:=d,op:=Op.call {callee:=Callee.builtin Builtin.append,args:=#[Operand.tmp 31,Operand.tmp 33],argTypes:=#[71,71]},type:=71,pos:= "guard.go:66",after:=af,guard:=none}).run prog W= .ok (.value v') w'/\w'.ownsRow base 75 5 v' (k+1) (xs++news)/\W.grownBy w' rv.ownBlock/\(v'.ownBlock=rv.ownBlock∨v'.ownBlock=some W.heap.size):=by
 obtain⟨i5,hi5,hy0,hy1,hy2⟩:=info_parts Tryz.VU;obtain⟨v',w',hr,h2,h3,_,h5⟩:=run_append_own_at (P:=prog) W base 71 71 75 i5 _ 5 40 underlying71 hi5 hy0 hy1 hy2 rfl (by decide) rv k xs hown ⟨g,0,none⟩ 1 1 news (by omega) hnews h1 (by unfold maxLen;omega) (by omega) hb;refine⟨v',w',?_,h2,h3,h5⟩;unfold execOp;simp only [resolve,invoke,builtin,Sem.run_bind,Sem.run_pure,Result.andThen_ok,List.map_toArray,List.map_cons,List.map_nil,hx,hy,hr]
end
def V9(bs rb n i:Nat)(rv ag:Value):Nat->Value
 |0=> .slice (some ⟨rb,0,none⟩) n n
 |1=> .int .i64 i
 |2=> .slice (some ⟨rb,0,none⟩) n n
 |3=> .int .i64 i
 |4=> .pointer (some ⟨rb,i,none⟩)
 |5=>rv
 |6=>ag
 |7=> .slice (some ⟨bs,0,none⟩) 1 1
 |_=> .pointer (some ⟨rb,i,none⟩)
structure AP(W:World)(base k:Nat)(rv:Value)(xs:List Value)(x:PR)(w8:World)(v:Value):Prop where
 own:w8.ownsRow base 75 5 v (k+1) (xs++lS x)
 gr:(W.alloc (.cells (lS x).toArray 75)).grownBy w8 rv.ownBlock
 blk:v.ownBlock=rv.ownBlock∨v.ownBlock=some (W.heap.size+1)
structure I9(W:World)(bx rb pb n i base k:Nat)(rv:Value)(xs:List Value)(x:PR)(L:Array Bool)(a:Act)(w:World):Prop where
 lz:L.size=11
 tz:36<=a.tmps.size
 e6:a.eval (.tmp 6)= .pointer (some ⟨bx,0,none⟩)
 e7:a.eval (.tmp 7)= .int .i64 i
 e8:a.eval (.tmp 8)= .pointer (some ⟨pb,0,none⟩)
 vs:∀j,j<10->j≠8->L.getD j false=true->a.eval (.tmp (26+j))=V9 W.heap.size rb n i rv (om x) j
 w0:L.getD 7 false=false->w=W
 w7:L.getD 7 false=true->L.getD 8 false=false->w=W.alloc (.cells (lS x).toArray 75)
 w8:L.getD 8 false=true->L.getD 10 false=false->AP W base k rv xs x w (a.eval (.tmp 34))
 AJ:L.getD 10 false=true->∃w8 v,AP W base k rv xs x w8 v/\w=w8.setCell ⟨rb,i,none⟩ v
 xA:L.getD 8 false=true->L.getD 7 false=true
 xx:L.getD 10 false=true->L.getD 8 false=true
 oA:L.getD 10 false=true->∀m,m<10->L.getD m false=true
 xy:L.getD 7 false=true->L.getD 6 false=true
theorem fu {L:Array Bool}{i j:Nat}(h:i≠j):(L.setIfInBounds i true).getD j false=L.getD j false:=by
 simp only [Array.getD_eq_getD_getElem?];rw [Array.getElem?_setIfInBounds_ne h]
theorem x9 {L:Array Bool}{i j:Nat}(h:L.getD j false=true):(L.setIfInBounds i true).getD j false=true:=by
 by_cases e:i=j
 .subst e;have:i<L.size:=by
   by_cases q:i<L.size
   .exact q
   .simp [Array.getD,q]at h
  simp [Array.getD,this]
 .rw [fu e];exact h
theorem Dc {L:Array Bool}{i:Nat}(h:i<L.size):(L.setIfInBounds i true).getD i false=true:=by
 simp [Array.getD,h]
section
variable{W:World}{bx rb pb n i base k:Nat}{rv:Value}{xs:List Value}{x:PR}{L:Array Bool}{a:Act}{w:World}
theorem I9.vs'(h:I9 W bx rb pb n i base k rv xs x L a w){j:Nat}{v:Value}(hj:j<10)(hv:j≠8->v=V9 W.heap.size rb n i rv (om x) j):∀m,m<10->m≠8->(L.setIfInBounds j true).getD m false=true->(a.put (some (26+j)) v).eval (.tmp (26+m))=V9 W.heap.size rb n i rv (om x) m:=by
 intro m hm h8 hL;by_cases e:j=m
 .subst e;rw [Act.eval_put_same _ _ _ (by have:=h.tz;omega)];exact hv h8
 .rw [fu e]at hL;rw [Act.eval_put_ne _ _ _ _ (by omega)];exact h.vs m hm h8 hL
theorem IB(a:Act)(d:Option Tmp)(v:Value):(a.put d v).tmps.size=a.tmps.size:=by
 cases d<;>simp [Act.put]
theorem I9.put(h:I9 W bx rb pb n i base k rv xs x L a w){j:Nat}(hj:j<10)(h8:j≠8)(h7:j≠7):I9 W bx rb pb n i base k rv xs x (L.setIfInBounds j true) (a.put (some (26+j)) (V9 W.heap.size rb n i rv (om x) j)) w where
 lz:=by simp [h.lz]
 tz:=by rw [IB];exact h.tz
 e6:=by rw [Act.eval_put_ne _ _ _ _ (by omega)];exact h.e6
 e7:=by rw [Act.eval_put_ne _ _ _ _ (by omega)];exact h.e7
 e8:=by rw [Act.eval_put_ne _ _ _ _ (by omega)];exact h.e8
 vs:=h.vs' hj (fun _=>rfl)
 w0:=by rw [fu h7];exact h.w0
 w7:=by rw [fu h7,fu h8];exact h.w7
 w8:=by rw [fu h8,fu (by omega),Act.eval_put_ne _ _ _ _ (by omega)];exact h.w8
 AJ:=by rw [fu (by omega)];exact h.AJ
 xA:=by rw [fu h7,fu h8];exact h.xA
 xx:=by rw [fu (by omega),fu h8];exact h.xx
 oA:=by rw [fu (by omega)];exact fun e m hm=>x9 (h.oA e m hm)
 xy:=by rw [fu h7];exact fun e=>x9 (h.xy e)
theorem I9.ahG(h:I9 W bx rb pb n i base k rv xs x L a W)(hL:L.getD 7 false=false)(h6:L.getD 6 false=true):I9 W bx rb pb n i base k rv xs x (L.setIfInBounds 7 true) (a.put (some 33) (.slice (some ⟨W.heap.size,0,none⟩) 1 1)) (W.alloc (.cells (lS x).toArray 75)) where
 lz:=by simp [h.lz]
 tz:=by rw [IB];exact h.tz
 e6:=by rw [Act.eval_put_ne _ _ _ _ (by omega)];exact h.e6
 e7:=by rw [Act.eval_put_ne _ _ _ _ (by omega)];exact h.e7
 e8:=by rw [Act.eval_put_ne _ _ _ _ (by omega)];exact h.e8
 vs:=h.vs' (j:=7) (by omega) (fun _=>rfl)
 w0:=by rw [Dc (by rw [h.lz];omega)];intro h;cases h
 w7:=fun _ _=>rfl
 w8:=by
  rw [fu (by omega)];intro h8;rw [h.xA h8]at hL;cases hL
 AJ:=by
  rw [fu (by omega)];intro h10;rw [h.xA (h.xx h10)]at hL;cases hL
 xA:=fun _=>Dc (by rw [h.lz];omega)
 xx:=by rw [fu (by omega),fu (by omega)];exact h.xx
 oA:=by rw [fu (by omega)];exact fun e m hm=>x9 (h.oA e m hm)
 xy:=fun _=>x9 h6
theorem I9.ahH(h:I9 W bx rb pb n i base k rv xs x L a w)(hL:L.getD 8 false=false)(h7:L.getD 7 false=true){w8:World}{v:Value}(hA:AP W base k rv xs x w8 v):I9 W bx rb pb n i base k rv xs x (L.setIfInBounds 8 true) (a.put (some 34) v) w8 where
 lz:=by simp [h.lz]
 tz:=by rw [IB];exact h.tz
 e6:=by rw [Act.eval_put_ne _ _ _ _ (by omega)];exact h.e6
 e7:=by rw [Act.eval_put_ne _ _ _ _ (by omega)];exact h.e7
 e8:=by rw [Act.eval_put_ne _ _ _ _ (by omega)];exact h.e8
 vs:=h.vs' (j:=8) (by omega) (fun e=>absurd rfl e)
 w0:=by rw [fu (by omega),h7];intro h;cases h
 w7:=by rw [Dc (by rw [h.lz];omega)];intro _ h;cases h
 w8:=by
  intro _ _;rw [Act.eval_put_same _ _ _ (by have:=h.tz;omega)];exact hA
 AJ:=by
  rw [fu (by omega)];intro h10;rw [h.xx h10]at hL;cases hL
 xA:=fun _=>by rw [fu (by omega)];exact h7
 xx:=fun _=>Dc (by rw [h.lz];omega)
 oA:=by rw [fu (by omega)];exact fun e m hm=>x9 (h.oA e m hm)
 xy:=by rw [fu (by omega)];exact fun e=>x9 (h.xy e)
theorem I9.ahF(h:I9 W bx rb pb n i base k rv xs x L a w)(h7:L.getD 7 false=true)(h8:L.getD 8 false=true)(hL:L.getD 10 false=false)(hA:∀m,m<10->L.getD m false=true):I9 W bx rb pb n i base k rv xs x (L.setIfInBounds 10 true) (a.put none undef) (w.setCell ⟨rb,i,none⟩ (a.eval (.tmp 34))) where
 lz:=by simp [h.lz]
 tz:=by rw [IB];exact h.tz
 e6:=h.e6
 e7:=h.e7
 e8:=h.e8
 vs:=fun j hj h8=>by rw [fu (by omega)];exact h.vs j hj h8
 w0:=by rw [fu (by omega),h7];intro h;cases h
 w7:=by rw [fu (by omega),fu (by omega),h8];intro _ h;cases h
 w8:=by rw [Dc (by rw [h.lz];omega)];intro _ h;cases h
 AJ:=fun _=>⟨w,_,h.w8 h8 hL,rfl⟩
 xA:=by rw [fu (by omega),fu (by omega)];exact h.xA
 xx:=fun _=>by rw [fu (by omega)];exact h8
 oA:=fun _ m hm=>x9 (hA m hm)
 xy:=by rw [fu (by omega)];exact fun e=>x9 (h.xy e)
end
end
