import Derived.Test.YtkbinfhclaafhaaGreatDoorZ03
import Derived.Test.YtkbinfhclaafhaaGreatDoorZ02
namespace Go.Proofs.YtkbinfhclaafhaaGreatDoor
open Go.RowKit
open Go.Proofs.Tryz
set_option maxRecDepth 100000
set_option maxHeartbeats 32000000
set_option linter.all false
def jW(lf:List Bool)(p:Nat):Bool:=lf.getD p false
structure yC(lv:List Int)(lf:List Bool)(i:Nat)(x:List (List Nat)×List Nat):Prop where
 flat:x.1.flatten++x.2=(List.range i).filter (jW lf)
 ne:∀r∈x.1,r≠[]
 lvl:∀r∈x.1,∀p∈r,lv.getD p 0=lv.getD (r.headD 0) 0
 cur:∀p∈x.2,lv.getD p 0=lv.getD (x.2.headD 0) 0
theorem yC.start(lv:List Int)(lf:List Bool):yC lv lf 0 ([],[]):=⟨rfl,by simp,by simp,by simp⟩
theorem yC.step {lv:List Int}{lf:List Bool}{i:Nat}{x:List (List Nat)×List Nat}(h:yC lv lf i x):yC lv lf (i+1) (DM lv lf i x):=by
 obtain⟨h1,h2,h3,h4⟩:=h;unfold DM;split
 .rename_i hl;refine⟨?_,h2,h3,h4⟩;rw [h1,GH,qQ,qU,Ej,jW,hl];simp
 .rename_i hl;have hl':jW lf i=true:=by simpa [jW]using hl
  split
  .rename_i hc;refine⟨?_,?_,?_,by simp⟩
   .simp only [List.flatten_append,yq,List.flatten_nil,lu];rw [h1,GH,qQ,qU,Ej,hl'];rfl
   .intro r hr;rcases kK.1 hr with hr|hr
    .exact h2 r hr
    .simp at hr;subst hr;exact hc.1
   .intro r hr;rcases kK.1 hr with hr|hr
    .exact h3 r hr
    .simp at hr;subst hr;exact h4
  .rename_i hc;refine⟨?_,h2,h3,?_⟩
   .simp only;rw [<-eV,h1,GH,qQ,qU,Ej,hl'];rfl
   .simp only;by_cases hx:x.2=[]
    .rw [hx];simp
    .have hh:(x.2++[i]).headD 0=x.2.headD 0:=by cases hx2:x.2 with
      |nil=>exact absurd hx2 hx
      |cons a l=>rfl
     rw [hh];intro p hp;rcases kK.1 hp with hp|hp
     .exact h4 p hp
     .simp at hp;subst hp;rcases Decidable.em (lv.getD (x.2.headD 0) 0=lv.getD p 0)with h'|h'
      .exact h'.symm
      .exact absurd ⟨hx,h'⟩ hc
theorem acj {lv:List Int}{lf:List Bool}:∀n i x,yC lv lf i x->∃y,yC lv lf (i+n) y/\vK lv lf n i x=sM y
 |0,i,x,h=>⟨x,h,rfl⟩
 |n+1,i,x,h=>by
  obtain⟨y,h1,h2⟩:=acj n (i+1) _ h.step;exact⟨y,by rw [show i+(n+1)=i+1+n by omega];exact h1,by rw [vK];exact h2⟩
theorem xN(lv:List Int)(lf:List Bool):(cQ lv lf).flatten=(List.range lv.length).filter (jW lf)/\(∀r∈cQ lv lf,r≠[])/\∀r∈cQ lv lf,∀p∈r,lv.getD p 0=lv.getD (r.headD 0) 0:=by
 obtain⟨y,h1,h2⟩:=acj lv.length 0 ([],[]) (yC.start lv lf);unfold cQ;rw [h2];unfold sM;rw [iz]at h1;split
 .rename_i hy;refine⟨?_,h1.ne,h1.lvl⟩;have:=h1.flat;rw [hy,lu]at this;exact this
 .rename_i hy;refine⟨?_,?_,?_⟩
  .rw [<-h1.flat];simp
  .intro r hr;rcases kK.1 hr with hr|hr
   .exact h1.ne r hr
   .simp at hr;subst hr;exact hy
  .intro r hr;rcases kK.1 hr with hr|hr
   .exact h1.lvl r hr
   .simp at hr;subst hr;exact h1.cur
theorem ack(lv:List Int)(lf:List Bool):(cQ lv lf).flatten.Nodup:=by
 rw [(xN lv lf).1];exact Vw _ aeh
theorem MT {lv:List Int}{lf:List Bool}{r:List Nat}{p:Nat}(hr:r∈cQ lv lf)(hp:p∈r):p<lv.length/\jW lf p=true:=by
 have:p∈(cQ lv lf).flatten:=OO.2 ⟨r,hr,hp⟩;rw [(xN lv lf).1,uW,GG]at this;exact this
def iV(nx:Nat->Option Nat):Nat->Nat->Option Nat
 |0,i=>some i
 |a+1,i=>(iV nx a i).bind nx
def mL(nx:Nat->Option Nat):Nat->Nat->List Nat
 |0,i=>[i]
 |f+1,i=>match nx i with
  |none=>[i]
  |some k=>i::mL nx f k
theorem aao(nx:Nat->Option Nat):∀a i k,nx i=some k->iV nx (a+1) i=iV nx a k
 |0,i,k,h=>by simp [iV,h]
 |a+1,i,k,h=>by rw [iV,aao nx a i k h,iV]
theorem ME(nx:Nat->Option Nat):∀f i k,k∈mL nx f i->∃a,iV nx a i=some k
 |0,i,k,h=>by simp [mL]at h;exact⟨0,by simp [iV,h]⟩
 |f+1,i,k,h=>by
  rw [mL]at h;split at h
  .simp at h;exact⟨0,by simp [iV,h]⟩
  .rename_i q hq;rcases jF.1 h with h|h
   .exact⟨0,by simp [iV,h]⟩
   .obtain⟨a,ha⟩:=ME nx f q k h;exact⟨a+1,by rw [aao nx a i q hq];exact ha⟩
section
variable{nx:Nat->Option Nat}(inj:∀i j k,nx i=some k->nx j=some k->i=j)
include inj
theorem Mp:∀a b i j k,iV nx a i=some k->iV nx (a+b) j=some k->iV nx b j=some i
 |0,b,i,j,k,h1,h2=>by simp [iV]at h1;subst h1;rw [iz]at h2;exact h2
 |a+1,b,i,j,k,h1,h2=>by
  rw [show a+1+b=(a+b)+1 by omega]at h2;rw [iV]at h1 h2;cases h3:iV nx a i with
  |none=>rw [h3]at h1;cases h1
  |some p=>
   cases h4:iV nx (a+b) j with
   |none=>rw [h4]at h2;cases h2
   |some q=>
    rw [h3]at h1;rw [h4]at h2;have:p=q:=inj p q k h1 h2;subst this;exact Mp a b i j p h3 h4
omit inj in
theorem Rv {s:Nat}(hs:∀i,nx i≠some s)(b j:Nat)(h:iV nx b j=some s):b=0/\j=s:=by
 cases b with
 |zero=>simp [iV]at h;exact⟨rfl,h⟩
 |succ b=>
  rw [iV]at h;cases h1:iV nx b j with
  |none=>rw [h1]at h;cases h
  |some q=>rw [h1]at h;exact absurd h (hs q)
theorem ajO {s t k:Nat}(hs:∀i,nx i≠some s)(ht:∀i,nx i≠some t){f g:Nat}(h1:k∈mL nx f s)(h2:k∈mL nx g t):s=t:=by
 obtain⟨a,ha⟩:=ME nx f s k h1;obtain⟨b,hb⟩:=ME nx g t k h2;rcases Nat.le_total a b with h|h
 .have:=Mp inj a (b - a) s t k ha (by rw [show a+(b - a)=b by omega];exact hb);exact(Rv hs _ _ this).2.symm
 .have:=Mp inj b (a - b) t s k hb (by rw [show b+(a - b)=a by omega];exact ha);exact(Rv ht _ _ this).2
theorem aba {s:Nat}(hs:∀i,nx i≠some s):∀f i c,iV nx c s=some i->(mL nx f i).Nodup
 |0,i,c,h=>by simp [mL]
 |f+1,i,c,h=>by
  rw [mL];split
  .simp
  .rename_i q hq;rw [Bn];refine⟨?_,aba hs f q (c+1) (by rw [iV,h];exact hq)⟩;intro hm;obtain⟨a,ha⟩:=ME nx f q i hm;have h2:iV nx (c+(a+1)) s=some i:=by
    have:∀a i q,iV nx c s=some i->nx i=some q->iV nx (c+(a+1)) s=iV nx a q:=by
     intro a
     induction a with
     |zero=>intro i q h hq;show(iV nx c s).bind nx=some q;rw [h];exact hq
     |succ a ih=>intro i q h hq;rw [show c+(a+1+1)=(c+(a+1))+1 by omega,iV,ih i q h hq];rfl
    rw [this a i q h hq];exact ha
   have:=Mp inj c (a+1) s s i h h2;have:=(Rv hs _ _ this).1;omega
theorem abb(f:Nat):∀(l:List Nat),l.Nodup->(∀s∈l,∀i,nx i≠some s)->(l.flatMap (mL nx f)).Nodup
 |[],_,_=>by simp
 |s::l,hn,hs=>by
  rw [uV,Eo];refine⟨aba inj (hs s (by simp)) f s 0 rfl,abb f l (Bn.1 hn).2 (fun t ht=>hs t (by simp [ht])),?_⟩;intro a ha b hb hab;subst hab;obtain⟨t,ht,hb⟩:=GF.1 hb;have:=ajO inj (hs s (by simp)) (hs t (by simp [ht])) ha hb;subst this;exact(Bn.1 hn).1 ht
end
theorem Tryz.aib:(prog.info? 194).map (fun i=>(i.zero,i.size,i.bytes))=some (some (.agg #[.int .i64 0,.int .i64 0]),2,16):=by kernel_rfl
theorem afl(r:Int):(brk r).1=0∨(brk r).1=1∨(brk r).1=2:=by
 unfold brk;split
 .exact .inr (.inl rfl)
 .split
  .exact .inr (.inr rfl)
  .split
   .exact .inr (.inr rfl)
   .split
    .exact .inr (.inr rfl)
    .split
     .exact .inr (.inr rfl)
     .exact .inl rfl
theorem SC:∀(l:List (Nat×Nat))(k:Nat),k<l.length->(fu l)[k*2]? =some (.int .i64 ((l.getD k (0,0)).1:Nat))/\(fu l)[k*2+1]? =some (.int .i64 ((l.getD k (0,0)).2:Nat))
 |[],k,h=>by simp at h
 |p::l,0,_=>by simp [fu]
 |p::l,k+1,h=>by
  have ih:=SC l k (by simpa using h);have e:fu (p::l)=[.int .i64 (p.1:Nat),.int .i64 (p.2:Nat)]++fu l:=by simp [fu]
  rw [e,pT (by simp;omega),pT (by simp;omega)];simp only [eW,kq,VB];rw [show(k+1)*2 - (0+1+1)=k*2 by omega,show(k+1)*2+1 - (0+1+1)=k*2+1 by omega];exact ih
theorem Sz {w:World}{B g cap L:Nat}{l:List (Nat×Nat)}{e:TypeId}(h:w.ownsRow B e 2 (.slice (some ⟨g,0,none⟩) L cap) L (fu l))(k:Nat)(hk:k<L):w.cell? ⟨g,k*2,none⟩=some (.int .i64 ((l.getD k (0,0)).1:Nat)):=by
 have hl:l.length=L:=by have:=h.1;rw [abk]at this;omega
 rw [dg h (k*2) (by omega)];exact(SC l k (by omega)).1
theorem SA {w:World}{B g cap L:Nat}{l:List (Nat×Nat)}{e:TypeId}(h:w.ownsRow B e 2 (.slice (some ⟨g,0,none⟩) L cap) L (fu l))(k:Nat)(hk:k<L):w.cell? ⟨g,k*2+1,none⟩=some (.int .i64 ((l.getD k (0,0)).2:Nat)):=by
 have hl:l.length=L:=by have:=h.1;rw [abk]at this;omega
 rw [dg h (k*2+1) (by omega)];exact(SC l k (by omega)).2
theorem SD:∀(l:List (Nat×Nat))(k:Nat)(p:Nat×Nat),((fu l).set (k*2) (.int .i64 (p.1:Nat))).set (k*2+1) (.int .i64 (p.2:Nat))=fu (l.set k p)
 |[],k,p=>by simp [fu]
 |a::l,0,p=>by simp [fu]
 |a::l,k+1,p=>by
  have ih:=SD l k p;have e:∀l:List (Nat×Nat),fu (a::l)= .int .i64 (a.1:Nat):: .int .i64 (a.2:Nat)::fu l:=fun l=>by simp [fu]
  rw [aeo,e,e,<-ih,show(k+1)*2=k*2+1+1 by omega];simp only [aeo]
theorem akb {w0 w:World}{B g cap L:Nat}{l:List (Nat×Nat)}(h:w.ownsRow B 194 2 (.slice (some ⟨g,0,none⟩) L cap) L (fu l))(hb:Below B w0 w)(hg:B<=g)(q a0 a1 b0 b1:Nat)(o:Obj)(ha:(a0,a1)=l.getD (q+1) (0,0))(hbb:(b0,b1)=l.getD q (0,0)):
  Below B w0 (((((w.setCell ⟨g,(q+1)*2,none⟩ (.int .i64 (b0:Nat))).setCell ⟨g,(q+1)*2+1,none⟩ (.int .i64 (b1:Nat))).setCell ⟨g,q*2,none⟩ (.int .i64 (a0:Nat))).setCell ⟨g,q*2+1,none⟩ (.int .i64 (a1:Nat))).alloc o)/\
  (((((w.setCell ⟨g,(q+1)*2,none⟩ (.int .i64 (b0:Nat))).setCell ⟨g,(q+1)*2+1,none⟩ (.int .i64 (b1:Nat))).setCell ⟨g,q*2,none⟩ (.int .i64 (a0:Nat))).setCell ⟨g,q*2+1,none⟩ (.int .i64 (a1:Nat))).alloc o).ownsRow B 194 2 (.slice (some ⟨g,0,none⟩) L cap) L (fu (swp l (q+1))):=by
 have h1:=(z7 h ((q+1)*2) (.int .i64 (b0:Nat))).1;have h2:=(z7 h1 ((q+1)*2+1) (.int .i64 (b1:Nat))).1;have h3:=(z7 h2 (q*2) (.int .i64 (a0:Nat))).1;have h4:=(z7 h3 (q*2+1) (.int .i64 (a1:Nat))).1;have e:swp l (q+1)=(l.set (q+1) (b0,b1)).set q (a0,a1):=by rw [ha,hbb];rfl
 rw [SD l (q+1) (b0,b1),SD _ q (a0,a1),<-e]at h4;have hb4:=(((hb.setCell (p:=⟨g,(q+1)*2,none⟩) hg (.int .i64 (b0:Nat))).setCell (p:=⟨g,(q+1)*2+1,none⟩) hg (.int .i64 (b1:Nat))).setCell (p:=⟨g,q*2,none⟩) hg (.int .i64 (a0:Nat))).setCell (p:=⟨g,q*2+1,none⟩) hg (.int .i64 (a1:Nat));exact⟨hb4.alloc (fW (Nat.lt_of_le_of_lt hg (h4.lt g rfl).2)) o,h4.alloc o⟩
theorem PU {l:List Nat}{i:Nat}(h:i<l.length):l.getD i 0∈l:=by
 rw [aO,aQ h];exact pV h
theorem JF {t rs:List Int}{n k:Nat}{x y:List Nat×List (Nat×Nat)}(hk:k<n)(hs:nD t rs k x=some y):dF t rs (n - k) k x=dF t rs (n - (k+1)) (k+1) y:=by
 rw [show n - k=(n - (k+1))+1 by omega,dF,hs]
theorem aj1 {t rs:List Int}{n k:Nat}{x:List Nat×List (Nat×Nat)}(hk:k<n)(hs:nD t rs k x=none):dF t rs (n - k) k x=none:=by
 rw [show n - k=(n - (k+1))+1 by omega,dF,hs]
theorem aj3 {t rs:List Int}{k:Nat}{x:List Nat×List (Nat×Nat)}{c bk br:Int}(hc:t.getD k 0=c)(hb:brk (rs.getD k 0)=(bk,br)):nD t rs k x=if c=12 then(if bk=1 then(if x.1.length=63 then none else some (x.1++[k],x.2))else if bk=2 then(match kY rs br x.1 x.1.length with
   |some m=>some (x.1.take m,x.2++[(x.1.getD m 0,k)])
   |none=>some x)else some x)else some x:=by unfold nD;rw [hc,hb];rfl
theorem aka(t rs:List Int)(n gt ot ct gr or' cr:Nat)(w:World)(ht:t.length=n)(hr:rs.length=n)(hn:n<=100000)(hti:bG w gt ot t)(Au:bG w gr or' rs)(hgt:gt<w.heap.size)(hgr:gr<w.heap.size):
  Calls prog 125 #[.slice (some ⟨gt,ot,none⟩) n ct,.slice (some ⟨gr,or',none⟩) n cr] w fun ev w'=>∃(v:Value)(ps:List (Nat×Nat)),ev= .returned v/\ko t rs ps/\ps.length<=n/\Below w.heap.size w w'/\w'.ownsRow w.heap.size 194 2 v ps.length (fu ps):=by
 obtain⟨iI,eY,eZ,fe,fh⟩:=gW Tryz.qB;obtain⟨iP,hiP,Jd,Je,Jf⟩:=gW Tryz.aib;have HTI:=ah hti;have Ve:=ah Au;have HLT:=ah ht;have UK:=ah hr;have HB:Hid (gt<w.heap.size/\gr<w.heap.size):=⟨hgt,hgr⟩
 obtain⟨P,hP⟩:∃P,P=dF t rs n 0 ([],[]):=⟨_,rfl⟩
 have HP:Hid (P=dF t rs t.length 0 ([],[])):=by rw [ht];exact hP
 have Gl:=ah hP;clear hti Au ht hr hgt hgr hP;go_enter func125,ntmps125;go_wp2;go_loopg [5,6,7] n (fun gk sv ov iv wr=>∃(k:Nat)(x:List Nat×List (Nat×Nat)),k<=n/\gk=n - k/\iv= .int .i64 k/\o8 w wr w.heap.size sv ov x/\jP k x/\P=dF t rs (n - k) k x);case atStart=>exact⟨0,([],[]),by omega,rfl,rfl,o8.start w,jP.start,Gl.out⟩
 case round=>
  clear Gl;obtain⟨k,x,hk,rfl,rfl,hS,hok,hF⟩:=hrel;obtain⟨sa,sc,rfl⟩:=ey hS.st;obtain⟨oa,oc,rfl⟩:=ey hS.out;have HS:=ah hS;have dN:=ah hok;have HF:=ah hF;have hx1:x.1.length<=63:=hok.len;have hx2:x.2.length<=k:=hok.few;clear hS hok hF;by_cases hlt:k<n
  .have hcr:=Ve.out.stay HS.out.below HB.out.2 k (by rw [UK.out];exact hlt);generalize xx:rs.getD k 0=rk at hcr;obtain⟨bk,br,Dd⟩:∃bk br,brk rk=(bk,br):=⟨_,_,rfl⟩
   have HBR:=ah Dd;have Uu:Hid (brk (rs.getD k 0)=(bk,br)):=by rw [xx];exact Dd
   have QJ:=afl rk;rw [Dd]at QJ;simp only at QJ;clear Dd xx;go_wp2_with fail;refine(Wj rk _).mono ?_;rintro ev w1 ⟨rfl,hb1⟩;rw [HBR.out];simp only;have bD:=ah (HS.out.call hb1);have hct:=HTI.out.stay bD.out.below HB.out.1 k (by rw [HLT.out];exact hlt);clear hb1 hcr HS;generalize hc0:t.getD k 0=c at hct;have rF:=aj3 (x:=x) hc0 Uu.out;clear hc0 Uu;by_cases h12:c=12
   .subst h12;rw [aj rfl]at rF;rcases QJ with rfl|rfl|rfl
    .have HN:Hid (P=dF t rs (n - (k+1)) (k+1) x):=by
      show _=_;rw [HF.out];exact JF hlt (by rw [rF];rfl)
     clear rF;go_wp2;go_roundg (n - (k+1));case measure=>omega
     case rel=>exact⟨k+1,x,by omega,rfl,by simp,bD.out,dN.out.more,HN.out⟩
    .rw [aj rfl]at rF;by_cases h63:x.1.length=63
     .have HN:Hid (P=none):=by
       show _=_;rw [HF.out];exact aj1 hlt (by rw [rF,aj h63])
      have q63:((x.1.length:Int)==63)=true:=by simp;omega
      clear rF;go_wp2;refine cG (v:= .slice none 0 0) (by simp [results,results125,go_sem]) rfl ⟨.slice none 0 0,[],rfl,?_,by simp,bD.out.below,rfl,.inl ⟨rfl,rfl⟩⟩;unfold ko;rw [<-HP.out,HN.out]
     .have HN:Hid (P=dF t rs (n - (k+1)) (k+1) (x.1++[k],x.2)):=by
       show _=_;rw [HF.out];exact JF hlt (by rw [rF,ai h63])
      have q63:((x.1.length:Int)==63)=false:=by simp;omega
      have bK:=ah (dN.out.push h63);clear rF;have hrow:=bD.out.st;have hbz:=bD.out.base;go_wp2_with(at_builtin;refine nX _ rfl _ _ 31 rfl w.heap.size 3 iI (.int .i64 0) 8 underlying31 eY eZ fe fh rfl (by decide) _ _ _ rfl hrow _ _ rfl rfl (by omega) hbz ?_);intro v' w5 b9 cA;have fC:=ah (bD.out.push b9 cA);clear b9 cA hrow;go_wp2;go_roundg (n - (k+1));case measure=>omega
      case rel=>exact⟨k+1,_,by omega,rfl,by simp,fC.out,bK.out,HN.out⟩
    .rw [ai (by decide),aj rfl]at rF;have HST:=ah rF;clear rF;go_wp2;go_loopg [5,6,10] x.1.length (fun gk sv ov jv wj=>∃m:Nat,m<=x.1.length/\m=gk/\sv= .slice sa x.1.length sc/\ov= .slice oa x.2.length oc/\jv= .int .i64 ((m:Int) - 1)/\o8 w wj w.heap.size (.slice sa x.1.length sc) (.slice oa x.2.length oc) x/\kY rs br x.1 x.1.length=kY rs br x.1 m);case atStart=>exact⟨x.1.length,ay _,rfl,rfl,rfl,by simp,bD.out,rfl⟩
     case round=>
      clear bD hct;obtain⟨m,hm,rfl,rfl,rfl,rfl,YI,hM⟩:=hrel;have Gr:=ah YI;have HM:=ah hM;clear YI hM;cases m with
      |zero=>
       have HN:Hid (P=dF t rs (n - (k+1)) (k+1) x):=by
        show _=_;rw [HF.out];refine JF hlt ?_;rw [HST.out,HM.out];rfl
       go_wp2;go_roundg (n - (k+1));case measure=>omega
       case rel=>exact⟨k+1,x,by omega,rfl,by simp,Gr.out,dN.out.more,HN.out⟩
      |succ m=>
       obtain⟨g,cap,hv,hcap,sw,_⟩:=fS Gr.out.st (by omega);obtain⟨hv1,hv2⟩:sa=some ⟨g,0,none⟩/\sc=cap:=by simpa using hv
       clear hv;subst hv1;subst hv2;have hmx:m<x.1.length:=by omega
       have hca:=iJ Gr.out.st m (by rw [gw];exact hmx);rw [mJ _ _ hmx]at hca;have yU:x.1.getD m 0<k:=dN.out.st _ (PU hmx);have CN:Hid (kY rs br x.1 (m+1)=if(brk (rs.getD (x.1.getD m 0) 0)).2=br then some m else kY rs br x.1 m):=rfl;have HOP:=ah (dN.out.pop hmx);have zL:Hid (∀(w5:World)(v':Value)(w2:World),o8 w w2 w.heap.size (.slice (some ⟨g,0,none⟩) x.1.length sc) (.slice oa x.2.length oc) x->w5.ownsRow w.heap.size 194 2 v' (x.2.length+1) (fu x.2++[.int .i64 (x.1.getD m 0:Nat),.int .i64 (k:Nat)])->w2.grownBy w5 (Value.slice oa x.2.length oc).ownBlock->o8 w w5 w.heap.size (.slice (some ⟨g,0,none⟩) m sc) v' (x.1.take m,x.2++[(x.1.getD m 0,k)])):=fun w5 v' w2 h1 h2 h3=>h1.pair hmx h2 h3
       have HSH:Hid (kY rs br x.1 x.1.length=some m->P=dF t rs (n - (k+1)) (k+1) (x.1.take m,x.2++[(x.1.getD m 0,k)])):=by
        intro hh;rw [HF.out];refine JF hlt ?_;rw [HST.out,hh]
       generalize x.1.getD m 0=aa at*;have Y2:=Ve.out.stay Gr.out.below HB.out.2 aa (by rw [UK.out];omega);generalize rs.getD aa 0=ra at Y2 CN;obtain⟨b2,o2,hb2⟩:∃b2 o2,brk ra=(b2,o2):=⟨_,_,rfl⟩
       rw [hb2]at CN;have aJ:=ah hb2;clear hb2;rw [show((m+1:Nat):Int) - 1=(m:Int)by omega];have han:aa<n:=by omega
       go_wp2_with fail;refine(Wj ra _).mono ?_;rintro ev w2 ⟨rfl,hb2⟩;rw [aJ.out];simp only;have Kv:=ah (Gr.out.call hb2);have ahf:w2.cell? ⟨g,m,none⟩=some (.int .i64 (aa:Nat)):=by rw [hb2.cell (p:=⟨g,m,none⟩) sw];exact hca
       clear hb2 hca Y2;by_cases E3:o2=br
       .have qob:(o2==br)=true:=by simpa using E3
        have HN:Hid (P=dF t rs (n - (k+1)) (k+1) (x.1.take m,x.2++[(aa,k)])):=HSH.out (by rw [HM.out,CN.out,aj E3]);clear E3;have hrow:=Kv.out.out;have hbz:=Kv.out.base;go_wp2_with(at_builtin;refine adb _ rfl _ _ 190 rfl w.heap.size 194 iP (.agg #[.int .i64 0,.int .i64 0]) 16 underlying190 hiP Jd Je Jf rfl (by decide) _ _ _ rfl hrow _ _ _ _ rfl (by simp) rfl rfl (by omega) hbz ?_);intro v' w5 b9 cA;have fC:=ah (zL.out w5 v' w2 Kv.out b9 cA);clear b9 cA hrow;have aok:0<sc:=by omega
        have hmc:m<=sc:=by omega
        go_wp2;go_roundg (n - (k+1));case measure=>omega
        case rel=>exact⟨k+1,_,by omega,rfl,by simp,fC.out,HOP.out,HN.out⟩
       .have qob:(o2==br)=false:=by simpa using E3
        have HN:Hid (kY rs br x.1 x.1.length=kY rs br x.1 m):=by
         show _=_;rw [HM.out,CN.out,ai E3]
        clear E3;go_wp2;go_roundg m;case measure=>omega
        case rel=>exact⟨m,by omega,rfl,rfl,rfl,by simp,Kv.out,HN.out⟩
   .rw [ai h12]at rF;have q12:(c==12)=false:=by simpa using h12
    have ao4:(c !=12)=true:=by simpa using h12
    have HN:Hid (P=dF t rs (n - (k+1)) (k+1) x):=by
     show _=_;rw [HF.out];exact JF hlt rF
    clear rF h12;go_wp2;go_roundg (n - (k+1));case measure=>omega
    case rel=>exact⟨k+1,x,by omega,rfl,by simp,bD.out,dN.out.more,HN.out⟩
  .obtain rfl:k=n:=by omega
   have HN:Hid (P=some x.2):=by
    show _=_;rw [HF.out,nK];rfl
   clear hlt;have HIS:Hid (∀l:List (Nat×Nat),yD x.2 l x.2.length->l.length=x.2.length->ko t rs l):=by
    intro l h1 h2;unfold ko;rw [<-HP.out,HN.out];exact h1.done (by omega)
   obtain⟨L,hL⟩:∃L,L=x.2.length:=⟨_,rfl⟩
   have Om:Hid (wr.ownsRow w.heap.size 194 2 (.slice oa L oc) L (fu x.2)):=by rw [hL];exact HS.out.out
   have xZ:=ah HS.out.below;have Bb:=ah hL.symm;have hLk:L<=k:=by omega
   rw [<-hL]at HIS ⊢;clear hL hx2 HS HF dN;go_wp2;go_loopg [13] (L - 1) (fun gk iv ws=>∃(i:Nat)(l:List (Nat×Nat)),1<=i/\(i<=L∨i=1)/\gk=L - i/\iv= .int .i64 i/\Below w.heap.size w ws/\ws.ownsRow w.heap.size 194 2 (.slice oa L oc) L (fu l)/\yD x.2 l i/\l.length=L);case atStart=>exact⟨1,x.2,by omega,.inr rfl,rfl,rfl,xZ.out,Om.out,⟨OC _,fun a b h1 h2=>by omega⟩,Bb.out⟩
   case round=>
    clear Om xZ;obtain⟨i,l,hi1,hiL,rfl,rfl,hBl,hX,YJ,Dk⟩:=hrel;have xZ:=ah hBl;have HX:=ah hX;have CO:=ah YJ;have zV:=ah Dk;clear hBl hX YJ Dk;by_cases hlt:i<L
    .go_wp2;go_loopg [14] i (fun gk kv ws=>∃(p:Nat)(l:List (Nat×Nat)),p<=i/\p=gk/\kv= .int .i64 p/\Below w.heap.size w ws/\ws.ownsRow w.heap.size 194 2 (.slice oa L oc) L (fu l)/\Bt x.2 l i p/\l.length=L);case atStart=>exact⟨i,l,by omega,rfl,rfl,xZ.out,HX.out,CO.out.sink,zV.out⟩
     case round=>
      clear xZ HX CO zV;obtain⟨p,l',hp,rfl,rfl,hBl,hX,Da,Dk⟩:=hrel;have xZ:=ah hBl;have HX:=ah hX;have Bf:=ah Da;have zV:=ah Dk;cases p with
      |zero=>
       have o5:Hid (yD x.2 l' (i+1)):=Da.done (.inl rfl);clear hBl hX Da Dk;go_wp2;go_region;go_wp2;go_roundg (L - (i+1));case measure=>omega
       case rel=>exact⟨i+1,l',by omega,.inl (by omega),rfl,by simp,xZ.out.drew,HX.out,o5.out,zV.out⟩
      |succ q=>
       obtain⟨g,cap,hv,hcap,sw,hgB⟩:=fS hX (by omega);obtain⟨hv1,hv2⟩:oa=some ⟨g,0,none⟩/\oc=cap:=by simpa using hv
       clear hv;subst hv1;subst hv2;obtain⟨⟨a0,a1⟩,hA⟩:∃a:Nat×Nat,a=l'.getD (q+1) (0,0):=⟨_,rfl⟩
       obtain⟨⟨b0,b1⟩,Hw⟩:∃a:Nat×Nat,a=l'.getD q (0,0):=⟨_,rfl⟩
       have G6:=Sz hX (q+1) (by omega);have cA1:=SA hX (q+1) (by omega);have cB0:=Sz hX q (by omega);have cB1:=SA hX q (by omega);rw [<-hA]at G6 cA1;rw [<-Hw]at cB0 cB1;have L6:key l' (q+1)=a0:=by unfold key;rw [<-hA]
       have L8:key l' q=b0:=by unfold key;rw [<-Hw]
       have fr:=fun j=>Bu hX j
       by_cases hab:a0<b0
       .have Oa:Hid (Bt x.2 (swp l' (q+1)) i q):=Da.swp (by omega) (by omega) (by rw [kr,L6,L8];exact hab);have HA:Hid ((a0,a1)=l'.getD (q+1) (0,0)/\(b0,b1)=l'.getD q (0,0)):=⟨hA,Hw⟩
        clear hBl hX Da Dk hA Hw L6 L8;go_wp2;go_region;go_wp2;go_roundg q;case measure=>omega
        case rel=>
         obtain⟨h1,h2⟩:=HA.out;have hsw:=akb HX.out xZ.out hgB q a0 a1 b0 b1 (.cells #[.int .i64 a0,.int .i64 a1] 194) h1 h2;exact⟨q,swp l' (q+1),by omega,rfl,by simp,hsw.1.drew,hsw.2,Oa.out,by rw [am2];exact zV.out⟩
       .have o5:Hid (yD x.2 l' (i+1)):=Da.done (.inr (by rw [kr,L6,L8];exact hab));clear hBl hX Da Dk hA Hw L6 L8;go_wp2;go_region;go_wp2;go_roundg (L - (i+1));case measure=>omega
        case rel=>exact⟨i+1,l',by omega,.inl (by omega),rfl,by simp,xZ.out.drew,HX.out,o5.out,zV.out⟩
    .have HV:Hid (yD x.2 l L):=⟨CO.out.1,fun a b h1 h2=>CO.out.2 a b h1 (by omega)⟩
     go_wp2;refine cG (v:= .slice oa L oc) (by simp [results,results125,go_sem]) rfl ⟨_,l,rfl,HIS.out l HV.out zV.out,by rw [zV.out];exact hLk,xZ.out,?_⟩;rw [zV.out];exact HX.out
theorem ajq(t:List Int)(cT ax e:Int)(B g n cap:Nat)(w:World)(hr:bf w B g n cap t)(hn:n<=100000):
  Calls prog 127 #[.slice (some ⟨g,0,none⟩) n cap,.int .i64 cT,.int .i64 ax,.int .i64 e] w fun ev w'=>ev= .returned (.tuple #[])/\bf w' B g n cap (Cb cT ax e t)/\w.grownBy w' (some g):=by
 have HR:=ah hr;have HL:=ah hr.len;clear hr;go_enter func127,ntmps127;go_wp2;go_loopg [9] n (fun gk i wr=>∃(k:Nat)(s:Int)(t':List Int),k<=n/\gk=n - k/\i= .int .i64 k/\bf wr B g n cap t'/\w.grownBy wr (some g)/\aV (fN ax e) gN cT t k s t'/\xV t t' cT k s);case atStart=>exact⟨0,cT,t,by omega,rfl,rfl,HR.out,jt _ _,aV.start _ _ _ _,.inl ⟨rfl,rfl⟩⟩
 case round=>
  clear HR;obtain⟨k,s,t',hk,rfl,rfl,hI,hG,hN,hA⟩:=hrel;have HI:=ah hI;have HG:=ah hG;have HN:=ah hN;have HA:=ah hA;clear hI hG hN hA;by_cases hlt:k<n
  .go_wp2;go_loopg [10] (n - k) (fun gk jv wj=>∃j:Nat,k<=j/\j<=n/\gk=n - j/\jv= .int .i64 j/\wj=wr/\∀q,k<=q->q<j->bC (t.getD q 0)<0);case atStart=>exact⟨k,by omega,by omega,rfl,rfl,rfl,fun q h1 h2=>by omega⟩
   case round=>
    obtain⟨j,hkj,hjn,rfl,rfl,hw,hrun⟩:=hrel;subst hw;by_cases sB:j<n
    .have Am:=HI.out.cell j sB;rw [HN.out.at j hkj]at Am;obtain⟨c,hx⟩:∃c,c=t.getD j 0:=⟨_,rfl⟩
     rw [<-hx]at Am;obtain⟨sc,hsc⟩:∃sc,sc=bC c:=⟨_,rfl⟩
     have uQ:=ah hsc;have Om:=ah hx;by_cases h5:sc<0
     .have jN:Hid (∀q,k<=q->q<j+1->bC (t.getD q 0)<0):=by
       intro q h1 h2;rcases cK q j with h|h
       .exact hrun q h1 h
       .rw [show q=j by omega,<-hx,<-hsc];exact h5
      clear hrun hx hsc;go_wp2_with fail;refine(rM c _).mono ?_;rintro ev _ ⟨rfl,rfl⟩;rw [<-uQ.out];go_wp2;go_roundg (n - (j+1));case measure=>omega
      case rel=>exact⟨j+1,by omega,by omega,rfl,by simp,rfl,jN.out⟩
     .by_cases si:k<j
      .have gi:j<=t.length:=by rw [HL.out];omega
       have HE:Hid (qE ax (t.drop j)=sc):=by rw [hsc,hx];exact ajB (by rw [HL.out];exact sB) (by rw [<-hx,<-hsc];exact h5)
       have HX:Hid (j<t.length->¬bC (t.getD j 0)<0):=by intro _;rw [<-hx,<-hsc];exact h5
       clear hx hsc;go_wp2_with fail;refine(rM c _).mono ?_;rintro ev _ ⟨rfl,rfl⟩;rw [<-uQ.out];rcases HA.out with⟨bX,hs'⟩|⟨bX,hs'⟩|hbad
       .subst bX;have kT:cT=s:=hs'.symm;subst kT;by_cases hab:cT=sc
        .have DI:(cT==sc)=true:=by simpa using hab
         have HS:Hid (aV (fN ax e) gN cT t j cT (bL t' 0 cT (j - 0))/\xV t (bL t' 0 cT (j - 0)) cT j cT):=by
          have h1:=AU (d:=cT) HN.out hrun gi (by rw [HE.out,aj hab]) (j - 0) (by omega);rw [show 0+(j - 0)=j by omega]at h1;exact⟨h1,.inr (.inr fun h=>by have:=HX.out h;omega)⟩
         clear hrun gi hab;go_wp2_with fail;refine(rM c _).mono ?_;rintro ev _ ⟨rfl,rfl⟩;rw [<-uQ.out];go_wp2;go_loopg [14] (j - 0) (fun gk qv wq=>∃m:Nat,0+m<=j/\gk=j - 0 - m/\qv= .int .i64 ((0+m:Nat):Int)/\bf wq B g n cap (bL t' 0 cT m)/\w.grownBy wq (some g));case atStart=>exact⟨0,by omega,rfl,rfl,HI.out,HG.out⟩
         case round=>
          obtain⟨m,hm,rfl,rfl,bO,dH⟩:=hrel;have dG:=ah bO;have fU:=ah dH;by_cases kB:0+m<j
          .have jl:=bO.frozen (0+m);have dR:=bO.cell (0+m) (by omega);generalize(bL t' 0 cT m).getD (0+m) 0=cq at dR;clear bO dH;obtain⟨q,hq⟩:∃q,q=0+m:=⟨_,rfl⟩
           have HQ:=ah hq;rw [<-hq]at jl dR kB ⊢;clear hq;go_wp2;go_roundg (j - 0 - (m+1));case measure=>have:=HQ.out;omega
           case rel=>
            refine⟨m+1,by have:=HQ.out;omega,rfl,by have:=HQ.out;simp;omega,?_,?_⟩
            .rw [HQ.out];exact dG.out.set (0+m) cT
            .exact fU.out.trans (dG.out.grown q cT)
          .obtain rfl:j=m:=by omega
           clear bO dH;have hkm:0+j=j:=by omega
           rw [hkm];clear hkm;go_wp2;go_roundg (n - j);case measure=>omega
           case rel=>exact⟨j,_,_,by omega,rfl,by simp,dG.out,fU.out,HS.out.1,HS.out.2⟩
        .have DI:(cT==sc)=false:=by simpa using hab
         have HS:Hid (aV (fN ax e) gN cT t j cT (bL t' 0 e (j - 0))/\xV t (bL t' 0 e (j - 0)) cT j cT):=by
          have h1:=AU (d:=e) HN.out hrun gi (by rw [HE.out,ai hab]) (j - 0) (by omega);rw [show 0+(j - 0)=j by omega]at h1;exact⟨h1,.inr (.inr fun h=>by have:=HX.out h;omega)⟩
         clear hrun gi hab;go_wp2_with fail;refine(rM c _).mono ?_;rintro ev _ ⟨rfl,rfl⟩;rw [<-uQ.out];go_wp2;go_loopg [14] (j - 0) (fun gk qv wq=>∃m:Nat,0+m<=j/\gk=j - 0 - m/\qv= .int .i64 ((0+m:Nat):Int)/\bf wq B g n cap (bL t' 0 e m)/\w.grownBy wq (some g));case atStart=>exact⟨0,by omega,rfl,rfl,HI.out,HG.out⟩
         case round=>
          obtain⟨m,hm,rfl,rfl,bO,dH⟩:=hrel;have dG:=ah bO;have fU:=ah dH;by_cases kB:0+m<j
          .have jl:=bO.frozen (0+m);have dR:=bO.cell (0+m) (by omega);generalize(bL t' 0 e m).getD (0+m) 0=cq at dR;clear bO dH;obtain⟨q,hq⟩:∃q,q=0+m:=⟨_,rfl⟩
           have HQ:=ah hq;rw [<-hq]at jl dR kB ⊢;clear hq;go_wp2;go_roundg (j - 0 - (m+1));case measure=>have:=HQ.out;omega
           case rel=>
            refine⟨m+1,by have:=HQ.out;omega,rfl,by have:=HQ.out;simp;omega,?_,?_⟩
            .rw [HQ.out];exact dG.out.set (0+m) e
            .exact fU.out.trans (dG.out.grown q e)
          .obtain rfl:j=m:=by omega
           clear bO dH;have hkm:0+j=j:=by omega
           rw [hkm];clear hkm;go_wp2;go_roundg (n - j);case measure=>omega
           case rel=>exact⟨j,_,_,by omega,rfl,by simp,dG.out,fU.out,HS.out.1,HS.out.2⟩
       .obtain⟨k',rfl⟩:∃k',k=k'+1:=⟨k - 1,by omega⟩
        obtain⟨p,hp⟩:∃p,p=t'.getD k' 0:=⟨_,rfl⟩
        have jy:=HI.out.cell k' (by omega);rw [<-hp]at jy;have kT:s=bC p:=by rw [hs',kr,hp]
        have Gq:=ah kT;clear hp hs' kT;by_cases hab:s=sc
        .have DI:(s==sc)=true:=by simpa using hab
         have HS:Hid (aV (fN ax e) gN cT t j s (bL t' (k'+1) s (j - (k'+1)))/\xV t (bL t' (k'+1) s (j - (k'+1))) cT j s):=by
          have h1:=AU (d:=s) HN.out hrun gi (by rw [HE.out,aj hab]) (j - (k'+1)) (by omega);rw [show(k'+1)+(j - (k'+1))=j by omega]at h1;exact⟨h1,.inr (.inr fun h=>by have:=HX.out h;omega)⟩
         clear hrun gi hab;go_wp2_with fail;refine(rM p _).mono ?_;rintro ev _ ⟨rfl,rfl⟩;rw [<-Gq.out];go_wp2_with fail;refine(rM c _).mono ?_;rintro ev _ ⟨rfl,rfl⟩;rw [<-uQ.out];go_wp2;go_loopg [14] (j - (k'+1)) (fun gk qv wq=>∃m:Nat,(k'+1)+m<=j/\gk=j - (k'+1) - m/\qv= .int .i64 (((k'+1)+m:Nat):Int)/\bf wq B g n cap (bL t' (k'+1) s m)/\w.grownBy wq (some g));case atStart=>exact⟨0,by omega,rfl,rfl,HI.out,HG.out⟩
         case round=>
          obtain⟨m,hm,rfl,rfl,bO,dH⟩:=hrel;have dG:=ah bO;have fU:=ah dH;by_cases kB:(k'+1)+m<j
          .have jl:=bO.frozen ((k'+1)+m);have dR:=bO.cell ((k'+1)+m) (by omega);generalize(bL t' (k'+1) s m).getD ((k'+1)+m) 0=cq at dR;clear bO dH;obtain⟨q,hq⟩:∃q,q=(k'+1)+m:=⟨_,rfl⟩
           have HQ:=ah hq;rw [<-hq]at jl dR kB ⊢;clear hq;go_wp2;go_roundg (j - (k'+1) - (m+1));case measure=>have:=HQ.out;omega
           case rel=>
            refine⟨m+1,by have:=HQ.out;omega,rfl,by have:=HQ.out;simp;omega,?_,?_⟩
            .rw [HQ.out];exact dG.out.set ((k'+1)+m) s
            .exact fU.out.trans (dG.out.grown q s)
          .obtain rfl:m=j - (k'+1):=by omega
           clear bO dH;have hkm:(k'+1)+(j - (k'+1))=j:=by omega
           rw [hkm];clear hkm;go_wp2;go_roundg (n - j);case measure=>omega
           case rel=>exact⟨j,_,_,by omega,rfl,by simp,dG.out,fU.out,HS.out.1,HS.out.2⟩
        .have DI:(s==sc)=false:=by simpa using hab
         have HS:Hid (aV (fN ax e) gN cT t j s (bL t' (k'+1) e (j - (k'+1)))/\xV t (bL t' (k'+1) e (j - (k'+1))) cT j s):=by
          have h1:=AU (d:=e) HN.out hrun gi (by rw [HE.out,ai hab]) (j - (k'+1)) (by omega);rw [show(k'+1)+(j - (k'+1))=j by omega]at h1;exact⟨h1,.inr (.inr fun h=>by have:=HX.out h;omega)⟩
         clear hrun gi hab;go_wp2_with fail;refine(rM p _).mono ?_;rintro ev _ ⟨rfl,rfl⟩;rw [<-Gq.out];go_wp2_with fail;refine(rM c _).mono ?_;rintro ev _ ⟨rfl,rfl⟩;rw [<-uQ.out];go_wp2;go_loopg [14] (j - (k'+1)) (fun gk qv wq=>∃m:Nat,(k'+1)+m<=j/\gk=j - (k'+1) - m/\qv= .int .i64 (((k'+1)+m:Nat):Int)/\bf wq B g n cap (bL t' (k'+1) e m)/\w.grownBy wq (some g));case atStart=>exact⟨0,by omega,rfl,rfl,HI.out,HG.out⟩
         case round=>
          obtain⟨m,hm,rfl,rfl,bO,dH⟩:=hrel;have dG:=ah bO;have fU:=ah dH;by_cases kB:(k'+1)+m<j
          .have jl:=bO.frozen ((k'+1)+m);have dR:=bO.cell ((k'+1)+m) (by omega);generalize(bL t' (k'+1) e m).getD ((k'+1)+m) 0=cq at dR;clear bO dH;obtain⟨q,hq⟩:∃q,q=(k'+1)+m:=⟨_,rfl⟩
           have HQ:=ah hq;rw [<-hq]at jl dR kB ⊢;clear hq;go_wp2;go_roundg (j - (k'+1) - (m+1));case measure=>have:=HQ.out;omega
           case rel=>
            refine⟨m+1,by have:=HQ.out;omega,rfl,by have:=HQ.out;simp;omega,?_,?_⟩
            .rw [HQ.out];exact dG.out.set ((k'+1)+m) e
            .exact fU.out.trans (dG.out.grown q e)
          .obtain rfl:m=j - (k'+1):=by omega
           clear bO dH;have hkm:(k'+1)+(j - (k'+1))=j:=by omega
           rw [hkm];clear hkm;go_wp2;go_roundg (n - j);case measure=>omega
           case rel=>exact⟨j,_,_,by omega,rfl,by simp,dG.out,fU.out,HS.out.1,HS.out.2⟩
       .exact absurd (hrun k (ay _) si) (hbad (by rw [HL.out];exact hlt))
      .obtain rfl:j=k:=by omega
       have HS:Hid (aV (fN ax e) gN cT t (j+1) sc t'/\xV t t' cT (j+1) sc):=by
        refine⟨?_,.inr (.inl ⟨by omega,?_⟩)⟩
        .rw [hsc,hx];exact alk HN.out (by rw [HL.out];exact sB) (by rw [<-hx,<-hsc];exact h5)
        .rw [kr,HN.out.at j (ay _),<-hx,hsc]
       clear hx hsc hrun;go_wp2_with fail;refine(rM c _).mono ?_;rintro ev _ ⟨rfl,rfl⟩;rw [<-uQ.out];go_wp2;go_roundg (n - (j+1));case measure=>omega
       case rel=>exact⟨j+1,_,_,by omega,rfl,by simp,HI.out,HG.out,HS.out.1,HS.out.2⟩
    .have gi:j<=t.length:=by rw [HL.out];omega
     have si:k<j:=by omega
     have HE:Hid (qE ax (t.drop j)=ax):=ajC (by rw [HL.out];exact sB);have HX:Hid (j<t.length->¬bC (t.getD j 0)<0):=by intro h;rw [HL.out]at h;exact absurd h sB
     rcases HA.out with⟨bX,hs'⟩|⟨bX,hs'⟩|hbad
     .subst bX;have kT:cT=s:=hs'.symm;subst kT;by_cases hab:cT=ax
      .have DI:(cT==ax)=true:=by simpa using hab
       have HS:Hid (aV (fN ax e) gN cT t j cT (bL t' 0 cT (j - 0))/\xV t (bL t' 0 cT (j - 0)) cT j cT):=by
        have h1:=AU (d:=cT) HN.out hrun gi (by rw [HE.out,aj hab]) (j - 0) (by omega);rw [show 0+(j - 0)=j by omega]at h1;exact⟨h1,.inr (.inr fun h=>by have:=HX.out h;omega)⟩
       clear hrun gi hab;go_wp2;go_loopg [14] (j - 0) (fun gk qv wq=>∃m:Nat,0+m<=j/\gk=j - 0 - m/\qv= .int .i64 ((0+m:Nat):Int)/\bf wq B g n cap (bL t' 0 cT m)/\w.grownBy wq (some g));case atStart=>exact⟨0,by omega,rfl,rfl,HI.out,HG.out⟩
       case round=>
        obtain⟨m,hm,rfl,rfl,bO,dH⟩:=hrel;have dG:=ah bO;have fU:=ah dH;by_cases kB:0+m<j
        .have jl:=bO.frozen (0+m);have dR:=bO.cell (0+m) (by omega);generalize(bL t' 0 cT m).getD (0+m) 0=cq at dR;clear bO dH;obtain⟨q,hq⟩:∃q,q=0+m:=⟨_,rfl⟩
         have HQ:=ah hq;rw [<-hq]at jl dR kB ⊢;clear hq;go_wp2;go_roundg (j - 0 - (m+1));case measure=>have:=HQ.out;omega
         case rel=>
          refine⟨m+1,by have:=HQ.out;omega,rfl,by have:=HQ.out;simp;omega,?_,?_⟩
          .rw [HQ.out];exact dG.out.set (0+m) cT
          .exact fU.out.trans (dG.out.grown q cT)
        .obtain rfl:j=m:=by omega
         clear bO dH;have hkm:0+j=j:=by omega
         rw [hkm];clear hkm;go_wp2;go_roundg (n - j);case measure=>omega
         case rel=>exact⟨j,_,_,by omega,rfl,by simp,dG.out,fU.out,HS.out.1,HS.out.2⟩
      .have DI:(cT==ax)=false:=by simpa using hab
       have HS:Hid (aV (fN ax e) gN cT t j cT (bL t' 0 e (j - 0))/\xV t (bL t' 0 e (j - 0)) cT j cT):=by
        have h1:=AU (d:=e) HN.out hrun gi (by rw [HE.out,ai hab]) (j - 0) (by omega);rw [show 0+(j - 0)=j by omega]at h1;exact⟨h1,.inr (.inr fun h=>by have:=HX.out h;omega)⟩
       clear hrun gi hab;go_wp2;go_loopg [14] (j - 0) (fun gk qv wq=>∃m:Nat,0+m<=j/\gk=j - 0 - m/\qv= .int .i64 ((0+m:Nat):Int)/\bf wq B g n cap (bL t' 0 e m)/\w.grownBy wq (some g));case atStart=>exact⟨0,by omega,rfl,rfl,HI.out,HG.out⟩
       case round=>
        obtain⟨m,hm,rfl,rfl,bO,dH⟩:=hrel;have dG:=ah bO;have fU:=ah dH;by_cases kB:0+m<j
        .have jl:=bO.frozen (0+m);have dR:=bO.cell (0+m) (by omega);generalize(bL t' 0 e m).getD (0+m) 0=cq at dR;clear bO dH;obtain⟨q,hq⟩:∃q,q=0+m:=⟨_,rfl⟩
         have HQ:=ah hq;rw [<-hq]at jl dR kB ⊢;clear hq;go_wp2;go_roundg (j - 0 - (m+1));case measure=>have:=HQ.out;omega
         case rel=>
          refine⟨m+1,by have:=HQ.out;omega,rfl,by have:=HQ.out;simp;omega,?_,?_⟩
          .rw [HQ.out];exact dG.out.set (0+m) e
          .exact fU.out.trans (dG.out.grown q e)
        .obtain rfl:j=m:=by omega
         clear bO dH;have hkm:0+j=j:=by omega
         rw [hkm];clear hkm;go_wp2;go_roundg (n - j);case measure=>omega
         case rel=>exact⟨j,_,_,by omega,rfl,by simp,dG.out,fU.out,HS.out.1,HS.out.2⟩
     .obtain⟨k',rfl⟩:∃k',k=k'+1:=⟨k - 1,by omega⟩
      obtain⟨p,hp⟩:∃p,p=t'.getD k' 0:=⟨_,rfl⟩
      have jy:=HI.out.cell k' (by omega);rw [<-hp]at jy;have kT:s=bC p:=by rw [hs',kr,hp]
      have Gq:=ah kT;clear hp hs' kT;by_cases hab:s=ax
      .have DI:(s==ax)=true:=by simpa using hab
       have HS:Hid (aV (fN ax e) gN cT t j s (bL t' (k'+1) s (j - (k'+1)))/\xV t (bL t' (k'+1) s (j - (k'+1))) cT j s):=by
        have h1:=AU (d:=s) HN.out hrun gi (by rw [HE.out,aj hab]) (j - (k'+1)) (by omega);rw [show(k'+1)+(j - (k'+1))=j by omega]at h1;exact⟨h1,.inr (.inr fun h=>by have:=HX.out h;omega)⟩
       clear hrun gi hab;go_wp2_with fail;refine(rM p _).mono ?_;rintro ev _ ⟨rfl,rfl⟩;rw [<-Gq.out];go_wp2;go_loopg [14] (j - (k'+1)) (fun gk qv wq=>∃m:Nat,(k'+1)+m<=j/\gk=j - (k'+1) - m/\qv= .int .i64 (((k'+1)+m:Nat):Int)/\bf wq B g n cap (bL t' (k'+1) s m)/\w.grownBy wq (some g));case atStart=>exact⟨0,by omega,rfl,rfl,HI.out,HG.out⟩
       case round=>
        obtain⟨m,hm,rfl,rfl,bO,dH⟩:=hrel;have dG:=ah bO;have fU:=ah dH;by_cases kB:(k'+1)+m<j
        .have jl:=bO.frozen ((k'+1)+m);have dR:=bO.cell ((k'+1)+m) (by omega);generalize(bL t' (k'+1) s m).getD ((k'+1)+m) 0=cq at dR;clear bO dH;obtain⟨q,hq⟩:∃q,q=(k'+1)+m:=⟨_,rfl⟩
         have HQ:=ah hq;rw [<-hq]at jl dR kB ⊢;clear hq;go_wp2;go_roundg (j - (k'+1) - (m+1));case measure=>have:=HQ.out;omega
         case rel=>
          refine⟨m+1,by have:=HQ.out;omega,rfl,by have:=HQ.out;simp;omega,?_,?_⟩
          .rw [HQ.out];exact dG.out.set ((k'+1)+m) s
          .exact fU.out.trans (dG.out.grown q s)
        .obtain rfl:m=j - (k'+1):=by omega
         clear bO dH;have hkm:(k'+1)+(j - (k'+1))=j:=by omega
         rw [hkm];clear hkm;go_wp2;go_roundg (n - j);case measure=>omega
         case rel=>exact⟨j,_,_,by omega,rfl,by simp,dG.out,fU.out,HS.out.1,HS.out.2⟩
      .have DI:(s==ax)=false:=by simpa using hab
       have HS:Hid (aV (fN ax e) gN cT t j s (bL t' (k'+1) e (j - (k'+1)))/\xV t (bL t' (k'+1) e (j - (k'+1))) cT j s):=by
        have h1:=AU (d:=e) HN.out hrun gi (by rw [HE.out,ai hab]) (j - (k'+1)) (by omega);rw [show(k'+1)+(j - (k'+1))=j by omega]at h1;exact⟨h1,.inr (.inr fun h=>by have:=HX.out h;omega)⟩
       clear hrun gi hab;go_wp2_with fail;refine(rM p _).mono ?_;rintro ev _ ⟨rfl,rfl⟩;rw [<-Gq.out];go_wp2;go_loopg [14] (j - (k'+1)) (fun gk qv wq=>∃m:Nat,(k'+1)+m<=j/\gk=j - (k'+1) - m/\qv= .int .i64 (((k'+1)+m:Nat):Int)/\bf wq B g n cap (bL t' (k'+1) e m)/\w.grownBy wq (some g));case atStart=>exact⟨0,by omega,rfl,rfl,HI.out,HG.out⟩
       case round=>
        obtain⟨m,hm,rfl,rfl,bO,dH⟩:=hrel;have dG:=ah bO;have fU:=ah dH;by_cases kB:(k'+1)+m<j
        .have jl:=bO.frozen ((k'+1)+m);have dR:=bO.cell ((k'+1)+m) (by omega);generalize(bL t' (k'+1) e m).getD ((k'+1)+m) 0=cq at dR;clear bO dH;obtain⟨q,hq⟩:∃q,q=(k'+1)+m:=⟨_,rfl⟩
         have HQ:=ah hq;rw [<-hq]at jl dR kB ⊢;clear hq;go_wp2;go_roundg (j - (k'+1) - (m+1));case measure=>have:=HQ.out;omega
         case rel=>
          refine⟨m+1,by have:=HQ.out;omega,rfl,by have:=HQ.out;simp;omega,?_,?_⟩
          .rw [HQ.out];exact dG.out.set ((k'+1)+m) e
          .exact fU.out.trans (dG.out.grown q e)
        .obtain rfl:m=j - (k'+1):=by omega
         clear bO dH;have hkm:(k'+1)+(j - (k'+1))=j:=by omega
         rw [hkm];clear hkm;go_wp2;go_roundg (n - j);case measure=>omega
         case rel=>exact⟨j,_,_,by omega,rfl,by simp,dG.out,fU.out,HS.out.1,HS.out.2⟩
     .exact absurd (hrun k (ay _) si) (hbad (by rw [HL.out];exact hlt))
  .have HE:Hid (t'=Cb cT ax e t):=HN.out.stop (by rw [HL.out];exact hlt);go_wp2;go_end0;exact⟨rfl,HE.out▸HI.out,HG.out⟩
