import Derived.Test.YtkbinfhclaafhaaGreatDoorW07
import Derived.Lib.TrimU
import Derived.Lib.IndexBytes
namespace Go.Proofs.YtkbinfhclaafhaaGreatDoor
open Go.RowKit
open Go.Proofs.Tryz
set_option maxRecDepth 100000
set_option maxHeartbeats 32000000
set_option linter.all false
open Go.Value renaming int->Y,slice->R,string->cd,bool->ce,tuple->de,agg->df
open Go.IntKind renaming i64->Z
open Option renaming none->U,some->V
open Go.Addr renaming mk->S
open Go.Obj renaming cells->bi
open Go.Ending renaming returned->bj
open Go renaming World->cw,Value->cJ,Calls->cP
open Go.RowKit renaming Below->cD,Hid->dd
open Bool renaming false->da,true->db
section
attribute [local go_sem ↓] Go.wp_at_zero Go.wp_at_succ
def mL(g:Nat)(left:ba)(a:List<|Nat×Nat):List MapEntry:=a.zipIdx.map λx=>⟨Y Z ((left.getD x.1.1 0:Nat):Int),qh g x.1,x.2⟩
def akl(g:Nat)(left:ba)(a:List<|Nat×Nat)(b:Nat×Nat):mL g left (a++[b])=mL g left a++[⟨Y Z ((left.getD b.1 0:Nat):Int),qh g b,a.length⟩]:=by unfold mL;rw[List.zipIdx_append,gu];simp
def tE {g:Nat}{left:ba}{a:List (Nat×Nat)}{m:MapEntry}(h:m∈mL g left a):∃b∈a,m.key=Y Z ((left.getD b.1 0:Nat):Int):=by unfold mL at h;obtain⟨x,hx,rfl⟩:=jX.1 h;exact⟨x.1,List.fst_mem_of_mem_zipIdx hx,rfl⟩
def tB {g:Nat}{left:ba}{a:List (Nat×Nat)}{m:MapEntry}{j:Nat}(h:(mL g left a)[j]? =V m):j<a.length/\m.key=Y Z ((left.getD (a.getD j (0,0)).1 0:Nat):Int)/\m.val=qh g (a.getD j (0,0)):=by
 unfold mL at h;rw[jC,List.getElem?_zipIdx]at h;rcases dc j a.length with b|b
 .rw[aK b]at h;have e:a.getD j (0,0)=a[j]:=by rw[aN,aK b];rfl
  simp only[IP,CZ,fV]at h;subst h;rw[e];exact⟨b,rfl,rfl⟩
 rw[tI b]at h;cases h
def akk {g:Nat}{left:ba}{a:List (Nat×Nat)}{j:Nat}(b:j<a.length):∃m∈mL g left a,m.key=Y Z ((left.getD (a.getD j (0,0)).1 0:Nat):Int):=by refine⟨⟨Y Z ((left.getD (a.getD j (0,0)).1 0:Nat):Int),qh g<|a.getD j (0,0),j⟩,?_,rfl⟩;unfold mL;refine jX.2 ⟨(a.getD j (0,0),j),?_,rfl⟩;rw[List.mem_zipIdx_iff_getElem?,aN,aK b];rfl
def wN(g:Nat)(a:List<|Nat×Nat):Option Nat->cJ
 |some k=>qh g<|a.getD k (0,0)
 |none=>R U 0 0
def AL {left:ba}{ab:Nat×Nat}(h:ab.1<ab.2/\ab.2<=left.length):(ey left ab).headD 0=left.getD ab.1 0/\ey left ab≠[]/\(ey left ab).length=ab.2 - ab.1:=YW h.1 h.2
def Qv(left:ba)(a:List<|Nat×Nat)(k:Nat)(b:k<a.length):(a.map<|ey left).getD k []=ey left (a.getD k (0,0)):=by rw[aN,jC,aN,aK b];rfl
def Wz {n:Nat}{a:List ba}(h:nt n a){i j:Nat}(f:i<a.length)(g:j<a.length)(e:(a.getD i []).headD 0=(a.getD j []).headD 0):i=j:=by have b:=head_mem<|h.ne _ (dP (d:=[]) f);have c:=head_mem<|h.ne _ (dP (d:=[]) g);rw[e]at b;exact Qr h.vC b c
def ZB:prog.underlying 217=V (.map 3 31):=by kernel_rfl
def tO {w:cw}{G g n:Nat}{left:ba}{b:List (Nat×Nat)}{c:aw}(t:w.1[G]? =V (.map (mL g left b).toArray b.length))(o:∀p∈b,p.1<p.2/\p.2<=left.length)(F:nt n<|b.map<|ey left)(z:c.length=n)(a:Nat):(Instr.lookup 217 (.map<|V G) (Y Z<|um c a) da).run prog w= .ok (wN g b<|iK c (b.map<|ey left) a) w:=by
 have J:(zeroValue 31).run prog w= .ok (R U 0 0) w:=by kernel_rfl
 have l:∀m∈(mL g left b).toArray.toList,∃x,m.key=Y Z x:=λm t=>by obtain⟨p,_,h⟩:=tE (by simpa using t);exact⟨_,h⟩
 have C:∀k,k<b.length->((b.map<|ey left).getD k []).headD 0=left.getD (b.getD k (0,0)).1 0:=λk i=>by rw[Qv _ _ _ i];exact(AL<|o _ (dP i)).1
 rcases agW underlying3 w (um c a) (mL g left b).toArray.toList l with⟨v,y⟩|⟨j,m,v,y,D⟩
 .rw[agY da ZB J t (λu=>YN underlying3 w _ u) v];have:iK c (b.map<|ey left) a=U:=by
   unfold iK;split
   .rename_i q;cases i:vB (b.map<|ey left) (mt c a) (b.map<|ey left).length with
    |none=>rfl
    |some k=>exfalso;obtain⟨e,f⟩:=G9 _ _ i;rw[jh]at e;rw[C k e]at f;obtain⟨m,K,A⟩:=akk (g:=g) (left:=left) e;refine y m (by simpa using K) ?_;rw[A,f,um,aj q,aj];have B:mt c a∈ey left (b.getD k (0,0)):=(by have:=head_mem (AL<|o _ (dP (d:=(0,0)) e)).2.1;rw[(AL<|o _ (dP (d:=(0,0)) e)).1,f]at this;exact this);rw[z];exact F.lt _ (jX.2 ⟨_,dP (d:=(0,0)) e,rfl⟩) _ B
   rfl
  rw[this];rfl
 rw[agZ da ZB t (λu=>YN underlying3 w _ u) v];obtain⟨s,i,I⟩:=tB (by simpa using y);rw[i]at D;have r:((left.getD (b.getD j (0,0)).1 0:Nat):Int)=um c a:=by injection D
 have q:aU (c.getD a 0)=db:=by by_cases h:aU (c.getD a 0)=db;exact h;rw[um,ai h]at r;omega
 rw[um,aj q]at r;have H:mt c a<c.length:=by by_cases h:mt c a<c.length;exact h;rw[ai h]at r;omega
 rw[aj H]at r;have E:left.getD (b.getD j (0,0)).1 0=mt c a:=by omega
 have:iK c (b.map<|ey left) a=V j:=by
  unfold iK;rw[aj q];cases i:vB (b.map<|ey left) (mt c a) (b.map<|ey left).length with
  |none=>exfalso;refine afw _ i j (by rw[jh];exact s) ?_;rw[C j s,E]
  |some k=>obtain⟨e,f⟩:=G9 _ _ i;congr 1;refine Wz F e (by rw[jh];exact s) ?_;rw[f,C j s,E]
 rw[this,I];rfl
def akm {w:cw}{s g n:Nat}{left:ba}{a:List (Nat×Nat)}{k:Nat}(d:k<a.length)(r:w.1[s]? =V (.map (mL g left (a.take k)).toArray k))(f:∀l∈a,l.1<l.2/\l.2<=left.length)(z:nt n<|a.map<|ey left):(Instr.mapUpdate 217 (.map<|V s) (Y Z ((left.getD (a.getD k (0,0)).1 0:Nat):Int))<|qh g<|a.getD k (0,0)).run prog w= .ok () (ChangeMaps.setBlock w s (.map (mL g left (a.take<|k+1)).toArray (k+1))):=by
 have c:∀m∈(mL g left (a.take k)).toArray.toList,∃x,m.key=Y Z x:=λm r=>by obtain⟨l,_,h⟩:=tE (by simpa using r);exact⟨_,h⟩
 rcases agW underlying3 w ((left.getD (a.getD k (0,0)).1 0:Nat):Int) (mL g left (a.take k)).toArray.toList c with⟨t,u⟩|⟨j,m,t,u,o⟩
 .have e:=ag1 (val:=qh g<|a.getD k (0,0)) ZB r (YN underlying3 w _ da) t;rw[e];have y:a.take (k+1)=a.take k++[a.getD k (0,0)]:=by rw[uO,aK d,aN,aK d];rfl
  rw[y,akl,tM,kG<|gV d];simp
 exfalso;obtain⟨A,q,_⟩:=tB (by simpa using u);rw[tM]at A;have p:j<k:=by omega
 have b:j<a.length:=by omega
 rw[q]at o;have v:(a.take k).getD j (0,0)=a.getD j (0,0):=by rw[aN,Pj p,<-aN]
 rw[v]at o;have B:((left.getD (a.getD j (0,0)).1 0:Nat):Int)=((left.getD (a.getD k (0,0)).1 0:Nat):Int):=by injection o
 have:=Wz z (i:=j) (j:=k) (by rw[jh];exact b) (by rw[jh];exact d) (by rw[Qv _ _ _ b,Qv _ _ _ d,(AL<|f _ (dP b)).1,(AL<|f _ (dP d)).1];omega);omega
def arR(W:cw)(L:LP)(u v:aw)(h:LX W L u v)(q r j g l s m y a:Nat)(left:ba)(b:List<|Nat×Nat)(J:W.cell? (S q 0 U)=V (.pointer<|V<|S L.lb 0 U))(G:W.cell? (S r 0 U)=V (.map<|V j))(p:W.1[j]? =V (.map (mL g left b).toArray b.length))(d:∀k∈b,k.1<k.2/\k.2<=left.length)(n:nt L.n<|b.map<|ey left) (F:0<m) (M:m<=1000) (E:W.cell? ⟨l,s+(m - 1),U⟩=V (Y Z ((a:Nat):Int))) (c:a<L.n):cP prog 155 #[.slice (V<|S l s U) m y,.pointer<|V<|S r 0 U,.pointer<|V<|S q 0 U] W λe f=>e=bj (wN g b<|iK L.cs (b.map<|ey left) a)/\cD W.1.size W f:=by
 have o:=tO (w:=W) p d n h.len a;have x:dd (∀i,cD W.1.size W i->cP prog 156 #[.pointer<|V<|S L.lb 0 U,Y Z a] i λe f=>e=bj (Y Z<|um L.cs a)/\f=i):=λi z=>apK i L u v (h.below z) a c
 have t:(Instr.lookup 217 (.map<|V j) (Y Z<|um L.cs a) da).run prog W.drew= .ok (wN g b<|iK L.cs (b.map<|ey left) a) W.drew:=tO (w:=W.drew) p d n h.len a;clear h p d n o;generalize um L.cs a=N at*;generalize wN g b (iK L.cs (b.map<|ey left) a)=nv at*;have A:(1:Int)<=(m:Int):=by omega
 have B:(0:Int)<=(m:Int) - 1:=by omega
 have C:(m:Int) - 1<(m:Int):=by omega
 have H:(m:Int)<=(m:Int):=by omega
 have D:(0:Int)<(m:Int):=by omega
 have K:IntKind.i64.wrap ((m:Int) - 1)=(m:Int) - 1:=O7 _ ⟨by omega,by omega⟩;go_enter func155,ntmps155;go_wp2
 go_region_held3 (λf=>f.cell? (S r 0 U)=V (.map<|V j)/\f.cell? (S q 0 U)=V (.pointer<|V<|S L.lb 0 U)/\f.cell? ⟨l,s+(m - 1),U⟩=V (Y Z ((a:Nat):Int))) (go_keep)
  (first|(go_at_call 156;refine(x _ (aA _ _).drew).mono ?_;rintro I O ⟨rfl,rfl⟩))
 all_goals
  go_wp2;go_ret;exact⟨rfl,(aA _ _).drew⟩
end
structure jk where
 sb:Nat
 gr:Nat
 cr:Nat
 gc:Nat
 cc:Nat
 gb:Nat
 gp:Nat
 op:Nat
 cp:Nat
 m:Nat
 at':ba
def jk.ptr(q:jk):cJ:= .pointer (V<|S q.sb 0 U)
structure qZ(W:World)(B:Nat)(L:LP)(ks ls:aw)(q:jk):Prop where
 sq:aZ W B q.sb q.gc q.m q.cc (.slice (some ⟨q.gp,q.op,none⟩) q.m q.cp) (.slice (some ⟨q.gr,0,none⟩) q.m q.cr) (.slice (some ⟨q.gb,0,none⟩) q.m q.m) (ls.getD (q.at'.headD 0) 0) (jA (ls.getD (q.at'.headD 0) 0)<|lD ls (aO L.cs) L.p<|q.at'.headD 0) (jA (ls.getD (q.at'.headD 0) 0)<|rz L.cs ls (aO L.cs) L.p<|q.at'.getLastD 0)<|bz ks q.at'
 ru:W.ownsRow B 21 1 (.slice (some ⟨q.gr,0,none⟩) q.m q.cr) q.m<|qN<|bz L.rs q.at'
 be:aW W B 108 q.gb q.m<|iv<|bz ks q.at'
 pl:bJ W q.gp q.op<|nl q.at'
 ty:∃cs fr,W.1[q.gp]? =some (.cells cs 3 fr)
 lo:B<=q.gp/\B<=q.sb
 ne:q.gb≠q.gc
 len:q.at'.length=q.m
 pos:0<q.m
section
variable{W W':World}{B:Nat}{L:LP}{ks ls:List Int}{q:jk}
def AE {w:cw}{B c:Nat}{e:TypeId}{z n:Nat}{v:cJ}{d:List cJ}(h:w.ownsRow B e z v n d)(k:c<=B):w.ownsRow c e z v n d:=by refine⟨h.1,?_⟩;rcases h.2 with h|⟨g,a,b,f,i,j⟩;exact .inl h;exact .inr ⟨g,a,b,f,bM k i,j⟩
def qZ.base {b:Nat}(h:qZ W B L ks ls q)(a:b<=B):qZ W b L ks ls q:=
 ⟨⟨h.sq.cell,AE h.sq.row a⟩,AE h.ru a,AE h.be a,h.pl,h.ty,⟨bM a h.lo.1,bM a h.lo.2⟩,h.ne,h.len,h.pos⟩
def qZ.below(h:qZ W B L ks ls q)(a:cD W.1.size W W'):qZ W' B L ks ls q:=by obtain⟨c,d,b⟩:=h.ty;exact⟨h.sq.below a,fS h.ru a,fS h.be a,h.pl.below a,⟨c,d,aR a b⟩,h.lo,h.ne,h.len,h.pos⟩
def qZ.grown {r:Nat}(h:qZ W B L ks ls q)(a:W.grownBy W'<|V r)(g:q.sb≠r)(i:q.gc≠r)(j:q.gr≠r)(k:q.gb≠r)(c:q.gp≠r):qZ W' B L ks ls q:=by obtain⟨d,f,b⟩:=h.ty;exact⟨⟨(a.block q.sb (dg h.sq.cell) λe=>g<|aI e).trans h.sq.cell,jw h.sq.row a i⟩,jw h.ru a j,jw h.be a k,h.pl.grown a c,⟨d,f,(a.block q.gp (dg b) λe=>c<|aI e).trans b⟩,h.lo,h.ne,h.len,h.pos⟩
end
def Fw(q a:jk):Prop:=q.gc≠a.gc/\q.gb≠a.gc/\q.gc≠a.gb
structure zV(W:World)(B:Nat)(L:LP)(ks ls:aw)(av:Value)(qs:List jk):Prop where
 row:W.ownsRow B 146 1 av qs.length<|qs.map jk.ptr
 all:∀q∈qs,qZ W B L ks ls q
 ap:qs.Pairwise Fw
def BO {w:cw}{B g n c z:Nat}{e:TypeId}{l:List cJ}(h:w.ownsRow B e z (.slice (V<|S g 0 U) n c) n l):∃a,w.1[g]? =V (bi a e (0,0)):=by rcases h.2 with⟨b,_⟩|⟨m,d,a,b,_,k,_⟩;cases b;injection b with f;injection f with i;injection i with j;subst j;exact⟨a,k⟩
section
variable{W W':World}{B:Nat}{L:LP}{ks ls:List Int}{av av':Value}{qs:List jk}{q:jk}
def zV.below(h:zV W B L ks ls av qs)(a:cD W.1.size W W'):zV W' B L ks ls av qs:=⟨fS h.row a,λq b=>(h.all q b).below a,h.ap⟩
def yL {w:cw}{k:Nat}{a b:Array cJ}{s t:TypeId}{f g:Nat×Nat}(h:w.1[k]? =V (bi a s f))(c:w.1[k]? =V (bi b t g)):s=t:=by rw[h]at c;injection c with c;injection c
def zV.push(h:zV W B L ks ls av qs)(t:qZ W B L ks ls q)(f:∀u∈qs,Fw u q)(e:W'.ownsRow B 146 1 av' (qs.length+1)<|qs.map jk.ptr++[q.ptr])(c:W.grownBy W' av.ownBlock):zV W' B L ks ls av' (qs++[q]):=by
 have key:∀x,qZ W B L ks ls x->qZ W' B L ks ls x:=λx hx=>by rcases h.row.2 with⟨rfl,_⟩|⟨g,A,j,rfl,_,d,_⟩;exact hx.below ⟨c.os,c.tape,c.output,c.size,λk s=>c.block k s<|by simp[Value.ownBlock]⟩;have i:W.grownBy W' (V g):=c;obtain⟨v,l⟩:=BO hx.sq.row;obtain⟨w,m⟩:=BO hx.ru;obtain⟨y,n⟩:=BO hx.be;obtain⟨z,C,o⟩:=hx.ty;refine hx.grown i ?_ ?_ ?_ ?_ ?_;rintro rfl;exact absurd (yL hx.sq.cell d) (by decide);rintro rfl;exact absurd (yL l d) (by decide);rintro rfl;exact absurd (yL m d) (by decide);rintro rfl;exact absurd (yL n d) (by decide);rintro rfl;exact absurd (yL o d)<|by decide
 refine⟨by rw[bG,gu];exact e,?_,?_⟩;intro x hx;rcases ji.1 hx with hx|hx;exact key x<|h.all x hx;rw[r7.1 hx];exact key q t;rw[ajm];exact⟨h.ap,List.pairwise_singleton _ _,λa p b r=>by rw[r7.1 r];exact f a p⟩
end
structure Bo(W:World)(B Bi gp op m cp:Nat)(at':ba):Prop where
 pl:bJ W gp op<|nl at'
 ty:∃cs fr,W.1[gp]? =some (.cells cs 3 fr)
 lo:B<=gp
 len:at'.length=m
 fo:cp=m∨(op=0/\W.ownsRow Bi 3 1 (.slice (some ⟨gp,0,none⟩) m cp) m (iv<|nl at'))
def Bo.below {W f:cw}{B e i j m g:Nat}{a:ba}(h:Bo W B e i j m g a)(c:cD W.1.size W f):Bo f B e i j m g a:=by obtain⟨k,l,d⟩:=h.ty;refine⟨h.pl.below c,⟨k,l,aR c d⟩,h.lo,h.len,?_⟩;rcases h.fo with b|⟨b,n⟩;exact .inl b;exact .inr ⟨b,fS n c⟩
def Bo.own {W:cw}{B b g n c:Nat}{a:ba}(h:W.ownsRow b 3 1 (.slice (V<|S g 0 U) n c) n<|iv<|nl a)(e:B<=b):Bo W B b g 0 n c a:=by obtain⟨d,f⟩:=BO h;refine⟨λk i=>by rw[fV];exact jx h k i,⟨d,_,f⟩,bM e (h.lt g rfl).1,?_,.inr ⟨rfl,h⟩⟩;have:=h.1;simpa [iv,nl]using this
def RQ(l:aw)(a:ba):(bz l a).length=a.length:=by simp[bz]
section
attribute [local go_sem ↓] Go.wp_at_zero Go.wp_at_succ
def asu(W:cw)(b:Nat)(o:Obj):W.grownBy (ChangeMaps.setBlock W b o) (V b):=⟨rfl,rfl,rfl,by simp[ChangeMaps.setBlock],λk _ a=>by simp[ChangeMaps.setBlock,Cu (show b≠k from λe=>a<|by rw[e])]⟩
def UT {W:cw}{a:Addr}{v:cJ}{b c:Nat}{d:Array MapEntry}(h:W.cell? a=V v)(f:W.1[b]? =V (.map d c)):a.block≠b:=by intro e;simp[World.cell?,e,f]at h
def Ek.below {w d:cw}{B g:Nat}{v:cJ}{left:ba}{c:List (Nat×Nat)}(h:Ek w B v g left c)(a:cD w.1.size w d):Ek d B v g left c:=
 ⟨fS h.row a,h.lf.below a,h.ok,λb=>⟨(h.lt b).1,lW (h.lt b).2 a.size⟩,λb=>by obtain⟨e,f⟩:=h.ty b;exact⟨e,aR a f⟩⟩
structure SE(W:World)(B lx mx mb g:Nat)(L:LP)(rv:Value)(left:ba)(aH:List<|Nat×Nat)(k:Nat):Prop where
 lh:W.1[lx]? =some (.cells #[.pointer<|some ⟨L.lb,0,none⟩] 136 (0,0))
 mh:W.1[mx]? =some (.cells #[.map<|some mb] 217 (0,0))
 mp:W.1[mb]? =some (.map (mL g left (aH.take k)).toArray k)
 r:Ek W B rv g left aH
section
variable{W W':World}{B lx mx mb g k:Nat}{L:LP}{rv:Value}{left:List Nat}{aH:List (Nat×Nat)}
def SE.l(h:SE W B lx mx mb g L rv left aH k):W.cell? (S lx 0 U)=V (.pointer<|V<|S L.lb 0 U):=az h.lh 0
def SE.m(h:SE W B lx mx mb g L rv left aH k):W.cell? (S mx 0 U)=V (.map<|V mb):=az h.mh 0
def SE.below(h:SE W B lx mx mb g L rv left aH k)(a:cD W.1.size W W'):SE W' B lx mx mb g L rv left aH k:=
 ⟨aR a h.lh,aR a h.mh,aR a h.mp,h.r.below a⟩
def SE.store(h:SE W B lx mx mb g L rv left aH k):SE (ChangeMaps.setBlock W mb (.map (mL g left (aH.take<|k+1)).toArray (k+1))) B lx mx mb g L rv left aH (k+1):=by
 have b:=asu W mb (.map (mL g left (aH.take<|k+1)).toArray (k+1));have j:=UT h.l h.mp;have l:=UT h.m h.mp;refine⟨(b.block lx (dg h.lh) λe=>j<|aI e).trans h.lh,(b.block mx (dg h.mh) λe=>l<|aI e).trans h.mh,ahf h.mp,?_⟩;have m:∀a:left≠[],g≠mb:=λa e=>by obtain⟨d,c⟩:=h.r.ty a;rw[e,h.mp]at c;cases c
 refine⟨eW h.r.row b (.inr<|RD h.r.row h.mp),λi f=>cell_grown b (h.r.lf i f) λe=>UT (h.r.lf i f) h.mp<|aI e,h.r.ok,λa=>⟨(h.r.lt a).1,lW (h.r.lt a).2 b.size⟩,λa=> ?_⟩;obtain⟨d,c⟩:=h.r.ty a;exact⟨d,(b.block g (dg c) λe=>m a<|aI e).trans c⟩
end
def SE.app {W o:cw}{B j m l g k:Nat}{L:LP}{t:cJ}{left:ba}{p:List (Nat×Nat)}{u n:Nat}{f:cJ}{v:List cJ}(h:SE W B j m l g L t left p k)(a:W.ownsRow u 146 1 f n v)(b:W.grownBy o f.ownBlock):SE o B j m l g L t left p k:=by
 refine⟨(b.block j (dg h.lh) λe=>kq a h.lh (by decide) e.symm).trans h.lh,(b.block m (dg h.mh) λe=>kq a h.mh (by decide) e.symm).trans h.mh,(b.block l (dg h.mp) λe=>RD a h.mp e.symm).trans h.mp,?_⟩;have s:left≠[]->V g≠f.ownBlock:=λc e=>by obtain⟨q,d⟩:=h.r.ty c;exact kq a d (by decide) e.symm
 refine⟨eW h.r.row b<|mP h.r.row a<|by decide,λi r=>cell_grown b (h.r.lf i r)<|s<|by rintro rfl;simp[nl]at r,h.r.ok,λc=>⟨(h.r.lt c).1,lW (h.r.lt c).2 b.size⟩,λc=> ?_⟩;obtain⟨q,d⟩:=h.r.ty c;exact⟨q,(b.block g (dg d)<|s c).trans d⟩
def afz(left:ba)(a b:Nat):nl (ey left (a,b))=((nl left).take b).drop a:=by simp[nl,ey,fU,List.map_drop]
def Tryz.aos:(prog.info? 146).map (λi=>(i.zero,i.size,i.bytes))=V (V (.pointer U),1,8):=by kernel_rfl
def akq(a:aw)(r:ba)(p:Nat)(b:r.headD 0=p):iG a r= !(a.getD p 0==21&&decide (0<=opener a p)):=by rw[iG,b]
def ate {a c:Type}(f:a->c)(l:List a)(d:a)(k:Nat)(b:k<l.length):(l.take<|k+1).map f=(l.take k).map f++[f<|l.getD k d]:=by rw[uO,aK b,gu,aN,aK b];rfl
def ahc {left:ba}{a b:Nat}(h:a<b/\b<=left.length):(ey left (a,b)).getLastD 0=left.getD (b - 1) 0:=by have c:=(AL (ab:=(a,b)) h).2.2;rw[tK,IC,c];simp only[ey];rw[zS,Pj<|by omega,aN];congr 2;omega
def aoR(l r:ba)(h:r≠[]):(l++r).getLastD 0=r.getLastD 0:=by
 rw[tK,tK,Pk];cases hr:r.getLast? with
 |none=>exact absurd (List.getLast?_eq_none_iff.1 hr) h
 |some x=>rfl
end
structure FS(w:World)(L:LP)(ks ls:aw)(go:Nat)(o:aw):Prop where
 ln:LX w L ks ls
 row:bI w L.B go L.n L.n o
 ap:∀g,L.has g->g≠go
section
variable{w w':World}{L:LP}{ks ls o:List Int}{go:Nat}
def FS.below(h:FS w L ks ls go o)(a:cD w.1.size w w'):FS w' L ks ls go o:=⟨h.ln.below a,fS h.row a,h.ap⟩
def FS.set(h:FS w L ks ls go o)(k:Nat)(a:Int):FS (w.setCell (S go k U)<|Y Z a) L ks ls go (o.set k a):=
 ⟨h.ln.same (by simp) λg b=>iX _ _ _ _ (h.ap g b),h.row.set k a,h.ap⟩
def FS.grown(h:FS w L ks ls go o)(k:Nat)(a:Int):w.grownBy (w.setCell (S go k U)<|Y Z a) (V go):=h.row.grown k a
def FS.drew(h:FS w L ks ls go o):FS w.drew L ks ls go o:=h.below (aA _ _).drew
def FS.len(h:FS w L ks ls go o):o.length=L.n:=h.row.len
def bI.apart {B g n c b:Nat}{t:aw}{f:TypeId}{i:Array cJ}(h:bI w B g n c t)(o:w.1[b]? =V (bi i f (0,0)))(d:f≠3):g≠b:=by rcases h.2 with⟨e,_⟩|⟨q,p,j,e,_,a,_⟩;cases e;injection e with k;injection k with l;injection l with m;subst m;intro e;rw[e,o]at a;simp at a;exact d a.2
end
def fF(s c:Int)(_:aw):Int:=if c= -1 then s else c
def agd:∀(l:aw)(a:Int),pass fF fF a l=Aa a l
 |[],_=>rfl
 |c::r,a=>by rw[pass,Aa,agd r];rfl
def amx(w:cw)(L:LP)(t u:aw)(b:Nat)(o:aw)(h:FS w L t u b o)(I:L.n<=1000):cP prog 164 #[.pointer<|V<|S L.lb 0 U,.slice (V<|S b 0 U) L.n L.n] w λe C=>e=bj (de #[])/\FS C L t u b (Aa L.p o)/\w.grownBy C (V b):=by
 have B:=ah h;have A:=ah h.len;have D:=h.ln.f5;clear h;go_enter func164,ntmps164;go_wp2;clear D;go_loopg [4,13] L.n (λgk F iv wr=>∃(k:Nat)(s:Int)(j:aw),k<=L.n/\gk=L.n - k/\F=Y Z s/\iv=Y Z k/\FS wr L t u b j/\w.grownBy wr (V b)/\bC fF fF L.p o k s j);exact⟨0,L.p,o,by omega,rfl,rfl,rfl,B,kI _ _,bC.start _ _ _ _⟩;clear B;obtain⟨k,s,j,H,rfl,rfl,rfl,i,q,g⟩:=hrel;by_cases f:k<L.n
 .have d:k<o.length:=by rw[A.out];exact f
  have a:=i.row.cell k f;rw[g.at k<|au _]at a;have E:=i.row.frozen k;have z:(k:Int)<(L.n:Int):=by omega
  have l:=ah i;have p:=ah q;have y:¬o.getD k 0= -1->dd (bC fF fF L.p o (k+1) (o.getD k 0) j):=λm=>g.stay d _ (by rw[fF,ai m]) (by rw[fF,ai m])
  have x:o.getD k 0= -1->dd (bC fF fF L.p o (k+1) s<|j.set k s):=λm=>g.step d s s (by rw[fF,aj m])<|by rw[fF,aj m]
  have G:dd ((wr.setCell (S b k U)<|Y Z s).cell? (S b k U)=V (Y Z s)):=World.cell?_setCell_same' _ _ _ (by rw[a];rfl);clear i q g;generalize o.getD k 0=c at*;by_cases r:c= -1
  .have v:=x r;subst r;clear y x;go_wp2;go_roundg (L.n - (k+1));exact⟨k+1,s,_,by omega,rfl,rfl,by go_num,l.out.set k s,p.out.trans<|l.out.grown k s,v.out⟩;omega
  have v:=y r;have J:(c== -1)=da:=(by simpa using r);clear y x;go_wp2;go_roundg (L.n - (k+1));exact⟨k+1,c,_,by omega,rfl,rfl,by go_num,l,p,v.out⟩;omega
 have n:j=Aa L.p o:=by rw[<-agd];exact g.stop<|by rw[A.out];exact f
 have l:dd (FS wr L t u b<|Aa L.p o):=by rw[<-n];exact i
 have p:=ah q;have z:¬(k:Int)<(L.n:Int):=by omega
 clear i q g n;go_wp2;go_end0;exact⟨rfl,l,p⟩
def yu(W:cw)(L:LP)(a:Nat):Prop:=W.1[a]? =V (bi #[.pointer<|V<|S L.lb 0 U] 136 (0,0))
def zG(W:cw)(L:LP)(a bv:Nat):Prop:=W.1[bv]? =V (bi #[.slice (V<|S a 0 U) L.n L.n] 31 (0,0))
def aoF(w:cw)(L:LP)(k l:aw)(f a:Nat)(o:aw)(h:FS w L k l f o)(d:yu w L a)(i:Nat)(g:i<L.n):cP prog 161 #[Y Z i,.pointer<|V<|S a 0 U] w λe m=>e=bj (ce<|H8<|L.cs.getD i 0)/\m=w:=by
 have n:=h.ln.f1;have q:=h.ln.ct i g;have p:w.cell? (S a 0 U)=V (.pointer<|V<|S L.lb 0 U):=az d 0;have j:(i:Int)<(L.n:Int):=by omega
 clear h d;generalize L.cs.getD i 0=c at*;go_enter func161,ntmps161;go_wp2_with fail;refine(akR c _).mono ?_;rintro r s ⟨rfl,hx⟩;have b:=hx.symm;subst b;go_wp2;go_ret;exact⟨rfl,rfl⟩
def ath(w:cw)(L:LP)(n p:aw)(d i bv:Nat)(o:aw)(h:FS w L n p d o)(T:L.n<=1000)(t:yu w L i)(C:zG w L d bv)(a b:Nat)(O:a<=b)(W:b<=L.n):cP prog 163 #[Y Z a,Y Z b,.pointer<|V<|S bv 0 U,.pointer<|V<|S i 0 U] w λe D=>e=bj (de #[])/\FS D L n p d (if b<L.n/\L.cs.getD b 0≠10 then o else dV o a L.p (b - a))/\yu D L i/\zG D L d bv/\w.grownBy D (V d):=by
 have A:w.cell? (S i 0 U)=V (.pointer<|V<|S L.lb 0 U):=az t 0;have B:w.cell? (S bv 0 U)=V (.slice (V<|S d 0 U) L.n L.n):=az C 0;have y:=ah h;have x:dd (yu w L i/\zG w L d bv):=⟨t,C⟩
 have H:=h.ln.f1;have z:dd (∀k,k<L.n->w.cell? (S L.gt k U)=V (Y Z<|L.cs.getD k 0)):=λk Q=>h.ln.ct k Q
 have I:dd (d≠i):=h.row.apart t (by decide);have J:dd (d≠bv):=h.row.apart C (by decide);clear h t C;by_cases hx:b<L.n/\L.cs.getD b 0≠10
 .rw[aj hx];have M:=z.out b hx.1;have q:(L.cs.getD b 0 !=10)=db:=by simpa using hx.2
  have u:(b:Int)<(L.n:Int):=by omega
  clear hx;generalize L.cs.getD b 0=c at*;go_enter func163,ntmps163;go_wp2;exact bU (Cg rfl _ _ _) rfl ⟨rfl,y,x.out.1,x.out.2,kI _ _⟩
 .rw[ai hx];by_cases t:b<L.n;case pos=>
   have M:=z.out b t;have q:(L.cs.getD b 0 !=10)=da:=by
    have:L.cs.getD b 0=10:=aiA λh=>hx ⟨t,h⟩
    rw[this];rfl
   have u:(b:Int)<(L.n:Int):=(by omega);clear hx;generalize L.cs.getD b 0=c at*;go_enter func163,ntmps163;go_wp2;clear A B H;go_loopg [6] (b - a) (λgk iv wr=>∃m:Nat,a+m<=b/\gk=b - a - m/\iv=Y Z ((a+m:Nat):Int)/\FS wr L n p d (dV o a L.p m)/\(yu wr L i/\zG wr L d bv)/\w.grownBy wr (V d));exact⟨0,by omega,rfl,rfl,y,x,kI _ _⟩;clear y x z;obtain⟨m,R,rfl,rfl,f,g,l⟩:=hrel;by_cases G:a+m<b
   .have v:=f.row.cell (a+m) (by omega);have F:=f.row.frozen<|a+m;have K:=f.ln.f5;have A:wr.cell? (S i 0 U)=V (.pointer<|V<|S L.lb 0 U):=az g.1 0;have B:wr.cell? (S bv 0 U)=V (.slice (V<|S d 0 U) L.n L.n):=az g.2 0;have s:dd (FS (wr.setCell (S d (a+m) U)<|Y Z L.p) L n p d<|dV o a L.p<|m+1):=f.set (a+m) L.p;have j:dd (yu (wr.setCell (S d (a+m) U)<|Y Z L.p) L i/\zG (wr.setCell (S d (a+m) U)<|Y Z L.p) L d bv):=⟨(iX _ _ _ _ I.out.symm).trans g.1,(iX _ _ _ _ J.out.symm).trans g.2⟩
    have r:dd (w.grownBy (wr.setCell (S d (a+m) U)<|Y Z L.p)<|V d):=l.trans<|f.grown (a+m) L.p;have E:(a:Int)+(m:Int)<(b:Int):=(by omega);have N:(a:Int)+(m:Int)<(L.n:Int):=(by omega);clear f l g;generalize(dV o a L.p m).getD (a+m) 0=q at*;go_wp2;go_region;all_goals
     go_wp2;go_roundg (b - a - (m+1));exact⟨m+1,by omega,rfl,by go_num,s.out.drew,j,r.out.trans C3⟩;omega
   have E:¬(a:Int)+(m:Int)<(b:Int):=(by omega);have e:m=b - a:=(by omega);have s:dd (FS wr L n p d<|dV o a L.p<|b - a):=(by rw[<-e];exact f);have r:=ah l;have j:=ah g;clear f l g;go_wp2;go_end0;exact⟨rfl,s,j.out.1,j.out.2,r⟩
  case neg=>
   have u:¬(b:Int)<(L.n:Int):=(by omega);have P:decide ((b:Int)<(L.n:Int))=da:=(by simpa using u);clear hx;go_enter func163,ntmps163;go_wp2;clear A B H;go_loopg [6] (b - a) (λgk iv wr=>∃m:Nat,a+m<=b/\gk=b - a - m/\iv=Y Z ((a+m:Nat):Int)/\FS wr L n p d (dV o a L.p m)/\(yu wr L i/\zG wr L d bv)/\w.grownBy wr (V d));exact⟨0,by omega,rfl,rfl,y,x,kI _ _⟩;clear y x z;obtain⟨m,R,rfl,rfl,f,g,l⟩:=hrel;by_cases G:a+m<b
   .have v:=f.row.cell (a+m) (by omega);have F:=f.row.frozen<|a+m;have K:=f.ln.f5;have A:wr.cell? (S i 0 U)=V (.pointer<|V<|S L.lb 0 U):=az g.1 0;have B:wr.cell? (S bv 0 U)=V (.slice (V<|S d 0 U) L.n L.n):=az g.2 0;have s:dd (FS (wr.setCell (S d (a+m) U)<|Y Z L.p) L n p d<|dV o a L.p<|m+1):=f.set (a+m) L.p;have j:dd (yu (wr.setCell (S d (a+m) U)<|Y Z L.p) L i/\zG (wr.setCell (S d (a+m) U)<|Y Z L.p) L d bv):=⟨(iX _ _ _ _ I.out.symm).trans g.1,(iX _ _ _ _ J.out.symm).trans g.2⟩
    have r:dd (w.grownBy (wr.setCell (S d (a+m) U)<|Y Z L.p)<|V d):=l.trans<|f.grown (a+m) L.p;have E:(a:Int)+(m:Int)<(b:Int):=(by omega);have N:(a:Int)+(m:Int)<(L.n:Int):=(by omega);clear f l g;generalize(dV o a L.p m).getD (a+m) 0=q at*;go_wp2;go_region;all_goals
     go_wp2;go_roundg (b - a - (m+1));exact⟨m+1,by omega,rfl,by go_num,s.out.drew,j,r.out.trans C3⟩;omega
   have E:¬(a:Int)+(m:Int)<(b:Int):=(by omega);have e:m=b - a:=(by omega);have s:dd (FS wr L n p d<|dV o a L.p<|b - a):=(by rw[<-e];exact f);have r:=ah l;have j:=ah g;clear f l g;go_wp2;go_end0;exact⟨rfl,s,j.out.1,j.out.2,r⟩
def atu {c:Int}(h:0<=c/\c<=21):H8 c=mj c:=by rw[Cv];simp only[H8,mj,aU,bX,Fz,vS,aiw,aiv,akA,Fy,C2,Es];omega
def ahM {c:aw}{b:Nat}(g:b<=c.length):∀m a,a+m=b->(∀q,a<=q->q<b->mj (c.getD q 0)=db)->kU (c.drop a)=kU (c.drop b)
 |0,a,h,_=>by rw[<-h];rfl
 |m+1,a,h,hr=>by have d:=hr a (au _) (by omega);rw[drop_at (show a<c.length by omega),kU,aj d,ai<|by intro e;rw[e]at d;cases d];exact ahM g m (a+1) (by omega) λq d f=>hr q (by omega) f
def ahL {a:aw}{b:Nat}(d:b<a.length)(h:mj (a.getD b 0)=da):kU (a.drop b)=decide (a.getD b 0=10):=by rw[drop_at d,kU];by_cases c:a.getD b 0=10;rw[aj c,nB c];rw[ai c,ai<|by rw[h];decide,sB c]
def att {a:aw}{b:Nat}(c:¬b<a.length):kU (a.drop b)=db:=by rw[lu<|by omega];rfl
def NC(p:Int):∀a b:aw,a.length=b.length->(l1 p a b).length=a.length
 |[],_,_=>rfl
 |_::_,[],h=>by cases h
 |c::a,o::b,h=>by rw[l1,eU,NC p a b<|by simpa using h];rfl
def aeS(p:Int):∀(a b:aw)(j:Nat),a.length=b.length->j<a.length->(l1 p a b).getD j 0=BZ p (a.getD j 0) (a.drop<|j+1) (Ds p (a.getD j 0)<|b.getD j 0)
 |[],_,j,_,hj=>by cases hj
 |_::_,[],_,h,_=>by cases h
 |c::a,o::b,0,_,_=>rfl
 |c::a,o::b,j+1,h,hj=>by have:=aeS p a b j (by simpa using h) (by simpa using hj);rw[l1];simpa using this
def aoP(p:Int)(a b:aw)(h:a.length=b.length):(List.range a.length).map (λj=>BZ p (a.getD j 0) (a.drop<|j+1)<|Ds p (a.getD j 0)<|b.getD j 0)=l1 p a b:=by
 apply Lr;intro j;rcases dc j a.length with c|c
 .rw[jC,IB c,aK<|by rw[NC p a b h];exact c];have:=aeS p a b j h c;have d:(l1 p a b).getD j 0=(l1 p a b)[j]'(by rw[NC p a b h];exact c):=by rw[aN,aK<|by rw[NC p a b h];exact c];rfl
  rw[d]at this;exact congrArg V this.symm
 rw[tI<|by simp;exact c,tI<|by rw[NC p a b h];exact c]
def oW.more {n k:Nat}{l:aw}{f g:Nat->Int}(h:oW n k l f g){b:Nat}(i:k<=b)(e:∀j,k<=j->j<b->j<n->f j=g j):oW n b l f g:=by refine⟨h.1,λj d=> ?_⟩;rw[h.2 j d];by_cases c:j<k;rw[aj c,aj<|by omega];rw[ai c];by_cases a:j<b;rw[aj a,e j (by omega) a d];rw[ai a]
def oW.fill {n k:Nat}{l:aw}{f g:Nat->Int}(h:oW n k l f g){b:Nat}(i:k<=b)(m:b<=n)(v:Int)(d:∀j,k<=j->j<b->f j=v):oW n b (dV l k v<|b - k) f g:=by
 refine⟨by rw[Qp];exact h.1,λj e=> ?_⟩;rw[Ld _ _ _ _ _ (by rw[h.1];omega)];by_cases a:k<=j/\j<k+(b - k)
 .rw[aj a,aj<|by omega,d j a.1<|by omega]
 rw[ai a,h.2 j e];by_cases c:j<k;rw[aj c,aj<|by omega];rw[ai c,ai<|by omega]
def aj1(a b c d:cJ):(#[a,b]++#[c,d]:Array cJ)=#[a,b,c,d]:=rfl
def tL(L:LP)(o:aw)(j:Nat):Int:=BZ L.p (L.cs.getD j 0) (L.cs.drop<|j+1)<|Ds L.p (L.cs.getD j 0)<|o.getD j 0
def aL(L:LP)(o:aw)(j:Nat):Int:=Ds L.p (L.cs.getD j 0)<|o.getD j 0
section
variable(w:World)(L:LP)(ks ls:List Int)(go bl bv:Nat)(o:List Int)
def JL(a:Nat)(b:aw)(W:cw):Prop:=FS W L ks ls go b/\yu W L bl/\zG W L go bv/\w.grownBy W (V go)/\oW L.n (min a L.n) b (tL L o) (aL L o)
def aoS(Z:L.n<=1000)(Y:L.cs.length=L.n)(F:∀c∈L.cs,0<=c/\c<=21):LG L.n 161 163 #[.pointer<|V<|S bl 0 U] #[.pointer<|V<|S bv 0 U,.pointer<|V<|S bl 0 U] (JL w L ks ls go bl bv o) (λ_ i=>H8<|L.cs.getD i 0):=by
 have f:∀j,j<L.n->H8 (L.cs.getD j 0)=mj (L.cs.getD j 0):=λj X=>atu<|F _ (dP<|by rw[Y];exact X)
 have y:∀j,mj (L.cs.getD j 0)=da->tL L o j=aL L o j:=λj h=>by rw[tL,BZ,ai λx=>by rw[h]at x;cases x.1];rfl
 refine⟨?_,?_,?_⟩;rintro A a W i ⟨p,n,u,t,l⟩ _ T;rw[Uv];refine(aoF W L ks ls go bl A p n i T).mono ?_;rintro e N ⟨rfl,rfl⟩;exact⟨rfl,p,n,u,t,l⟩
 .rintro A a W ⟨p,n,u,t,l⟩ P hq;rw[kG<|by omega]at l;refine⟨A,p,n,u,t,?_⟩;rw[kG<|by omega];refine l.more (by omega) λj g k _=> ?_
  rw[show j=a by omega];exact y a<|by rw[<-f a P];exact hq
 rintro A a b W ⟨p,n,u,t,l⟩ Q J v d;rw[kG<|by omega]at l;rw[aj1];refine(ath W L ks ls go bl bv A p Z n u a b (by omega) J).mono ?_;rintro e N ⟨rfl,M,D,E,K⟩;have m:∀q,a<=q->q<b->mj (L.cs.getD q 0)=db:=λq g k=>by rw[<-f q (by omega)];exact v q g k
 have I:∀j,a<=j->j<b->kU (L.cs.drop<|j+1)=kU (L.cs.drop b):=λj g k=>ahM (by omega) (b - (j+1)) (j+1) (by omega) λq h3 O=>m q (by omega) O
 have B:∀H,oW L.n b H (tL L o) (aL L o)->oW L.n (min (b+1) L.n) H (tL L o) (aL L o):=λH h=>by
  by_cases r:b<L.n
  .rw[kG<|by omega];refine h.more (by omega) λj g k _=> ?_
   rw[show j=b by omega];exact y b<|by rw[<-f b r];exact d r
  rw[show min (b+1) L.n=b by omega];exact h
 refine⟨rfl,_,M,D,E,t.trans K,B _ ?_⟩;by_cases s:b<L.n/\L.cs.getD b 0≠10
 .rw[aj s];have R:mj (L.cs.getD b 0)=da:=(by rw[<-f b s.1];exact d s.1);refine l.more (by omega) λj g k _=> ?_
  have G:¬(mj (L.cs.getD j 0)=db/\kU (L.cs.drop<|j+1)=db):=λx=>by rw[I j g k,ahL (by omega) R,sB s.2]at x;cases x.2
  rw[tL,BZ,ai G];rfl
 rw[ai s];refine l.fill (by omega) J L.p λj g k=> ?_
 have z:kU (L.cs.drop<|j+1)=db:=by
  rw[I j g k];by_cases r:b<L.n
  .have C:L.cs.getD b 0=10:=aiA λh=>s ⟨r,h⟩
   rw[ahL (by omega)<|by rw[<-f b r];exact d r,C];rfl
  exact att<|by omega
 rw[tL,BZ,aj ⟨m j g k,z⟩]
end
def asz(w:cw)(L:LP)(t u:aw)(a:Nat)(o:aw)(h:FS w L t u a o)(X:L.n<=1000)(F:∀c∈L.cs,0<=c/\c<=21):cP prog 89 #[.pointer<|V<|S L.lb 0 U,.slice (V<|S a 0 U) L.n L.n] w λe J=>e=bj (de #[])/\FS J L t u a (Aa L.p<|l1 L.p L.cs o)/\w.grownBy J (V a):=by
 have JD:∀(fn:Fn)(first D:Array cJ)(w:cw),(Instr.makeFunc fn first D).run prog w= .ok (.func fn first D) w:=λ_ _ _ _=>rfl
 obtain⟨G,d⟩:=ac<|(w.alloc<|bi #[.pointer<|V<|S L.lb 0 U] 136).alloc (bi #[.slice (V<|S a 0 U) L.n L.n] 31);have b:cD w.1.size w G:=by rw[d];exact((aA _ _).alloc (au _) _).alloc (by simp) _
 have P:=ah<|h.below b;have Z8:dd (yu G L w.1.size):=by show _=_;rw[d,dh _ _ _ (by simp)];exact pM
 have z:dd (zG G L a<|w.1.size+1):=by show _=_;rw[d,show w.1.size+1=(w.alloc<|bi #[.pointer<|V<|S L.lb 0 U] 136).1.size by simp];exact pM
 have mW:dd (w.grownBy G<|V a):=⟨b.os,b.tape,b.output,b.size,λk hk _=>b.block k hk⟩
 have C:dd (L.cs.length=L.n/\o.length=L.n):=⟨h.ln.len,h.len⟩
 have M:=ah F;have mD:dd (a≠w.1.size):=by have:=(Bu h.row a rfl).2;show _≠_;omega
 have mF:dd (a≠w.1.size+1):=by have:=(Bu h.row a rfl).2;show _≠_;omega
 have a1:((w.alloc<|bi #[.pointer<|V<|S L.lb 0 U] 136).alloc (bi #[.slice (V<|S a 0 U) L.n L.n] 31)).cell? (S L.lb 1 U)=V (.slice (V<|S L.gt 0 U) L.n L.ct):=by rw[<-d];exact P.out.ln.f1
 clear h b F;go_enter func89,ntmps89;go_wp2;rw[<-d];clear a1 d;generalize w.1.size+1=bv at*;generalize w.1.size=m at*;go_loopg [12] L.n (λgk iv W=>∃(k:Nat)(p:aw),k<=L.n/\gk=L.n - k/\iv=Y Z k/\FS W L t u a p/\(yu W L m/\zG W L a bv)/\w.grownBy W (V a)/\oW L.n k p (aL L o) (λj=>o.getD j 0));exact⟨0,o,by omega,rfl,rfl,P,⟨Z8,z⟩,mW,⟨C.out.2,λj _=>by rw[ai<|by omega]⟩⟩;clear P Z8 z mW;obtain⟨k,p,hk,rfl,rfl,n,l,I,r⟩:=hrel;have cl:wr.cell? (S m 0 U)=V (.pointer<|V<|S L.lb 0 U):=az l.1 0;have cv:wr.cell? (S bv 0 U)=V (.slice (V<|S a 0 U) L.n L.n):=az l.2 0;by_cases i:k<L.n
 .have ct:=n.ln.ct k i;have Q:=n.row.cell k i;have ad:=n.row.frozen k;have c5:=n.ln.f5;have T:(k:Int)<(L.n:Int):=by omega
  have ek:p.getD k 0=o.getD k 0:=by have:=r.2 k i;rw[ai<|by omega]at this;exact this
  have B:=ah n;have yx:=ah l;have N:=ah I;have y:∀v,aL L o k=v->dd (oW L.n (k+1) (p.set k v) (aL L o) λj=>o.getD j 0):=λv e=>by subst e;exact r.step i
  have E:aL L o k=o.getD k 0->dd (oW L.n (k+1) p (aL L o) λj=>o.getD j 0):=λe=>r.more (by omega) λj h1 h2 _=>by rw[show j=k by omega];exact e
  have aG:dd (∀v:Int,yu (wr.setCell (S a k U)<|Y Z v) L m/\zG (wr.setCell (S a k U)<|Y Z v) L a bv):=λv=>⟨(iX _ _ _ _ mD.out.symm).trans l.1,(iX _ _ _ _ mF.out.symm).trans l.2⟩
  unfold aL Ds at y E;clear n l I r ek;generalize L.cs.getD k 0=c at*;generalize p.getD k 0=q at*;by_cases g:c=10
  .subst g;have A:=y L.p<|aj rfl;clear y E;go_wp2_with fail;refine(zl 10 _).mono ?_;rintro H wx ⟨rfl,hx⟩;have f:=hx.symm;subst f;rw[show(!bX 10)=da from rfl];go_wp2;go_region;all_goals
    go_wp2;go_roundg (L.n - (k+1));exact⟨k+1,_,by omega,rfl,by go_num,(B.out.set k L.p).drew,aG L.p,(N.out.trans<|B.out.grown k L.p).trans C3,A.out⟩;omega
  have pK:=ae g;cases hl:bX c
  .have A:=y (-1) (by rw[ai g,aj hl]);have O:dd ((!bX c)=db):=(by show _=_;rw[hl];rfl);clear y E hl;go_wp2_with fail;refine(zl c _).mono ?_;rintro H wx ⟨rfl,hx⟩;have f:=hx.symm;subst f;rw[O.out];go_wp2;go_roundg (L.n - (k+1));exact⟨k+1,_,by omega,rfl,by go_num,B.out.set k (-1),aG (-1),N.out.trans<|B.out.grown k (-1),A.out⟩;omega
  have A:=E (by rw[ai g,ai<|by rw[hl];decide]);have O:dd ((!bX c)=da):=(by show _=_;rw[hl];rfl);clear y E hl;go_wp2_with fail;refine(zl c _).mono ?_;rintro H wx ⟨rfl,hx⟩;have f:=hx.symm;subst f;rw[O.out];go_wp2;go_roundg (L.n - (k+1));exact⟨k+1,_,by omega,rfl,by go_num,B,yx,N,A.out⟩;omega
 obtain rfl:k=L.n:=by omega
 have T:¬(L.n:Int)<(L.n:Int):=by omega
 have HC:dd (cP prog 97 #[Y Z L.n,.func (.func 161) #[] #[.pointer<|V<|S m 0 U],.func (.func 163) #[] #[.pointer<|V<|S bv 0 U,.pointer<|V<|S m 0 U]] wr λe J=>e=bj (de #[])/\∃k x,L.n<=k/\JL w L t u a m bv o k x J):=
  Qe L.n _ _ _ _ _ _ X (aoS w L t u a m bv o X C.out.1 M) (kj func161 (by kernel_rfl)<|by kernel_rfl) (kj func163 (by kernel_rfl)<|by kernel_rfl) p wr
   ⟨n,l.1,l.2,I,by rw[LF];exact⟨r.1,λj hj=>by rw[ai<|by omega];have:=r.2 j hj;rw[aj hj]at this;exact this⟩⟩
 clear n l I r;go_wp2_with fail;refine HC.out.mono ?_;rintro H K ⟨rfl,k3,o3,R,jo,cA,Gv,Mr,s⟩;rw[IM R]at s;have e3:o3=l1 L.p L.cs o:=by rw[s.done,<-aoP L.p L.cs o (by rw[C.out.1,C.out.2]),C.out.1];rfl
 have gH:dd (FS K L t u a<|l1 L.p L.cs o):=by rw[<-e3];exact jo
 have KG:=ah Mr;have aa:K.cell? (S m 0 U)=V (.pointer<|V<|S L.lb 0 U):=az cA 0;have ab:K.cell? (S bv 0 U)=V (.slice (V<|S a 0 U) L.n L.n):=az Gv 0;clear jo cA Gv Mr s e3 HC cl cv;go_wp2_with fail;refine(amx K L t u a _ gH.out X).mono ?_;rintro H w4 ⟨rfl,kQ,Ae⟩;have nN:=ah kQ;have DV:dd _:=KG.out.trans Ae;clear kQ Ae;go_wp2;go_end0;exact⟨rfl,nN,DV⟩
def arG(l c:Int)(w:cw)(r:0<=l):cP prog 159 #[Y Z l,Y Z c] w λe k=>e=bj (Y Z<|jM l c)/\k=w:=by
 have g:dd (∀W,cP prog 96 #[Y Z l] W λe k=>e=bj (Y Z<|l%2)/\k=W):=λW=>DI l W r
 have o:l%2=0∨l%2=1:=by omega
 obtain⟨m,j⟩:=ac<|l%2;have p:jM l c=if(c=3∨c=6)/\m=0 then 2 else if(c=3∨c=6)∨c≠m then 1 else 0:=by unfold jM;rw[<-j];rcases o with h|h;rw[show m=0 by omega];simp;rw[show m=1 by omega];simp
 rw[p];rw[<-j]at g;clear p o j;by_cases f:c=3∨c=6
 .by_cases d:m=0
  .rw[aj ⟨f,d⟩];subst d;rcases f with rfl|rfl;all_goals
    go_enter func159,ntmps159;go_wp2_with fail;refine(g _).mono ?_;rintro i n ⟨rfl,hx⟩;have a:=hx.symm;subst a;go_wp2;go_ret;exact⟨rfl,rfl⟩
  rw[ai λh=>d h.2,aj (.inl f)];have q:=ae d;rcases f with rfl|rfl;all_goals
   go_enter func159,ntmps159;go_wp2_with fail;refine(g _).mono ?_;rintro i n ⟨rfl,hx⟩;have a:=hx.symm;subst a;go_wp2;go_ret;exact⟨rfl,rfl⟩
 rw[ai λh=>f h.1];have t:(c==3)=da:=by simp;omega
 have u:(c==6)=da:=by simp;omega
 by_cases b:c=m
 .rw[ai<|by omega];have q:(c !=m)=da:=(by simp[b]);have s:=ah q;clear f b;go_enter func159,ntmps159;go_wp2_with fail;refine(g _).mono ?_;rintro i n ⟨rfl,hx⟩;have a:=hx.symm;subst a;go_wp2;go_ret;exact⟨rfl,rfl⟩
 rw[aj (.inr b)];have q:(c !=m)=db:=(by simpa using b);clear f b;go_enter func159,ntmps159;go_wp2_with fail;refine(g _).mono ?_;rintro i n ⟨rfl,hx⟩;have a:=hx.symm;subst a;go_wp2;go_ret;exact⟨rfl,rfl⟩
def arF(l c:Int):0<=jM l c/\jM l c<=2:=by unfold jM;split;omega;split<;>omega
def atx(a:ba)(b:Int)(t:aw)(j:Nat)(c:j<a.length)(d:j<t.length):(jN a b t).take (j+1)=(jN a b t).take j++[(a.getD j 0,b,t.getD j 0)]:=by
 have e:j<(jN a b t).length:=by rw[jN,jh,Uc];omega
 rw[uO,aK e];simp[jN,aN,aK c,aK d]
def aZ.setOther {w:cw}{B b a n f:Nat}{i j bv:cJ}{d c e:Int}{t:aw}(h:aZ w B b a n f i j bv d c e t){g:Nat}(l:b≠g)(m:a≠g)(k:Nat)(u:cJ):aZ (w.setCell (S g k U) u) B b a n f i j bv d c e t:=
 ⟨by rw[iX _ _ _ _ l];exact h.cell,kT h.row (by simpa [Value.ownBlock]using m) k u⟩
def asy(w:cw)(B x A m I g k z:Nat)(M bv:cJ)(b G H:Int)(t:aw)(a:ba)(y f n:Nat)(o:aw)(i:aZ w B x A m I (.slice (V<|S g k U) m z) M bv b G H t)(s:bJ w g k<|nl a)(hl:a.length=m)(h:bI w y f n n o)(C:x≠f/\A≠f/\g≠f) (D:∀p∈a,p<n) (hm:m<=1000) (nG:0<=b) (ho:∀p,0<=o.getD p 0/\o.getD p 0<=1000):cP prog 88 #[.pointer<|V<|S x 0 U,.slice (V<|S f 0 U) n n] w λe N=>e=bj (de #[])/\bI N y f n n ((jN a b t).foldl jl o)/\w.grownBy N (V f):=by
 have c0:w.cell? (S x 0 U)=V (.slice (V<|S g k U) m z):=az i.cell 0;have di:=ah i;have T:=ah s;have zN:=ah h;have F:dd (a.length=m/\t.length=m):=⟨hl,i.len⟩
 have HA:=ah D;have Q:=ah ho;have O:=ah C;clear i s h hl D ho C;go_enter func88,ntmps88;go_wp2;clear c0;go_loopg [11] m (λgk iv W=>∃(j:Nat)(d:aw),j<=m/\gk=m - j/\iv=Y Z j/\aZ W B x A m I (.slice (V<|S g k U) m z) M bv b G H t/\bJ W g k (nl a)/\bI W y f n n d/\w.grownBy W (V f)/\d=((jN a b t).take j).foldl jl o/\∀p,0<=d.getD p 0/\d.getD p 0<=1000+2*j);exact⟨0,o,by omega,rfl,rfl,di,T,zN,kI _ _,rfl,λp=>by have:=Q.out p;omega⟩;clear di T zN Q;obtain⟨j,d,hj,rfl,rfl,i,s,h,L,K,J⟩:=hrel;by_cases u:j<m
 .have l:j<a.length:=by rw[F.out.1];exact u
  have ab:wr.cell? (S g (k+j) U)=V (Y Z ((a.getD j 0:Nat):Int)):=by have:=s j (by rw[iz];exact l);rw[pH _ _ l]at this;exact this
  have uh:a.getD j 0<n:=HA.out _ (dP l);have cr:=h.cell _ uh;have fr:=h.frozen<|a.getD j 0;have c2:=i.f2;have c4:=i.f4;have ck:=i.at j u;have hq:=J<|a.getD j 0;have ac:(j:Int)<(m:Int):=by omega
  have aa:((a.getD j 0:Nat):Int)<(n:Int):=by omega
  have v:=arF b<|t.getD j 0;have P:dd (∀W,cP prog 159 #[Y Z b,Y Z<|t.getD j 0] W λe N=>e=bj (Y Z<|jM b<|t.getD j 0)/\N=W):=λW=>arG b _ W nG
  have l7:((jN a b t).take (j+1)).foldl jl o=d.set (a.getD j 0) (d.getD (a.getD j 0) 0+jM b (t.getD j 0)):=by rw[atx a b t j l<|by rw[F.out.2];exact u,CY,<-K];rfl
  have fu:bI (wr.setCell (S f (a.getD j 0) U)<|Y Z<|d.getD (a.getD j 0) 0+jM b (t.getD j 0)) y f n n (d.set (a.getD j 0)<|d.getD (a.getD j 0) 0+jM b (t.getD j 0)):=h.set _ _;have iH:aZ (wr.setCell (S f (a.getD j 0) U)<|Y Z<|d.getD (a.getD j 0) 0+jM b (t.getD j 0)) B x A m I (.slice (V<|S g k U) m z) M bv b G H t:=i.setOther O.out.1 O.out.2.1 _ _;have R:bJ (wr.setCell (S f (a.getD j 0) U)<|Y Z<|d.getD (a.getD j 0) 0+jM b (t.getD j 0)) g k (nl a):=s.He<|iX _ _ _ _ O.out.2.2;have pz:w.grownBy (wr.setCell (S f (a.getD j 0) U)<|Y Z<|d.getD (a.getD j 0) 0+jM b (t.getD j 0)) (V f):=L.trans<|h.grown _ _;have X:∀p,0<=(d.set (a.getD j 0)<|d.getD (a.getD j 0) 0+jM b (t.getD j 0)).getD p 0/\(d.set (a.getD j 0)<|d.getD (a.getD j 0) 0+jM b (t.getD j 0)).getD p 0<=1000+2*((j+1:Nat):Int):=λp=>by by_cases hp:a.getD j 0=p;rw[<-hp,Ac<|by rw[h.len];exact uh];omega;rw[getD_set_ne hp];have:=J p;omega
  have E:dd (aZ (wr.setCell (S f (a.getD j 0) U)<|Y Z<|d.getD (a.getD j 0) 0+jM b (t.getD j 0)) B x A m I (.slice (V<|S g k U) m z) M bv b G H t/\bJ (wr.setCell (S f (a.getD j 0) U)<|Y Z<|d.getD (a.getD j 0) 0+jM b (t.getD j 0)) g k (nl a)/\bI (wr.setCell (S f (a.getD j 0) U)<|Y Z<|d.getD (a.getD j 0) 0+jM b (t.getD j 0)) y f n n (d.set (a.getD j 0)<|d.getD (a.getD j 0) 0+jM b (t.getD j 0))/\w.grownBy (wr.setCell (S f (a.getD j 0) U)<|Y Z<|d.getD (a.getD j 0) 0+jM b (t.getD j 0)) (V f)):=⟨iH,R,fu,pz⟩
  have eY:dd (d.set (a.getD j 0) (d.getD (a.getD j 0) 0+jM b (t.getD j 0))=((jN a b t).take (j+1)).foldl jl o/\∀p,0<=(d.set (a.getD j 0)<|d.getD (a.getD j 0) 0+jM b (t.getD j 0)).getD p 0/\(d.set (a.getD j 0)<|d.getD (a.getD j 0) 0+jM b (t.getD j 0)).getD p 0<=1000+2*((j+1:Nat):Int)):=⟨l7.symm,X⟩
  have ae:=hq.1;have af:d.getD (a.getD j 0) 0<=3000:=by omega
  have ag:=v.1;have ai:=v.2;clear i s h L K J l7 fu iH R pz X hq v;generalize jM b (t.getD j 0)=ri at*;generalize t.getD j 0=c at*;generalize d.getD (a.getD j 0) 0=q at*;generalize a.getD j 0=p at*;go_wp2_with fail
  go_region_with (go_at_call 159;refine(P _).mono ?_;rintro ev wx ⟨rfl,hx⟩;subst hx)
  all_goals
   go_wp2;go_roundg (m - (j+1));exact⟨j+1,_,by omega,rfl,by go_num,E.out.1.below (aA _ _).drew,E.out.2.1,eW E.out.2.2.1 (C3 (r:=U)) (.inr<|by simp[Value.ownBlock]),E.out.2.2.2.trans C3,eY.out.1,eY.out.2⟩;omega
 obtain rfl:j=m:=by omega
 have ad:¬(j:Int)<(j:Int):=by omega
 have e:d=(jN a b t).foldl jl o:=by rw[K,jY<|by rw[jN,jh,Uc,F.out.1,F.out.2];omega]
 have HR:dd (bI wr y f n n<|(jN a b t).foldl jl o):=by rw[<-e];exact h
 have HG:=ah L;clear i s h L K J e;go_wp2;go_end0;exact⟨rfl,HR,HG⟩
def X9 {c:Int}{b:aw}{j:Nat}(e:j<=b.length):∀m a,a+m=j->(∀q,a<=q->q<j->qf (b.getD q 0)=db)->wI c (b.drop a)=wI c (b.drop j)
 |0,a,h,_=>by rw[<-h];rfl
 |m+1,a,h,hr=>by rw[drop_at (show a<b.length by omega),wI,aj<|hr a (au _)<|by omega];exact X9 e m (a+1) (by omega) λq f d=>hr q (by omega) d
def agQ {c d:Int}{b l:aw}{k j:Nat}{s:Int}(h:bC (fM c) gM d b k s l)(a:∀q,k<=q->q<j->qf (b.getD q 0)=db)(g:j<=b.length)(f:s=wI c (b.drop j)):∀m,k+m<=j->bC (fM c) gM d b (k+m) s (dV l k s m)
 |0,_=>h
 |m+1,hm=>by have e:=agQ h a g f m (by omega);have i:=a (k+m) (by omega) (by omega);refine e.step (by omega) s s ?_ ?_;rw[fM,aj i,X9 g (j - (k+m+1)) (k+m+1) (by omega) λq e n=>a q (by omega) n,aj f];rw[gM,aj i]
def agR {c d:Int}{b l:aw}{k j:Nat}{s:Int}(h:bC (fM c) gM d b k s l)(a:∀q,k<=q->q<j->qf (b.getD q 0)=db)(g:j<=b.length)(f:¬s=wI c (b.drop j)):∀m,k+m<=j->bC (fM c) gM d b (k+m) s l
 |0,_=>h
 |m+1,hm=>by have e:=agR h a g f m (by omega);have i:=a (k+m) (by omega) (by omega);refine e.stay (by omega) s ?_ ?_;rw[fM,aj i,X9 g (j - (k+m+1)) (k+m+1) (by omega) λq e n=>a q (by omega) n,ai f];rw[gM,aj i]
def agS {c b:Int}{a e:aw}{k:Nat}{s:Int}(h:bC (fM c) gM b a k s e)(f:k<a.length)(d:¬qf (a.getD k 0)=db):bC (fM c) gM b a (k+1) (bH<|a.getD k 0) e:=
 h.stay f _ (by rw[fM,ai d]) (by rw[gM,ai d])
section
variable(w:World)(B sb gc n cc bx:Nat)(pv rv bv:Value)(ax aq ay:Int)(t:List Int)
def JN(a:Nat)(b:aw)(W:cw):Prop:=∃s,aZ W B sb gc n cc pv rv bv ax aq ay b/\W.1[bx]? =V (bi #[.pointer<|V<|S sb 0 U] 146 (0,0))/\w.grownBy W (V gc)/\bC (fM ay) gM aq t (min a n) s b/\((a=0/\s=aq)∨(0<a/\(a<=n->s=bH (b.getD (a - 1) 0))))
def apw(I:n<=1000)(P:t.length=n)(L:bH aq=aq)(z:bx<w.1.size):LG n 214 216 #[.pointer<|V<|S bx 0 U] #[.pointer<|V<|S bx 0 U] (JN w B sb gc n cc bx pv rv bv ax aq ay t) (λc i=>qf<|c.getD i 0):=by
 refine⟨?_,?_,?_⟩;rintro c a W i ⟨s,f,j,l,d,r⟩ _ H;rw[Uv];refine(aoA W B sb gc n cc bx pv rv bv ax aq ay c f j i H).mono ?_;rintro e x ⟨rfl,rfl⟩;exact⟨rfl,s,f,j,l,d,r⟩
 .rintro c a W ⟨s,f,j,l,d,r⟩ O J;rw[kG<|by omega]at d;have e:=d.at a<|au _;have F:¬qf (t.getD a 0)=db:=by rw[<-e];simpa using J
  exact⟨c,bH<|t.getD a 0,f,j,l,by rw[kG<|by omega];exact agS d (by omega) F,.inr ⟨by omega,λ_=>by rw[pS,e]⟩⟩
 rintro c a b W ⟨s,f,j,l,d,r⟩ G K o p;rw[kG<|by omega]at d;have k:∀q,a<=q->q<b->qf (t.getD q 0)=db:=λq g E=>by rw[<-d.at q g];exact o q g E
 have C:b<n->¬qf (t.getD b 0)=db:=λh=>by rw[<-d.at b (by omega)];simpa using p h
 have hx:bH (gX aq ay c<|(a:Int) - 1)=s:=by rcases r with⟨rfl,rfl⟩|⟨N,g⟩;rw[show((0:Nat):Int) - 1= -1 from rfl,gX,aj<|by decide];exact L;rw[g<|by omega,gX,ai<|by omega,ai<|by rw[f.len];omega,show((a:Int) - 1).toNat=a - 1 by omega]
 have D:bH (gX aq ay c (b:Int))=wI ay (t.drop b):=by by_cases y:b<n;rw[gX,ai<|by omega,ai<|by rw[f.len];omega,Bg,d.at b<|by omega,drop_at (show b<t.length by omega),wI,ai<|C y];rw[gX,ai<|by omega,aj<|by rw[f.len];omega,lu<|by omega];rfl
 rw[wA];refine(atf W B sb gc n cc bx pv rv bv ax aq ay c f I j a b (by omega) K).mono ?_;rintro e x ⟨rfl,A,v⟩;have m:x.1[bx]? =V (bi #[.pointer<|V<|S sb 0 U] 146 (0,0)):=by rw[v.block bx (lW z l.size) λe=>(f.boxed j) (aI e).symm];exact j
 have key:∀t2,t2=(if bH (gX aq ay c<|(a:Int) - 1)=bH (gX aq ay c (b:Int))then dV c a (bH<|gX aq ay c<|(a:Int) - 1) (b - a)else c)->bC (fM ay) gM aq t b s t2->∃M,JN w B sb gc n cc bx pv rv bv ax aq ay t (b+1) M x:=by rintro t2 rfl g;by_cases y:b<n;refine⟨_,bH<|t.getD b 0,A,m,l.trans v,by rw[kG<|by omega];exact agS g (by omega)<|C y,.inr ⟨by omega,λ_=> ?_⟩⟩;rw[pS,g.at b<|au _];have e:min (b+1) n=b:=(by omega);exact⟨_,s,A,m,l.trans v,by rw[e];exact g,.inr ⟨by omega,λh=>by omega⟩⟩
 refine⟨rfl,?_⟩;by_cases u:s=wI ay (t.drop b);have:=agQ d k (by omega) u (b - a) (by omega);rw[show a+(b - a)=b by omega]at this;exact key _ (by rw[aj<|by rw[hx,D];exact u,hx]) this;have:=agR d k (by omega) u (b - a) (by omega);rw[show a+(b - a)=b by omega]at this;exact key _ (by rw[ai<|by rw[hx,D];exact u]) this
end
def apx(w:cw)(B b d n j:Nat)(m o bv:cJ)(g a c:Int)(t:aw)(h:aZ w B b d n j m o bv g a c t)(C:n<=1000)(J:bH a=a):cP prog 152 #[.pointer<|V<|S b 0 U] w λe p=>e=bj (de #[])/\aZ p B b d n j m o bv g a c (pass (fM c) gM a t)/\w.grownBy p (V d):=by
 have K:∀(y:Fn)(first i:Array cJ)(w:cw),(Instr.makeFunc y first i).run prog w= .ok (.func y first i) w:=λ_ _ _ _=>rfl
 have l:cD w.1.size w (w.alloc<|bi #[.pointer<|V<|S b 0 U] 146):=(aA _ _).alloc (au _) _;have f:=h.below l;have H:=f.f2;have u:=h.len;have v:dd (cP prog 97 #[Y Z n,.func (.func 214) #[] #[.pointer<|V<|S w.1.size 0 U],.func (.func 216) #[] #[.pointer<|V<|S w.1.size 0 U]] (w.alloc<|bi #[.pointer<|V<|S b 0 U] 146) λe p=>e=bj (de #[])/\∃k x,n<=k/\JN (w.alloc<|bi #[.pointer<|V<|S b 0 U] 146) B b d n j w.1.size m o bv g a c t k x p):=
  Qe n _ _ _ _ _ _ C (apw _ B b d n j w.1.size m o bv g a c t C u J (by simp)) (kj func214 (by kernel_rfl)<|by kernel_rfl) (kj func216 (by kernel_rfl)<|by kernel_rfl) t _
   ⟨a,f,pM,kI _ _,by rw[LF];exact bC.start _ _ _ _,.inl ⟨rfl,rfl⟩⟩
 have G:dd (w.grownBy (w.alloc<|bi #[.pointer<|V<|S b 0 U] 146)<|V d):=⟨rfl,rfl,rfl,by simp,λk r _=>dh w _ k r⟩
 have E:=ah u;clear h l f u;go_enter func152,ntmps152;go_wp2_with fail;refine v.out.mono ?_;rintro L I ⟨rfl,k,M,r,s,A,_,z,q,_⟩;rw[IM r]at q;have e:=q.stop (by rw[E.out];omega);have F:dd (aZ I B b d n j m o bv g a c<|pass (fM c) gM a t):=by rw[<-e];exact A
 have D:=ah<|G.out.trans z;clear A z q e v H;go_wp2;go_end0;exact⟨rfl,F,D⟩
def Sj(a:Int)(t:aw):aw:=pass f7 g7 a<|pass f6 g3 ()<|pass f5 g5 U<|pass f4 g4 U<|pass f3 g3 ()<|pass f2 g2 a<|pass (f1 a) (g1 a) U t
def Oc(b a:aw)(s:Sq):aw:=
 pass (Da<|s.level%2) g3 () (pass (fM s.ay) gM s.aq<|Ca (Sj s.aq<|bz a s.at') (bz a s.at') (Ce (Sj s.aq<|bz a s.at')<|bz b s.at') (s.level%2) s.aq)
def at7 {a:Int}(d:a=0∨a=1){t:aw}(e:∀c∈t,K0 c):Sj a t=vJ a t:=by unfold Sj vJ;rw[af9,agc,X0];intro c b;have:=(ah5 d e).1 c b;unfold Cl at this;omega
def afr {e b:Int}(d:e=0∨e=1)(f:b=0∨b=1)(a:aw):∀(c:List<|Nat×Nat)(t:aw),Ca t a c e b=B6 t a c e b
 |[],_=>rfl
 |p::c,t=>by have:=afr d f a c<|uu t a p e b;unfold Ca B6 at this ⊢;rw[rZ,rZ,aqo d f,this]
def mem_set {l:aw}{k:Nat}{v c:Int}(h:c∈l.set k v):c∈l∨c=v:=by rcases List.mem_or_eq_of_mem_set h with h|h;exact .inl h;exact .inr h
def XJ {t:aw}{k:Nat}{v c:Int}:∀m,c∈dV t k v m->c∈t∨c=v
 |0,h=> .inl h
 |m+1,h=>by rcases mem_set h with h|h;exact XJ m h;exact .inr h
def aqh {t:aw}{p:Nat×Nat}{e a:Int}(b:e=0∨e=1)(c:a=0∨a=1):AG t p e a=0∨AG t p e a=1:=by unfold AG;split;exact b;exact Xv c t p.1
def aqm {P:Int->Prop}(l:P 0)(m:P 1){t b:aw}{p:Nat×Nat}{e d:Int}(j:e=0∨e=1)(k:d=0∨d=1)(g:∀c∈t,P c):∀c∈uu t b p e d,P c:=by
 intro c a;have i:=aqh (t:=t) (p:=p) j k;have f:∀x,x=AG t p e d->P x:=λx hx=>by rcases i with h|h<;>rw[hx,h]<;>assumption
 unfold uu at a;split at a;exact g c a;rcases XJ _ a with a|a;rcases XJ _ a with a|a;exact g c a;exact f c a;exact f c a
def afq {P:Int->Prop}(d:P 0)(f:P 1){orig:aw}{e a:Int}(g:e=0∨e=1)(h:a=0∨a=1):∀(b:List<|Nat×Nat)(t:aw),(∀c∈t,P c)->∀c∈B6 t orig b e a,P c
 |[],_,ht=>ht
 |p::b,t,ht=>by have:=afq d f (orig:=orig) g h b (uu t orig p e a)<|aqm d f g h ht;unfold B6 at this ⊢;rw[rZ];exact this
def asK {f a:aw}{s:Sq}(b:s.aq=0∨s.aq=1)(g:s.ay=0∨s.ay=1)(e:∀c∈bz a s.at',K0 c):Oc f a s=Od f a s:=by
 have d:s.level%2=0∨s.level%2=1:=by omega
 unfold Oc Od;rw[at7 b e,afr d b,agf,XT g _ _ b];rfl;exact afq (by simp[Cl]) (by simp[Cl]) d b _ _ (ah5 b e).2
def uU(a:List aY):Prop:=∀e∈a,e.o<=1
def uU.app {b:List aY}{e:aY}(h:uU b)(c:e.o<=1):uU (b++[e]):=λy a=>by rcases ji.1 a with a|a;exact h y a;rw[r7.1 a];exact c
def uU.sub {b a:List aY}(h:uU b)(d:∀e∈a,e∈b):uU a:=λe c=>h e<|d e c
def uU.pre {x:XS}(h:uU x.st)(c:Int):uU (eP x c).st:=by unfold eP;split;unfold jE;split;exact h;split;exact h;exact h.sub<|Yy _;exact h
def uU.post {x:XS}(h:uU x.st)(d:aw)(i:Nat)(c:Int):uU (gi d i x c).st:=by
 have a:∀b,uU (jP x b).st:=λb=>by unfold jP;simp only;split;exact h.app (by simp);exact h
 unfold gi;split
 .have g:(if c=15 then(0:Int)else if c=16 then 1 else -1)<=1:=by split;decide;split<;>decide
  unfold lH;simp only;generalize(if c=15 then(0:Int)else if c=16 then 1 else -1)=o at*;generalize jt (bq x.st).l _=n;split;exact h.app g;split<;>exact h
 split;exact a _;split;exact a _;split;exact a _;split
 .unfold kZ;split;exact h;split;exact h;split;exact h.sub λe f=>mg _ f
  exact h
 exact h
def aif(b:aw)(a:Int):∀i,uU (fE b a i).st
 |0=>by intro e c;rw[fE]at c;rw[r7.1 c];show(-1:Int)<=1;decide
 |i+1=>by rw[fE];exact((aif b a i).pre _).post b i _
def aum(b:aw)(a:Int)(c:0<=a/\a<=125)(i:Nat):(iM b a i).o<=1:=
 ((aif b a i).pre _) _ (R9 ((zF b a c i).pre _).ne)
def Sl(b:aw)(a:Int)(c:0<=a/\a<=125)(i:Nat):0<=(iM b a i).l/\(iM b a i).l<=125:=
 ((zF b a c i).pre _).top.2
def Sk {cs:aw}{a:Int}(b:0<=a/\a<=125)(i:Nat):0<=(bf cs a).getD i 0/\(bf cs a).getD i 0<=125:=by rcases dc i cs.length with h|h;rw[bf,Ho _ _ _ _ h];exact Sl cs a b i;rw[aN,tI<|by simp[bf];exact h];simp
def ZR(b:aw)(a:Int):(bf b a).length=b.length:=by simp[bf]
def aeV {b:aw}{p:Nat}(h:l8 (aO b) p=db):p<b.length/\bX (b.getD p 0)=db:=by unfold l8 aO at h;rw[aN,jC]at h;rcases dc p b.length with a|a;rw[aK a]at h;refine⟨a,?_⟩;rw[aN,aK a];exact h;rw[tI a]at h;cases h
def aoO {b:aw}(f:∀c∈b,0<=c/\c<=21){a:Int}(i:0<=a/\a<=125){p:Nat}(h:l8 (aO b) p=db):K0 ((je b a).getD p 0):=by obtain⟨e,g⟩:=aeV h;have j:=f _ (dP (d:=0) e);rw[je,Ho _ _ _ _ e,kindOf];have k:=aum b a i p;generalize b.getD p 0=c at*;unfold K0;split;omega;unfold bX at g;simp at g;omega
def ZP(b:aw)(a:Int):nt b.length (dB (bf b a)<|aO b):=by have h:=AJ (bf b a)<|aO b;refine⟨h.2.1,λr d p c=> ?_,ag7 _ _⟩;have:=(RU d c).1;rwa [ZR]at this
def Gu {a:aw}{b:Int}:∀(f:Nat)(r:ba),(∀p∈r,l8 (aO a) p=db)->∀p∈cE a (dB (bf a b)<|aO a) f r,l8 (aO a) p=db
 |0,r,h=>h
 |f+1,r,h=>by
  rw[cE];cases hk:iK a (dB (bf a b)<|aO a) (r.getLastD 0)with
  |none=>exact h
  |some k=>
   refine Gu f _ λp c=> ?_
   rcases ji.1 c with c|c;exact h p c;exact(RU (dP (XV hk).1) c).2
def aps {b:aw}{a:Int}(f:0<=a/\a<=125):∀i,i<b.length->aU (b.getD i 0)=db->mt b i<b.length->(bf b a).getD (mt b i) 0=(bf b a).getD i 0:=by intro i c e d;rw[bf,Ho _ _ _ _ c,Ho _ _ _ _ d,(apu f c e d).1]
def ahl(a b:Int):jA a b=0∨jA a b=1:=by unfold jA;generalize(if a<b then b else a)=m;split;exact .inr rfl;exact .inl rfl
section
variable{cs:List Int}{para:Int}
def RY(e:∀c∈cs,0<=c/\c<=21)(b:0<=para/\para<=125){s:Sq}(g:s∈iL cs (bf cs para) (aO cs) para):(s.aq=0∨s.aq=1)/\(s.ay=0∨s.ay=1)/\bz (kP cs para) s.at'=bz (je cs para) s.at'/\(∀c∈bz (je cs para) s.at',K0 c)/\∀p∈s.at',p<cs.length/\(bf cs para).getD p 0=s.level:=by
 unfold iL at g;obtain⟨r,k,rfl⟩:=jX.1 g;have d:=(uN.1 k).1;have f:∀p∈cE cs (dB (bf cs para)<|aO cs) cs.length r,l8 (aO cs) p=db:=Gu _ _ λp b=>(RU d b).2
 refine⟨ahl _ _,ahl _ _,?_,?_,?_⟩
 .refine Lt λp a=> ?_
  obtain⟨h,i⟩:=aeV<|f p a;exact aoN b h i
 .intro c j;obtain⟨p,a,rfl⟩:=jX.1 j;exact aoO e b<|f p a
 exact ak8 (ZP cs para) (AJ _ _).2.2 (aps b) d
def pL(b a:aw)(s:Sq):List (Nat×Int×Int):=jN s.at' s.level<|Oc b a s
def J9 {a:Type}{f:a->Int->aw->Int}{g:a->Int->aw->a}(s:a)(t:aw):(pass f g s t).length=t.length:=age t s
def ahn(f d:aw)(s:Sq):(Od f d s).length=s.at'.length:=by
 unfold Od E7;rw[J9,XO];unfold vJ;have e:∀(a b:Int)(t:aw)(l:Int),(mO a b l t).length=t.length:=λa b t=>by
  induction t with
  |nil=>intro l;rfl
  |cons c r ih=>intro l;rw[mO,eU,ih,eU]
 rw[e,J9,J9,J9,J9,e,J9];simp[bz]
def ahP {c:ba}{d:Int}{t:aw}{x:Nat×Int×Int}(h:x∈jN c d t):x.1∈c/\x.2.1=d/\x.2.2∈t:=by unfold jN at h;obtain⟨y,e,rfl⟩:=jX.1 h;obtain⟨a,b⟩:=y;exact⟨(List.of_mem_zip e).1,rfl,(List.of_mem_zip e).2⟩
def ahR(c a:aw):∀b:List Sq,(b.flatMap<|rQ c a).map Prod.fst=b.flatMap Sq.at'
 |[]=>rfl
 |s::b=>by rw[yF,yF,gu,ahR c a b,rQ,ahO _ _ _ (by rw[ahn];exact au _)]
def Y2 {P:Int->Prop}:∀(b:List<|Nat×Int×Int)(l:aw),(∀x∈b,P<|pF x.2.2 x.2.1)->(∀o∈l,P o)->∀o∈b.foldl mo l,P o
 |[],_,_,h=>h
 |x::b,l,hx,h=>by
  rw[rZ];refine Y2 b _ (λy c=>hx y<|by simp[c]) λo a=> ?_
  rcases mem_set a with a|a;exact h o a;rw[a];exact hx x<|by simp
def aof {c l:Int}:l<=pF c l/\pF c l<=l+2:=by
 unfold pF;split;split;omega;split<;>omega
 split<;>omega
def ahN(a:∀c∈cs,0<=c/\c<=21)(b:aw)(h:0<=para/\para<=125):∀s∈iL cs (bf cs para) (aO cs) para,pL b (kP cs para) s=rQ b (je cs para) s:=λs i=>by obtain⟨d,e,f,g,_⟩:=RY a h i;unfold pL rQ;rw[<-asK d e g];unfold Oc;rw[f]
def YZ(b:aw)(a:Int):((iL b (bf b a) (aO b) a).flatMap Sq.at').Nodup:=by have:=ahe (ZP b a) b.length;unfold iL;rw[Ls,Po]at*;exact this
def uB:∀(a:List<|Nat×Int×Int)(l:aw)(p:Nat),p ∉ a.map Prod.fst->(a.foldl jl l).getD p 0=l.getD p 0
 |[],_,_,_=>rfl
 |x::a,l,p,h=>by rw[ni,gI,not_or]at h;rw[rZ,uB a _ p h.2];exact getD_set_ne (λe=>h.1 e.symm) _
def arE(l c:Int):0<=jM l c/\jM l c<=2:=by unfold jM;split;omega;split<;>omega
def uk:∀(a:List<|Nat×Int×Int)(l:aw),(a.map Prod.fst).Nodup->∀p,l.getD p 0<=(a.foldl jl l).getD p 0/\(a.foldl jl l).getD p 0<=l.getD p 0+2
 |[],l,_,p=>by simp only[T8];omega
 |x::a,l,hn,p=>by
  rw[ni,Ec]at hn;rw[rZ];by_cases hx:x.1=p
  .rw[uB a _ p (by rw[<-hx];exact hn.1)];have d:=arE x.2.1 x.2.2;rcases dc p l.length with h|h;unfold jl;rw[hx,Ac h];omega;have:(jl l x).getD p 0=l.getD p 0:=by
    have b:∀k:aw,k.length<=p->k.getD p 0=0:=λk c=>by rw[aN,tI c];rfl
    rw[b _ (by simpa [jl]using h),b _ h]
   omega
  have:=uk a (jl l x) hn.2 p;have e:(jl l x).getD p 0=l.getD p 0:=getD_set_ne hx _;omega
def ahQ(a:∀c∈cs,0<=c/\c<=21)(d:aw)(e:0<=para/\para<=125):∀b:List Sq,(∀s∈b,s∈iL cs (bf cs para) (aO cs) para)->(b.flatMap<|pL d<|kP cs para).map Prod.fst=b.flatMap Sq.at'
 |[],_=>rfl
 |s::b,h=>by rw[yF,yF,gu,ahQ a d e b λx hx=>h x<|by simp[hx],ahN a d e s<|h s<|by simp,rQ,ahO _ _ _ (by rw[ahn];exact au _)]
def asZ {c:Type}:∀{a b:List (List c)},a.Sublist b->a.flatten.Sublist b.flatten:=by
 intro a b h
 induction h with
 |slnil=>exact ai5 _
 |cons x _ ih=>rw[Bj];exact ih.trans<|List.sublist_append_right _ _
 |cons_cons x _ ih=>rw[Bj,Bj];exact(List.append_sublist_append_left x).2 ih
def aqA(e:∀c∈cs,0<=c/\c<=21)(d:aw)(f:0<=para/\para<=125)(b:List Sq)(a:b.Sublist<|iL cs (bf cs para) (aO cs) para)(p:Nat):0<=((b.flatMap<|pL d<|kP cs para).foldl jl (bf cs para)).getD p 0/\((b.flatMap<|pL d<|kP cs para).foldl jl (bf cs para)).getD p 0<=127:=by
 have g:((b.flatMap<|pL d<|kP cs para).map Prod.fst).Nodup:=by rw[ahQ e d f b λs h=>a.subset h];exact(YZ cs para).sublist (by rw[Ls,Ls];exact asZ<|a.map Sq.at')
 have i:=uk _ (bf cs para) g p;have j:=Sk (cs:=cs) f p;omega
def ao6(b:∀c∈cs,0<=c/\c<=21)(a:aw)(d:Int)(f:para=gT cs d)(e:0<=para/\para<=125):Aa para (l1 para cs<|((iL cs (bf cs para) (aO cs) para).flatMap (pL a<|kP cs para)).foldl jl (bf cs para))=fQ a cs d:=by
 have p:(iL cs (bf cs para) (aO cs) para).flatMap (pL a<|kP cs para)=(iL cs (bf cs para) (aO cs) para).flatMap (rQ a<|je cs para):=by rw[Ls,Ls,Lt<|ahN b a e]
 rw[p];have q:(((iL cs (bf cs para) (aO cs) para).flatMap (rQ a<|je cs para)).map Prod.fst).Nodup:=by rw[ahR];exact YZ cs para
 have g:∀x∈(iL cs (bf cs para) (aO cs) para).flatMap (rQ a<|je cs para),(bf cs para).getD x.1 0=x.2.1/\(x.2.2=0∨x.2.2=1∨x.2.2=3∨x.2.2=6):=λx hx=>by obtain⟨s,t,hx⟩:=IE.1 hx;obtain⟨h,u,v,w,j⟩:=RY b e t;obtain⟨k,m,n⟩:=ahP hx;refine⟨by rw[m];exact(j _ k).2,?_⟩;exact apF h (by omega) _ n
 rw[uD _ _ q g,Ms<|by omega];unfold fQ;rw[<-f];refine Y2 (P:=λo=>o≠ -1) _ _ (λx hx=> ?_) λo r=> ?_
 .have:=(g x hx).1;have y:=Sk (cs:=cs) e x.1;have:=aof (c:=x.2.2) (l:=x.2.1);omega
 obtain⟨i,_,rfl⟩:=jX.1 (show o∈(List.range cs.length).map λi=>(iM cs para i).l from r);have:=Sl cs para e i;omega
end
def Tryz.aok:(prog.info? 108).map (λi=>(i.zero,i.size,i.bytes))=V (V<|Y Z 0,1,8):=by kernel_rfl
def Tryz.ak1:prog.cellsOf 108=1:=by kernel_rfl
def Tryz.atH:prog.underlying 263=V (.array 3 108):=by kernel_rfl
def Tryz.af4(a b c:Int)(w:cw):(part 108 #[Y Z a,Y Z b,Y Z c] 0).run prog w= .ok (Y Z a) w/\(part 108 #[Y Z a,Y Z b,Y Z c] 1).run prog w= .ok (Y Z b) w/\(part 108 #[Y Z a,Y Z b,Y Z c] 2).run prog w= .ok (Y Z c) w:=⟨by kernel_rfl,by kernel_rfl,by kernel_rfl⟩
def Tryz.amb(a b c x y z:Int)(w:cw):(Op.equalIn 10000 263 (df #[Y Z a,Y Z b,Y Z c])<|df #[Y Z x,Y Z y,Y Z z]).run prog w= .ok (a==x&&(b==y&&c==z)) w:=by
 obtain⟨i,d,_⟩:=fP Tryz.aok;have r:∀(p q:Int)(w:cw),(Op.equalIn 9999 108 (Y Z p)<|Y Z q).run prog w= .ok (p==q) w:=λp q w=>run_equalIn_int w 9998 108 .i64 .i64 p q underlying108
 have e:List.range 3=[0,1,2]:=rfl;obtain⟨f,g,h⟩:=Tryz.af4 a b c w;obtain⟨j,k,l⟩:=Tryz.af4 x y z w;rw[ar0 w 9999 _ _ Tryz.atH d,e,Tryz.ak1];cases h1:(a==x)<;>cases h2:(b==y)<;>cases h3:(c==z)<;>simp[Op.eqItems,f,g,h,j,k,l,r,h1,h2,h3]
def atS(w:cw)(B u f n A:Nat)(N O bv:cJ)(J I K:Int)(t:aw)(h:aZ w B u f n A N O bv J I K t)(hn:n<=1000)(aa:0<n):cP prog 147 #[.pointer<|V<|S u 0 U] w λe s=>e=bj (de #[])/\aZ s B u f n A N O bv J I K (pass f4 g4 U t)/\w.grownBy s (V f):=by
 have di:=ah h;have x:=ah h.len;have HE:=Tryz.amb;clear h;go_enter func147,ntmps147;go_wp2;go_loopg [2] (n - 1) (λgk iv wr=>∃(k:Nat)(a:Int)(g:aw),k+1<=n/\gk=n - (k+1)/\iv=Y Z ((k:Int)+1)/\aZ wr B u f n A N O bv J I K g/\w.grownBy wr (V f)/\bC f4 g4 U t (k+1) (V a) g/\a=g.getD k 0);exact⟨0,t.getD 0 0,t,by omega,by omega,by simp,di,kI _ _,aga<|by rw[x.out];exact aa,rfl⟩;clear di;obtain⟨k,a,g,hk,GG,rfl,m,M,o,ha⟩:=hrel;by_cases ap:k+1+1<n
 .have R:=m.at k (by omega);have T:=m.at (k+1) (by omega);have W:=m.at (k+1+1) (by omega);rw[<-ha]at R;rw[o.at (k+1)<|au _]at T;rw[o.at (k+1+1)<|by omega]at W;have L:=m.f2;obtain⟨b,p⟩:=ac<|(k:Int)+1;rw[<-p];have d0:wr.cell? (S f (b.toNat - 1) U)=V (Y Z a):=by rw[show b.toNat - 1=k by omega];exact R
  have d1:wr.cell? (S f b.toNat U)=V (Y Z<|t.getD (k+1) 0):=by rw[show b.toNat=k+1 by omega];exact T
  have dn:wr.cell? ⟨f,(b+1).toNat,U⟩=V (Y Z<|t.getD (k+1+1) 0):=by rw[show(b+1).toNat=k+1+1 by omega];exact W
  clear R T W;have ab:(0:Int)<=b - 1:=by omega
  have ad:(0:Int)<=b:=by omega
  have af:(1:Int)<=b:=by omega
  have ag:b<=(n:Int):=by omega
  have ak:(0:Int)<b:=by omega
  have ae:(0:Int)<=b+1:=by omega
  have D:b+1<(n:Int):=by omega
  have y:b<(n:Int):=by omega
  have al:b - 1<(n:Int):=by omega
  have am:IntKind.i64.wrap (b - 1)=b - 1:=O7 _ ⟨by omega,by omega⟩;have an:IntKind.i64.wrap (b+1)=b+1:=O7 _ ⟨by omega,by omega⟩;have HI:=ah p;have hd:t.drop (k+1+1)=t.getD (k+1+1) 0::t.drop (k+1+2):=drop_at (by rw[x.out];omega);have F:=m.len;have Q:=ah m;have P:=ah M;have C:=o.at (k+1)<|au _;have X:f4 (V a) (t.getD (k+1) 0) (t.drop<|k+1+1)=t.getD (k+1) 0->dd (bC f4 g4 U t (k+1+1) (V<|t.getD (k+1) 0) g):=λl=>o.stay (by rw[x.out];omega) _ l.symm (by rw[g4,l])
  have dJ:∀v,f4 (V a) (t.getD (k+1) 0) (t.drop<|k+1+1)=v->dd (bC f4 g4 U t (k+1+1) (V v) (g.set (k+1) v)/\v=(g.set (k+1) v).getD (k+1) 0):=λv l=>⟨o.step (by rw[x.out];omega) v (V v) l.symm<|by rw[g4,l],by rw[Ac<|by rw[F];omega]⟩
  rw[hd,Ve]at X;have z:∀v,(if a=t.getD (k+1+1) 0/\((t.getD (k+1) 0=4/\a=3)∨(t.getD (k+1) 0=7/\(a=3∨a=6)))then a else t.getD (k+1) 0)=v->dd (bC f4 g4 U t (k+1+1) (V v) (g.set (k+1) v)/\v=(g.set (k+1) v).getD (k+1) 0):=λv l=>dJ v<|by rw[hd,Ve];exact l
  have G:=ah X;have r:=ah z;have mq:=ah C;clear m M o ha dJ hd C F X z;generalize t.getD (k+1) 0=c at*;generalize t.getD (k+1+1) 0=d at*;clear p;have e1:=World.new_ne wr _ L;have e2:=World.new_ne wr _ d0;go_wp2
  go_region_held3 (λs=>s.cell? (S u 2 U)=V (.slice (V<|S f 0 U) n A)/\s.cell? (S f (b.toNat - 1) U)=V (Y Z a)/\s.cell? (S f b.toNat U)=V (Y Z c)/\s.cell? ⟨f,(b+1).toNat,U⟩=V (Y Z d)) (go_keep) (fail)
  have bV:cD wr.1.size wr (wr.alloc<|bi #[Y Z a,Y Z c,Y Z d] 263).drew:=((aA _ _).alloc (au _) _).drew;have j:=ah<|Q.out.below bV;have H:dd (w.grownBy (wr.alloc<|bi #[Y Z a,Y Z c,Y Z d] 263).drew (V f)):=P.out.trans ⟨rfl,rfl,rfl,by simp,λq hq _=>dh wr _ q hq⟩;have b0:(wr.alloc<|bi #[Y Z a,Y Z c,Y Z d] 263).drew.cell? (S wr.1.size 0 U)=V (Y Z a):=by go_simp
  have b1:(wr.alloc<|bi #[Y Z a,Y Z c,Y Z d] 263).drew.cell? (S wr.1.size 1 U)=V (Y Z c):=by go_simp
  have b2:(wr.alloc<|bi #[Y Z a,Y Z c,Y Z d] 263).drew.cell? (S wr.1.size 2 U)=V (Y Z d):=by go_simp
  generalize(wr.alloc<|bi #[Y Z a,Y Z c,Y Z d] 263).drew=W5 at*;generalize wr.1.size=zb at*;clear d0 d1 dn L e1 e2 bV ab ad ae af ag ak D y al am an;have hi:=HI.out;subst hi;have y:(k:Int)+1<(n:Int):=by omega
  have L:=j.out.f2;have ck:=j.out.at (k+1) (by omega);have ao:=j.out.frozen<|k+1;rw[mq.out]at ck;cases l:(a==3&&(c==4&&d==3))
  .cases h2:(a==3&&(c==7&&d==3))
   .cases h3:(a==6&&(c==7&&d==6))
    .have i:=G.out (ai<|by simp at l h2 h3;omega);clear G r;go_wp2;go_roundg (n - (k+1+1));exact⟨k+1,c,g,by omega,rfl,by go_num,j,H,i.out,mq.out.symm⟩;omega
    have i:=r.out 6 (by simp at h3;rw[aj<|by omega];omega);clear G r;go_wp2;go_roundg (n - (k+1+1));exact⟨k+1,6,g.set (k+1) 6,by omega,rfl,by go_num,j.out.set (k+1) 6,H.out.trans<|j.out.grown (k+1) 6,i.out.1,i.out.2⟩;omega
   have i:=r.out 3 (by simp at h2;rw[aj<|by omega];omega);clear G r;go_wp2;go_roundg (n - (k+1+1));exact⟨k+1,3,g.set (k+1) 3,by omega,rfl,by go_num,j.out.set (k+1) 3,H.out.trans<|j.out.grown (k+1) 3,i.out.1,i.out.2⟩;omega
  have i:=r.out 3 (by simp at l;rw[aj<|by omega];omega);clear G r;go_wp2;go_roundg (n - (k+1+1));exact⟨k+1,3,g.set (k+1) 3,by omega,rfl,by go_num,j.out.set (k+1) 3,H.out.trans<|j.out.grown (k+1) 3,i.out.1,i.out.2⟩;omega
 have E:g=pass f4 g4 U t:=agb o (by rw[x.out];omega);have Q:dd (aZ wr B u f n A N O bv J I K<|pass f4 g4 U t):=by rw[<-E];exact m
 have P:=ah M;have D:¬(k:Int)+1+1<(n:Int):=by omega
 have L:=m.f2;clear m M o E ha;go_wp2;go_end0;exact⟨rfl,Q,P⟩
structure zW(W:World)(B:Nat)(L:LP)(ax aq ay:Int)(k0:aw)(q:jk)(t:aw):Prop where
 sq:aZ W B q.sb q.gc q.m q.cc (.slice (some ⟨q.gp,q.op,none⟩) q.m q.cp) (.slice (some ⟨q.gr,0,none⟩) q.m q.cr) (.slice (some ⟨q.gb,0,none⟩) q.m q.m) ax aq ay t
 ru:Ej W q.gr q.m<|bz L.rs q.at'
 be:bJ W q.gb 0 k0
 pl:bJ W q.gp q.op<|nl q.at'
 nr:q.gr≠q.gc
 nb:q.gb≠q.gc
 np:q.gp≠q.gc
section
variable{W W':World}{B:Nat}{L:LP}{ax aq ay:Int}{k0 t t':List Int}{q:jk}
def zW.rule(h:zW W B L ax aq ay k0 q t)(b:aZ W' B q.sb q.gc q.m q.cc (.slice (V<|S q.gp q.op U) q.m q.cp) (.slice (V<|S q.gr 0 U) q.m q.cr) (.slice (V<|S q.gb 0 U) q.m q.m) ax aq ay t')(a:W.grownBy W'<|V q.gc):zW W' B L ax aq ay k0 q t':=
 ⟨b,λk c=>cell_grown a (h.ru k c) λe=>h.nr<|aI e,h.be.grown a h.nb,h.pl.grown a h.np,h.nr,h.nb,h.np⟩
def zW.below(h:zW W B L ax aq ay k0 q t)(a:cD W.1.size W W'):zW W' B L ax aq ay k0 q t:=
 ⟨h.sq.below a,h.ru.below a,h.be.below a,h.pl.below a,h.nr,h.nb,h.np⟩
end
def asg(l:aw)(k:Nat)(a:k<l.length):(qN l)[k]? =V (Y .i32<|l.getD k 0):=by simp[qN,aN,aK a]
def qZ.sqs {W:cw}{B:Nat}{L:LP}{c a:aw}{q:jk}(h:qZ W B L c a q):zW W B L (a.getD (q.at'.headD 0) 0) (jA (a.getD (q.at'.headD 0) 0)<|lD a (aO L.cs) L.p<|q.at'.headD 0) (jA (a.getD (q.at'.headD 0) 0)<|rz L.cs a (aO L.cs) L.p<|q.at'.getLastD 0) (bz c q.at') q (bz c q.at'):=by obtain⟨l,m,g⟩:=h.ty;obtain⟨i,d⟩:=BO h.sq.row;obtain⟨j,f⟩:=BO h.ru;refine⟨h.sq,λk b=> ?_,λk b=>by rw[fV];exact jx h.be k b,h.pl,?_,h.ne,?_⟩;rw[cT h.ru k<|by omega,asg _ _ (by rw[RQ,h.len];exact b)];intro e;rw[e]at f;exact absurd (yL d f) (by decide);intro e;rw[e]at g;exact absurd (yL d g)<|by decide
def rP:Nat->Nat
 |0=>144
 |1=>145
 |2=>146
 |3=>147
 |4=>148
 |5=>149
 |6=>150
 |7=>151
 |8=>152
 |_=>153
def agK(b a c:Int)(d e t:aw):Nat->aw
 |0=>pass (f1 a) (g1 a) U t
 |1=>pass f2 g2 a t
 |2=>pass f3 g3 () t
 |3=>pass f4 g4 U t
 |4=>pass f5 g5 U t
 |5=>pass f6 g3 () t
 |6=>pass f7 g7 a t
 |7=>Ca t d (Ce t e) (b%2) a
 |8=>pass (fM c) gM a t
 |_=>pass (Da<|b%2) g3 () t
def RT(c b d:Int)(a e:aw):Nat->aw
 |0=>a
 |k+1=>agK c b d a e (RT c b d a e k) k
def arP(b a:aw)(s:Sq):RT s.level s.aq s.ay (bz a s.at') (bz b s.at') 10=Oc b a s:=rfl
def arO(k:Nat):∀args w,(callFunc (rP k) args).run prog w= .ok (.enter (rP k) args) w:=by
 match k with
 |0=>exact kj func144 (by kernel_rfl)<|by kernel_rfl
 |1=>exact kj func145 (by kernel_rfl)<|by kernel_rfl
 |2=>exact kj func146 (by kernel_rfl)<|by kernel_rfl
 |3=>exact kj func147 (by kernel_rfl)<|by kernel_rfl
 |4=>exact kj func148 (by kernel_rfl)<|by kernel_rfl
 |5=>exact kj func149 (by kernel_rfl)<|by kernel_rfl
 |6=>exact kj func150 (by kernel_rfl)<|by kernel_rfl
 |7=>exact kj func151 (by kernel_rfl)<|by kernel_rfl
 |8=>exact kj func152 (by kernel_rfl)<|by kernel_rfl
 |_+9=>exact kj func153 (by kernel_rfl)<|by kernel_rfl
def asY {c:Int}(h:c=0∨c=1):bH c=c:=by rcases h with rfl|rfl<;>rfl
def arN {W:cw}{B:Nat}{L:LP}{j g i:Int}{l t:aw}{q:jk}(h:zW W B L j g i l q t)(m:Br W)(d:q.m<=1000)(u:0<q.m)(r:0<=j)(o:g=0∨g=1)(s:i=0∨i=1)(n:l.length=q.m)(k:Nat):cP prog (rP k) #[.pointer<|V<|S q.sb 0 U] W λe p=>e=bj (de #[])/\zW p B L j g i l q (agK j g i l (bz L.rs q.at') t k)/\W.grownBy p (V q.gc):=by
 match k with
 |0=>exact(atN W B _ _ _ _ _ _ _ _ _ _ _ h.sq d o).mono λe f ⟨c,b,a⟩=>⟨c,h.rule b a,a⟩
 |1=>exact(atO W B _ _ _ _ _ _ _ _ _ _ _ h.sq d).mono λe f ⟨c,b,a⟩=>⟨c,h.rule b a,a⟩
 |2=>exact(atQ W B _ _ _ _ _ _ _ _ _ _ _ h.sq d).mono λe f ⟨c,b,a⟩=>⟨c,h.rule b a,a⟩
 |3=>exact(atS W B _ _ _ _ _ _ _ _ _ _ _ h.sq d u).mono λe f ⟨c,b,a⟩=>⟨c,h.rule b a,a⟩
 |4=>exact(atU W B _ _ _ _ _ _ _ _ _ _ _ h.sq d o s).mono λe f ⟨c,b,a⟩=>⟨c,h.rule b a,a⟩
 |5=>exact(atV W B _ _ _ _ _ _ _ _ _ _ _ h.sq d).mono λe f ⟨c,b,a⟩=>⟨c,h.rule b a,a⟩
 |6=>exact(atW W B _ _ _ _ _ _ _ _ _ _ _ h.sq d).mono λe f ⟨c,b,a⟩=>⟨c,h.rule b a,a⟩
 |7=>exact(arC W B _ _ _ _ _ _ _ _ _ _ _ _ _ _ _ h.sq h.ru h.be n h.nb m d r).mono λe f ⟨c,b,a⟩=>⟨c,h.rule b a,a⟩
 |8=>exact(apx W B _ _ _ _ _ _ _ _ _ _ _ h.sq d (asY o)).mono λe f ⟨c,b,a⟩=>⟨c,h.rule b a,a⟩
 |_+9=>exact(apy W B _ _ _ _ _ _ _ _ _ _ _ h.sq d r).mono λe f ⟨c,b,a⟩=>⟨c,h.rule b a,a⟩
structure LV(W w0:World)(B:Nat)(L:LP)(ks ls:aw)(go g:Nat)(av:Value)(qs:List jk)(j:Nat)(o:aw):Prop where
 fs:FS W L ks ls go o
 rl:∀k,k<10->W.cell? ⟨g,k,none⟩=some (.func (.func<|rP k) #[] #[])
 row:W.ownsRow B 146 1 av qs.length<|qs.map jk.ptr
 sq:∀q∈qs.drop j,qZ W B L ks ls q
 br:Br W
 hb:Below L.B w0 W
structure TZ(B:Nat)(L:LP)(go g:Nat):Prop where
 lo:L.B<=B
 Vt:go<B
 Vs:L.B<=go
 gL:g<B
 gg:g≠go
 has:∀x,L.has x->x<B
 bp:11<L.B
section
variable{W W' w0:World}{B:Nat}{L:LP}{ks ls o o':List Int}{go g j:Nat}{av:Value}{qs:List jk}{q:jk}
def Br.grown {r:Nat}(h:Br W)(c:W.grownBy W'<|V r)(a:11≠r):Br W':=by obtain⟨d,b,e⟩:=h;exact⟨d,b,(c.block _ (dg e) (λe=>a<|aI e)).trans e⟩
def LV.below(h:LV W w0 B L ks ls go g av qs j o)(a:cD W.1.size W W')(b:L.B<=W.1.size):LV W' w0 B L ks ls go g av qs j o:=
 ⟨h.fs.below a,λk c=>cell_grown (r:=U) (I2 a) (h.rl k c)<|by simp,fS h.row a,λq d=>(h.sq q d).below a,h.br.below a,h.hb.trans<|a.mono b⟩
def LV.rule(h:LV W w0 B L ks ls go g av qs j o)(c:TZ B L go g)(t:∃b,W.1[q.gc]? =V (bi b 108 (0,0)))(A:B<=q.gc)(l:∀i∈qs.drop j,Fw q i)(a:W.grownBy W'<|V q.gc)(m:L.B<=W.1.size):LV W' w0 B L ks ls go g av qs j o:=by obtain⟨b,f⟩:=t;have C:=c.Vt;have D:=c.gL;have E:=c.lo;have F:=c.bp;refine⟨⟨h.fs.ln.same a.size λx hx=>a.block x (h.fs.ln.lt x hx) λe=>by have:=c.has x hx;have:=aI e;omega,jw h.fs.row a<|by omega,h.fs.ap⟩,λk s=>cell_grown a (h.rl k s) (λe=>by have:=aI e;simp only at this;omega),eW h.row a (.inr<|kq h.row f<|by decide),λi d=> ?_,h.br.grown a<|by omega,h.hb.grown a m λy u=>by cases u;omega⟩;have hx:=h.sq i d;have n:=l i d;obtain⟨v,p⟩:=BO hx.ru;obtain⟨w,z,r⟩:=hx.ty;refine hx.grown a ?_ (λe=>n.1 e.symm) ?_ (λe=>n.2.2 e.symm) ?_;intro e;exact absurd (yL (e▸hx.sq.cell) f) (by decide);intro e;exact absurd (yL (e▸p) f) (by decide);intro e;exact absurd (yL (e▸r) f)<|by decide
def LV.impl(h:LV W w0 B L ks ls go g av qs j o)(b:TZ B L go g)(l:bI W' L.B go L.n L.n o')(a:W.grownBy W'<|V go)(f:L.B<=W.1.size):LV W' w0 B L ks ls go g av qs j o':=by have t:=b.Vt;have u:=b.bp;have v:=b.Vs;obtain⟨i,m⟩:=BO h.fs.row;refine⟨⟨h.fs.ln.same a.size λx hx=>a.block x (h.fs.ln.lt x hx) λe=>h.fs.ap x hx<|aI e,l,h.fs.ap⟩,λk n=>cell_grown a (h.rl k n) λe=>b.gg<|aI e,eW h.row a (.inr<|kq h.row m<|by decide),λc d=> ?_,h.br.grown a<|by omega,h.hb.grown a f λy p=>by cases p;exact b.Vs⟩;have hx:=h.sq c d;have l1:=(hx.sq.row.lt c.gc rfl).1;have q:=(Bu hx.ru c.gr rfl).1;have r:=(Bu hx.be c.gb rfl).1;have s:=hx.lo;exact hx.grown a (by omega) (by omega) (by omega) (by omega)<|by omega
end
def uz(L:LP)(a:aw)(q:jk):Sq:=tW L.cs a (aO L.cs) L.p q.at'
def asU {L:LP}{a:aw}{b:List jk}(c:L.cs.length=L.n)(h:b.map jk.at'=((dB a<|aO L.cs).filter (iG L.cs)).map (cE L.cs (dB a<|aO L.cs) L.n)):b.map (uz L a)=iL L.cs a (aO L.cs) L.p:=by
 unfold iL;have:b.map (uz L a)=(b.map jk.at').map (tW L.cs a (aO L.cs) L.p):=by rw[Po];rfl
 rw[this,h,Po,c];rfl
def drop_cons {a:Type}{l:List a}{j:Nat}{q:a}(h:l[j]? =V q):l.drop j=q::l.drop (j+1):=by obtain⟨b,e⟩:=tJ.1 h;rw[lV b,e]
def alK {a:List jk}(h:a.Pairwise Fw){j:Nat}{q:jk}(b:a[j]? =V q):∀c∈a.drop (j+1),Fw q c:=by have:=h.sublist<|List.drop_sublist j a;rw[drop_cons b]at this;exact(Ef.1 this).1
def oL(n a b c d:Nat):Nat:=if(Lib.decodeN n a b c d).1=65533/\(Lib.decodeN n a b c d).2=1 then 0 else(Lib.decodeN n a b c d).2
def sz(s:bc):Nat:=oL s.size (s.get! 0).toNat (s.get! 1).toNat (s.get! 2).toNat (s.get! 3).toNat
def Ur:∀X:Fin 256,bits .and .i64 ((X.val:Nat):Int) 31=((X.val%32:Nat):Int):=by decide
def Uo:∀X:Fin 256,bits .and .i64 ((X.val:Nat):Int) 15=((X.val%16:Nat):Int):=by decide
def Us:∀X:Fin 256,bits .and .i64 ((X.val:Nat):Int) 7=((X.val%8:Nat):Int):=by decide
def get_eq(s:bc)(k:Nat)(h:k<s.size):s.get! k=s[k]'h:=by simp[ByteArray.get!,Mk,h];rfl
def uA {n d e f g a b:Nat}(h:Lib.decodeN n d e f g=(a,b))(c:¬(a=65533/\b=1)):oL n d e f g=b:=by unfold oL;rw[h];exact ai c
def ku {n a b c d:Nat}(h:Lib.decodeN n a b c d=(65533,1)):oL n a b c d=0:=by unfold oL;rw[h];exact aj ⟨rfl,rfl⟩
def Gd {n a b c d:Nat}(h:a<128):Lib.decodeN n a b c d=(a,1):=by unfold Lib.decodeN;rw[aj h]
def P6 {n a b c d:Nat}(e:128<=a)(f:a<194):Lib.decodeN n a b c d=(65533,1):=by
 unfold Lib.decodeN;repeat' split
 all_goals first|(exfalso;omega)|rfl
def P7 {n a b c d:Nat}(e:245<=a)(f:a<256):Lib.decodeN n a b c d=(65533,1):=by
 unfold Lib.decodeN;repeat' split
 all_goals first|(exfalso;omega)|rfl
def PW {n b a c d:Nat}(e:194<=b)(f:b<224)(g:a<256)(h:n<2∨a<128∨191<a):Lib.decodeN n b a c d=(65533,1):=by
 unfold Lib.decodeN;repeat' split
 all_goals first|(exfalso;omega)|rfl
def L8 {n b0 b1 b2 b3:Nat}(a:194<=b0)(b:b0<224)(e:2<=n)(c:128<=b1)(d:b1<=191):Lib.decodeN n b0 b1 b2 b3=(b0%32*64+b1%64,2):=by
 unfold Lib.decodeN;repeat' split
 all_goals first|(exfalso;omega)|rfl
def PY {n c a b d:Nat}(f:224<=c)(g:c<240)(i:a<256)(e:b<256)(h:n<3∨a<128∨191<a∨b<128∨191<b):Lib.decodeN n c a b d=(65533,1):=by
 unfold Lib.decodeN;repeat' split
 all_goals first|(exfalso;omega)|rfl
def PZ {n a b c d:Nat}(e:224<=a)(f:a<240)(h:a%16*4096+b%64*64+c%64<2048∨(55296<=a%16*4096+b%64*64+c%64/\a%16*4096+b%64*64+c%64<=57343)):Lib.decodeN n a b c d=(65533,1):=by
 unfold Lib.decodeN;repeat' split
 all_goals first|(exfalso;omega)|rfl
def L9 {n b0 b1 b2 b3:Nat}(a:224<=b0)(b:b0<240)(i:3<=n)(c:128<=b1)(d:b1<=191)(e:128<=b2)(f:b2<=191)(g:2048<=b0%16*4096+b1%64*64+b2%64) (h:b0%16*4096+b1%64*64+b2%64<55296∨57343<b0%16*4096+b1%64*64+b2%64):Lib.decodeN n b0 b1 b2 b3=(b0%16*4096+b1%64*64+b2%64,3):=by
 unfold Lib.decodeN;repeat' split
 all_goals first|(exfalso;omega)|rfl
def P4 {n d a b c:Nat}(g:240<=d)(i:d<245)(j:a<256)(e:b<256)(f:c<256)(h:n<4∨a<128∨191<a∨b<128∨191<b∨c<128∨191<c):Lib.decodeN n d a b c=(65533,1):=by
 unfold Lib.decodeN;repeat' split
 all_goals first|(exfalso;omega)|rfl
def P5 {n a b c d:Nat}(e:240<=a)(f:a<245)(h:a%8*262144+b%64*4096+c%64*64+d%64<65536∨1114111<a%8*262144+b%64*4096+c%64*64+d%64):Lib.decodeN n a b c d=(65533,1):=by
 unfold Lib.decodeN;repeat' split
 all_goals first|(exfalso;omega)|rfl
def Ma {n b0 b1 b2 b3:Nat}(a:240<=b0)(b:b0<245)(k:4<=n)(c:128<=b1)(d:b1<=191)(e:128<=b2)(f:b2<=191)(i:128<=b3)(j:b3<=191)(g:65536<=b0%8*262144+b1%64*4096+b2%64*64+b3%64) (h:b0%8*262144+b1%64*4096+b2%64*64+b3%64<=1114111):Lib.decodeN n b0 b1 b2 b3=(b0%8*262144+b1%64*4096+b2%64*64+b3%64,4):=by
 unfold Lib.decodeN;repeat' split
 all_goals first|(exfalso;omega)|rfl
def alc(r:Int)(w:cw)(h:¬qV r):cP prog 69 #[Y Z r] w λe f=>e=bj (Y Z<|cls r)/\cD w.1.size w f:=by
 have d:(1488<=r/\r<=1514)∨r=8207∨(1575<=r/\r<=1610)∨r=1564∨(48<=r/\r<=57)∨r=43∨r=45∨(1632<=r/\r<=1641)∨(768<=r/\r<=879)∨(1611<=r/\r<=1618)∨r=173∨r=8203∨r=9∨r=32∨r=8195∨(8294<=r/\r<=8297):=by unfold qV at h;omega
 clear h;obtain⟨c,a⟩:=ac<|cls r;rw[<-a];have b:=ah a;clear a;rcases d with h|h|h|h|h|h|h|h|h|h|h|h|h|h|h|h;all_goals
  first
   |subst h
   |(obtain⟨q,s⟩:=h
     have g:(r==8207)=da:=(by simp;omega);have i:(r==1564)=da:=(by simp;omega);have j:(r==43)=da:=(by simp;omega);have k:(r==45)=da:=(by simp;omega);have l:(r==173)=da:=(by simp;omega);have m:(r==8203)=da:=(by simp;omega);have n:(r==9)=da:=(by simp;omega);have o:(r==32)=da:=(by simp;omega);have p:(r==8195)=da:=by simp;omega)
  go_enter func69,ntmps69;go_wp2_with fail;go_ret;refine⟨dX ?_,aA _ _⟩;rw[b.out]
  first
   |exact(AO (by omega)).symm
   |exact(A8 (by omega)).symm
   |exact(BS (by omega)).symm
   |exact(CE (by omega)).symm
   |exact(CR (by omega)).symm
   |exact(CW (by omega)).symm
   |exact(Db (by omega)).symm
   |exact(Dc (by omega)).symm
   |exact(Df (by omega)).symm
   |exact(Dl (by omega)).symm
def alb(r:Int)(w:cw)(h:qV r):cP prog 69 #[Y Z r] w λe o=>e=bj (Y Z<|cls r)/\cD w.1.size w o:=by
 have n:(r<48/\r≠9/\r≠32/\r≠43/\r≠45)∨(57<r/\r<768/\r≠173)∨(879<r/\r<1488)∨(1514<r/\r<1575/\r≠1564)∨(1618<r/\r<1632)∨(1641<r/\r<8294/\r≠8195/\r≠8203/\r≠8207)∨8297<r:=by unfold qV at h;omega
 have u:(r==8207)=da:=by unfold qV at h;simp;omega
 have x:(r==1564)=da:=by unfold qV at h;simp;omega
 have y:(r==43)=da:=by unfold qV at h;simp;omega
 have z:(r==45)=da:=by unfold qV at h;simp;omega
 have A:(r==173)=da:=by unfold qV at h;simp;omega
 have B:(r==8203)=da:=by unfold qV at h;simp;omega
 have C:(r==9)=da:=by unfold qV at h;simp;omega
 have D:(r==32)=da:=by unfold qV at h;simp;omega
 have E:(r==8195)=da:=by unfold qV at h;simp;omega
 have b:=ah<|Dm h;clear h;obtain⟨c,m⟩:=ac<|cls r;rw[<-m];rw[<-m]at b;clear m;rcases n with h|h|h|h|h|h|h;all_goals
  go_enter func69,ntmps69;go_wp2_with fail;refine(Px r [35,36,37,8364] w.1.size 0 4 4 _ rfl (by omega) (Xc _ _ _ _ _ rfl rfl)).mono ?_;rintro e F ⟨rfl,rfl⟩;generalize i:fH r [35,36,37,8364]=p at b ⊢;go_wp2_with fail;refine(Px r [44,46,47,58] (w.1.size+1) 0 4 4 _ rfl (by omega) (Xc _ _ _ _ _ (by simp) rfl)).mono ?_;rintro e G ⟨rfl,rfl⟩;generalize j:fH r [44,46,47,58]=q at b ⊢;go_wp2_with fail;refine(asF _ _ (by decide)).mono ?_;rintro e H ⟨v,rfl,a,g⟩;have f:=dF.uo a;clear a;go_wp2_with fail;refine(uT r _ v _ (by decide) f).mono ?_;rintro e I ⟨rfl,rfl⟩;clear f;generalize k:fH r (zX {data:=#[33,34,38,39,40,41,42,59,60,61,62,63,64,91,92,93,94,95,96,123,124,125,126]})=s at b ⊢;go_wp2_with fail;refine(Px r [9001,9002,12296,12297] _ 0 4 4 _ rfl (by omega) (Xc _ _ _ _ _ rfl rfl)).mono ?_;rintro e J ⟨rfl,rfl⟩;generalize l:fH r [9001,9002,12296,12297]=t at b ⊢;clear i j k l;have d:cD w.1.size w _:=((((aA _ _).alloc (au _) _).alloc (by simp) _).trans (g.mono<|by simp;omega)).alloc (by have:=g.size;simp at this;omega) (bi #[Y Z 9001,Y Z 9002,Y Z 12296,Y Z 12297] 3);go_wp2_with fail;all_goals
   go_ret;refine⟨dX ?_,d⟩;rw[b.out];clear d g b
   simp_all
def PT(r:Int)(w:cw):cP prog 69 #[Y Z r] w λe a=>e=bj (Y Z<|cls r)/\cD w.1.size w a:=by by_cases h:qV r;exact alb r w h;exact alc r w h
def fK(s:bc)(p:Nat):Int:=((Utf8.decode s p).1:Int)
def aQ(s:bc)(p:Nat):Nat:=oL (s.size - p) (s.get! p).toNat (s.get!<|p+1).toNat (s.get!<|p+2).toNat (s.get!<|p+3).toNat
def runesFrom(s:bc):Nat->Nat->Option aw
 |0,_=>V []
 |f+1,p=>if p<s.size then(if aQ s p=0 then U else(runesFrom s f<|p+aQ s p).map (fK s p::·))else V []
def cK(s:bc):Option aw:=runesFrom s s.size 0
def Ev(s:bc)(p k:Nat)(h:p+k<s.size):(s.extract p s.size).get! k=s.get! (p+k):=by
 have a:k<(s.extract p s.size).size:=by simp[A4];omega
 rw[get_eq _ _ a,get_eq _ _ h];simp[ZZ]
def R3(s:bc)(p:Nat):(s.extract p s.size).size=s.size - p:=by simp[A4]
def as7(n a b c d e f g:Nat)(k:1<n->b=e)(l:2<n->c=f)(m:3<n->d=g):oL n a b c d=oL n a e f g:=by
 have:Lib.decodeN n a b c d=Lib.decodeN n a e f g:=by unfold Lib.decodeN;by_cases i:1<n;rw[k i];by_cases j:2<n;rw[l j];by_cases h:3<n;rw[m h];simp[h];have h:¬3<n:=(by omega);simp[j];simp[i]
 unfold oL;rw[this]
def ahE(s:bc)(p:Nat)(h:p<s.size):sz (s.extract p s.size)=aQ s p:=by unfold sz aQ;rw[R3,Ev s p 0<|by omega];refine as7 _ _ _ _ _ _ _ _ (λh=> ?_) (λh=> ?_) (λh=> ?_);rw[Ev s p 1<|by omega];rw[Ev s p 2<|by omega];rw[Ev s p 3<|by omega]
def zk(s:bc)(p:Nat)(_h:p<s.size)(l:aQ s p≠0):(aQ s p=1/\(s.get! p).toNat<128/\fK s p=((s.get! p).toNat:Int))∨(aQ s p=2/\p+2<=s.size/\194<=(s.get! p).toNat/\(s.get! p).toNat<224/\128<=(s.get!<|p+1).toNat/\(s.get!<|p+1).toNat<=191/\fK s p=64*(((s.get! p).toNat:Int)%32)+((s.get!<|p+1).toNat:Int) - 128)∨(aQ s p=3/\p+3<=s.size/\224<=(s.get! p).toNat/\(s.get! p).toNat<240/\128<=(s.get!<|p+1).toNat/\(s.get!<|p+1).toNat<=191/\128<=(s.get!<|p+2).toNat/\(s.get!<|p+2).toNat<=191/\fK s p=64*(64*(((s.get! p).toNat:Int)%16)+((s.get!<|p+1).toNat:Int) - 128)+((s.get!<|p+2).toNat:Int) - 128)∨(aQ s p=4/\p+4<=s.size/\240<=(s.get! p).toNat/\(s.get! p).toNat<245/\128<=(s.get!<|p+1).toNat/\(s.get!<|p+1).toNat<=191/\128<=(s.get!<|p+2).toNat/\(s.get!<|p+2).toNat<=191/\128<=(s.get!<|p+3).toNat/\(s.get!<|p+3).toNat<=191/\fK s p=64*(64*(64*(((s.get! p).toNat:Int)%8)+((s.get!<|p+1).toNat:Int) - 128)+((s.get!<|p+2).toNat:Int) - 128)+((s.get!<|p+3).toNat:Int) - 128):=by
 unfold fK;rw[Lib.decode_at];unfold aQ at l ⊢;have q:=(s.get! p).toNat_lt;have l1:=(s.get!<|p+1).toNat_lt;have r:=(s.get!<|p+2).toNat_lt;have t:=(s.get!<|p+3).toNat_lt;generalize(s.get! p).toNat=i at*;generalize(s.get!<|p+1).toNat=h at*;generalize(s.get!<|p+2).toNat=j at*;generalize(s.get!<|p+3).toNat=k at*;obtain⟨n,o⟩:=ac<|s.size - p;rw[<-o]at l ⊢;by_cases a:i<128;left;rw[uA (Gd a)<|by omega,Gd a];exact⟨rfl,a,rfl⟩;by_cases b:i<194;exact absurd (ku<|P6 (by omega) b) l;by_cases c:245<=i;exact absurd (ku<|P7 c<|by omega) l;by_cases d:i<224;by_cases e:n<2∨h<128∨191<h;exact absurd (ku<|PW (by omega) d (by omega) e) l;have m:=L8 (n:=n) (b0:=i) (b1:=h) (b2:=j) (b3:=k) (by omega) d (by omega) (by omega) (by omega);right;left;rw[uA m<|by omega,m];exact⟨rfl,by omega,by omega,by omega,by omega,by omega,by omega⟩;by_cases f:i<240
 .by_cases e:n<3∨h<128∨191<h∨j<128∨191<j;exact absurd (ku<|PY (by omega) f (by omega) (by omega) e) l;by_cases g:i%16*4096+h%64*64+j%64<2048∨(55296<=i%16*4096+h%64*64+j%64/\i%16*4096+h%64*64+j%64<=57343)
  .exact absurd (ku<|PZ (by omega) f g) l
  have m:=L9 (n:=n) (b0:=i) (b1:=h) (b2:=j) (b3:=k) (by omega) f (by omega) (by omega) (by omega) (by omega) (by omega) (by omega) (by omega);right;right;left;rw[uA m<|by omega,m];exact⟨rfl,by omega,by omega,by omega,by omega,by omega,by omega,by omega,by omega⟩
 by_cases e:n<4∨h<128∨191<h∨j<128∨191<j∨k<128∨191<k;exact absurd (ku<|P4 (by omega) (by omega) (by omega) (by omega) (by omega) e) l;by_cases g:i%8*262144+h%64*4096+j%64*64+k%64<65536∨1114111<i%8*262144+h%64*4096+j%64*64+k%64;exact absurd (ku<|P5 (by omega) (by omega) g) l;have m:=Ma (n:=n) (b0:=i) (b1:=h) (b2:=j) (b3:=k) (by omega) (by omega) (by omega) (by omega) (by omega) (by omega) (by omega) (by omega) (by omega) (by omega) (by omega);right;right;right;rw[uA m<|by omega,m];exact⟨rfl,by omega,by omega,by omega,by omega,by omega,by omega,by omega,by omega,by omega,by omega⟩
def Ze(n b a c d:Nat):Nat:=
 if b<128 then 1 else if b<194 then 0
 else if b<224 then if n<2∨a<128∨191<a then 0 else 2
 else if b<240 then if n<3∨a<128∨191<a∨c<128∨191<c∨b%16*4096+a%64*64+c%64<2048∨(55296<=b%16*4096+a%64*64+c%64/\b%16*4096+a%64*64+c%64<=57343)then 0 else 3
 else if b<245 then if n<4∨a<128∨191<a∨c<128∨191<c∨d<128∨191<d∨b%8*262144+a%64*4096+c%64*64+d%64<65536∨1114111<b%8*262144+a%64*4096+c%64*64+d%64 then 0 else 4
 else 0
def as6 {n d a b c:Nat}(h:d<256)(e:a<256)(f:b<256)(g:c<256):oL n d a b c=Ze n d a b c:=by unfold Ze;split;exact uA (Gd<|by omega) (by omega);split;exact ku (P6 (by omega)<|by omega);split;split;exact ku (PW (by omega) (by omega) e<|by omega);exact uA (L8 (by omega) (by omega) (by omega) (by omega)<|by omega) (by omega);split;split;by_cases q:n<3∨a<128∨191<a∨b<128∨191<b;exact ku<|PY (by omega) (by omega) e f q;exact ku (PZ (by omega) (by omega)<|by omega);exact uA (L9 (by omega) (by omega) (by omega) (by omega) (by omega) (by omega) (by omega) (by omega)<|by omega) (by omega);split;split;by_cases q:n<4∨a<128∨191<a∨b<128∨191<b∨c<128∨191<c;exact ku<|P4 (by omega) (by omega) e f g q;exact ku (P5 (by omega) (by omega)<|by omega);exact uA (Ma (by omega) (by omega) (by omega) (by omega) (by omega) (by omega) (by omega) (by omega) (by omega) (by omega)<|by omega) (by omega);exact ku<|P7 (by omega)<|by omega
def Cm(s:bc)(w:cw)(o:0<s.size)(O:s.size<=10000):cP prog 112 #[cd s] w λe G=>e=bj (Y Z<|sz s)/\G=w:=by
 have K:s[0]'o=s.get! 0:=(get_eq s 0 o).symm;have y:dd (∀h:1<s.size,s[1]'h=s.get! 1):=λh=>(get_eq s 1 h).symm
 have z:dd (∀h:2<s.size,s[2]'h=s.get! 2):=λh=>(get_eq s 2 h).symm
 have A:dd (∀h:3<s.size,s[3]'h=s.get! 3):=λh=>(get_eq s 3 h).symm
 obtain⟨v,j⟩:=ac<|sz s;rw[<-j];unfold sz at j;rw[as6 (Ul _) (Ul _) (Ul _)<|Ul _]at j;generalize s.get! 0=a at*;generalize s.get! 1=b at*;generalize s.get! 2=d at*;generalize s.get! 3=i at*;have m:=a.toNat_lt;have J:bits .and .i64 (a.toNat:Int) 31=((a.toNat%32:Nat):Int):=Ur ⟨a.toNat,m⟩;have I:bits .and .i64 (a.toNat:Int) 15=((a.toNat%16:Nat):Int):=Uo ⟨a.toNat,m⟩;have H:bits .and .i64 (a.toNat:Int) 7=((a.toNat%8:Nat):Int):=Us ⟨a.toNat,m⟩;have B:=ah j;clear j;have g:∀c:UInt8,(c.toNat:Int)<128∨(191:Int)<c.toNat∨((128:Int)<=c.toNat/\(c.toNat:Int)<=191):=λc=>by omega
 have k:(a.toNat:Int)<128∨((128:Int)<=a.toNat/\(a.toNat:Int)<194)∨(245:Int)<=a.toNat∨((194:Int)<=a.toNat/\(a.toNat:Int)<224)∨((224:Int)<=a.toNat/\(a.toNat:Int)<240)∨((240:Int)<=a.toNat/\(a.toNat:Int)<245):=by omega
 rcases k with p|⟨p,q⟩|p|⟨p,q⟩|⟨p,q⟩|⟨p,q⟩
 rotate_left 3
 focus (rcases(by omega:(s.size:Int)<2∨(2:Int)<=s.size)with n|n;rotate_left;rcases g b with f|f|⟨f,x⟩)
 rotate_left 4
 focus (rcases(by omega:(s.size:Int)<3∨(3:Int)<=s.size)with n|n;rotate_left;rcases g b with f|f|⟨f,x⟩;rotate_left 2;rcases g d with l|l|⟨l,F⟩;rotate_left 2;rcases(by omega:64*(64*((a.toNat:Int)%16)+(b.toNat:Int) - 128)+(d.toNat:Int) - 128<2048∨((2048:Int)<=64*(64*((a.toNat:Int)%16)+(b.toNat:Int) - 128)+(d.toNat:Int) - 128/\64*(64*((a.toNat:Int)%16)+(b.toNat:Int) - 128)+(d.toNat:Int) - 128<55296)∨((55296:Int)<=64*(64*((a.toNat:Int)%16)+(b.toNat:Int) - 128)+(d.toNat:Int) - 128/\64*(64*((a.toNat:Int)%16)+(b.toNat:Int) - 128)+(d.toNat:Int) - 128<=57343)∨(57343:Int)<64*(64*((a.toNat:Int)%16)+(b.toNat:Int) - 128)+(d.toNat:Int) - 128)with r|⟨r,t⟩|⟨r,t⟩|r)
 rotate_left 9
 focus (rcases(by omega:(s.size:Int)<4∨(4:Int)<=s.size)with n|n;rotate_left;rcases g b with f|f|⟨f,x⟩;rotate_left 2;rcases g d with l|l|⟨l,F⟩;rotate_left 2;rcases g i with u|u|⟨u,P⟩;rotate_left 2;rcases(by omega:64*(64*(64*((a.toNat:Int)%8)+(b.toNat:Int) - 128)+(d.toNat:Int) - 128)+(i.toNat:Int) - 128<65536∨((65536:Int)<=64*(64*(64*((a.toNat:Int)%8)+(b.toNat:Int) - 128)+(d.toNat:Int) - 128)+(i.toNat:Int) - 128/\64*(64*(64*((a.toNat:Int)%8)+(b.toNat:Int) - 128)+(d.toNat:Int) - 128)+(i.toNat:Int) - 128<=1114111)∨(1114111:Int)<64*(64*(64*((a.toNat:Int)%8)+(b.toNat:Int) - 128)+(d.toNat:Int) - 128)+(i.toNat:Int) - 128)with r|⟨r,t⟩|r)
 all_goals
  try have C:1<s.size:=by omega
  try have L:=y.out C
  try have D:2<s.size:=by omega
  try have M:=z.out D
  try have E:3<s.size:=by omega
  try have N:=A.out E
  clear g;go_enter func112,ntmps112;go_wp2;try(refine dN 4 ?_;(repeat (rw[bB];go_wp2)))
  go_ret;exact⟨dX<|by rw[B.out];unfold Ze;(repeat' split)<;>omega,rfl⟩
def Hs(s:bc)(f p:Nat)(h:¬p<s.size):runesFrom s f p=V []:=by
 cases f with
 |zero=>rfl
 |succ f=>simp[runesFrom,h]
def YP(s:bc)(f p:Nat)(b:s.size<=p+f)(h:p<s.size)(a:aQ s p=0):runesFrom s f p=U:=by
 cases f with
 |zero=>omega
 |succ f=>simp[runesFrom,h,a]
def ar6(s:bc)(f p:Nat)(c:s.size<=p+f)(h:p<s.size)(b:aQ s p≠0):∃a,s.size<=p+aQ s p+a/\runesFrom s f p=(runesFrom s a<|p+aQ s p).map (fK s p::·):=by
 cases f with
 |zero=>omega
 |succ f=>exact⟨f,by omega,by simp[runesFrom,h,b]⟩
def nQ(s:bc)(p:Nat)(l:aw):Prop:=∃f,s.size<=p+f/\l.length<=p/\cK s=(runesFrom s f p).map (l++·)
def nQ.start(s:bc):nQ s 0 []:=⟨s.size,by omega,by simp,by simp[cK]⟩
def nQ.stop {s:bc}{p:Nat}{l:aw}(h:nQ s p l)(a:¬p<s.size):cK s=V l:=by obtain⟨f,_,_,e⟩:=h;rw[e,Hs s f p a];simp
def nQ.bad {s:bc}{p:Nat}{l:aw}(h:nQ s p l)(b:p<s.size)(c:aQ s p=0):cK s=U:=by obtain⟨f,a,_,e⟩:=h;rw[e,YP s f p a b c];rfl
def nQ.step {s:bc}{p:Nat}{l:aw}(h:nQ s p l)(g:p<s.size)(i:aQ s p≠0):nQ s (p+aQ s p) (l++[fK s p]):=by obtain⟨f,d,j,e⟩:=h;obtain⟨b,a,c⟩:=ar6 s f p d g i;refine⟨b,a,by simp;omega,?_⟩;rw[e,c];cases runesFrom s b (p+aQ s p)<;>simp
def ar7(s:bc)(w:cw)(hs:s.size<=1000):cP prog 67 #[cd s] w λe g=>cD w.1.size w g/\((cK s=U/\∃p:Nat,e=bj (de #[R U 0 0,Y Z p]))∨∃v l,cK s=V l/\l.length<=s.size/\e=bj (de #[v,Y Z (-1)])/\g.ownsRow w.1.size 3 1 v l.length (l.map<|Value.int .i64)):=by
 obtain⟨I,H,u,x,y⟩:=fP Tryz.Dp;go_enter func67,ntmps67;go_wp2;go_loopw [4,5] (λv i wr=>∃(p:Nat)(l:aw),p<=s.size/\i=Y Z p/\nQ s p l/\wr.ownsRow w.1.size 3 1 v l.length (l.map<|Value.int .i64)/\cD w.1.size w wr) (λ_ i _=>s.size - (intOf i).toNat);case atStart=>exact⟨0,[],lB _,rfl,nQ.start s,fh _ _ _ _,aA _ _⟩
 case round=>
  obtain⟨p,l,hp,rfl,K,b,C⟩:=hrel;have t:=ah K;have aa:=C.size;have ac:l.length<=p:=by obtain⟨f,_,h,_⟩:=K;exact h
  clear K;by_cases d:p<s.size
  .have X:(p:Int)<(s.size:Int):=(by omega);have j:=ahE s p d;have r:(s.extract p s.size).size=s.size - p:=R3 s p;by_cases z:aQ s p=0
   .rw[z]at j;have o:dd (cP prog 112 #[cd<|s.extract p s.size] wr λe g=>e=bj (Y Z 0)/\g=wr):=(by have:=Cm (s.extract p s.size) wr (by omega) (by omega);rw[j]at this;exact this);have Ll:=ah z;clear j r z;go_wp2_with fail;refine o.out.mono ?_;rintro e g ⟨rfl,rfl⟩;go_wp2;go_ret2;exact⟨C,.inl ⟨t.out.bad d Ll,p,rfl⟩⟩
   rcases zk s p d z with⟨m,J,q⟩|⟨m,hn,J,Q,S,T,q⟩|⟨m,hn,J,Q,S,T,h5,h6,q⟩|⟨m,hn,J,Q,S,T,h5,h6,h7,h8,q⟩
   .have c:aQ s p≠0:=(by omega);have A:dd (nQ s (p+1)<|l++[fK s p]):=m▸t.out.step d c;have B:=ah q;rw[m]at j;have o:dd (cP prog 112 #[cd<|s.extract p s.size] wr λe g=>e=bj (Y Z 1)/\g=wr):=(by have:=Cm (s.extract p s.size) wr (by omega) (by omega);rw[j]at this;exact this);clear j r z c q m t;have D:s[p]'(by omega)=s.get! (p):=(get_eq s (p)<|by omega).symm;have E:((s.get!<|p).toNat:Int)<256:=(by have:=(s.get!<|p).toNat_lt;omega);generalize s.get! (p)=k at*;go_wp2_with fail;refine o.out.mono ?_;rintro e g ⟨rfl,rfl⟩;clear o;go_wp2;refine dN 1 ?_;rw[bB];go_wp2_with(at_builtin;refine Ct _ rfl _ _ 31 rfl w.1.size 3 I (Y Z 0) 8 underlying31 H u x y rfl (by decide) _ _ _ rfl b _ _ rfl rfl (by omega) (by omega) ?_);intro N O a n;clear b;go_wp2;go_roundw;case rel=>exact⟨p+1,_,by omega,by go_num,A,by rw[B.out];simpa using a,C.trans n⟩
    case measure=>simp[intOf];omega
   .have c:aQ s p≠0:=(by omega);have A:dd (nQ s (p+2)<|l++[fK s p]):=m▸t.out.step d c;have B:=ah q;rw[m]at j;have o:dd (cP prog 112 #[cd<|s.extract p s.size] wr λe g=>e=bj (Y Z 2)/\g=wr):=(by have:=Cm (s.extract p s.size) wr (by omega) (by omega);rw[j]at this;exact this);clear j r z c q m t;have D:s[p]'(by omega)=s.get! (p):=(get_eq s (p)<|by omega).symm;have E:((s.get!<|p).toNat:Int)<256:=(by have:=(s.get!<|p).toNat_lt;omega);have F:s[p+1]'(by omega)=s.get! (p+1):=(get_eq s (p+1)<|by omega).symm;have G:((s.get!<|p+1).toNat:Int)<256:=(by have:=(s.get!<|p+1).toNat_lt;omega);generalize s.get! (p)=k at*;generalize s.get! (p+1)=P at*;have W:bits .and .i64 (k.toNat:Int) 31=((k.toNat%32:Nat):Int):=Ur ⟨k.toNat,k.toNat_lt⟩;go_wp2_with fail;refine o.out.mono ?_;rintro e g ⟨rfl,rfl⟩;clear o;go_wp2;refine dN 2 ?_;rw[bB];go_wp2;rw[bB];go_wp2_with(at_builtin;refine Ct _ rfl _ _ 31 rfl w.1.size 3 I (Y Z 0) 8 underlying31 H u x y rfl (by decide) _ _ _ rfl b _ _ rfl rfl (by omega) (by omega) ?_);intro N O a n;clear b;go_wp2;go_roundw;case rel=>exact⟨p+2,_,by omega,by go_num,A,by rw[B.out];simpa using a,C.trans n⟩
    case measure=>simp[intOf];omega
   .have c:aQ s p≠0:=(by omega);have A:dd (nQ s (p+3)<|l++[fK s p]):=m▸t.out.step d c;have B:=ah q;rw[m]at j;have o:dd (cP prog 112 #[cd<|s.extract p s.size] wr λe g=>e=bj (Y Z 3)/\g=wr):=(by have:=Cm (s.extract p s.size) wr (by omega) (by omega);rw[j]at this;exact this);clear j r z c q m t;have D:s[p]'(by omega)=s.get! (p):=(get_eq s (p)<|by omega).symm;have E:((s.get!<|p).toNat:Int)<256:=(by have:=(s.get!<|p).toNat_lt;omega);have F:s[p+1]'(by omega)=s.get! (p+1):=(get_eq s (p+1)<|by omega).symm;have G:((s.get!<|p+1).toNat:Int)<256:=(by have:=(s.get!<|p+1).toNat_lt;omega);have L:s[p+2]'(by omega)=s.get! (p+2):=(get_eq s (p+2)<|by omega).symm;have M:((s.get!<|p+2).toNat:Int)<256:=(by have:=(s.get!<|p+2).toNat_lt;omega);generalize s.get! (p)=k at*;generalize s.get! (p+1)=P at*;generalize s.get! (p+2)=c2 at*;have W:bits .and .i64 (k.toNat:Int) 15=((k.toNat%16:Nat):Int):=Uo ⟨k.toNat,k.toNat_lt⟩;go_wp2_with fail;refine o.out.mono ?_;rintro e g ⟨rfl,rfl⟩;clear o;go_wp2;refine dN 3 ?_;rw[bB];go_wp2;rw[bB];go_wp2;rw[bB];go_wp2_with(at_builtin;refine Ct _ rfl _ _ 31 rfl w.1.size 3 I (Y Z 0) 8 underlying31 H u x y rfl (by decide) _ _ _ rfl b _ _ rfl rfl (by omega) (by omega) ?_);intro N O a n;clear b;go_wp2;go_roundw;case rel=>exact⟨p+3,_,by omega,by go_num,A,by rw[B.out];simpa using a,C.trans n⟩
    case measure=>simp[intOf];omega
   have c:aQ s p≠0:=(by omega);have A:dd (nQ s (p+4)<|l++[fK s p]):=m▸t.out.step d c;have B:=ah q;rw[m]at j;have o:dd (cP prog 112 #[cd<|s.extract p s.size] wr λe g=>e=bj (Y Z 4)/\g=wr):=(by have:=Cm (s.extract p s.size) wr (by omega) (by omega);rw[j]at this;exact this);clear j r z c q m t;have D:s[p]'(by omega)=s.get! (p):=(get_eq s (p)<|by omega).symm;have E:((s.get!<|p).toNat:Int)<256:=(by have:=(s.get!<|p).toNat_lt;omega);have F:s[p+1]'(by omega)=s.get! (p+1):=(get_eq s (p+1)<|by omega).symm;have G:((s.get!<|p+1).toNat:Int)<256:=(by have:=(s.get!<|p+1).toNat_lt;omega);have L:s[p+2]'(by omega)=s.get! (p+2):=(get_eq s (p+2)<|by omega).symm;have M:((s.get!<|p+2).toNat:Int)<256:=(by have:=(s.get!<|p+2).toNat_lt;omega);have We:s[p+3]'(by omega)=s.get! (p+3):=(get_eq s (p+3)<|by omega).symm;have ab:((s.get!<|p+3).toNat:Int)<256:=(by have:=(s.get!<|p+3).toNat_lt;omega);generalize s.get! (p)=k at*;generalize s.get! (p+1)=P at*;generalize s.get! (p+2)=c2 at*;generalize s.get! (p+3)=c3 at*;have W:bits .and .i64 (k.toNat:Int) 7=((k.toNat%8:Nat):Int):=Us ⟨k.toNat,k.toNat_lt⟩;go_wp2_with fail;refine o.out.mono ?_;rintro e g ⟨rfl,rfl⟩;clear o;go_wp2;refine dN 4 ?_;rw[bB];go_wp2;rw[bB];go_wp2;rw[bB];go_wp2;rw[bB];go_wp2_with(at_builtin;refine Ct _ rfl _ _ 31 rfl w.1.size 3 I (Y Z 0) 8 underlying31 H u x y rfl (by decide) _ _ _ rfl b _ _ rfl rfl (by omega) (by omega) ?_);intro N O a n;clear b;go_wp2;go_roundw;case rel=>exact⟨p+4,_,by omega,by go_num,A,by rw[B.out];simpa using a,C.trans n⟩
   case measure=>simp[intOf];omega
  go_wp2;go_ret2;exact⟨C,.inr ⟨_,l,t.out.stop d,by omega,rfl,b⟩⟩
