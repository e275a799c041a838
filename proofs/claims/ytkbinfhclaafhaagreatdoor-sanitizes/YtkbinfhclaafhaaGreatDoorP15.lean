import Derived.Test.YtkbinfhclaafhaaGreatDoorP14
namespace Go.Proofs.YtkbinfhclaafhaaGreatDoor
open Go.RowKit
open Go.Proofs.Tryz
set_option maxRecDepth 100000
set_option maxHeartbeats 32000000
set_option linter.all false
section
attribute [local go_sem ↓] Go.wp_at_zero Go.wp_at_succ
def lM(g:Nat)(left:List Nat)(a:List<|Nat×Nat):List MapEntry:=a.zipIdx.map λx=>⟨.int .i64 ((left.getD x.1.1 0:Nat):Int),o7 g x.1,x.2⟩
def aiN(g:Nat)(left:List Nat)(a:List<|Nat×Nat)(b:Nat×Nat):lM g left (a++[b])=lM g left a++[⟨.int .i64 ((left.getD b.1 0:Nat):Int),o7 g b,a.length⟩]:=by
 unfold lM;rw[List.zipIdx_append,fB];simp
def ym {g:Nat}{left:List Nat}{a:List (Nat×Nat)}{m:MapEntry}(h:m∈lM g left a):∃b∈a,m.key= .int .i64 ((left.getD b.1 0:Nat):Int):=by
 unfold lM at h;obtain⟨x,hx,rfl⟩:=jM.1 h;exact⟨x.1,List.fst_mem_of_mem_zipIdx hx,rfl⟩
def yj {g:Nat}{left:List Nat}{a:List (Nat×Nat)}{m:MapEntry}{j:Nat}(h:(lM g left a)[j]? =some m):j<a.length/\m.key= .int .i64 ((left.getD (a.getD j (0,0)).1 0:Nat):Int)/\m.val=o7 g (a.getD j (0,0)):=by
 unfold lM at h;rw[jq,List.getElem?_zipIdx]at h;rcases cP j a.length with b|b
 .rw[aM b]at h;have e:a.getD j (0,0)=a[j]:=by rw[aO,aM b];rfl
  simp only[GX,Cj,fZ]at h;subst h;rw[e];exact⟨b,rfl,rfl⟩
 .rw[rZ b]at h;cases h
def aiM {g:Nat}{left:List Nat}{a:List (Nat×Nat)}{j:Nat}(b:j<a.length):∃m∈lM g left a,m.key= .int .i64 ((left.getD (a.getD j (0,0)).1 0:Nat):Int):=by
 refine⟨⟨.int .i64 ((left.getD (a.getD j (0,0)).1 0:Nat):Int),o7 g<|a.getD j (0,0),j⟩,?_,rfl⟩;unfold lM;refine jM.2 ⟨(a.getD j (0,0),j),?_,rfl⟩;rw[List.mem_zipIdx_iff_getElem?,aO,aM b];rfl
def vH(g:Nat)(a:List<|Nat×Nat):Option Nat->Value
 |some k=>o7 g<|a.getD k (0,0)
 |none=> .slice none 0 0
def z7 {left:List Nat}{ab:Nat×Nat}(h:ab.1<ab.2/\ab.2<=left.length):(dQ left ab).headD 0=left.getD ab.1 0/\dQ left ab≠[]/\(dQ left ab).length=ab.2 - ab.1:=Xd h.1 h.2
def OM(left:List Nat)(a:List<|Nat×Nat)(k:Nat)(b:k<a.length):(a.map<|dQ left).getD k []=dQ left (a.getD k (0,0)):=by
 rw[aO,jq,aO,aM b];rfl
def G9 {n:Nat}{a:List (List Nat)}(h:l9 n a){i j:Nat}(f:i<a.length)(g:j<a.length)(e:(a.getD i []).headD 0=(a.getD j []).headD 0):i=j:=by
 have b:=head_mem<|h.ne _ (dG (d:=[]) f);have c:=head_mem<|h.ne _ (dG (d:=[]) g);rw[e]at b;exact OI h.ur b c
def XQ:prog.underlying 217=some (.map 3 31):=by kernel_rfl
def yt {w:World}{G g n:Nat}{left:List Nat}{b:List (Nat×Nat)}{c:List Int}(t:w.heap[G]? =some (.map (lM g left b).toArray b.length))(o:∀p∈b,p.1<p.2/\p.2<=left.length)(F:l9 n<|b.map<|dQ left)(z:c.length=n)(a:Nat):
  (Instr.lookup 217 (.map<|some G) (.int .i64<|sY c a) false).run prog w= .ok (vH g b<|ig c (b.map<|dQ left) a) w:=by
 have J:(zeroValue 31).run prog w= .ok (.slice none 0 0) w:=by kernel_rfl
 have l:∀m∈(lM g left b).toArray.toList,∃x,m.key= .int .i64 x:=λm t=>by
  obtain⟨p,_,h⟩:=ym (by simpa using t);exact⟨_,h⟩
 have C:∀k,k<b.length->((b.map<|dQ left).getD k []).headD 0=left.getD (b.getD k (0,0)).1 0:=λk i=>by
  rw[OM _ _ _ i];exact(z7<|o _ (dG i)).1
 rcases afJ underlying3 w (sY c a) (lM g left b).toArray.toList l with⟨v,y⟩|⟨j,m,v,y,D⟩
 .rw[afL false XQ J t (λu=>WV underlying3 w _ u) v];have:ig c (b.map<|dQ left) a=none:=by
   unfold ig;split
   .rename_i q;cases i:uq (b.map<|dQ left) (mt c a) (b.map<|dQ left).length with
    |none=>rfl
    |some k=>
     exfalso;obtain⟨e,f⟩:=FX _ _ i;rw[ja]at e;rw[C k e]at f;obtain⟨m,K,A⟩:=aiM (g:=g) (left:=left) e;refine y m (by simpa using K) ?_;rw[A,f,sY,aj q,aj];have B:mt c a∈dQ left (b.getD k (0,0)):=by
      have:=head_mem (z7<|o _ (dG (d:=(0,0)) e)).2.1;rw[(z7<|o _ (dG (d:=(0,0)) e)).1,f]at this;exact this
     rw[z];exact F.lt _ (jM.2 ⟨_,dG (d:=(0,0)) e,rfl⟩) _ B
   .rfl
  rw[this];rfl
 .rw[afM false XQ t (λu=>WV underlying3 w _ u) v];obtain⟨s,i,I⟩:=yj (by simpa using y);rw[i]at D;have r:((left.getD (b.getD j (0,0)).1 0:Nat):Int)=sY c a:=by injection D
  have q:aU (c.getD a 0)=true:=by
   by_cases h:aU (c.getD a 0)=true
   .exact h
   .rw[sY,ai h]at r;omega
  rw[sY,aj q]at r;have H:mt c a<c.length:=by
   by_cases h:mt c a<c.length
   .exact h
   .rw[ai h]at r;omega
  rw[aj H]at r;have E:left.getD (b.getD j (0,0)).1 0=mt c a:=by omega
  have:ig c (b.map<|dQ left) a=some j:=by
   unfold ig;rw[aj q];cases i:uq (b.map<|dQ left) (mt c a) (b.map<|dQ left).length with
   |none=>
    exfalso;refine aex _ i j (by rw[ja];exact s) ?_;rw[C j s,E]
   |some k=>
    obtain⟨e,f⟩:=FX _ _ i;congr 1;refine G9 F e (by rw[ja];exact s) ?_;rw[f,C j s,E]
  rw[this,I];rfl
def aiO {w:World}{s g n:Nat}{left:List Nat}{a:List (Nat×Nat)}{k:Nat}(d:k<a.length)(r:w.heap[s]? =some (.map (lM g left (a.take k)).toArray k))(f:∀l∈a,l.1<l.2/\l.2<=left.length)(z:l9 n<|a.map<|dQ left):
  (Instr.mapUpdate 217 (.map<|some s) (.int .i64 ((left.getD (a.getD k (0,0)).1 0:Nat):Int))<|o7 g<|a.getD k (0,0)).run prog w= .ok () (ChangeMaps.setBlock w s (.map (lM g left (a.take<|k+1)).toArray (k+1))):=by
 have c:∀m∈(lM g left (a.take k)).toArray.toList,∃x,m.key= .int .i64 x:=λm r=>by
  obtain⟨l,_,h⟩:=ym (by simpa using r);exact⟨_,h⟩
 rcases afJ underlying3 w ((left.getD (a.getD k (0,0)).1 0:Nat):Int) (lM g left (a.take k)).toArray.toList c with⟨t,u⟩|⟨j,m,t,u,o⟩
 .have e:=afO (val:=o7 g<|a.getD k (0,0)) XQ r (WV underlying3 w _ false) t;rw[e];have y:a.take (k+1)=a.take k++[a.getD k (0,0)]:=by
   rw[uM,aM d,aO,aM d];rfl
  rw[y,aiN,r9,jN<|gF d];simp
 .exfalso;obtain⟨A,q,_⟩:=yj (by simpa using u);rw[r9]at A;have p:j<k:=by omega
  have b:j<a.length:=by omega
  rw[q]at o;have v:(a.take k).getD j (0,0)=a.getD j (0,0):=by
   rw[aO,ND p,<-aO]
  rw[v]at o;have B:((left.getD (a.getD j (0,0)).1 0:Nat):Int)=((left.getD (a.getD k (0,0)).1 0:Nat):Int):=by injection o
  have:=G9 z (i:=j) (j:=k) (by rw[ja];exact b) (by rw[ja];exact d) (by
   rw[OM _ _ _ b,OM _ _ _ d,(z7<|f _ (dG b)).1,(z7<|f _ (dG d)).1];omega)
  omega
def apX(W:World)(L:LP)(u v:List Int)(h:LX W L u v)(q r j g l s m y a:Nat)(left:List Nat)(b:List<|Nat×Nat)(J:W.cell? ⟨q,0,none⟩=some (.pointer<|some ⟨L.lb,0,none⟩))(G:W.cell? ⟨r,0,none⟩=some (.map<|some j))(p:W.heap[j]? =some (.map (lM g left b).toArray b.length))(d:∀k∈b,k.1<k.2/\k.2<=left.length)(n:l9 L.n<|b.map<|dQ left)
  (F:0<m) (N:m<=1000) (E:W.cell? ⟨l,s+(m - 1),none⟩=some (.int .i64 ((a:Nat):Int))) (c:a<L.n):
  Calls prog 155 #[.slice (some ⟨l,s,none⟩) m y,.pointer<|some ⟨r,0,none⟩,.pointer<|some ⟨q,0,none⟩] W λe f=>e= .returned (vH g b<|ig L.cs (b.map<|dQ left) a)/\Below W.heap.size W f:=by
 have o:=yt (w:=W) p d n h.len a;have x:Hid (∀i,Below W.heap.size W i->Calls prog 156 #[.pointer<|some ⟨L.lb,0,none⟩,.int .i64 a] i λe f=>e= .returned (.int .i64<|sY L.cs a)/\f=i):=λi z=>an1 i L u v (h.below z) a c
 have t:(Instr.lookup 217 (.map<|some j) (.int .i64<|sY L.cs a) false).run prog W.drew= .ok (vH g b<|ig L.cs (b.map<|dQ left) a) W.drew:=yt (w:=W.drew) p d n h.len a;clear h p d n o;generalize sY L.cs a=M at*;generalize vH g b (ig L.cs (b.map<|dQ left) a)=nv at*;have A:(1:Int)<=(m:Int):=by omega
 have B:(0:Int)<=(m:Int) - 1:=by omega
 have C:(m:Int) - 1<(m:Int):=by omega
 have H:(m:Int)<=(m:Int):=by omega
 have D:(0:Int)<(m:Int):=by omega
 have K:IntKind.i64.wrap ((m:Int) - 1)=(m:Int) - 1:=Ny _ ⟨by omega,by omega⟩;go_enter func155,ntmps155;go_wp2
 go_region_held3 (λf=>f.cell? ⟨r,0,none⟩=some (.map<|some j)/\f.cell? ⟨q,0,none⟩=some (.pointer<|some ⟨L.lb,0,none⟩)/\f.cell? ⟨l,s+(m - 1),none⟩=some (.int .i64 ((a:Nat):Int))) (go_keep)
  (first|(go_at_call 156;refine(x.out _ (aA _ _).drew).mono ?_;rintro I O ⟨rfl,rfl⟩))
 all_goals
  go_wp2;go_ret;exact⟨rfl,(aA _ _).drew⟩
end
structure iR where
 sb:Nat
 gr:Nat
 cr:Nat
 gc:Nat
 cc:Nat
 gb:Nat
 gp:Nat
 op:Nat
 cp:Nat
 m:Nat
 at':List Nat
def iR.ptr(q:iR):Value:= .pointer (some ⟨q.sb,0,none⟩)
structure qb(W:World)(B:Nat)(L:LP)(ks ls:List Int)(q:iR):Prop where
 sq:bf W B q.sb q.gc q.m q.cc (.slice (some ⟨q.gp,q.op,none⟩) q.m q.cp) (.slice (some ⟨q.gr,0,none⟩) q.m q.cr) (.slice (some ⟨q.gb,0,none⟩) q.m q.m) (ls.getD (q.at'.headD 0) 0) (i6 (ls.getD (q.at'.headD 0) 0)<|kz ls (aQ L.cs) L.p<|q.at'.headD 0) (i6 (ls.getD (q.at'.headD 0) 0)<|qh L.cs ls (aQ L.cs) L.p<|q.at'.getLastD 0)<|bB ks q.at'
 ru:W.ownsRow B 21 1 (.slice (some ⟨q.gr,0,none⟩) q.m q.cr) q.m<|pT<|bB L.rs q.at'
 be:aY W B 108 q.gb q.m<|iv<|bB ks q.at'
 pl:bI W q.gp q.op<|nl q.at'
 ty:∃cs fr,W.heap[q.gp]? =some (.cells cs 3 fr)
 lo:B<=q.gp/\B<=q.sb
 ne:q.gb≠q.gc
 len:q.at'.length=q.m
 pos:0<q.m
section
variable{W W':World}{B:Nat}{L:LP}{ks ls:List Int}{q:iR}
def El {w:World}{B c:Nat}{e:TypeId}{z n:Nat}{v:Value}{d:List Value}(h:w.ownsRow B e z v n d)(k:c<=B):w.ownsRow c e z v n d:=by
 refine⟨h.1,?_⟩;rcases h.2 with h|⟨g,a,b,f,i,j⟩
 .exact .inl h
 .exact .inr ⟨g,a,b,f,bP k i,j⟩
def qb.base {b:Nat}(h:qb W B L ks ls q)(a:b<=B):qb W b L ks ls q:=
 ⟨⟨h.sq.cell,El h.sq.row a⟩,El h.ru a,El h.be a,h.pl,h.ty,⟨bP a h.lo.1,bP a h.lo.2⟩,h.ne,h.len,h.pos⟩
def qb.below(h:qb W B L ks ls q)(a:Below W.heap.size W W'):qb W' B L ks ls q:=by
 obtain⟨c,d,b⟩:=h.ty;exact⟨h.sq.below a,fu h.ru a,fu h.be a,h.pl.below a,⟨c,d,bq a b⟩,h.lo,h.ne,h.len,h.pos⟩
def qb.grown {r:Nat}(h:qb W B L ks ls q)(a:W.grownBy W'<|some r)(g:q.sb≠r)(i:q.gc≠r)(j:q.gr≠r)(k:q.gb≠r)(c:q.gp≠r):qb W' B L ks ls q:=by
 obtain⟨d,f,b⟩:=h.ty;exact⟨⟨(a.block q.sb (cJ h.sq.cell) λe=>g<|aJ e).trans h.sq.cell,iY h.sq.row a i⟩,iY h.ru a j,iY h.be a k,h.pl.grown a c,⟨d,f,(a.block q.gp (cJ b) λe=>c<|aJ e).trans b⟩,h.lo,h.ne,h.len,h.pos⟩
end
def Ez(q a:iR):Prop:=q.gc≠a.gc/\q.gb≠a.gc/\q.gc≠a.gb
structure zu(W:World)(B:Nat)(L:LP)(ks ls:List Int)(av:Value)(qs:List iR):Prop where
 row:W.ownsRow B 146 1 av qs.length<|qs.map iR.ptr
 all:∀q∈qs,qb W B L ks ls q
 ap:qs.Pairwise Ez
def Ba {w:World}{B g n c z:Nat}{e:TypeId}{l:List Value}(h:w.ownsRow B e z (.slice (some ⟨g,0,none⟩) n c) n l):∃a,w.heap[g]? =some (.cells a e (0,0)):=by
 rcases h.2 with⟨b,_⟩|⟨m,d,a,b,_,k,_⟩
 .cases b
 .injection b with f
  injection f with i
  injection i with j
  subst j;exact⟨a,k⟩
section
variable{W W':World}{B:Nat}{L:LP}{ks ls:List Int}{av av':Value}{qs:List iR}{q:iR}
def zu.below(h:zu W B L ks ls av qs)(a:Below W.heap.size W W'):zu W' B L ks ls av qs:=⟨fu h.row a,λq b=>(h.all q b).below a,h.ap⟩
def xS {w:World}{k:Nat}{a b:Array Value}{s t:TypeId}{f g:Nat×Nat}(h:w.heap[k]? =some (.cells a s f))(c:w.heap[k]? =some (.cells b t g)):s=t:=by
 rw[h]at c;injection c with c
 injection c
def zu.push(h:zu W B L ks ls av qs)(t:qb W B L ks ls q)(f:∀u∈qs,Ez u q)(e:W'.ownsRow B 146 1 av' (qs.length+1)<|qs.map iR.ptr++[q.ptr])(c:W.grownBy W' av.ownBlock):zu W' B L ks ls av' (qs++[q]):=by
 have key:∀x,qb W B L ks ls x->qb W' B L ks ls x:=λx hx=>by
  rcases h.row.2 with⟨rfl,_⟩|⟨g,A,j,rfl,_,d,_⟩
  .exact hx.below ⟨c.os,c.tape,c.output,c.size,λk s=>c.block k s<|by simp[Value.ownBlock]⟩
  .have i:W.grownBy W' (some g):=c;obtain⟨v,l⟩:=Ba hx.sq.row;obtain⟨w,m⟩:=Ba hx.ru;obtain⟨y,n⟩:=Ba hx.be;obtain⟨z,C,o⟩:=hx.ty;refine hx.grown i ?_ ?_ ?_ ?_ ?_
   .rintro rfl;exact absurd (xS hx.sq.cell d)<|by decide
   .rintro rfl;exact absurd (xS l d)<|by decide
   .rintro rfl;exact absurd (xS m d)<|by decide
   .rintro rfl;exact absurd (xS n d)<|by decide
   .rintro rfl;exact absurd (xS o d)<|by decide
 refine⟨by rw[bH,fB];exact e,?_,?_⟩
 .intro x hx;rcases jL.1 hx with hx|hx
  .exact key x (h.all x hx)
  .rw[qX.1 hx];exact key q t
 .rw[ah6];exact⟨h.ap,List.pairwise_singleton _ _,λa p b r=>by rw[qX.1 r];exact f a p⟩
end
structure AB(W:World)(B Bi gp op m cp:Nat)(at':List Nat):Prop where
 pl:bI W gp op<|nl at'
 ty:∃cs fr,W.heap[gp]? =some (.cells cs 3 fr)
 lo:B<=gp
 len:at'.length=m
 fo:cp=m∨(op=0/\W.ownsRow Bi 3 1 (.slice (some ⟨gp,0,none⟩) m cp) m (iv<|nl at'))
def AB.below {W f:World}{B e i j m g:Nat}{a:List Nat}(h:AB W B e i j m g a)(c:Below W.heap.size W f):AB f B e i j m g a:=by
 obtain⟨k,l,d⟩:=h.ty;refine⟨h.pl.below c,⟨k,l,bq c d⟩,h.lo,h.len,?_⟩;rcases h.fo with b|⟨b,n⟩
 .exact .inl b
 .exact .inr ⟨b,fu n c⟩
def AB.own {W:World}{B b g n c:Nat}{a:List Nat}(h:W.ownsRow b 3 1 (.slice (some ⟨g,0,none⟩) n c) n<|iv<|nl a)(e:B<=b):AB W B b g 0 n c a:=by
 obtain⟨d,f⟩:=Ba h;refine⟨λk i=>by rw[fZ];exact jk h k i,⟨d,_,f⟩,bP e (h.lt g rfl).1,?_,.inr ⟨rfl,h⟩⟩;have:=h.1;simpa [iv,nl]using this
def Cv(l:List Int)(a:List Nat):(bB l a).length=a.length:=by simp[bB]
section
attribute [local go_sem ↓] Go.wp_at_zero Go.wp_at_succ
def aqK(W:World)(b:Nat)(o:Obj):W.grownBy (ChangeMaps.setBlock W b o) (some b):=⟨rfl,rfl,rfl,by simp[ChangeMaps.setBlock],λk _ a=>by simp[ChangeMaps.setBlock,BG (show b≠k from λe=>a<|by rw[e])]⟩
def Tc {W:World}{a:Addr}{v:Value}{b c:Nat}{d:Array MapEntry}(h:W.cell? a=some v)(f:W.heap[b]? =some (.map d c)):a.block≠b:=by
 intro e;simp[World.cell?,e,f]at h
def Dv.below {w d:World}{B g:Nat}{v:Value}{left:List Nat}{c:List (Nat×Nat)}(h:Dv w B v g left c)(a:Below w.heap.size w d):Dv d B v g left c:=
 ⟨fu h.row a,h.lf.below a,h.ok,λb=>⟨(h.lt b).1,kQ (h.lt b).2 a.size⟩,λb=>by obtain⟨e,f⟩:=h.ty b;exact⟨e,bq a f⟩⟩
structure SE(W:World)(B lx mx mb g:Nat)(L:LP)(rv:Value)(left:List Nat)(aH:List<|Nat×Nat)(k:Nat):Prop where
 lh:W.heap[lx]? =some (.cells #[.pointer<|some ⟨L.lb,0,none⟩] 136 (0,0))
 mh:W.heap[mx]? =some (.cells #[.map<|some mb] 217 (0,0))
 mp:W.heap[mb]? =some (.map (lM g left (aH.take k)).toArray k)
 r:Dv W B rv g left aH
section
variable{W W':World}{B lx mx mb g k:Nat}{L:LP}{rv:Value}{left:List Nat}{aH:List (Nat×Nat)}
def SE.l(h:SE W B lx mx mb g L rv left aH k):W.cell? ⟨lx,0,none⟩=some (.pointer<|some ⟨L.lb,0,none⟩):=az h.lh 0
def SE.m(h:SE W B lx mx mb g L rv left aH k):W.cell? ⟨mx,0,none⟩=some (.map<|some mb):=az h.mh 0
def SE.below(h:SE W B lx mx mb g L rv left aH k)(a:Below W.heap.size W W'):SE W' B lx mx mb g L rv left aH k:=
 ⟨bq a h.lh,bq a h.mh,bq a h.mp,h.r.below a⟩
def SE.store(h:SE W B lx mx mb g L rv left aH k):SE (ChangeMaps.setBlock W mb (.map (lM g left (aH.take<|k+1)).toArray (k+1))) B lx mx mb g L rv left aH (k+1):=by
 have b:=aqK W mb (.map (lM g left (aH.take<|k+1)).toArray (k+1));have j:=Tc h.l h.mp;have l:=Tc h.m h.mp;refine⟨(b.block lx (cJ h.lh) λe=>j<|aJ e).trans h.lh,(b.block mx (cJ h.mh) λe=>l<|aJ e).trans h.mh,af2 h.mp,?_⟩;have m:∀a:left≠[],g≠mb:=λa e=>by
  obtain⟨d,c⟩:=h.r.ty a;rw[e,h.mp]at c;cases c
 refine⟨eI h.r.row b (.inr<|P5 h.r.row h.mp),λi f=>cell_grown b (h.r.lf i f) λe=>Tc (h.r.lf i f) h.mp<|aJ e,h.r.ok,λa=>⟨(h.r.lt a).1,kQ (h.r.lt a).2 b.size⟩,λa=> ?_⟩;obtain⟨d,c⟩:=h.r.ty a;exact⟨d,(b.block g (cJ c) λe=>m a<|aJ e).trans c⟩
end
def SE.app {W o:World}{B j m l g k:Nat}{L:LP}{t:Value}{left:List Nat}{p:List (Nat×Nat)}{u n:Nat}{f:Value}{v:List Value}(h:SE W B j m l g L t left p k)(a:W.ownsRow u 146 1 f n v)(b:W.grownBy o f.ownBlock):SE o B j m l g L t left p k:=by
 refine⟨(b.block j (cJ h.lh) λe=>jG a h.lh (by decide) e.symm).trans h.lh,(b.block m (cJ h.mh) λe=>jG a h.mh (by decide) e.symm).trans h.mh,(b.block l (cJ h.mp) λe=>P5 a h.mp e.symm).trans h.mp,?_⟩;have s:left≠[]->some g≠f.ownBlock:=λc e=>by
  obtain⟨q,d⟩:=h.r.ty c;exact jG a d (by decide) e.symm
 refine⟨eI h.r.row b<|lQ h.r.row a<|by decide,λi r=>cell_grown b (h.r.lf i r)<|s<|by rintro rfl;simp[nl]at r,h.r.ok,λc=>⟨(h.r.lt c).1,kQ (h.r.lt c).2 b.size⟩,λc=> ?_⟩;obtain⟨q,d⟩:=h.r.ty c;exact⟨q,(b.block g (cJ d)<|s c).trans d⟩
def aez(left:List Nat)(a b:Nat):nl (dQ left (a,b))=((nl left).take b).drop a:=by simp[nl,dQ,ZP,List.map_drop]
def Tryz.amJ:(prog.info? 146).map (λi=>(i.zero,i.size,i.bytes))=some (some (.pointer none),1,8):=by kernel_rfl
def aiS(a:List Int)(r:List Nat)(p:Nat)(b:r.headD 0=p):ia a r= !(a.getD p 0==21&&decide (0<=opener a p)):=by rw[ia,b]
def arB {a c:Type}(f:a->c)(l:List a)(d:a)(k:Nat)(b:k<l.length):(l.take<|k+1).map f=(l.take k).map f++[f<|l.getD k d]:=by
 rw[uM,aM b,fB,aO,aM b];rfl
def afZ {left:List Nat}{a b:Nat}(h:a<b/\b<=left.length):(dQ left (a,b)).getLastD 0=left.getD (b - 1) 0:=by
 have c:=(z7 (ab:=(a,b)) h).2.2;rw[r8,GN,c];simp only[dQ];rw[zj,ND<|by omega,aO];congr 2;omega
def am8(l r:List Nat)(h:r≠[]):(l++r).getLastD 0=r.getLastD 0:=by
 rw[r8,r8,NF];cases hr:r.getLast? with
 |none=>exact absurd (List.getLast?_eq_none_iff.1 hr) h
 |some x=>rfl
end
structure FS(w:World)(L:LP)(ks ls:List Int)(go:Nat)(o:List Int):Prop where
 ln:LX w L ks ls
 row:bu w L.B go L.n L.n o
 ap:∀g,L.has g->g≠go
section
variable{w w':World}{L:LP}{ks ls o:List Int}{go:Nat}
def FS.below(h:FS w L ks ls go o)(a:Below w.heap.size w w'):FS w' L ks ls go o:=⟨h.ln.below a,fu h.row a,h.ap⟩
def FS.set(h:FS w L ks ls go o)(k:Nat)(a:Int):FS (w.setCell ⟨go,k,none⟩ (.int .i64 a)) L ks ls go (o.set k a):=
 ⟨h.ln.same (by simp) λg b=>iF _ _ _ _ (h.ap g b),h.row.set k a,h.ap⟩
def FS.grown(h:FS w L ks ls go o)(k:Nat)(a:Int):w.grownBy (w.setCell ⟨go,k,none⟩ (.int .i64 a)) (some go):=h.row.grown k a
def FS.drew(h:FS w L ks ls go o):FS w.drew L ks ls go o:=h.below (aA _ _).drew
def FS.len(h:FS w L ks ls go o):o.length=L.n:=h.row.len
def bu.apart {B g n c b:Nat}{t:List Int}{f:TypeId}{i:Array Value}(h:bu w B g n c t)(o:w.heap[b]? =some (.cells i f (0,0)))(d:f≠3):g≠b:=by
 rcases h.2 with⟨e,_⟩|⟨q,p,j,e,_,a,_⟩
 .cases e
 .injection e with k
  injection k with l
  injection l with m
  subst m;intro e;rw[e,o]at a;simp at a;exact d a.2
end
def fF(s c:Int)(_:List Int):Int:=if c= -1 then s else c
def Uz:∀(l:List Int)(a:Int),pass fF fF a l=zB a l
 |[],_=>rfl
 |c::r,a=>by rw[pass,zB,Uz r];rfl
def akW(w:World)(L:LP)(t u:List Int)(b:Nat)(o:List Int)(h:FS w L t u b o)(I:L.n<=1000):
  Calls prog 164 #[.pointer<|some ⟨L.lb,0,none⟩,.slice (some ⟨b,0,none⟩) L.n L.n] w λe C=>e= .returned (.tuple #[])/\FS C L t u b (zB L.p o)/\w.grownBy C (some b):=by
 have B:=ah h;have A:=ah h.len;have D:=h.ln.f5;clear h;go_enter func164,ntmps164;go_wp2;clear D;go_loopg [4,13] L.n (λgk F iv wr=>∃(k:Nat)(s:Int)(j:List Int),k<=L.n/\gk=L.n - k/\F= .int .i64 s/\iv= .int .i64 k/\FS wr L t u b j/\w.grownBy wr (some b)/\aZ fF fF L.p o k s j);exact⟨0,L.p,o,by omega,rfl,rfl,rfl,B.out,jO _ _,aZ.start _ _ _ _⟩;clear B;obtain⟨k,s,j,H,rfl,rfl,rfl,i,q,g⟩:=hrel;by_cases f:k<L.n
 .have d:k<o.length:=by rw[A.out];exact f
  have a:=i.row.cell k f;rw[g.at k<|au _]at a;have E:=i.row.frozen k;have z:(k:Int)<(L.n:Int):=by omega
  have l:=ah i;have p:=ah q;have x:¬o.getD k 0= -1->Hid (aZ fF fF L.p o (k+1) (o.getD k 0) j):=λm=>g.stay d _ (by rw[fF,ai m]) (by rw[fF,ai m])
  have y:o.getD k 0= -1->Hid (aZ fF fF L.p o (k+1) s<|j.set k s):=λm=>g.step d s s (by rw[fF,aj m])<|by rw[fF,aj m]
  have G:Hid ((wr.setCell ⟨b,k,none⟩ (.int .i64 s)).cell? ⟨b,k,none⟩=some (.int .i64 s)):=World.cell?_setCell_same' _ _ _ (by rw[a];rfl);clear i q g;generalize o.getD k 0=c at*;by_cases r:c= -1
  .have v:=y r;subst r;clear x y;go_wp2;go_roundg (L.n - (k+1));exact⟨k+1,s,_,by omega,rfl,rfl,by go_num,l.out.set k s,p.out.trans<|l.out.grown k s,v.out⟩;omega
  .have v:=x r;have J:(c== -1)=false:=(by simpa using r);clear x y;go_wp2;go_roundg (L.n - (k+1));exact⟨k+1,c,_,by omega,rfl,rfl,by go_num,l.out,p.out,v.out⟩;omega
 .have n:j=zB L.p o:=by rw[<-Uz];exact g.stop<|by rw[A.out];exact f
  have l:Hid (FS wr L t u b<|zB L.p o):=by rw[<-n];exact i
  have p:=ah q;have z:¬(k:Int)<(L.n:Int):=by omega
  clear i q g n;go_wp2;go_end0;exact⟨rfl,l.out,p.out⟩
def xC(W:World)(L:LP)(a:Nat):Prop:=W.heap[a]? =some (.cells #[.pointer<|some ⟨L.lb,0,none⟩] 136 (0,0))
def yU(W:World)(L:LP)(a bv:Nat):Prop:=W.heap[bv]? =some (.cells #[.slice (some ⟨a,0,none⟩) L.n L.n] 31 (0,0))
def amW(w:World)(L:LP)(k l:List Int)(f a:Nat)(o:List Int)(h:FS w L k l f o)(d:xC w L a)(i:Nat)(g:i<L.n):
  Calls prog 161 #[.int .i64 i,.pointer<|some ⟨a,0,none⟩] w λe m=>e= .returned (.bool<|Gj<|L.cs.getD i 0)/\m=w:=by
 have n:=h.ln.f1;have q:=h.ln.ct i g;have p:w.cell? ⟨a,0,none⟩=some (.pointer<|some ⟨L.lb,0,none⟩):=az d 0;have j:(i:Int)<(L.n:Int):=by omega
 clear h d;generalize L.cs.getD i 0=c at*;go_enter func161,ntmps161;go_wp2_with fail;refine(aji c _).mono ?_;rintro r s ⟨rfl,hx⟩;have b:=hx.symm;subst b;go_wp2;go_ret;exact⟨rfl,rfl⟩
def arE(w:World)(L:LP)(n p:List Int)(d i bv:Nat)(o:List Int)(h:FS w L n p d o)(S:L.n<=1000)(t:xC w L i)(C:yU w L d bv)(a b:Nat)(O:a<=b)(T:b<=L.n):
  Calls prog 163 #[.int .i64 a,.int .i64 b,.pointer<|some ⟨bv,0,none⟩,.pointer<|some ⟨i,0,none⟩] w λe D=>e= .returned (.tuple #[])/\FS D L n p d (if b<L.n/\L.cs.getD b 0≠10 then o else bM o a L.p (b - a))/\xC D L i/\yU D L d bv/\w.grownBy D (some d):=by
 have A:w.cell? ⟨i,0,none⟩=some (.pointer<|some ⟨L.lb,0,none⟩):=az t 0;have B:w.cell? ⟨bv,0,none⟩=some (.slice (some ⟨d,0,none⟩) L.n L.n):=az C 0;have y:=ah h;have x:Hid (xC w L i/\yU w L d bv):=⟨t,C⟩
 have H:=h.ln.f1;have z:Hid (∀k,k<L.n->w.cell? ⟨L.gt,k,none⟩=some (.int .i64<|L.cs.getD k 0)):=λk Q=>h.ln.ct k Q
 have I:Hid (d≠i):=h.row.apart t (by decide);have J:Hid (d≠bv):=h.row.apart C (by decide);clear h t C;by_cases hx:b<L.n/\L.cs.getD b 0≠10
 .rw[aj hx];have M:=z.out b hx.1;have q:(L.cs.getD b 0 !=10)=true:=by simpa using hx.2
  have u:(b:Int)<(L.n:Int):=by omega
  clear hx;generalize L.cs.getD b 0=c at*;go_enter func163,ntmps163;go_wp2;exact cI (Bu rfl _ _ _) rfl ⟨rfl,y.out,x.out.1,x.out.2,jO _ _⟩
 .rw[ai hx];by_cases t:b<L.n;case pos=>
   have M:=z.out b t;have q:(L.cs.getD b 0 !=10)=false:=by
    have:L.cs.getD b 0=10:=ahn λh=>hx ⟨t,h⟩
    rw[this];rfl
   have u:(b:Int)<(L.n:Int):=(by omega);clear hx;generalize L.cs.getD b 0=c at*;go_enter func163,ntmps163;go_wp2;clear A B H;go_loopg [6] (b - a) (λgk iv wr=>∃m:Nat,a+m<=b/\gk=b - a - m/\iv= .int .i64 ((a+m:Nat):Int)/\FS wr L n p d (bM o a L.p m)/\(xC wr L i/\yU wr L d bv)/\w.grownBy wr (some d));exact⟨0,by omega,rfl,rfl,y.out,x.out,jO _ _⟩;clear y x z;obtain⟨m,R,rfl,rfl,f,g,l⟩:=hrel;by_cases G:a+m<b
   .have v:=f.row.cell (a+m) (by omega);have F:=f.row.frozen<|a+m;have K:=f.ln.f5;have A:wr.cell? ⟨i,0,none⟩=some (.pointer<|some ⟨L.lb,0,none⟩):=az g.1 0;have B:wr.cell? ⟨bv,0,none⟩=some (.slice (some ⟨d,0,none⟩) L.n L.n):=az g.2 0;have s:Hid (FS (wr.setCell ⟨d,a+m,none⟩ (.int .i64 L.p)) L n p d<|bM o a L.p<|m+1):=f.set (a+m) L.p;have j:Hid (xC (wr.setCell ⟨d,a+m,none⟩ (.int .i64 L.p)) L i/\yU (wr.setCell ⟨d,a+m,none⟩ (.int .i64 L.p)) L d bv):=⟨(iF _ _ _ _ I.out.symm).trans g.1,(iF _ _ _ _ J.out.symm).trans g.2⟩
    have r:Hid (w.grownBy (wr.setCell ⟨d,a+m,none⟩ (.int .i64 L.p))<|some d):=l.trans<|f.grown (a+m) L.p;have E:(a:Int)+(m:Int)<(b:Int):=(by omega);have N:(a:Int)+(m:Int)<(L.n:Int):=(by omega);clear f l g;generalize(bM o a L.p m).getD (a+m) 0=q at*;go_wp2;go_region;all_goals
     go_wp2;go_roundg (b - a - (m+1));exact⟨m+1,by omega,rfl,by go_num,s.out.drew,j.out,r.out.trans Cn⟩;omega
   .have E:¬(a:Int)+(m:Int)<(b:Int):=(by omega);have e:m=b - a:=(by omega);have s:Hid (FS wr L n p d<|bM o a L.p<|b - a):=(by rw[<-e];exact f);have r:=ah l;have j:=ah g;clear f l g;go_wp2;go_end0;exact⟨rfl,s.out,j.out.1,j.out.2,r.out⟩
  case neg=>
   have u:¬(b:Int)<(L.n:Int):=(by omega);have P:decide ((b:Int)<(L.n:Int))=false:=(by simpa using u);clear hx;go_enter func163,ntmps163;go_wp2;clear A B H;go_loopg [6] (b - a) (λgk iv wr=>∃m:Nat,a+m<=b/\gk=b - a - m/\iv= .int .i64 ((a+m:Nat):Int)/\FS wr L n p d (bM o a L.p m)/\(xC wr L i/\yU wr L d bv)/\w.grownBy wr (some d));exact⟨0,by omega,rfl,rfl,y.out,x.out,jO _ _⟩;clear y x z;obtain⟨m,R,rfl,rfl,f,g,l⟩:=hrel;by_cases G:a+m<b
   .have v:=f.row.cell (a+m) (by omega);have F:=f.row.frozen<|a+m;have K:=f.ln.f5;have A:wr.cell? ⟨i,0,none⟩=some (.pointer<|some ⟨L.lb,0,none⟩):=az g.1 0;have B:wr.cell? ⟨bv,0,none⟩=some (.slice (some ⟨d,0,none⟩) L.n L.n):=az g.2 0;have s:Hid (FS (wr.setCell ⟨d,a+m,none⟩ (.int .i64 L.p)) L n p d<|bM o a L.p<|m+1):=f.set (a+m) L.p;have j:Hid (xC (wr.setCell ⟨d,a+m,none⟩ (.int .i64 L.p)) L i/\yU (wr.setCell ⟨d,a+m,none⟩ (.int .i64 L.p)) L d bv):=⟨(iF _ _ _ _ I.out.symm).trans g.1,(iF _ _ _ _ J.out.symm).trans g.2⟩
    have r:Hid (w.grownBy (wr.setCell ⟨d,a+m,none⟩ (.int .i64 L.p))<|some d):=l.trans<|f.grown (a+m) L.p;have E:(a:Int)+(m:Int)<(b:Int):=(by omega);have N:(a:Int)+(m:Int)<(L.n:Int):=(by omega);clear f l g;generalize(bM o a L.p m).getD (a+m) 0=q at*;go_wp2;go_region;all_goals
     go_wp2;go_roundg (b - a - (m+1));exact⟨m+1,by omega,rfl,by go_num,s.out.drew,j.out,r.out.trans Cn⟩;omega
   .have E:¬(a:Int)+(m:Int)<(b:Int):=(by omega);have e:m=b - a:=(by omega);have s:Hid (FS wr L n p d<|bM o a L.p<|b - a):=(by rw[<-e];exact f);have r:=ah l;have j:=ah g;clear f l g;go_wp2;go_end0;exact⟨rfl,s.out,j.out.1,j.out.2,r.out⟩
def arR {c:Int}(h:0<=c/\c<=21):Gj c=lA c:=by
 rw[C6];simp only[Gj,lA,aU,bV,Gn,zx,ahk,ahj,ai2,Gm,Cm,DD];omega
def agA {c:List Int}{b:Nat}(g:b<=c.length):∀m a,a+m=b->(∀q,a<=q->q<b->lA (c.getD q 0)=true)->jY (c.drop a)=jY (c.drop b)
 |0,a,h,_=>by rw[<-h];rfl
 |m+1,a,h,hr=>by
  have d:=hr a (au _) (by omega);rw[drop_at (show a<c.length by omega),jY,aj d,ai<|by intro e;rw[e]at d;cases d];exact agA g m (a+1) (by omega) λq d f=>hr q (by omega) f
def agz {a:List Int}{b:Nat}(d:b<a.length)(h:lA (a.getD b 0)=false):jY (a.drop b)=decide (a.getD b 0=10):=by
 rw[drop_at d,jY];by_cases c:a.getD b 0=10
 .rw[aj c,mz c]
 .rw[ai c,ai<|by rw[h];decide,rB c]
def arQ {a:List Int}{b:Nat}(c:¬b<a.length):jY (a.drop b)=true:=by rw[kr<|by omega];rfl
def Mf(p:Int):∀a b:List Int,a.length=b.length->(l1 p a b).length=a.length
 |[],_,_=>rfl
 |_::_,[],h=>by cases h
 |c::a,o::b,h=>by rw[l1,eJ,Mf p a b<|by simpa using h];rfl
def R5(p:Int):∀(a b:List Int)(j:Nat),a.length=b.length->j<a.length->(l1 p a b).getD j 0=Bj p (a.getD j 0) (a.drop<|j+1) (CM p (a.getD j 0)<|b.getD j 0)
 |[],_,j,_,hj=>by cases hj
 |_::_,[],_,h,_=>by cases h
 |c::a,o::b,0,_,_=>rfl
 |c::a,o::b,j+1,h,hj=>by
  have:=R5 p a b j (by simpa using h) (by simpa using hj);rw[l1];simpa using this
def am6(p:Int)(a b:List Int)(h:a.length=b.length):(List.range a.length).map (λj=>Bj p (a.getD j 0) (a.drop<|j+1)<|CM p (a.getD j 0)<|b.getD j 0)=l1 p a b:=by
 apply J0;intro j;rcases cP j a.length with c|c
 .rw[jq,J2 c,aM<|by rw[Mf p a b h];exact c];have:=R5 p a b j h c;have d:(l1 p a b).getD j 0=(l1 p a b)[j]'(by rw[Mf p a b h];exact c):=by rw[aO,aM<|by rw[Mf p a b h];exact c];rfl
  rw[d]at this;exact congrArg some this.symm
 .rw[rZ<|by simp;exact c,rZ<|by rw[Mf p a b h];exact c]
def nQ.more {n k:Nat}{l:List Int}{f g:Nat->Int}(h:nQ n k l f g){b:Nat}(i:k<=b)(e:∀j,k<=j->j<b->j<n->f j=g j):nQ n b l f g:=by
 refine⟨h.1,λj d=> ?_⟩;rw[h.2 j d];by_cases c:j<k
 .rw[aj c,aj<|by omega]
 .rw[ai c];by_cases a:j<b
  .rw[aj a,e j (by omega) a d]
  .rw[ai a]
def nQ.fill {n k:Nat}{l:List Int}{f g:Nat->Int}(h:nQ n k l f g){b:Nat}(i:k<=b)(m:b<=n)(v:Int)(d:∀j,k<=j->j<b->f j=v):nQ n b (bM l k v<|b - k) f g:=by
 refine⟨by rw[OG];exact h.1,λj e=> ?_⟩;rw[D6 _ _ _ _ _ (by rw[h.1];omega)];by_cases a:k<=j/\j<k+(b - k)
 .rw[aj a,aj<|by omega,d j a.1<|by omega]
 .rw[ai a,h.2 j e];by_cases c:j<k
  .rw[aj c,aj<|by omega]
  .rw[ai c,ai<|by omega]
def aiw(a b c d:Value):(#[a,b]++#[c,d]:Array Value)=#[a,b,c,d]:=rfl
def tL(L:LP)(o:List Int)(j:Nat):Int:=Bj L.p (L.cs.getD j 0) (L.cs.drop<|j+1)<|CM L.p (L.cs.getD j 0)<|o.getD j 0
def aL(L:LP)(o:List Int)(j:Nat):Int:=CM L.p (L.cs.getD j 0)<|o.getD j 0
section
variable(w:World)(L:LP)(ks ls:List Int)(go bl bv:Nat)(o:List Int)
def JL(a:Nat)(b:List Int)(W:World):Prop:=FS W L ks ls go b/\xC W L bl/\yU W L go bv/\w.grownBy W (some go)/\nQ L.n (min a L.n) b (tL L o) (aL L o)
def am9(V:L.n<=1000)(U:L.cs.length=L.n)(F:∀c∈L.cs,0<=c/\c<=21):Kh L.n 161 163 #[.pointer<|some ⟨bl,0,none⟩] #[.pointer<|some ⟨bv,0,none⟩,.pointer<|some ⟨bl,0,none⟩] (JL w L ks ls go bl bv o) (λ_ i=>Gj<|L.cs.getD i 0):=by
 have f:∀j,j<L.n->Gj (L.cs.getD j 0)=lA (L.cs.getD j 0):=λj T=>arR<|F _ (dG<|by rw[U];exact T)
 have y:∀j,lA (L.cs.getD j 0)=false->tL L o j=aL L o j:=λj h=>by
  rw[tL,Bj,ai λx=>by rw[h]at x;cases x.1];rfl
 refine⟨?_,?_,?_⟩
 .rintro A a W i ⟨p,n,u,t,l⟩ _ S;rw[SN];refine(amW W L ks ls go bl A p n i S).mono ?_;rintro e N ⟨rfl,rfl⟩;exact⟨rfl,p,n,u,t,l⟩
 .rintro A a W ⟨p,n,u,t,l⟩ P X;rw[jN<|by omega]at l;refine⟨A,p,n,u,t,?_⟩;rw[jN<|by omega];refine l.more (by omega) λj g k _=> ?_
  rw[show j=a by omega];exact y a<|by rw[<-f a P];exact X
 .rintro A a b W ⟨p,n,u,t,l⟩ Q J v d;rw[jN<|by omega]at l;rw[aiw];refine(arE W L ks ls go bl bv A p V n u a b (by omega) J).mono ?_;rintro e N ⟨rfl,M,D,E,K⟩;have m:∀q,a<=q->q<b->lA (L.cs.getD q 0)=true:=λq g k=>by rw[<-f q (by omega)];exact v q g k
  have I:∀j,a<=j->j<b->jY (L.cs.drop<|j+1)=jY (L.cs.drop b):=λj g k=>agA (by omega) (b - (j+1)) (j+1) (by omega) λq Y O=>m q (by omega) O
  have B:∀H,nQ L.n b H (tL L o) (aL L o)->nQ L.n (min (b+1) L.n) H (tL L o) (aL L o):=λH h=>by
   by_cases r:b<L.n
   .rw[jN<|by omega];refine h.more (by omega) λj g k _=> ?_
    rw[show j=b by omega];exact y b<|by rw[<-f b r];exact d r
   .rw[show min (b+1) L.n=b by omega];exact h
  refine⟨rfl,_,M,D,E,t.trans K,B _ ?_⟩;by_cases s:b<L.n/\L.cs.getD b 0≠10
  .rw[aj s];have R:lA (L.cs.getD b 0)=false:=(by rw[<-f b s.1];exact d s.1);refine l.more (by omega) λj g k _=> ?_
   have G:¬(lA (L.cs.getD j 0)=true/\jY (L.cs.drop<|j+1)=true):=λx=>by
    rw[I j g k,agz (by omega) R,rB s.2]at x;cases x.2
   rw[tL,Bj,ai G];rfl
  .rw[ai s];refine l.fill (by omega) J L.p λj g k=> ?_
   have z:jY (L.cs.drop<|j+1)=true:=by
    rw[I j g k];by_cases r:b<L.n
    .have C:L.cs.getD b 0=10:=ahn λh=>s ⟨r,h⟩
     rw[agz (by omega)<|by rw[<-f b r];exact d r,C];rfl
    .exact arQ (by omega)
   rw[tL,Bj,aj ⟨m j g k,z⟩]
end
def aqP(w:World)(L:LP)(t u:List Int)(a:Nat)(o:List Int)(h:FS w L t u a o)(S:L.n<=1000)(E:∀c∈L.cs,0<=c/\c<=21):
  Calls prog 89 #[.pointer<|some ⟨L.lb,0,none⟩,.slice (some ⟨a,0,none⟩) L.n L.n] w λe I=>e= .returned (.tuple #[])/\FS I L t u a (zB L.p<|l1 L.p L.cs o)/\w.grownBy I (some a):=by
 have Ij:∀(fn:Fn)(first D:Array Value)(w:World),(Instr.makeFunc fn first D).run prog w= .ok (.func fn first D) w:=λ_ _ _ _=>rfl
 obtain⟨F,d⟩:=ac<|(w.alloc (.cells #[.pointer<|some ⟨L.lb,0,none⟩] 136)).alloc (.cells #[.slice (some ⟨a,0,none⟩) L.n L.n] 31);have b:Below w.heap.size w F:=by rw[d];exact((aA _ _).alloc (au _) _).alloc (by simp) _
 have O:=ah<|h.below b;have X:Hid (xC F L w.heap.size):=by
  show _=_;rw[d,dw _ _ _ (by simp)];exact oD
 have Y:Hid (yU F L a<|w.heap.size+1):=by
  show _=_;rw[d,show w.heap.size+1=(w.alloc (.cells #[.pointer<|some ⟨L.lb,0,none⟩] 136)).heap.size by simp];exact oD
 have lX:Hid (w.grownBy F<|some a):=⟨b.os,b.tape,b.output,b.size,λk hk _=>b.block k hk⟩
 have B:Hid (L.cs.length=L.n/\o.length=L.n):=⟨h.ln.len,h.len⟩
 have K:=ah E;have oH:Hid (a≠w.heap.size):=by have:=(AJ h.row a rfl).2;show _≠_;omega
 have oI:Hid (a≠w.heap.size+1):=by have:=(AJ h.row a rfl).2;show _≠_;omega
 have a1:((w.alloc (.cells #[.pointer<|some ⟨L.lb,0,none⟩] 136)).alloc (.cells #[.slice (some ⟨a,0,none⟩) L.n L.n] 31)).cell? ⟨L.lb,1,none⟩=some (.slice (some ⟨L.gt,0,none⟩) L.n L.ct):=by rw[<-d];exact O.out.ln.f1
 clear h b E;go_enter func89,ntmps89;go_wp2;rw[<-d];clear a1 d;generalize w.heap.size+1=bv at*;generalize w.heap.size=m at*;go_loopg [12] L.n (λgk iv W=>∃(k:Nat)(p:List Int),k<=L.n/\gk=L.n - k/\iv= .int .i64 k/\FS W L t u a p/\(xC W L m/\yU W L a bv)/\w.grownBy W (some a)/\nQ L.n k p (aL L o) (λj=>o.getD j 0));exact⟨0,o,by omega,rfl,rfl,O.out,⟨X.out,Y.out⟩,lX.out,⟨B.out.2,λj _=>by rw[ai<|by omega]⟩⟩;clear O X Y lX;obtain⟨k,p,hk,rfl,rfl,n,l,H,r⟩:=hrel;have cl:wr.cell? ⟨m,0,none⟩=some (.pointer<|some ⟨L.lb,0,none⟩):=az l.1 0;have cv:wr.cell? ⟨bv,0,none⟩=some (.slice (some ⟨a,0,none⟩) L.n L.n):=az l.2 0;by_cases i:k<L.n
 .have ct:=n.ln.ct k i;have P:=n.row.cell k i;have ad:=n.row.frozen k;have c5:=n.ln.f5;have R:(k:Int)<(L.n:Int):=by omega
  have ek:p.getD k 0=o.getD k 0:=by have:=r.2 k i;rw[ai<|by omega]at this;exact this
  have A:=ah n;have xE:=ah l;have M:=ah H;have y:∀v,aL L o k=v->Hid (nQ L.n (k+1) (p.set k v) (aL L o) λj=>o.getD j 0):=λv e=>by subst e;exact r.step i
  have C:aL L o k=o.getD k 0->Hid (nQ L.n (k+1) p (aL L o) λj=>o.getD j 0):=λe=>r.more (by omega) λj h1 h2 _=>by rw[show j=k by omega];exact e
  have Z:Hid (∀v:Int,xC (wr.setCell ⟨a,k,none⟩ (.int .i64 v)) L m/\yU (wr.setCell ⟨a,k,none⟩ (.int .i64 v)) L a bv):=λv=>⟨(iF _ _ _ _ oH.out.symm).trans l.1,(iF _ _ _ _ oI.out.symm).trans l.2⟩
  unfold aL CM at y C;clear n l H r ek;generalize L.cs.getD k 0=c at*;generalize p.getD k 0=q at*;by_cases g:c=10
  .subst g;have z:=y L.p<|aj rfl;clear y C;go_wp2_with fail;refine(yF 10 _).mono ?_;rintro G wx ⟨rfl,hx⟩;have f:=hx.symm;subst f;rw[show(!bV 10)=false from rfl];go_wp2;go_region;all_goals
    go_wp2;go_roundg (L.n - (k+1));exact⟨k+1,_,by omega,rfl,by go_num,(A.out.set k L.p).drew,Z.out L.p,(M.out.trans<|A.out.grown k L.p).trans Cn,z.out⟩;omega
  .have ow:=ae g;cases hl:bV c
   .have z:=y (-1) (by rw[ai g,aj hl]);have N:Hid ((!bV c)=true):=(by show _=_;rw[hl];rfl);clear y C hl;go_wp2_with fail;refine(yF c _).mono ?_;rintro G wx ⟨rfl,hx⟩;have f:=hx.symm;subst f;rw[N.out];go_wp2;go_roundg (L.n - (k+1));exact⟨k+1,_,by omega,rfl,by go_num,A.out.set k (-1),Z.out (-1),M.out.trans<|A.out.grown k (-1),z.out⟩;omega
   .have z:=C (by rw[ai g,ai<|by rw[hl];decide]);have N:Hid ((!bV c)=false):=(by show _=_;rw[hl];rfl);clear y C hl;go_wp2_with fail;refine(yF c _).mono ?_;rintro G wx ⟨rfl,hx⟩;have f:=hx.symm;subst f;rw[N.out];go_wp2;go_roundg (L.n - (k+1));exact⟨k+1,_,by omega,rfl,by go_num,A.out,xE.out,M.out,z.out⟩;omega
 .obtain rfl:k=L.n:=by omega
  have R:¬(L.n:Int)<(L.n:Int):=by omega
  have U:Hid (Calls prog 97 #[.int .i64 L.n,.func (.func 161) #[] #[.pointer<|some ⟨m,0,none⟩],.func (.func 163) #[] #[.pointer<|some ⟨bv,0,none⟩,.pointer<|some ⟨m,0,none⟩]] wr λe I=>e= .returned (.tuple #[])/\∃k x,L.n<=k/\JL w L t u a m bv o k x I):=
   Ot L.n _ _ _ _ _ _ S (am9 w L t u a m bv o S B.out.1 K.out) (jE func161 (by kernel_rfl)<|by kernel_rfl) (jE func163 (by kernel_rfl)<|by kernel_rfl) p wr
    ⟨n,l.1,l.2,H,by rw[Kf];exact⟨r.1,λj hj=>by rw[ai<|by omega];have:=r.2 j hj;rw[aj hj]at this;exact this⟩⟩
  clear n l H r;go_wp2_with fail;refine U.out.mono ?_;rintro G J ⟨rfl,k3,o3,Q,mY,dm,T,V,s⟩;rw[GV Q]at s;have e3:o3=l1 L.p L.cs o:=by rw[s.done,<-am6 L.p L.cs o (by rw[B.out.1,B.out.2]),B.out.1];rfl
  have kq:Hid (FS J L t u a<|l1 L.p L.cs o):=by rw[<-e3];exact mY
  have Jm:=ah V;have aa:J.cell? ⟨m,0,none⟩=some (.pointer<|some ⟨L.lb,0,none⟩):=az dm 0;have ab:J.cell? ⟨bv,0,none⟩=some (.slice (some ⟨a,0,none⟩) L.n L.n):=az T 0;clear mY dm T V s e3 U cl cv;go_wp2_with fail;refine(akW J L t u a _ kq.out S).mono ?_;rintro G w4 ⟨rfl,jU,zE⟩;have xL:=ah jU;have Dd:Hid _:=Jm.out.trans zE;clear jU zE;go_wp2;go_end0;exact⟨rfl,xL.out,Dd.out⟩
def apM(l c:Int)(w:World)(r:0<=l):Calls prog 159 #[.int .i64 l,.int .i64 c] w λe k=>e= .returned (.int .i64<|jl l c)/\k=w:=by
 have g:Hid (∀W,Calls prog 96 #[.int .i64 l] W λe k=>e= .returned (.int .i64<|l%2)/\k=W):=λW=>C2 l W r
 have o:l%2=0∨l%2=1:=by omega
 obtain⟨m,j⟩:=ac<|l%2;have p:jl l c=if(c=3∨c=6)/\m=0 then 2 else if(c=3∨c=6)∨c≠m then 1 else 0:=by
  unfold jl;rw[<-j];rcases o with h|h
  .rw[show m=0 by omega];simp
  .rw[show m=1 by omega];simp
 rw[p];rw[<-j]at g;clear p o j;by_cases f:c=3∨c=6
 .by_cases d:m=0
  .rw[aj ⟨f,d⟩];subst d;rcases f with rfl|rfl
   all_goals
    go_enter func159,ntmps159;go_wp2_with fail;refine(g.out _).mono ?_;rintro i n ⟨rfl,hx⟩;have a:=hx.symm;subst a;go_wp2;go_ret;exact⟨rfl,rfl⟩
  .rw[ai λh=>d h.2,aj (.inl f)];have q:=ae d;rcases f with rfl|rfl
   all_goals
    go_enter func159,ntmps159;go_wp2_with fail;refine(g.out _).mono ?_;rintro i n ⟨rfl,hx⟩;have a:=hx.symm;subst a;go_wp2;go_ret;exact⟨rfl,rfl⟩
 .rw[ai λh=>f h.1];have t:(c==3)=false:=by simp;omega
  have u:(c==6)=false:=by simp;omega
  by_cases b:c=m
  .rw[ai<|by omega];have q:(c !=m)=false:=(by simp[b]);have s:=ah q;clear f b;go_enter func159,ntmps159;go_wp2_with fail;refine(g.out _).mono ?_;rintro i n ⟨rfl,hx⟩;have a:=hx.symm;subst a;go_wp2;go_ret;exact⟨rfl,rfl⟩
  .rw[aj (.inr b)];have q:(c !=m)=true:=(by simpa using b);clear f b;go_enter func159,ntmps159;go_wp2_with fail;refine(g.out _).mono ?_;rintro i n ⟨rfl,hx⟩;have a:=hx.symm;subst a;go_wp2;go_ret;exact⟨rfl,rfl⟩
def apL(l c:Int):0<=jl l c/\jl l c<=2:=by
 unfold jl;split
 .omega
 .split<;>omega
def arU(a:List Nat)(b:Int)(t:List Int)(j:Nat)(c:j<a.length)(d:j<t.length):(jm a b t).take (j+1)=(jm a b t).take j++[(a.getD j 0,b,t.getD j 0)]:=by
 have e:j<(jm a b t).length:=by rw[jm,ja,Ss];omega
 rw[uM,aM e];simp[jm,aO,aM c,aM d]
def bf.setOther {w:World}{B b a n f:Nat}{i j bv:Value}{d c e:Int}{t:List Int}(h:bf w B b a n f i j bv d c e t){g:Nat}(l:b≠g)(m:a≠g)(k:Nat)(u:Value):bf (w.setCell ⟨g,k,none⟩ u) B b a n f i j bv d c e t:=
 ⟨by rw[iF _ _ _ _ l];exact h.cell,jW h.row (by simpa [Value.ownBlock]using m) k u⟩
def aqO(w:World)(B x A m J g k z:Nat)(N bv:Value)(b H I:Int)(t:List Int)(a:List Nat)(y f n:Nat)(o:List Int)(i:bf w B x A m J (.slice (some ⟨g,k,none⟩) m z) N bv b H I t)(s:bI w g k<|nl a)(Y:a.length=m)(h:bu w y f n n o)(D:x≠f/\A≠f/\g≠f)
  (E:∀p∈a,p<n) (hm:m<=1000) (mG:0<=b) (Z:∀p,0<=o.getD p 0/\o.getD p 0<=1000):
  Calls prog 88 #[.pointer<|some ⟨x,0,none⟩,.slice (some ⟨f,0,none⟩) n n] w λe O=>e= .returned (.tuple #[])/\bu O y f n n ((jm a b t).foldl iU o)/\w.grownBy O (some f):=by
 have c0:w.cell? ⟨x,0,none⟩=some (.slice (some ⟨g,k,none⟩) m z):=az i.cell 0;have U:=ah i;have S:=ah s;have za:=ah h;have G:Hid (a.length=m/\t.length=m):=⟨Y,i.len⟩
 have HA:=ah E;have R:=ah Z;have P:=ah D;clear i s h Y E Z D;go_enter func88,ntmps88;go_wp2;clear c0;go_loopg [11] m (λgk iv W=>∃(j:Nat)(d:List Int),j<=m/\gk=m - j/\iv= .int .i64 j/\bf W B x A m J (.slice (some ⟨g,k,none⟩) m z) N bv b H I t/\bI W g k (nl a)/\bu W y f n n d/\w.grownBy W (some f)/\d=((jm a b t).take j).foldl iU o/\∀p,0<=d.getD p 0/\d.getD p 0<=1000+2*j);exact⟨0,o,by omega,rfl,rfl,U.out,S.out,za.out,jO _ _,rfl,λp=>by have:=R.out p;omega⟩;clear U S za R;obtain⟨j,d,hj,rfl,rfl,i,s,h,M,L,K⟩:=hrel;by_cases u:j<m
 .have l:j<a.length:=by rw[G.out.1];exact u
  have ab:wr.cell? ⟨g,k+j,none⟩=some (.int .i64 ((a.getD j 0:Nat):Int)):=by
   have:=s j (by rw[gW];exact l);rw[oh _ _ l]at this;exact this
  have sV:a.getD j 0<n:=HA.out _ (dG l);have cr:=h.cell _ sV;have fr:=h.frozen<|a.getD j 0;have c2:=i.f2;have c4:=i.f4;have ck:=i.at j u;have hq:=K<|a.getD j 0;have ac:(j:Int)<(m:Int):=by omega
  have aa:((a.getD j 0:Nat):Int)<(n:Int):=by omega
  have v:=apL b<|t.getD j 0;have Q:Hid (∀W,Calls prog 159 #[.int .i64 b,.int .i64<|t.getD j 0] W λe O=>e= .returned (.int .i64<|jl b<|t.getD j 0)/\O=W):=λW=>apM b _ W mG
  have kX:((jm a b t).take (j+1)).foldl iU o=d.set (a.getD j 0) (d.getD (a.getD j 0) 0+jl b (t.getD j 0)):=by
   rw[arU a b t j l<|by rw[G.out.2];exact u,Ci,<-L];rfl
  have V:bu (wr.setCell ⟨f,a.getD j 0,none⟩ (.int .i64<|d.getD (a.getD j 0) 0+jl b (t.getD j 0))) y f n n (d.set (a.getD j 0)<|d.getD (a.getD j 0) 0+jl b (t.getD j 0)):=h.set _ _;have ic:bf (wr.setCell ⟨f,a.getD j 0,none⟩ (.int .i64<|d.getD (a.getD j 0) 0+jl b (t.getD j 0))) B x A m J (.slice (some ⟨g,k,none⟩) m z) N bv b H I t:=i.setOther P.out.1 P.out.2.1 _ _;have C:bI (wr.setCell ⟨f,a.getD j 0,none⟩ (.int .i64<|d.getD (a.getD j 0) 0+jl b (t.getD j 0))) g k (nl a):=s.FY<|iF _ _ _ _ P.out.2.2;have nW:w.grownBy (wr.setCell ⟨f,a.getD j 0,none⟩ (.int .i64<|d.getD (a.getD j 0) 0+jl b (t.getD j 0))) (some f):=M.trans<|h.grown _ _;have T:∀p,0<=(d.set (a.getD j 0)<|d.getD (a.getD j 0) 0+jl b (t.getD j 0)).getD p 0/\(d.set (a.getD j 0)<|d.getD (a.getD j 0) 0+jl b (t.getD j 0)).getD p 0<=1000+2*((j+1:Nat):Int):=λp=>by
   by_cases hp:a.getD j 0=p
   .rw[<-hp,zC<|by rw[h.len];exact sV];omega
   .rw[getD_set_ne hp];have:=K p;omega
  have F:Hid (bf (wr.setCell ⟨f,a.getD j 0,none⟩ (.int .i64<|d.getD (a.getD j 0) 0+jl b (t.getD j 0))) B x A m J (.slice (some ⟨g,k,none⟩) m z) N bv b H I t/\bI (wr.setCell ⟨f,a.getD j 0,none⟩ (.int .i64<|d.getD (a.getD j 0) 0+jl b (t.getD j 0))) g k (nl a)/\bu (wr.setCell ⟨f,a.getD j 0,none⟩ (.int .i64<|d.getD (a.getD j 0) 0+jl b (t.getD j 0))) y f n n (d.set (a.getD j 0)<|d.getD (a.getD j 0) 0+jl b (t.getD j 0))/\w.grownBy (wr.setCell ⟨f,a.getD j 0,none⟩ (.int .i64<|d.getD (a.getD j 0) 0+jl b (t.getD j 0))) (some f)):=⟨ic,C,V,nW⟩
  have X:Hid (d.set (a.getD j 0) (d.getD (a.getD j 0) 0+jl b (t.getD j 0))=((jm a b t).take (j+1)).foldl iU o/\∀p,0<=(d.set (a.getD j 0)<|d.getD (a.getD j 0) 0+jl b (t.getD j 0)).getD p 0/\(d.set (a.getD j 0)<|d.getD (a.getD j 0) 0+jl b (t.getD j 0)).getD p 0<=1000+2*((j+1:Nat):Int)):=⟨kX.symm,T⟩
  have ae:=hq.1;have af:d.getD (a.getD j 0) 0<=3000:=by omega
  have ag:=v.1;have ai:=v.2;clear i s h M L K kX V ic C nW T hq v;generalize jl b (t.getD j 0)=ri at*;generalize t.getD j 0=c at*;generalize d.getD (a.getD j 0) 0=q at*;generalize a.getD j 0=p at*;go_wp2_with fail
  go_region_with (go_at_call 159;refine(Q.out _).mono ?_;rintro ev wx ⟨rfl,hx⟩;subst hx)
  all_goals
   go_wp2;go_roundg (m - (j+1));exact⟨j+1,_,by omega,rfl,by go_num,F.out.1.below (aA _ _).drew,F.out.2.1,eI F.out.2.2.1 (Cn (r:=none)) (.inr<|by simp[Value.ownBlock]),F.out.2.2.2.trans Cn,X.out.1,X.out.2⟩;omega
 .obtain rfl:j=m:=by omega
  have ad:¬(j:Int)<(j:Int):=by omega
  have e:d=(jm a b t).foldl iU o:=by rw[L,ku<|by rw[jm,ja,Ss,G.out.1,G.out.2];omega]
  have HR:Hid (bu wr y f n n<|(jm a b t).foldl iU o):=by rw[<-e];exact h
  have HG:=ah M;clear i s h M L K e;go_wp2;go_end0;exact⟨rfl,HR.out,HG.out⟩
def Wh {c:Int}{b:List Int}{j:Nat}(e:j<=b.length):∀m a,a+m=j->(∀q,a<=q->q<j->o5 (b.getD q 0)=true)->vB c (b.drop a)=vB c (b.drop j)
 |0,a,h,_=>by rw[<-h];rfl
 |m+1,a,h,hr=>by
  rw[drop_at (show a<b.length by omega),vB,aj<|hr a (au _)<|by omega];exact Wh e m (a+1) (by omega) λq f d=>hr q (by omega) d
def afE {c d:Int}{b l:List Int}{k j:Nat}{s:Int}(h:aZ (fM c) gM d b k s l)(a:∀q,k<=q->q<j->o5 (b.getD q 0)=true)(g:j<=b.length)(f:s=vB c (b.drop j)):
  ∀m,k+m<=j->aZ (fM c) gM d b (k+m) s (bM l k s m)
 |0,_=>h
 |m+1,hm=>by
  have e:=afE h a g f m (by omega);have i:=a (k+m) (by omega) (by omega);refine e.step (by omega) s s ?_ ?_
  .rw[fM,aj i,Wh g (j - (k+m+1)) (k+m+1) (by omega) λq e n=>a q (by omega) n,aj f]
  .rw[gM,aj i]
def afF {c d:Int}{b l:List Int}{k j:Nat}{s:Int}(h:aZ (fM c) gM d b k s l)(a:∀q,k<=q->q<j->o5 (b.getD q 0)=true)(g:j<=b.length)(f:¬s=vB c (b.drop j)):
  ∀m,k+m<=j->aZ (fM c) gM d b (k+m) s l
 |0,_=>h
 |m+1,hm=>by
  have e:=afF h a g f m (by omega);have i:=a (k+m) (by omega) (by omega);refine e.stay (by omega) s ?_ ?_
  .rw[fM,aj i,Wh g (j - (k+m+1)) (k+m+1) (by omega) λq e n=>a q (by omega) n,ai f]
  .rw[gM,aj i]
def afG {c b:Int}{a e:List Int}{k:Nat}{s:Int}(h:aZ (fM c) gM b a k s e)(f:k<a.length)(d:¬o5 (a.getD k 0)=true):aZ (fM c) gM b a (k+1) (bD<|a.getD k 0) e:=
 h.stay f _ (by rw[fM,ai d]) (by rw[gM,ai d])
section
variable(w:World)(B sb gc n cc bx:Nat)(pv rv bv:Value)(ax aq ay:Int)(t:List Int)
def JN(a:Nat)(b:List Int)(W:World):Prop:=∃s,bf W B sb gc n cc pv rv bv ax aq ay b/\W.heap[bx]? =some (.cells #[.pointer<|some ⟨sb,0,none⟩] 146 (0,0))/\w.grownBy W (some gc)/\aZ (fM ay) gM aq t (min a n) s b/\((a=0/\s=aq)∨(0<a/\(a<=n->s=bD (b.getD (a - 1) 0))))
def anN(I:n<=1000)(P:t.length=n)(L:bD aq=aq)(z:bx<w.heap.size):Kh n 214 216 #[.pointer<|some ⟨bx,0,none⟩] #[.pointer<|some ⟨bx,0,none⟩] (JN w B sb gc n cc bx pv rv bv ax aq ay t) (λc i=>o5<|c.getD i 0):=by
 refine⟨?_,?_,?_⟩
 .rintro c a W i ⟨s,f,j,l,d,r⟩ _ H;rw[SN];refine(amR W B sb gc n cc bx pv rv bv ax aq ay c f j i H).mono ?_;rintro e x ⟨rfl,rfl⟩;exact⟨rfl,s,f,j,l,d,r⟩
 .rintro c a W ⟨s,f,j,l,d,r⟩ O J;rw[jN<|by omega]at d;have e:=d.at a<|au _;have F:¬o5 (t.getD a 0)=true:=by
   rw[<-e];simpa using J
  exact⟨c,bD<|t.getD a 0,f,j,l,by rw[jN<|by omega];exact afG d (by omega) F,.inr ⟨by omega,λ_=>by rw[lJ,e]⟩⟩
 .rintro c a b W ⟨s,f,j,l,d,r⟩ G K o p;rw[jN<|by omega]at d;have k:∀q,a<=q->q<b->o5 (t.getD q 0)=true:=λq g E=>by
   rw[<-d.at q g];exact o q g E
  have C:b<n->¬o5 (t.getD b 0)=true:=λh=>by
   rw[<-d.at b (by omega)];simpa using p h
  have hx:bD (gG aq ay c<|(a:Int) - 1)=s:=by
   rcases r with⟨rfl,rfl⟩|⟨N,g⟩
   .rw[show((0:Nat):Int) - 1= -1 from rfl,gG,aj<|by decide];exact L
   .rw[g<|by omega,gG,ai<|by omega,ai<|by rw[f.len];omega,show((a:Int) - 1).toNat=a - 1 by omega]
  have D:bD (gG aq ay c (b:Int))=vB ay (t.drop b):=by
   by_cases y:b<n
   .rw[gG,ai<|by omega,ai<|by rw[f.len];omega,Cg,d.at b<|by omega,drop_at (show b<t.length by omega),vB,ai<|C y]
   .rw[gG,ai<|by omega,aj<|by rw[f.len];omega,kr<|by omega];rfl
  rw[wB];refine(arC W B sb gc n cc bx pv rv bv ax aq ay c f I j a b (by omega) K).mono ?_;rintro e x ⟨rfl,A,v⟩;have m:x.heap[bx]? =some (.cells #[.pointer<|some ⟨sb,0,none⟩] 146 (0,0)):=by
   rw[v.block bx (kQ z l.size) λe=>(f.boxed j) (aJ e).symm];exact j
  have key:∀t2,t2=(if bD (gG aq ay c<|(a:Int) - 1)=bD (gG aq ay c (b:Int))then bM c a (bD<|gG aq ay c<|(a:Int) - 1) (b - a)else c)->aZ (fM ay) gM aq t b s t2->∃M,JN w B sb gc n cc bx pv rv bv ax aq ay t (b+1) M x:=by
   rintro t2 rfl g;by_cases y:b<n
   .refine⟨_,bD<|t.getD b 0,A,m,l.trans v,by rw[jN<|by omega];exact afG g (by omega)<|C y,.inr ⟨by omega,λ_=> ?_⟩⟩;rw[lJ,g.at b<|au _]
   .have e:min (b+1) n=b:=(by omega);exact⟨_,s,A,m,l.trans v,by rw[e];exact g,.inr ⟨by omega,λh=>by omega⟩⟩
  refine⟨rfl,?_⟩;by_cases u:s=vB ay (t.drop b)
  .have:=afE d k (by omega) u (b - a) (by omega);rw[show a+(b - a)=b by omega]at this;exact key _ (by rw[aj<|by rw[hx,D];exact u,hx]) this
  .have:=afF d k (by omega) u (b - a) (by omega);rw[show a+(b - a)=b by omega]at this;exact key _ (by rw[ai<|by rw[hx,D];exact u]) this
end
def anO(w:World)(B b d n j:Nat)(m o bv:Value)(g a c:Int)(t:List Int)(h:bf w B b d n j m o bv g a c t)(C:n<=1000)(I:bD a=a):
  Calls prog 152 #[.pointer<|some ⟨b,0,none⟩] w λe p=>e= .returned (.tuple #[])/\bf p B b d n j m o bv g a c (pass (fM c) gM a t)/\w.grownBy p (some d):=by
 have K:∀(y:Fn)(first i:Array Value)(w:World),(Instr.makeFunc y first i).run prog w= .ok (.func y first i) w:=λ_ _ _ _=>rfl
 have l:Below w.heap.size w (w.alloc (.cells #[.pointer<|some ⟨b,0,none⟩] 146)):=(aA _ _).alloc (au _) _;have f:=h.below l;have H:=f.f2;have u:=h.len;have v:Hid (Calls prog 97 #[.int .i64 n,.func (.func 214) #[] #[.pointer<|some ⟨w.heap.size,0,none⟩],.func (.func 216) #[] #[.pointer<|some ⟨w.heap.size,0,none⟩]] (w.alloc (.cells #[.pointer<|some ⟨b,0,none⟩] 146)) λe p=>e= .returned (.tuple #[])/\∃k x,n<=k/\JN (w.alloc (.cells #[.pointer<|some ⟨b,0,none⟩] 146)) B b d n j w.heap.size m o bv g a c t k x p):=
  Ot n _ _ _ _ _ _ C (anN _ B b d n j w.heap.size m o bv g a c t C u I (by simp)) (jE func214 (by kernel_rfl)<|by kernel_rfl) (jE func216 (by kernel_rfl)<|by kernel_rfl) t _
   ⟨a,f,oD,jO _ _,by rw[Kf];exact aZ.start _ _ _ _,.inl ⟨rfl,rfl⟩⟩
 have D:Hid (w.grownBy (w.alloc (.cells #[.pointer<|some ⟨b,0,none⟩] 146))<|some d):=⟨rfl,rfl,rfl,by simp,λk r _=>dw w _ k r⟩
 have F:=ah u;clear h l f u;go_enter func152,ntmps152;go_wp2_with fail;refine v.out.mono ?_;rintro L J ⟨rfl,k,M,r,s,A,_,z,q,_⟩;rw[GV r]at q;have e:=q.stop (by rw[F.out];omega);have G:Hid (bf J B b d n j m o bv g a c<|pass (fM c) gM a t):=by rw[<-e];exact A
 have E:=ah<|D.out.trans z;clear A z q e v H;go_wp2;go_end0;exact⟨rfl,G.out,E.out⟩
