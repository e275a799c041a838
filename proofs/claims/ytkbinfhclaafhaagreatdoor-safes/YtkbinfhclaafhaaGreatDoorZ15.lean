import Derived.Test.YtkbinfhclaafhaaGreatDoorZ08
import Derived.Test.YtkbinfhclaafhaaGreatDoorZ11
import Derived.Test.YtkbinfhclaafhaaGreatDoorZ14
import Derived.Deep.RegionHeld3
import Derived.Deep.DrawnRows
import Derived.Maps.AppendAt
import Derived.ArgAppend
import Derived.Test.YtkbinfhclaafhaaGreatDoorZ10
import Derived.Deep.RegionWith
namespace Go.Proofs.YtkbinfhclaafhaaGreatDoor
open Go.RowKit
open Go.Proofs.Tryz
set_option maxRecDepth 100000
set_option maxHeartbeats 32000000
set_option linter.all false
section
attribute [local go_sem ↓] Go.wp_at_zero Go.wp_at_succ
def kA(g:Nat)(left:List Nat)(aD:List (Nat×Nat)):List MapEntry:=aD.zipIdx.map fun x=>⟨.int .i64 ((left.getD x.1.1 0:Nat):Int),nG g x.1,x.2⟩
theorem aeV(g:Nat)(left:List Nat)(aD:List (Nat×Nat))(ab:Nat×Nat):kA g left (aD++[ab])=kA g left aD++[⟨.int .i64 ((left.getD ab.1 0:Nat):Int),nG g ab,aD.length⟩]:=by
 unfold kA;rw [List.zipIdx_append,fO];simp
theorem V8 {g:Nat}{left:List Nat}{aD:List (Nat×Nat)}{m:MapEntry}(h:m∈kA g left aD):∃ab∈aD,m.key= .int .i64 ((left.getD ab.1 0:Nat):Int):=by
 unfold kA at h;obtain⟨x,hx,rfl⟩:=jr.1 h;exact⟨x.1,List.fst_mem_of_mem_zipIdx hx,rfl⟩
theorem V7 {g:Nat}{left:List Nat}{aD:List (Nat×Nat)}{m:MapEntry}{j:Nat}(h:(kA g left aD)[j]? =some m):j<aD.length/\m.key= .int .i64 ((left.getD (aD.getD j (0,0)).1 0:Nat):Int)/\m.val=nG g (aD.getD j (0,0)):=by
 unfold kA at h;rw [jO,List.getElem?_zipIdx]at h;rcases cK j aD.length with hj|hj
 .rw [aQ hj]at h;have e:aD.getD j (0,0)=aD[j]:=by rw [aO,aQ hj];rfl
  simp only [GP,Bo,iz]at h;subst h;rw [e];exact⟨hj,rfl,rfl⟩
 .rw [pU hj]at h;cases h
theorem aeU {g:Nat}{left:List Nat}{aD:List (Nat×Nat)}{j:Nat}(hj:j<aD.length):∃m∈kA g left aD,m.key= .int .i64 ((left.getD (aD.getD j (0,0)).1 0:Nat):Int):=by
 refine⟨⟨.int .i64 ((left.getD (aD.getD j (0,0)).1 0:Nat):Int),nG g (aD.getD j (0,0)),j⟩,?_,rfl⟩;unfold kA;refine jr.2 ⟨(aD.getD j (0,0),j),?_,rfl⟩;rw [List.mem_zipIdx_iff_getElem?,aO,aQ hj];rfl
def sN(g:Nat)(aD:List (Nat×Nat)):Option Nat->Value
 |some k=>nG g (aD.getD k (0,0))
 |none=> .slice none 0 0
theorem xO {left:List Nat}{ab:Nat×Nat}(h:ab.1<ab.2/\ab.2<=left.length):(dI left ab).headD 0=left.getD ab.1 0/\dI left ab≠[]/\(dI left ab).length=ab.2 - ab.1:=Te h.1 h.2
theorem LG(left:List Nat)(aD:List (Nat×Nat))(k:Nat)(hk:k<aD.length):(aD.map (dI left)).getD k []=dI left (aD.getD k (0,0)):=by
 rw [aO,jO,aO,aQ hk];rfl
theorem Y5 {n:Nat}{rs:List (List Nat)}(h:kN n rs){i j:Nat}(hi:i<rs.length)(hj:j<rs.length)(he:(rs.getD i []).headD 0=(rs.getD j []).headD 0):i=j:=by
 have h1:=head_mem (h.ne _ (dm (d:=[]) hi));have h2:=head_mem (h.ne _ (dm (d:=[]) hj));rw [he]at h1;exact LC h.rI h1 h2
theorem TS:prog.underlying 217=some (.map 3 31):=by kernel_rfl
theorem Wa {w:World}{mb g n:Nat}{left:List Nat}{aD:List (Nat×Nat)}{cs:List Int}(hm:w.heap[mb]? =some (.map (kA g left aD).toArray aD.length))(hok:∀ab∈aD,ab.1<ab.2/\ab.2<=left.length)(hR:kN n (aD.map (dI left)))(hcn:cs.length=n)(last:Nat):
  (Instr.lookup 217 (.map (some mb)) (.int .i64 (qD cs last)) false).run prog w= .ok (sN g aD (gD cs (aD.map (dI left)) last)) w:=by
 have hz:(zeroValue 31).run prog w= .ok (.slice none 0 0) w:=by kernel_rfl
 have hkeys:∀m∈(kA g left aD).toArray.toList,∃x,m.key= .int .i64 x:=fun m hm=>by
  obtain⟨ab,_,h⟩:=V8 (by simpa using hm);exact⟨_,h⟩
 have vA:∀k,k<aD.length->((aD.map (dI left)).getD k []).headD 0=left.getD (aD.getD k (0,0)).1 0:=fun k hk=>by
  rw [LG _ _ _ hk];exact(xO (hok _ (dm hk))).1
 rcases ab7 underlying3 w (qD cs last) (kA g left aD).toArray.toList hkeys with⟨h1,h2⟩|⟨j,m,h1,h2,h3⟩
 .rw [ab9 false TS hz hm (fun em=>S6 underlying3 w _ em) h1];have:gD cs (aD.map (dI left)) last=none:=by
   unfold gD;split
   .rename_i bH;cases hk:rH (aD.map (dI left)) (mt cs last) (aD.map (dI left)).length with
    |none=>rfl
    |some k=>
     exfalso;obtain⟨hkl,hke⟩:=DB _ _ hk;rw [jE]at hkl;rw [vA k hkl]at hke;obtain⟨m,qz,hm2⟩:=aeU (g:=g) (left:=left) hkl;refine h2 m (by simpa using qz) ?_;rw [hm2,hke,qD,aj bH,aj];have hm3:mt cs last∈dI left (aD.getD k (0,0)):=by
      have:=head_mem (xO (hok _ (dm (d:=(0,0)) hkl))).2.1;rw [(xO (hok _ (dm (d:=(0,0)) hkl))).1,hke]at this;exact this
     rw [hcn];exact hR.lt _ (jr.2 ⟨_,dm (d:=(0,0)) hkl,rfl⟩) _ hm3
   .rfl
  rw [this];rfl
 .rw [acd false TS hm (fun em=>S6 underlying3 w _ em) h1];obtain⟨hj,hk,hv⟩:=V7 (by simpa using h2);rw [hk]at h3;have h4:((left.getD (aD.getD j (0,0)).1 0:Nat):Int)=qD cs last:=by injection h3
  have bH:aS (cs.getD last 0)=true:=by
   by_cases h:aS (cs.getD last 0)=true
   .exact h
   .rw [qD,ai h]at h4;omega
  rw [qD,aj bH]at h4;have Me:mt cs last<cs.length:=by
   by_cases h:mt cs last<cs.length
   .exact h
   .rw [ai h]at h4;omega
  rw [aj Me]at h4;have h5:left.getD (aD.getD j (0,0)).1 0=mt cs last:=by omega
  have:gD cs (aD.map (dI left)) last=some j:=by
   unfold gD;rw [aj bH];cases hk:rH (aD.map (dI left)) (mt cs last) (aD.map (dI left)).length with
   |none=>
    exfalso;refine aaW _ hk j (by rw [jE];exact hj) ?_;rw [vA j hj,h5]
   |some k=>
    obtain⟨hkl,hke⟩:=DB _ _ hk
    congr 1
    refine Y5 hR hkl (by rw [jE];exact hj) ?_;rw [hke,vA j hj,h5]
  rw [this,hv];rfl
theorem aeW {w:World}{mb g n:Nat}{left:List Nat}{aD:List (Nat×Nat)}{k:Nat}(hk:k<aD.length)(hm:w.heap[mb]? =some (.map (kA g left (aD.take k)).toArray k))(hok:∀ab∈aD,ab.1<ab.2/\ab.2<=left.length)(hR:kN n (aD.map (dI left))):
  (Instr.mapUpdate 217 (.map (some mb)) (.int .i64 ((left.getD (aD.getD k (0,0)).1 0:Nat):Int)) (nG g (aD.getD k (0,0)))).run prog w= .ok () (ChangeMaps.setBlock w mb (.map (kA g left (aD.take (k+1))).toArray (k+1))):=by
 have hkeys:∀m∈(kA g left (aD.take k)).toArray.toList,∃x,m.key= .int .i64 x:=fun m hm=>by
  obtain⟨ab,_,h⟩:=V8 (by simpa using hm);exact⟨_,h⟩
 rcases ab7 underlying3 w ((left.getD (aD.getD k (0,0)).1 0:Nat):Int) (kA g left (aD.take k)).toArray.toList hkeys with⟨h1,h2⟩|⟨j,m,h1,h2,h3⟩
 .have e:=acf (val:=nG g (aD.getD k (0,0))) TS hm (S6 underlying3 w _ false) h1;rw [e];have e2:aD.take (k+1)=aD.take k++[aD.getD k (0,0)]:=by
   rw [zX,aQ hk,aO,aQ hk];rfl
  rw [e2,aeV,rW,jd (fW hk)];simp
 .exfalso;obtain⟨hj,hkk,_⟩:=V7 (by simpa using h2);rw [rW]at hj;have hjk:j<k:=by omega
  have hjs:j<aD.length:=by omega
  rw [hkk]at h3;have e1:(aD.take k).getD j (0,0)=aD.getD j (0,0):=by
   rw [aO,KH hjk,<-aO]
  rw [e1]at h3;have h4:((left.getD (aD.getD j (0,0)).1 0:Nat):Int)=((left.getD (aD.getD k (0,0)).1 0:Nat):Int):=by injection h3
  have:=Y5 hR (i:=j) (j:=k) (by rw [jE];exact hjs) (by rw [jE];exact hk) (by
   rw [LG _ _ _ hjs,LG _ _ _ hk,(xO (hok _ (dm hjs))).1,(xO (hok _ (dm hk))).1];omega)
  omega
theorem alm(W:World)(L:LP)(ks ls:List Int)(h:LX W L ks ls)(lx mx mb g gp op m cp last:Nat)(left:List Nat)(aD:List (Nat×Nat))(hl:W.cell? ⟨lx,0,none⟩=some (.pointer (some ⟨L.lb,0,none⟩)))(hmx:W.cell? ⟨mx,0,none⟩=some (.map (some mb)))(hm:W.heap[mb]? =some (.map (kA g left aD).toArray aD.length))(hok:∀ab∈aD,ab.1<ab.2/\ab.2<=left.length)(hR:kN L.n (aD.map (dI left)))
  (hm0:0<m) (qz:m<=1000) (hla:W.cell? ⟨gp,op+(m - 1),none⟩=some (.int .i64 ((last:Nat):Int))) (hlast:last<L.n):
  Calls prog 155 #[.slice (some ⟨gp,op,none⟩) m cp,.pointer (some ⟨mx,0,none⟩),.pointer (some ⟨lx,0,none⟩)] W fun e w'=>e= .returned (sN g aD (gD L.cs (aD.map (dI left)) last))/\Below W.heap.size W w':=by
 have hlk:=Wa (w:=W) hm hok hR h.len last;have HN:Hid (∀W',Below W.heap.size W W'->Calls prog 156 #[.pointer (some ⟨L.lb,0,none⟩),.int .i64 last] W' fun e w'=>e= .returned (.int .i64 (qD L.cs last))/\w'=W'):=fun W' hb=>aju W' L ks ls (h.below hb) last hlast
 have hlk2:(Instr.lookup 217 (.map (some mb)) (.int .i64 (qD L.cs last)) false).run prog W.drew= .ok (sN g aD (gD L.cs (aD.map (dI left)) last)) W.drew:=Wa (w:=W.drew) hm hok hR h.len last;clear h hm hok hR hlk;generalize qD L.cs last=nb at*;generalize sN g aD (gD L.cs (aD.map (dI left)) last)=nv at*;have hj1:(1:Int)<=(m:Int):=by omega
 have hj2:(0:Int)<=(m:Int) - 1:=by omega
 have Zj:(m:Int) - 1<(m:Int):=by omega
 have EZ:(m:Int)<=(m:Int):=by omega
 have Zk:(0:Int)<(m:Int):=by omega
 have hw:IntKind.i64.wrap ((m:Int) - 1)=(m:Int) - 1:=Ox _ ⟨by omega,by omega⟩;go_enter func155,ntmps155;go_wp2
 go_region_held3 (fun w'=>w'.cell? ⟨mx,0,none⟩=some (.map (some mb))/\w'.cell? ⟨lx,0,none⟩=some (.pointer (some ⟨L.lb,0,none⟩))/\w'.cell? ⟨gp,op+(m - 1),none⟩=some (.int .i64 ((last:Nat):Int))) (go_keep)
  (first|(go_at_call 156;refine(HN.out _ (aA _ _).drew).mono ?_;rintro ev wx ⟨rfl,rfl⟩))
 all_goals
  go_wp2;go_ret;exact⟨rfl,(aA _ _).drew⟩
end
structure ic where
 sb:Nat
 gr:Nat
 cr:Nat
 gc:Nat
 cc:Nat
 gb:Nat
 gp:Nat
 op:Nat
 cp:Nat
 m:Nat
 at':List Nat
def ic.ptr(q:ic):Value:= .pointer (some ⟨q.sb,0,none⟩)
structure ow(W:World)(B:Nat)(L:LP)(ks ls:List Int)(q:ic):Prop where
 sq:aW W B q.sb q.gc q.m q.cc (.slice (some ⟨q.gp,q.op,none⟩) q.m q.cp) (.slice (some ⟨q.gr,0,none⟩) q.m q.cr) (.slice (some ⟨q.gb,0,none⟩) q.m q.m) (ls.getD (q.at'.headD 0) 0) (iy (ls.getD (q.at'.headD 0) 0) (jG ls (aN L.cs) L.p (q.at'.headD 0))) (iy (ls.getD (q.at'.headD 0) 0) (oz L.cs ls (aN L.cs) L.p (q.at'.getLastD 0))) (bz ks q.at')
 ru:W.ownsRow B 21 1 (.slice (some ⟨q.gr,0,none⟩) q.m q.cr) q.m (nW (bz L.rs q.at'))
 be:bh W B 108 q.gb q.m (iv (bz ks q.at'))
 pl:bG W q.gp q.op (nl q.at')
 ty:∃cs fr,W.heap[q.gp]? =some (.cells cs 3 fr)
 lo:B<=q.gp/\B<=q.sb
 ne:q.gb≠q.gc
 len:q.at'.length=q.m
 pos:0<q.m
section
variable{W W':World}{B:Nat}{L:LP}{ks ls:List Int}{q:ic}
theorem Ci {w:World}{B B':Nat}{e:TypeId}{z n:Nat}{v:Value}{xs:List Value}(h:w.ownsRow B e z v n xs)(hb:B'<=B):w.ownsRow B' e z v n xs:=by
 refine⟨h.1,?_⟩;rcases h.2 with h|⟨g,cap,cur,h1,h2,h3⟩
 .exact .inl h
 .exact .inr ⟨g,cap,cur,h1,bU hb h2,h3⟩
theorem ow.base {B':Nat}(h:ow W B L ks ls q)(hb:B'<=B):ow W B' L ks ls q:=
 ⟨⟨h.sq.cell,Ci h.sq.row hb⟩,Ci h.ru hb,Ci h.be hb,h.pl,h.ty,⟨bU hb h.lo.1,bU hb h.lo.2⟩,h.ne,h.len,h.pos⟩
theorem ow.below(h:ow W B L ks ls q)(hb:Below W.heap.size W W'):ow W' B L ks ls q:=by
 obtain⟨cs,fr,hty⟩:=h.ty;exact⟨h.sq.below hb,eH h.ru hb,eH h.be hb,h.pl.below hb,⟨cs,fr,cB hb hty⟩,h.lo,h.ne,h.len,h.pos⟩
theorem ow.grown {r:Nat}(h:ow W B L ks ls q)(hg:W.grownBy W' (some r))(h1:q.sb≠r)(h2:q.gc≠r)(h3:q.gr≠r)(h4:q.gb≠r)(h5:q.gp≠r):ow W' B L ks ls q:=by
 obtain⟨cs,fr,hty⟩:=h.ty;exact⟨⟨(hg.block q.sb (bZ h.sq.cell) (fun e=>h1 (aK e))).trans h.sq.cell,iu h.sq.row hg h2⟩,iu h.ru hg h3,iu h.be hg h4,h.pl.grown hg h5,⟨cs,fr,(hg.block q.gp (bZ hty) (fun e=>h5 (aK e))).trans hty⟩,h.lo,h.ne,h.len,h.pos⟩
end
def Cv(q q':ic):Prop:=q.gc≠q'.gc/\q.gb≠q'.gc/\q.gc≠q'.gb
structure wV(W:World)(B:Nat)(L:LP)(ks ls:List Int)(av:Value)(qs:List ic):Prop where
 row:W.ownsRow B 146 1 av qs.length (qs.map ic.ptr)
 all:∀q∈qs,ow W B L ks ls q
 ap:qs.Pairwise Cv
theorem yV {w:World}{B g n c z:Nat}{e:TypeId}{xs:List Value}(h:w.ownsRow B e z (.slice (some ⟨g,0,none⟩) n c) n xs):∃cur,w.heap[g]? =some (.cells cur e (0,0)):=by
 rcases h.2 with⟨e1,_⟩|⟨g',cap,cur,e1,_,hh,_⟩
 .cases e1
 .injection e1 with e2
  injection e2 with e3
  injection e3 with e4
  subst e4;exact⟨cur,hh⟩
section
variable{W W':World}{B:Nat}{L:LP}{ks ls:List Int}{av V2:Value}{qs:List ic}{q:ic}
theorem wV.below(h:wV W B L ks ls av qs)(hb:Below W.heap.size W W'):wV W' B L ks ls av qs:=⟨eH h.row hb,fun q hq=>(h.all q hq).below hb,h.ap⟩
theorem uZ {w:World}{k:Nat}{a b:Array Value}{s t:TypeId}{f g:Nat×Nat}(h:w.heap[k]? =some (.cells a s f))(h':w.heap[k]? =some (.cells b t g)):s=t:=by
 rw [h]at h';injection h' with h'
 injection h'
theorem wV.push(h:wV W B L ks ls av qs)(hq:ow W B L ks ls q)(hap:∀q'∈qs,Cv q' q)(hown:W'.ownsRow B 146 1 V2 (qs.length+1) (qs.map ic.ptr++[q.ptr]))(hg:W.grownBy W' av.ownBlock):wV W' B L ks ls V2 (qs++[q]):=by
 have key:∀x,ow W B L ks ls x->ow W' B L ks ls x:=fun x hx=>by
  rcases h.row.2 with⟨rfl,_⟩|⟨g,cp,cur,rfl,_,hh,_⟩
  .exact hx.below ⟨hg.os,hg.tape,hg.output,hg.size,fun k hk=>hg.block k hk (by simp [Value.ownBlock])⟩
  .have hg':W.grownBy W' (some g):=hg;obtain⟨c2,e2⟩:=yV hx.sq.row;obtain⟨c3,e3⟩:=yV hx.ru;obtain⟨c4,e4⟩:=yV hx.be;obtain⟨c5,fr,e5⟩:=hx.ty;refine hx.grown hg' ?_ ?_ ?_ ?_ ?_
   .rintro rfl;exact absurd (uZ hx.sq.cell hh) (by decide)
   .rintro rfl;exact absurd (uZ e2 hh) (by decide)
   .rintro rfl;exact absurd (uZ e3 hh) (by decide)
   .rintro rfl;exact absurd (uZ e4 hh) (by decide)
   .rintro rfl;exact absurd (uZ e5 hh) (by decide)
 refine⟨by rw [bP,fO];exact hown,?_,?_⟩
 .intro x hx;rcases kK.1 hx with hx|hx
  .exact key x (h.all x hx)
  .rw [pY.1 hx];exact key q hq
 .rw [List.pairwise_append];exact⟨h.ap,List.pairwise_singleton _ _,fun a ha b hb=>by rw [pY.1 hb];exact hap a ha⟩
end
structure yB(W:World)(B Bi gp op m cp:Nat)(at':List Nat):Prop where
 pl:bG W gp op (nl at')
 ty:∃cs fr,W.heap[gp]? =some (.cells cs 3 fr)
 lo:B<=gp
 len:at'.length=m
 fo:cp=m∨(op=0/\W.ownsRow Bi 3 1 (.slice (some ⟨gp,0,none⟩) m cp) m (iv (nl at')))
theorem yB.below {W W':World}{B Bi gp op m cp:Nat}{at':List Nat}(h:yB W B Bi gp op m cp at')(hb:Below W.heap.size W W'):yB W' B Bi gp op m cp at':=by
 obtain⟨cs,fr,hty⟩:=h.ty;refine⟨h.pl.below hb,⟨cs,fr,cB hb hty⟩,h.lo,h.len,?_⟩;rcases h.fo with h1|⟨h1,h2⟩
 .exact .inl h1
 .exact .inr ⟨h1,eH h2 hb⟩
theorem yB.own {W:World}{B Bi g n c:Nat}{at':List Nat}(h:W.ownsRow Bi 3 1 (.slice (some ⟨g,0,none⟩) n c) n (iv (nl at')))(hB:B<=Bi):yB W B Bi g 0 n c at':=by
 obtain⟨cur,hh⟩:=yV h;refine⟨fun k hk=>by rw [iz];exact iJ h k hk,⟨cur,_,hh⟩,bU hB (h.lt g rfl).1,?_,.inr ⟨rfl,h⟩⟩;have:=h.1;simpa [iv,nl]using this
theorem XX(l:List Int)(at':List Nat):(bz l at').length=at'.length:=by simp [bz]
section
attribute [local go_sem ↓] Go.wp_at_zero Go.wp_at_succ
theorem al6(W:World)(mb:Nat)(o:Obj):W.grownBy (ChangeMaps.setBlock W mb o) (some mb):=⟨rfl,rfl,rfl,by simp [ChangeMaps.setBlock],fun k _ hne=>by simp [ChangeMaps.setBlock,DZ (show mb≠k from fun e=>hne (by rw [e]))]⟩
theorem Ph {W:World}{a:Addr}{v:Value}{mb c:Nat}{es:Array MapEntry}(h:W.cell? a=some v)(hm:W.heap[mb]? =some (.map es c)):a.block≠mb:=by
 intro e;simp [World.cell?,e,hm]at h
theorem Bq.below {w w':World}{B g:Nat}{v:Value}{left:List Nat}{aD:List (Nat×Nat)}(h:Bq w B v g left aD)(hb:Below w.heap.size w w'):Bq w' B v g left aD:=
 ⟨eH h.row hb,h.lf.below hb,h.ok,fun hn=>⟨(h.lt hn).1,ku (h.lt hn).2 hb.size⟩,fun hn=>by obtain⟨cs,hc⟩:=h.ty hn;exact⟨cs,cB hb hc⟩⟩
structure SE(W:World)(B lx mx mb g:Nat)(L:LP)(rv:Value)(left:List Nat)(aD:List (Nat×Nat))(k:Nat):Prop where
 lh:W.heap[lx]? =some (.cells #[.pointer (some ⟨L.lb,0,none⟩)] 136 (0,0))
 mh:W.heap[mx]? =some (.cells #[.map (some mb)] 217 (0,0))
 mp:W.heap[mb]? =some (.map (kA g left (aD.take k)).toArray k)
 r:Bq W B rv g left aD
section
variable{W W':World}{B lx mx mb g k:Nat}{L:LP}{rv:Value}{left:List Nat}{aD:List (Nat×Nat)}
theorem SE.l(h:SE W B lx mx mb g L rv left aD k):W.cell? ⟨lx,0,none⟩=some (.pointer (some ⟨L.lb,0,none⟩)):=az h.lh 0
theorem SE.m(h:SE W B lx mx mb g L rv left aD k):W.cell? ⟨mx,0,none⟩=some (.map (some mb)):=az h.mh 0
theorem SE.below(h:SE W B lx mx mb g L rv left aD k)(hb:Below W.heap.size W W'):SE W' B lx mx mb g L rv left aD k:=
 ⟨cB hb h.lh,cB hb h.mh,cB hb h.mp,h.r.below hb⟩
theorem SE.store(h:SE W B lx mx mb g L rv left aD k):SE (ChangeMaps.setBlock W mb (.map (kA g left (aD.take (k+1))).toArray (k+1))) B lx mx mb g L rv left aD (k+1):=by
 have hg:=al6 W mb (.map (kA g left (aD.take (k+1))).toArray (k+1));have n1:=Ph h.l h.mp;have n2:=Ph h.m h.mp;refine⟨(hg.block lx (bZ h.lh) (fun e=>n1 (aK e))).trans h.lh,(hg.block mx (bZ h.mh) (fun e=>n2 (aK e))).trans h.mh,acr h.mp,?_⟩;have n3:∀hn:left≠[],g≠mb:=fun hn e=>by
  obtain⟨cs,hc⟩:=h.r.ty hn;rw [e,h.mp]at hc;cases hc
 refine⟨dO h.r.row hg (.inr (MH h.r.row h.mp)),fun i hi=>cell_grown hg (h.r.lf i hi) (fun e=>Ph (h.r.lf i hi) h.mp (aK e)),h.r.ok,fun hn=>⟨(h.r.lt hn).1,ku (h.r.lt hn).2 hg.size⟩,fun hn=> ?_⟩;obtain⟨cs,hc⟩:=h.r.ty hn;exact⟨cs,(hg.block g (bZ hc) (fun e=>n3 hn (aK e))).trans hc⟩
end
theorem SE.app {W W':World}{B lx mx mb g k:Nat}{L:LP}{rv:Value}{left:List Nat}{aD:List (Nat×Nat)}{B' n:Nat}{av:Value}{xs:List Value}(h:SE W B lx mx mb g L rv left aD k)(hrow:W.ownsRow B' 146 1 av n xs)(hg:W.grownBy W' av.ownBlock):SE W' B lx mx mb g L rv left aD k:=by
 refine⟨(hg.block lx (bZ h.lh) (fun e=>jY hrow h.lh (by decide) e.symm)).trans h.lh,(hg.block mx (bZ h.mh) (fun e=>jY hrow h.mh (by decide) e.symm)).trans h.mh,(hg.block mb (bZ h.mp) (fun e=>MH hrow h.mp e.symm)).trans h.mp,?_⟩;have n3:left≠[]->some g≠av.ownBlock:=fun hn e=>by
  obtain⟨cs,hc⟩:=h.r.ty hn;exact jY hrow hc (by decide) e.symm
 refine⟨dO h.r.row hg (kD h.r.row hrow (by decide)),fun i hi=>cell_grown hg (h.r.lf i hi) (n3 (by rintro rfl;simp [nl]at hi)),h.r.ok,fun hn=>⟨(h.r.lt hn).1,ku (h.r.lt hn).2 hg.size⟩,fun hn=> ?_⟩;obtain⟨cs,hc⟩:=h.r.ty hn;exact⟨cs,(hg.block g (bZ hc) (n3 hn)).trans hc⟩
theorem aaY(left:List Nat)(a b:Nat):nl (dI left (a,b))=((nl left).take b).drop a:=by simp [nl,dI,VF,List.map_drop]
theorem Tryz.aif:(prog.info? 146).map (fun i=>(i.zero,i.size,i.bytes))=some (some (.pointer none),1,8):=by kernel_rfl
theorem ae0(cs:List Int)(r:List Nat)(p:Nat)(hp:r.headD 0=p):gA cs r= !(cs.getD p 0==21&&decide (0<=opener cs p)):=by rw [gA,hp]
theorem ane {α β:Type}(f:α->β)(l:List α)(d:α)(k:Nat)(hk:k<l.length):(l.take (k+1)).map f=(l.take k).map f++[f (l.getD k d)]:=by
 rw [zX,aQ hk,fO,aO,aQ hk];rfl
theorem aco {left:List Nat}{a b:Nat}(h:a<b/\b<=left.length):(dI left (a,b)).getLastD 0=left.getD (b - 1) 0:=by
 have hl:=(xO (ab:=(a,b)) h).2.2;rw [pW,Ek,hl];simp only [dI];rw [yu,KH (by omega),aO]
 congr 2
 omega
theorem aiI(l r:List Nat)(h:r≠[]):(l++r).getLastD 0=r.getLastD 0:=by
 rw [pW,pW,KI];cases hr:r.getLast? with
 |none=>exact absurd (List.getLast?_eq_none_iff.1 hr) h
 |some x=>rfl
end
structure FS(w:World)(L:LP)(ks ls:List Int)(go:Nat)(o:List Int):Prop where
 ln:LX w L ks ls
 row:bf w L.B go L.n L.n o
 ap:∀g,L.has g->g≠go
section
variable{w w':World}{L:LP}{ks ls o:List Int}{go:Nat}
theorem FS.below(h:FS w L ks ls go o)(hb:Below w.heap.size w w'):FS w' L ks ls go o:=⟨h.ln.below hb,eH h.row hb,h.ap⟩
theorem FS.set(h:FS w L ks ls go o)(k:Nat)(a:Int):FS (w.setCell ⟨go,k,none⟩ (.int .i64 a)) L ks ls go (o.set k a):=
 ⟨h.ln.same (by simp) fun g hg=>gK _ _ _ _ (h.ap g hg),h.row.set k a,h.ap⟩
theorem FS.grown(h:FS w L ks ls go o)(k:Nat)(a:Int):w.grownBy (w.setCell ⟨go,k,none⟩ (.int .i64 a)) (some go):=h.row.grown k a
theorem FS.drew(h:FS w L ks ls go o):FS w.drew L ks ls go o:=h.below (aA _ _).drew
theorem FS.len(h:FS w L ks ls go o):o.length=L.n:=h.row.len
theorem bf.apart {B g n c b:Nat}{t:List Int}{ty:TypeId}{cs:Array Value}(h:bf w B g n c t)(hb:w.heap[b]? =some (.cells cs ty (0,0)))(hty:ty≠3):g≠b:=by
 rcases h.2 with⟨e,_⟩|⟨g',cp,cur,e,_,hh,_⟩
 .cases e
 .injection e with e1
  injection e1 with e4
  injection e4 with e5
  subst e5;intro e;rw [e,hb]at hh;simp at hh;exact hty hh.2
end
def fF(s c:Int)(_:List Int):Int:=if c= -1 then s else c
theorem abx:∀(l:List Int)(a:Int),pass fF fF a l=wZ a l
 |[],_=>rfl
 |c::r,a=>by rw [pass,wZ,abx r];rfl
theorem agO(w:World)(L:LP)(ks ls:List Int)(go:Nat)(o:List Int)(h:FS w L ks ls go o)(hn:L.n<=1000):
  Calls prog 164 #[.pointer (some ⟨L.lb,0,none⟩),.slice (some ⟨go,0,none⟩) L.n L.n] w fun e w'=>e= .returned (.tuple #[])/\FS w' L ks ls go (wZ L.p o)/\w.grownBy w' (some go):=by
 have cE:=ah h;have HL:=ah h.len;have a5:=h.ln.f5;clear h;go_enter func164,ntmps164;go_wp2;clear a5;go_loopg [4,13] L.n (fun gk sv iv wr=>∃(k:Nat)(s:Int)(t':List Int),k<=L.n/\gk=L.n - k/\sv= .int .i64 s/\iv= .int .i64 k/\FS wr L ks ls go t'/\w.grownBy wr (some go)/\aV fF fF L.p o k s t');case atStart=>exact⟨0,L.p,o,by omega,rfl,rfl,rfl,cE.out,jt _ _,aV.start _ _ _ _⟩
 case round=>
  clear cE;obtain⟨k,s,t',hk,rfl,rfl,rfl,hS,hG,hN⟩:=hrel;by_cases hlt:k<L.n
  .have hlt':k<o.length:=by rw [HL.out];exact hlt
   have hcell:=hS.row.cell k hlt;rw [hN.at k (ay _)]at hcell;have hfr:=hS.row.frozen k;have hkn:(k:Int)<(L.n:Int):=by omega
   have HS:=ah hS;have HG:=ah hG;have cM:¬o.getD k 0= -1->Hid (aV fF fF L.p o (k+1) (o.getD k 0) t'):=fun h1=>hN.stay hlt' _ (by rw [fF,ai h1]) (by rw [fF,ai h1])
   have cZ:o.getD k 0= -1->Hid (aV fF fF L.p o (k+1) s (t'.set k s)):=fun h1=>hN.step hlt' s s (by rw [fF,aj h1]) (by rw [fF,aj h1])
   have HC:Hid ((wr.setCell ⟨go,k,none⟩ (.int .i64 s)).cell? ⟨go,k,none⟩=some (.int .i64 s)):=World.cell?_setCell_same' _ _ _ (by rw [hcell];rfl);clear hS hG hN;generalize o.getD k 0=c at*;by_cases hc:c= -1
   .have HK:=cZ hc;subst hc;clear cM cZ;go_wp2;go_roundg (L.n - (k+1));case measure=>omega
    case rel=>exact⟨k+1,s,_,by omega,rfl,rfl,by go_num,HS.out.set k s,HG.out.trans (HS.out.grown k s),HK.out⟩
   .have HK:=cM hc;have qc:(c== -1)=false:=by simpa using hc
    clear cM cZ;go_wp2;go_roundg (L.n - (k+1));case measure=>omega
    case rel=>exact⟨k+1,c,_,by omega,rfl,rfl,by go_num,HS.out,HG.out,HK.out⟩
  .have hpe:t'=wZ L.p o:=by rw [<-abx];exact hN.stop (by rw [HL.out];exact hlt)
   have HS:Hid (FS wr L ks ls go (wZ L.p o)):=by rw [<-hpe];exact hS
   have HG:=ah hG;have hkn:¬(k:Int)<(L.n:Int):=by omega
   clear hS hG hN hpe;go_wp2;go_end0;exact⟨rfl,HS.out,HG.out⟩
def uK(W:World)(L:LP)(bl:Nat):Prop:=W.heap[bl]? =some (.cells #[.pointer (some ⟨L.lb,0,none⟩)] 136 (0,0))
def wu(W:World)(L:LP)(go bv:Nat):Prop:=W.heap[bv]? =some (.cells #[.slice (some ⟨go,0,none⟩) L.n L.n] 31 (0,0))
theorem ait(w:World)(L:LP)(ks ls:List Int)(go bl:Nat)(o:List Int)(h:FS w L ks ls go o)(hb:uK w L bl)(i:Nat)(hi:i<L.n):
  Calls prog 161 #[.int .i64 i,.pointer (some ⟨bl,0,none⟩)] w fun e w'=>e= .returned (.bool (DW (L.cs.getD i 0)))/\w'=w:=by
 have a1:=h.ln.f1;have ci:=h.ln.ct i hi;have cb:w.cell? ⟨bl,0,none⟩=some (.pointer (some ⟨L.lb,0,none⟩)):=az hb 0;have hi':(i:Int)<(L.n:Int):=by omega
 clear h hb;generalize L.cs.getD i 0=c at*;go_enter func161,ntmps161;go_wp2_with fail;refine(afn c _).mono ?_;rintro ev wx ⟨rfl,hx⟩;have hx':=hx.symm;subst hx';go_wp2;go_ret;exact⟨rfl,rfl⟩
theorem anh(w:World)(L:LP)(ks ls:List Int)(go bl bv:Nat)(o:List Int)(h:FS w L ks ls go o)(hn:L.n<=1000)(hb:uK w L bl)(hv:wu w L go bv)(a b:Nat)(hab:a<=b)(nS:b<=L.n):
  Calls prog 163 #[.int .i64 a,.int .i64 b,.pointer (some ⟨bv,0,none⟩),.pointer (some ⟨bl,0,none⟩)] w fun e w'=>e= .returned (.tuple #[])/\FS w' L ks ls go (if b<L.n/\L.cs.getD b 0≠10 then o else bL o a L.p (b - a))/\uK w' L bl/\wu w' L go bv/\w.grownBy w' (some go):=by
 have cl:w.cell? ⟨bl,0,none⟩=some (.pointer (some ⟨L.lb,0,none⟩)):=az hb 0;have cv:w.cell? ⟨bv,0,none⟩=some (.slice (some ⟨go,0,none⟩) L.n L.n):=az hv 0;have cE:=ah h;have uL:Hid (uK w L bl/\wu w L go bv):=⟨hb,hv⟩
 have a1:=h.ln.f1;have HT:Hid (∀k,k<L.n->w.cell? ⟨L.gt,k,none⟩=some (.int .i64 (L.cs.getD k 0))):=fun k hk=>h.ln.ct k hk
 have mS:Hid (go≠bl):=h.row.apart hb (by decide);have mV:Hid (go≠bv):=h.row.apart hv (by decide);clear h hb hv;by_cases hx:b<L.n/\L.cs.getD b 0≠10
 .rw [aj hx];have cb:=HT.out b hx.1;have q:(L.cs.getD b 0 !=10)=true:=by simpa using hx.2
  have hb':(b:Int)<(L.n:Int):=by omega
  clear hx;generalize L.cs.getD b 0=c at*;go_enter func163,ntmps163;go_wp2;exact cG (zj rfl _ _ _) rfl ⟨rfl,cE.out,uL.out.1,uL.out.2,jt _ _⟩
 .rw [ai hx];by_cases hb:b<L.n;case pos=>
   have cb:=HT.out b hb;have q:(L.cs.getD b 0 !=10)=false:=by
    have:L.cs.getD b 0=10:=adB fun h=>hx ⟨hb,h⟩
    rw [this];rfl
   have hb':(b:Int)<(L.n:Int):=by omega
   clear hx;generalize L.cs.getD b 0=c at*;go_enter func163,ntmps163;go_wp2;clear cl cv a1;go_loopg [6] (b - a) (fun gk iv wr=>∃m:Nat,a+m<=b/\gk=b - a - m/\iv= .int .i64 ((a+m:Nat):Int)/\FS wr L ks ls go (bL o a L.p m)/\(uK wr L bl/\wu wr L go bv)/\w.grownBy wr (some go));case atStart=>exact⟨0,by omega,rfl,rfl,cE.out,uL.out,jt _ _⟩
   case round=>
    clear cE uL HT;obtain⟨m,hm,rfl,rfl,hS,jJ,hG⟩:=hrel;by_cases hlt:a+m<b
    .have hcell:=hS.row.cell (a+m) (by omega);have hfr:=hS.row.frozen (a+m);have c5:=hS.ln.f5;have cl:wr.cell? ⟨bl,0,none⟩=some (.pointer (some ⟨L.lb,0,none⟩)):=az jJ.1 0;have cv:wr.cell? ⟨bv,0,none⟩=some (.slice (some ⟨go,0,none⟩) L.n L.n):=az jJ.2 0;have HS:Hid (FS (wr.setCell ⟨go,a+m,none⟩ (.int .i64 L.p)) L ks ls go (bL o a L.p (m+1))):=hS.set (a+m) L.p;have HB:Hid (uK (wr.setCell ⟨go,a+m,none⟩ (.int .i64 L.p)) L bl/\wu (wr.setCell ⟨go,a+m,none⟩ (.int .i64 L.p)) L go bv):=⟨(gK _ _ _ _ mS.out.symm).trans jJ.1,(gK _ _ _ _ mV.out.symm).trans jJ.2⟩
     have HG:Hid (w.grownBy (wr.setCell ⟨go,a+m,none⟩ (.int .i64 L.p)) (some go)):=hG.trans (hS.grown (a+m) L.p);have h1:(a:Int)+(m:Int)<(b:Int):=by omega
     have h2:(a:Int)+(m:Int)<(L.n:Int):=by omega
     clear hS hG jJ;generalize(bL o a L.p m).getD (a+m) 0=q at*;go_wp2;go_region;all_goals
      go_wp2;go_roundg (b - a - (m+1));case measure=>omega
      case rel=>exact⟨m+1,by omega,rfl,by go_num,HS.out.drew,HB.out,HG.out.trans Ac⟩
    .have h1:¬(a:Int)+(m:Int)<(b:Int):=by omega
     have e:m=b - a:=by omega
     have HS:Hid (FS wr L ks ls go (bL o a L.p (b - a))):=by rw [<-e];exact hS
     have HG:=ah hG;have HB:=ah jJ;clear hS hG jJ;go_wp2;go_end0;exact⟨rfl,HS.out,HB.out.1,HB.out.2,HG.out⟩
  case neg=>
   have hb':¬(b:Int)<(L.n:Int):=by omega
   have hb2:decide ((b:Int)<(L.n:Int))=false:=by simpa using hb'
   clear hx;go_enter func163,ntmps163;go_wp2;clear cl cv a1;go_loopg [6] (b - a) (fun gk iv wr=>∃m:Nat,a+m<=b/\gk=b - a - m/\iv= .int .i64 ((a+m:Nat):Int)/\FS wr L ks ls go (bL o a L.p m)/\(uK wr L bl/\wu wr L go bv)/\w.grownBy wr (some go));case atStart=>exact⟨0,by omega,rfl,rfl,cE.out,uL.out,jt _ _⟩
   case round=>
    clear cE uL HT;obtain⟨m,hm,rfl,rfl,hS,jJ,hG⟩:=hrel;by_cases hlt:a+m<b
    .have hcell:=hS.row.cell (a+m) (by omega);have hfr:=hS.row.frozen (a+m);have c5:=hS.ln.f5;have cl:wr.cell? ⟨bl,0,none⟩=some (.pointer (some ⟨L.lb,0,none⟩)):=az jJ.1 0;have cv:wr.cell? ⟨bv,0,none⟩=some (.slice (some ⟨go,0,none⟩) L.n L.n):=az jJ.2 0;have HS:Hid (FS (wr.setCell ⟨go,a+m,none⟩ (.int .i64 L.p)) L ks ls go (bL o a L.p (m+1))):=hS.set (a+m) L.p;have HB:Hid (uK (wr.setCell ⟨go,a+m,none⟩ (.int .i64 L.p)) L bl/\wu (wr.setCell ⟨go,a+m,none⟩ (.int .i64 L.p)) L go bv):=⟨(gK _ _ _ _ mS.out.symm).trans jJ.1,(gK _ _ _ _ mV.out.symm).trans jJ.2⟩
     have HG:Hid (w.grownBy (wr.setCell ⟨go,a+m,none⟩ (.int .i64 L.p)) (some go)):=hG.trans (hS.grown (a+m) L.p);have h1:(a:Int)+(m:Int)<(b:Int):=by omega
     have h2:(a:Int)+(m:Int)<(L.n:Int):=by omega
     clear hS hG jJ;generalize(bL o a L.p m).getD (a+m) 0=q at*;go_wp2;go_region;all_goals
      go_wp2;go_roundg (b - a - (m+1));case measure=>omega
      case rel=>exact⟨m+1,by omega,rfl,by go_num,HS.out.drew,HB.out,HG.out.trans Ac⟩
    .have h1:¬(a:Int)+(m:Int)<(b:Int):=by omega
     have e:m=b - a:=by omega
     have HS:Hid (FS wr L ks ls go (bL o a L.p (b - a))):=by rw [<-e];exact hS
     have HG:=ah hG;have HB:=ah jJ;clear hS hG jJ;go_wp2;go_end0;exact⟨rfl,HS.out,HB.out.1,HB.out.2,HG.out⟩
theorem ans {c:Int}(h:0<=c/\c<=21):DW c=jX c:=by
 rw [Cw];simp only [DW,jX,aS,bN,FU,yH,adx,adw,ae7,FT,BA,Lj];omega
theorem acR {cs:List Int}{b:Nat}(hb:b<=cs.length):∀m a,a+m=b->(∀q,a<=q->q<b->jX (cs.getD q 0)=true)->jo (cs.drop a)=jo (cs.drop b)
 |0,a,h,_=>by rw [<-h];rfl
 |m+1,a,h,hr=>by
  have h1:=hr a (ay _) (by omega);rw [drop_at (show a<cs.length by omega),jo,aj h1,ai (by intro e;rw [e]at h1;cases h1)];exact acR hb m (a+1) (by omega) (fun q h1 h2=>hr q (by omega) h2)
theorem acQ {cs:List Int}{b:Nat}(hb:b<cs.length)(h:jX (cs.getD b 0)=false):jo (cs.drop b)=decide (cs.getD b 0=10):=by
 rw [drop_at hb,jo];by_cases h1:cs.getD b 0=10
 .rw [aj h1,mX h1]
 .rw [ai h1,ai (by rw [h];decide),rB h1]
theorem anr {cs:List Int}{b:Nat}(hb:¬b<cs.length):jo (cs.drop b)=true:=by rw [jD (by omega)];rfl
theorem Jk(p:Int):∀cs os:List Int,cs.length=os.length->(l1 p cs os).length=cs.length
 |[],_,_=>rfl
 |_::_,[],h=>by cases h
 |c::cs,o::os,h=>by rw [l1,eW,Jk p cs os (by simpa using h)];rfl
theorem aav(p:Int):∀(cs os:List Int)(j:Nat),cs.length=os.length->j<cs.length->(l1 p cs os).getD j 0=ze p (cs.getD j 0) (cs.drop (j+1)) (AA p (cs.getD j 0) (os.getD j 0))
 |[],_,j,_,hj=>by cases hj
 |_::_,[],_,h,_=>by cases h
 |c::cs,o::os,0,_,_=>rfl
 |c::cs,o::os,j+1,h,hj=>by
  have:=aav p cs os j (by simpa using h) (by simpa using hj);rw [l1];simpa using this
theorem aiG(p:Int)(cs os:List Int)(h:cs.length=os.length):(List.range cs.length).map (fun j=>ze p (cs.getD j 0) (cs.drop (j+1)) (AA p (cs.getD j 0) (os.getD j 0)))=l1 p cs os:=by
 apply Gz;intro j;rcases cK j cs.length with hj|hj
 .rw [jO,GC hj,aQ (by rw [Jk p cs os h];exact hj)];have:=aav p cs os j h hj;have e2:(l1 p cs os).getD j 0=(l1 p cs os)[j]'(by rw [Jk p cs os h];exact hj):=by rw [aO,aQ (by rw [Jk p cs os h];exact hj)];rfl
  rw [e2]at this;exact congrArg some this.symm
 .rw [pU (by simp;exact hj),pU (by rw [Jk p cs os h];exact hj)]
theorem l8.more {n k:Nat}{l:List Int}{f g:Nat->Int}(h:l8 n k l f g){b:Nat}(hkb:k<=b)(he:∀j,k<=j->j<b->j<n->f j=g j):l8 n b l f g:=by
 refine⟨h.1,fun j hj=> ?_⟩;rw [h.2 j hj];by_cases h1:j<k
 .rw [aj h1,aj (by omega)]
 .rw [ai h1];by_cases h2:j<b
  .rw [aj h2,he j (by omega) h2 hj]
  .rw [ai h2]
theorem l8.fill {n k:Nat}{l:List Int}{f g:Nat->Int}(h:l8 n k l f g){b:Nat}(hkb:k<=b)(hb:b<=n)(v:Int)(he:∀j,k<=j->j<b->f j=v):l8 n b (bL l k v (b - k)) f g:=by
 refine⟨by rw [Lz];exact h.1,fun j hj=> ?_⟩;rw [XC _ _ _ _ _ (by rw [h.1];omega)];by_cases h1:k<=j/\j<k+(b - k)
 .rw [aj h1,aj (by omega),he j h1.1 (by omega)]
 .rw [ai h1,h.2 j hj];by_cases h2:j<k
  .rw [aj h2,aj (by omega)]
  .rw [ai h2,ai (by omega)]
theorem aeF(a b c d:Value):(#[a,b]++#[c,d]:Array Value)=#[a,b,c,d]:=rfl
def tL(L:LP)(o:List Int)(j:Nat):Int:=ze L.p (L.cs.getD j 0) (L.cs.drop (j+1)) (AA L.p (L.cs.getD j 0) (o.getD j 0))
def aL(L:LP)(o:List Int)(j:Nat):Int:=AA L.p (L.cs.getD j 0) (o.getD j 0)
section
variable(w:World)(L:LP)(ks ls:List Int)(go bl bv:Nat)(o:List Int)
def JL(a:Nat)(o':List Int)(W:World):Prop:=FS W L ks ls go o'/\uK W L bl/\wu W L go bv/\w.grownBy W (some go)/\l8 L.n (min a L.n) o' (tL L o) (aL L o)
theorem aiJ(hn:L.n<=1000)(hl:L.cs.length=L.n)(hcs:∀c∈L.cs,0<=c/\c<=21):GS L.n 161 163 #[.pointer (some ⟨bl,0,none⟩)] #[.pointer (some ⟨bv,0,none⟩),.pointer (some ⟨bl,0,none⟩)] (JL w L ks ls go bl bv o) (fun _ i=>DW (L.cs.getD i 0)):=by
 have hlo:∀j,j<L.n->DW (L.cs.getD j 0)=jX (L.cs.getD j 0):=fun j hj=>ans (hcs _ (dm (by rw [hl];exact hj)))
 have hnl:∀j,jX (L.cs.getD j 0)=false->tL L o j=aL L o j:=fun j h=>by
  rw [tL,ze,ai (fun hh=>by rw [h]at hh;cases hh.1)];rfl
 refine⟨?_,?_,?_⟩
 .rintro o' a W i ⟨hS,hB,hV,hG,hK⟩ _ hi;rw [OY];refine(ait W L ks ls go bl o' hS hB i hi).mono ?_;rintro e W' ⟨rfl,rfl⟩;exact⟨rfl,hS,hB,hV,hG,hK⟩
 .rintro o' a W ⟨hS,hB,hV,hG,hK⟩ ha hq;rw [jd (by omega)]at hK;refine⟨o',hS,hB,hV,hG,?_⟩;rw [jd (by omega)];refine hK.more (by omega) fun j h1 h2 _=> ?_
  rw [show j=a by omega];exact hnl a (by rw [<-hlo a ha];exact hq)
 .rintro o' a b W ⟨hS,hB,hV,hG,hK⟩ hab nS hall hend;rw [jd (by omega)]at hK;rw [aeF];refine(anh W L ks ls go bl bv o' hS hn hB hV a b (by omega) nS).mono ?_;rintro e W' ⟨rfl,C8,hB',hV',Ai⟩;have hrun:∀q,a<=q->q<b->jX (L.cs.getD q 0)=true:=fun q h1 h2=>by rw [<-hlo q (by omega)];exact hall q h1 h2
  have Mf:∀j,a<=j->j<b->jo (L.cs.drop (j+1))=jo (L.cs.drop b):=fun j h1 h2=>acR (by omega) (b - (j+1)) (j+1) (by omega) fun q h3 h4=>hrun q (by omega) h4
  have fin:∀o2,l8 L.n b o2 (tL L o) (aL L o)->l8 L.n (min (b+1) L.n) o2 (tL L o) (aL L o):=fun o2 h=>by
   by_cases hb:b<L.n
   .rw [jd (by omega)];refine h.more (by omega) fun j h1 h2 _=> ?_
    rw [show j=b by omega];exact hnl b (by rw [<-hlo b hb];exact hend hb)
   .rw [show min (b+1) L.n=b by omega];exact h
  refine⟨rfl,_,C8,hB',hV',hG.trans Ai,fin _ ?_⟩;by_cases hc:b<L.n/\L.cs.getD b 0≠10
  .rw [aj hc];have hf:jX (L.cs.getD b 0)=false:=by rw [<-hlo b hc.1];exact hend hc.1
   refine hK.more (by omega) fun j h1 h2 _=> ?_
   have hne:¬(jX (L.cs.getD j 0)=true/\jo (L.cs.drop (j+1))=true):=fun hh=>by
    rw [Mf j h1 h2,acQ (by omega) hf,rB hc.2]at hh;cases hh.2
   rw [tL,ze,ai hne];rfl
  .rw [ai hc];refine hK.fill (by omega) nS L.p fun j h1 h2=> ?_
   have hyes:jo (L.cs.drop (j+1))=true:=by
    rw [Mf j h1 h2];by_cases hb:b<L.n
    .have h10:L.cs.getD b 0=10:=adB fun h=>hc ⟨hb,h⟩
     rw [acQ (by omega) (by rw [<-hlo b hb];exact hend hb),h10];rfl
    .exact anr (by omega)
   rw [tL,ze,aj ⟨hrun j h1 h2,hyes⟩]
end
theorem amb(w:World)(L:LP)(ks ls:List Int)(go:Nat)(o:List Int)(h:FS w L ks ls go o)(hn:L.n<=1000)(hcs:∀c∈L.cs,0<=c/\c<=21):
  Calls prog 89 #[.pointer (some ⟨L.lb,0,none⟩),.slice (some ⟨go,0,none⟩) L.n L.n] w fun e w'=>e= .returned (.tuple #[])/\FS w' L ks ls go (wZ L.p (l1 L.p L.cs o))/\w.grownBy w' (some go):=by
 have ID:∀(fn:Fn)(first cap:Array Value)(w:World),(Instr.makeFunc fn first cap).run prog w= .ok (.func fn first cap) w:=fun _ _ _ _=>rfl
 obtain⟨W1,hW1⟩:∃W1,W1=(w.alloc (.cells #[.pointer (some ⟨L.lb,0,none⟩)] 136)).alloc (.cells #[.slice (some ⟨go,0,none⟩) L.n L.n] 31):=⟨_,rfl⟩
 have hb1:Below w.heap.size w W1:=by rw [hW1];exact((aA _ _).alloc (ay _) _).alloc (by simp) _
 have bD:=ah (h.below hb1);have Ut:Hid (uK W1 L w.heap.size):=by
  show _=_;rw [hW1,dM _ _ _ (by simp)];exact mP
 have Uv:Hid (wu W1 L go (w.heap.size+1)):=by
  show _=_;rw [hW1,show w.heap.size+1=(w.alloc (.cells #[.pointer (some ⟨L.lb,0,none⟩)] 136)).heap.size by simp];exact mP
 have kI:Hid (w.grownBy W1 (some go)):=⟨hb1.os,hb1.tape,hb1.output,hb1.size,fun k hk _=>hb1.block k hk⟩
 have eP:Hid (L.cs.length=L.n/\o.length=L.n):=⟨h.ln.len,h.len⟩
 have HCs:=ah hcs;have mS:Hid (go≠w.heap.size):=by have:=(yE h.row go rfl).2;show _≠_;omega
 have mV:Hid (go≠w.heap.size+1):=by have:=(yE h.row go rfl).2;show _≠_;omega
 have a1:((w.alloc (.cells #[.pointer (some ⟨L.lb,0,none⟩)] 136)).alloc (.cells #[.slice (some ⟨go,0,none⟩) L.n L.n] 31)).cell? ⟨L.lb,1,none⟩=some (.slice (some ⟨L.gt,0,none⟩) L.n L.ct):=by rw [<-hW1];exact bD.out.ln.f1
 clear h hb1 hcs;go_enter func89,ntmps89;go_wp2;rw [<-hW1];clear a1 hW1;generalize w.heap.size+1=bv at*;generalize w.heap.size=bl at*;go_loopg [12] L.n (fun gk iv W=>∃(k:Nat)(o':List Int),k<=L.n/\gk=L.n - k/\iv= .int .i64 k/\FS W L ks ls go o'/\(uK W L bl/\wu W L go bv)/\w.grownBy W (some go)/\l8 L.n k o' (aL L o) (fun j=>o.getD j 0));case atStart=>exact⟨0,o,by omega,rfl,rfl,bD.out,⟨Ut.out,Uv.out⟩,kI.out,⟨eP.out.2,fun j _=>by rw [ai (by omega)]⟩⟩
 case round=>
  clear bD Ut Uv kI;obtain⟨k,o',hk,rfl,rfl,hS,jJ,hG,hK⟩:=hrel;have cl:wr.cell? ⟨bl,0,none⟩=some (.pointer (some ⟨L.lb,0,none⟩)):=az jJ.1 0;have cv:wr.cell? ⟨bv,0,none⟩=some (.slice (some ⟨go,0,none⟩) L.n L.n):=az jJ.2 0;by_cases hlt:k<L.n
  .have ct:=hS.ln.ct k hlt;have hcell:=hS.row.cell k hlt;have hfr:=hS.row.frozen k;have c5:=hS.ln.f5;have hkn:(k:Int)<(L.n:Int):=by omega
   have ek:o'.getD k 0=o.getD k 0:=by have:=hK.2 k hlt;rw [ai (by omega)]at this;exact this
   have HS:=ah hS;have uL:=ah jJ;have HG:=ah hG;have cZ:∀v,aL L o k=v->Hid (l8 L.n (k+1) (o'.set k v) (aL L o) (fun j=>o.getD j 0)):=fun v e=>by subst e;exact hK.step hlt
   have cM:aL L o k=o.getD k 0->Hid (l8 L.n (k+1) o' (aL L o) (fun j=>o.getD j 0)):=fun e=>hK.more (by omega) fun j h1 h2 _=>by rw [show j=k by omega];exact e
   have aJ:Hid (∀v:Int,uK (wr.setCell ⟨go,k,none⟩ (.int .i64 v)) L bl/\wu (wr.setCell ⟨go,k,none⟩ (.int .i64 v)) L go bv):=fun v=>⟨(gK _ _ _ _ mS.out.symm).trans jJ.1,(gK _ _ _ _ mV.out.symm).trans jJ.2⟩
   unfold aL AA at cZ cM;clear hS jJ hG hK ek;generalize L.cs.getD k 0=c at*;generalize o'.getD k 0=q at*;by_cases h10:c=10
   .subst h10;have HK:=cZ L.p (aj rfl);clear cZ cM;go_wp2_with fail;refine(vM 10 _).mono ?_;rintro ev wx ⟨rfl,hx⟩;have hx':=hx.symm;subst hx';rw [show(!bN 10)=false from rfl];go_wp2;go_region;all_goals
     go_wp2;go_roundg (L.n - (k+1));case measure=>omega
     case rel=>exact⟨k+1,_,by omega,rfl,by go_num,(HS.out.set k L.p).drew,aJ.out L.p,(HG.out.trans (HS.out.grown k L.p)).trans Ac,HK.out⟩
   .have mM:(c==10)=false:=by simpa using h10
    cases hl:bN c
    .have HK:=cZ (-1) (by rw [ai h10,aj hl]);have HL:Hid ((!bN c)=true):=by show _=_;rw [hl];rfl
     clear cZ cM hl;go_wp2_with fail;refine(vM c _).mono ?_;rintro ev wx ⟨rfl,hx⟩;have hx':=hx.symm;subst hx';rw [HL.out];go_wp2;go_roundg (L.n - (k+1));case measure=>omega
     case rel=>exact⟨k+1,_,by omega,rfl,by go_num,HS.out.set k (-1),aJ.out (-1),HG.out.trans (HS.out.grown k (-1)),HK.out⟩
    .have HK:=cM (by rw [ai h10,ai (by rw [hl];decide)]);have HL:Hid ((!bN c)=false):=by show _=_;rw [hl];rfl
     clear cZ cM hl;go_wp2_with fail;refine(vM c _).mono ?_;rintro ev wx ⟨rfl,hx⟩;have hx':=hx.symm;subst hx';rw [HL.out];go_wp2;go_roundg (L.n - (k+1));case measure=>omega
     case rel=>exact⟨k+1,_,by omega,rfl,by go_num,HS.out,uL.out,HG.out,HK.out⟩
  .obtain rfl:k=L.n:=by omega
   have hkn:¬(L.n:Int)<(L.n:Int):=by omega
   have HC:Hid (Calls prog 97 #[.int .i64 L.n,.func (.func 161) #[] #[.pointer (some ⟨bl,0,none⟩)],.func (.func 163) #[] #[.pointer (some ⟨bv,0,none⟩),.pointer (some ⟨bl,0,none⟩)]] wr fun e w'=>e= .returned (.tuple #[])/\∃k x,L.n<=k/\JL w L ks ls go bl bv o k x w'):=
    Lq L.n _ _ _ _ _ _ hn (aiJ w L ks ls go bl bv o hn eP.out.1 HCs.out) (lF func161 (by kernel_rfl) (by kernel_rfl)) (lF func163 (by kernel_rfl) (by kernel_rfl)) o' wr
     ⟨hS,jJ.1,jJ.2,hG,by rw [GN];exact⟨hK.1,fun j hj=>by rw [ai (by omega)];have:=hK.2 j hj;rw [aj hj]at this;exact this⟩⟩
   clear hS jJ hG hK;go_wp2_with fail;refine HC.out.mono ?_;rintro ev w3 ⟨rfl,k3,o3,hk3,lI,cV,Dc,Hx,hK3⟩;rw [Et hk3]at hK3;have e3:o3=l1 L.p L.cs o:=by rw [hK3.done,<-aiG L.p L.cs o (by rw [eP.out.1,eP.out.2]),eP.out.1];rfl
   have jB:Hid (FS w3 L ks ls go (l1 L.p L.cs o)):=by rw [<-e3];exact lI
   have F7:=ah Hx;have cl3:w3.cell? ⟨bl,0,none⟩=some (.pointer (some ⟨L.lb,0,none⟩)):=az cV 0;have cv3:w3.cell? ⟨bv,0,none⟩=some (.slice (some ⟨go,0,none⟩) L.n L.n):=az Dc 0;clear lI cV Dc Hx hK3 e3 HC cl cv;go_wp2_with fail;refine(agO w3 L ks ls go _ jB.out hn).mono ?_;rintro ev w4 ⟨rfl,jk,xh⟩;have uP:=ah jk;have A7:Hid _:=F7.out.trans xh;clear jk xh;go_wp2;go_end0;exact⟨rfl,uP.out,A7.out⟩
theorem alb(l c:Int)(w:World)(hl:0<=l):Calls prog 159 #[.int .i64 l,.int .i64 c] w fun e w'=>e= .returned (.int .i64 (iK l c))/\w'=w:=by
 have HS:Hid (∀W,Calls prog 96 #[.int .i64 l] W fun e w'=>e= .returned (.int .i64 (l%2))/\w'=W):=fun W=>AW l W hl
 have h2:l%2=0∨l%2=1:=by omega
 obtain⟨m,hm⟩:∃m,m=l%2:=⟨_,rfl⟩
 have hr:iK l c=if(c=3∨c=6)/\m=0 then 2 else if(c=3∨c=6)∨c≠m then 1 else 0:=by
  unfold iK;rw [<-hm];rcases h2 with h|h
  .rw [show m=0 by omega];simp
  .rw [show m=1 by omega];simp
 rw [hr];rw [<-hm]at HS;clear hr h2 hm;by_cases hc:c=3∨c=6
 .by_cases hm0:m=0
  .rw [aj ⟨hc,hm0⟩];subst hm0;rcases hc with rfl|rfl
   all_goals
    go_enter func159,ntmps159;go_wp2_with fail;refine(HS.out _).mono ?_;rintro ev wx ⟨rfl,hx⟩;have hx':=hx.symm;subst hx';go_wp2;go_ret;exact⟨rfl,rfl⟩
  .rw [ai (fun h=>hm0 h.2),aj (.inl hc)];have q:(m==0)=false:=by simpa using hm0
   rcases hc with rfl|rfl
   all_goals
    go_enter func159,ntmps159;go_wp2_with fail;refine(HS.out _).mono ?_;rintro ev wx ⟨rfl,hx⟩;have hx':=hx.symm;subst hx';go_wp2;go_ret;exact⟨rfl,rfl⟩
 .rw [ai (fun h=>hc h.1)];have q3:(c==3)=false:=by simp;omega
  have q6:(c==6)=false:=by simp;omega
  by_cases hcm:c=m
  .rw [ai (by omega)];have q:(c !=m)=false:=by simp [hcm]
   have HQ:=ah q;clear hc hcm;go_enter func159,ntmps159;go_wp2_with fail;refine(HS.out _).mono ?_;rintro ev wx ⟨rfl,hx⟩;have hx':=hx.symm;subst hx';go_wp2;go_ret;exact⟨rfl,rfl⟩
  .rw [aj (.inr hcm)];have q:(c !=m)=true:=by simpa using hcm
   clear hc hcm;go_enter func159,ntmps159;go_wp2_with fail;refine(HS.out _).mono ?_;rintro ev wx ⟨rfl,hx⟩;have hx':=hx.symm;subst hx';go_wp2;go_ret;exact⟨rfl,rfl⟩
theorem ala(l c:Int):0<=iK l c/\iK l c<=2:=by
 unfold iK;split
 .omega
 .split<;>omega
theorem anv(at':List Nat)(au:Int)(t:List Int)(j:Nat)(h1:j<at'.length)(h2:j<t.length):(iM at' au t).take (j+1)=(iM at' au t).take j++[(at'.getD j 0,au,t.getD j 0)]:=by
 have hl:j<(iM at' au t).length:=by rw [iM,jE,OM];omega
 rw [zX,aQ hl];simp [iM,aO,aQ h1,aQ h2]
theorem aW.setOther {w:World}{B sb gc n cc:Nat}{pv rv bv:Value}{au aq ax:Int}{t:List Int}(h:aW w B sb gc n cc pv rv bv au aq ax t){g:Nat}(h1:sb≠g)(h2:gc≠g)(k:Nat)(u:Value):aW (w.setCell ⟨g,k,none⟩ u) B sb gc n cc pv rv bv au aq ax t:=
 ⟨by rw [gK _ _ _ _ h1];exact h.cell,jm h.row (by simpa [Value.ownBlock]using h2) k u⟩
theorem ama(w:World)(B sb gc m cc gp op cp:Nat)(rv bv:Value)(au aq ax:Int)(t:List Int)(at':List Nat)(B' go n:Nat)(o:List Int)(hS:aW w B sb gc m cc (.slice (some ⟨gp,op,none⟩) m cp) rv bv au aq ax t)(hP:bG w gp op (nl at'))(hl:at'.length=m)(hR:bf w B' go n n o)(hap:sb≠go/\gc≠go/\gp≠go)
  (hat:∀p∈at',p<n) (hm:m<=1000) (kU:0<=au) (ho:∀p,0<=o.getD p 0/\o.getD p 0<=1000):
  Calls prog 88 #[.pointer (some ⟨sb,0,none⟩),.slice (some ⟨go,0,none⟩) n n] w fun e w'=>e= .returned (.tuple #[])/\bf w' B' go n n ((iM at' au t).foldl ig o)/\w.grownBy w' (some go):=by
 have c0:w.cell? ⟨sb,0,none⟩=some (.slice (some ⟨gp,op,none⟩) m cp):=az hS.cell 0;have cE:=ah hS;have Gl:=ah hP;have wK:=ah hR;have HL:Hid (at'.length=m/\t.length=m):=⟨hl,hS.len⟩
 have HA:=ah hat;have HO:=ah ho;have HN:=ah hap;clear hS hP hR hl hat ho hap;go_enter func88,ntmps88;go_wp2;clear c0;go_loopg [11] m (fun gk iv W=>∃(j:Nat)(o':List Int),j<=m/\gk=m - j/\iv= .int .i64 j/\aW W B sb gc m cc (.slice (some ⟨gp,op,none⟩) m cp) rv bv au aq ax t/\bG W gp op (nl at')/\bf W B' go n n o'/\w.grownBy W (some go)/\o'=((iM at' au t).take j).foldl ig o/\∀p,0<=o'.getD p 0/\o'.getD p 0<=1000+2*j);case atStart=>exact⟨0,o,by omega,rfl,rfl,cE.out,Gl.out,wK.out,jt _ _,rfl,fun p=>by have:=HO.out p;omega⟩
 case round=>
  clear cE Gl wK HO;obtain⟨j,o',hj,rfl,rfl,hS,hP,hR,hG,hE,hB⟩:=hrel;by_cases hlt:j<m
  .have hja:j<at'.length:=by rw [HL.out.1];exact hlt
   have cp':wr.cell? ⟨gp,op+j,none⟩=some (.int .i64 ((at'.getD j 0:Nat):Int)):=by
    have:=hP j (by rw [gw];exact hja);rw [mJ _ _ hja]at this;exact this
   have qA:at'.getD j 0<n:=HA.out _ (dm hja);have cr:=hR.cell _ qA;have fr:=hR.frozen (at'.getD j 0);have c2:=hS.f2;have c4:=hS.f4;have ck:=hS.at j hlt;have hq:=hB (at'.getD j 0);have hjn:(j:Int)<(m:Int):=by omega
   have ahI:((at'.getD j 0:Nat):Int)<(n:Int):=by omega
   have hrs:=ala au (t.getD j 0);have HRi:Hid (∀W,Calls prog 159 #[.int .i64 au,.int .i64 (t.getD j 0)] W fun e w'=>e= .returned (.int .i64 (iK au (t.getD j 0)))/\w'=W):=fun W=>alb au _ W kU
   have Yg:((iM at' au t).take (j+1)).foldl ig o=o'.set (at'.getD j 0) (o'.getD (at'.getD j 0) 0+iK au (t.getD j 0)):=by
    rw [anv at' au t j hja (by rw [HL.out.2];exact hlt),CT,<-hE];rfl
   have eu:bf (wr.setCell ⟨go,at'.getD j 0,none⟩ (.int .i64 (o'.getD (at'.getD j 0) 0+iK au (t.getD j 0)))) B' go n n (o'.set (at'.getD j 0) (o'.getD (at'.getD j 0) 0+iK au (t.getD j 0))):=hR.set _ _;have gB:aW (wr.setCell ⟨go,at'.getD j 0,none⟩ (.int .i64 (o'.getD (at'.getD j 0) 0+iK au (t.getD j 0)))) B sb gc m cc (.slice (some ⟨gp,op,none⟩) m cp) rv bv au aq ax t:=hS.setOther HN.out.1 HN.out.2.1 _ _;have YA:bG (wr.setCell ⟨go,at'.getD j 0,none⟩ (.int .i64 (o'.getD (at'.getD j 0) 0+iK au (t.getD j 0)))) gp op (nl at'):=hP.DC (gK _ _ _ _ HN.out.2.2);have mz:w.grownBy (wr.setCell ⟨go,at'.getD j 0,none⟩ (.int .i64 (o'.getD (at'.getD j 0) 0+iK au (t.getD j 0)))) (some go):=hG.trans (hR.grown _ _);have bq:∀p,0<=(o'.set (at'.getD j 0) (o'.getD (at'.getD j 0) 0+iK au (t.getD j 0))).getD p 0/\(o'.set (at'.getD j 0) (o'.getD (at'.getD j 0) 0+iK au (t.getD j 0))).getD p 0<=1000+2*((j+1:Nat):Int):=fun p=>by
    by_cases hp:at'.getD j 0=p
    .rw [<-hp,xd (by rw [hR.len];exact qA)];omega
    .rw [getD_set_ne hp];have:=hB p;omega
   have H2:Hid (aW (wr.setCell ⟨go,at'.getD j 0,none⟩ (.int .i64 (o'.getD (at'.getD j 0) 0+iK au (t.getD j 0)))) B sb gc m cc (.slice (some ⟨gp,op,none⟩) m cp) rv bv au aq ax t/\bG (wr.setCell ⟨go,at'.getD j 0,none⟩ (.int .i64 (o'.getD (at'.getD j 0) 0+iK au (t.getD j 0)))) gp op (nl at')/\bf (wr.setCell ⟨go,at'.getD j 0,none⟩ (.int .i64 (o'.getD (at'.getD j 0) 0+iK au (t.getD j 0)))) B' go n n (o'.set (at'.getD j 0) (o'.getD (at'.getD j 0) 0+iK au (t.getD j 0)))/\w.grownBy (wr.setCell ⟨go,at'.getD j 0,none⟩ (.int .i64 (o'.getD (at'.getD j 0) 0+iK au (t.getD j 0)))) (some go)):=⟨gB,YA,eu,mz⟩
   have iW:Hid (o'.set (at'.getD j 0) (o'.getD (at'.getD j 0) 0+iK au (t.getD j 0))=((iM at' au t).take (j+1)).foldl ig o/\∀p,0<=(o'.set (at'.getD j 0) (o'.getD (at'.getD j 0) 0+iK au (t.getD j 0))).getD p 0/\(o'.set (at'.getD j 0) (o'.getD (at'.getD j 0) 0+iK au (t.getD j 0))).getD p 0<=1000+2*((j+1:Nat):Int)):=⟨Yg.symm,bq⟩
   have hq1:=hq.1;have hq2:o'.getD (at'.getD j 0) 0<=3000:=by omega
   have hr1:=hrs.1;have hr2:=hrs.2;clear hS hP hR hG hE hB Yg eu gB YA mz bq hq hrs;generalize iK au (t.getD j 0)=ri at*;generalize t.getD j 0=c at*;generalize o'.getD (at'.getD j 0) 0=q at*;generalize at'.getD j 0=p at*;go_wp2_with fail
   go_region_with (go_at_call 159;refine(HRi.out _).mono ?_;rintro ev wx ⟨rfl,hx⟩;subst hx)
   all_goals
    go_wp2;go_roundg (m - (j+1));case measure=>omega
    case rel=>exact⟨j+1,_,by omega,rfl,by go_num,H2.out.1.below (aA _ _).drew,H2.out.2.1,dO H2.out.2.2.1 (Ac (r:=none)) (.inr (by simp [Value.ownBlock])),H2.out.2.2.2.trans Ac,iW.out.1,iW.out.2⟩
  .obtain rfl:j=m:=by omega
   have hkn:¬(j:Int)<(j:Int):=by omega
   have e:o'=(iM at' au t).foldl ig o:=by rw [hE,lB (by rw [iM,jE,OM,HL.out.1,HL.out.2];omega)]
   have HR:Hid (bf wr B' go n n ((iM at' au t).foldl ig o)):=by rw [<-e];exact hR
   have HG:=ah hG;clear hS hP hR hG hE hB e;go_wp2;go_end0;exact⟨rfl,HR.out,HG.out⟩
theorem Sk {ax:Int}{td:List Int}{j:Nat}(hj:j<=td.length):∀m a,a+m=j->(∀q,a<=q->q<j->nB (td.getD q 0)=true)->sI ax (td.drop a)=sI ax (td.drop j)
 |0,a,h,_=>by rw [<-h];rfl
 |m+1,a,h,hr=>by
  rw [drop_at (show a<td.length by omega),sI,aj (hr a (ay _) (by omega))];exact Sk hj m (a+1) (by omega) (fun q h1 h2=>hr q (by omega) h2)
theorem ab3 {ax aq:Int}{td t':List Int}{k j:Nat}{s:Int}(h:aV (fM ax) gM aq td k s t')(hrun:∀q,k<=q->q<j->nB (td.getD q 0)=true)(hj:j<=td.length)(hd:s=sI ax (td.drop j)):
  ∀m,k+m<=j->aV (fM ax) gM aq td (k+m) s (bL t' k s m)
 |0,_=>h
 |m+1,hm=>by
  have h1:=ab3 h hrun hj hd m (by omega);have hs:=hrun (k+m) (by omega) (by omega);refine h1.step (by omega) s s ?_ ?_
  .rw [fM,aj hs,Sk hj (j - (k+m+1)) (k+m+1) (by omega) (fun q h1 h2=>hrun q (by omega) h2),aj hd]
  .rw [gM,aj hs]
theorem ab4 {ax aq:Int}{td t':List Int}{k j:Nat}{s:Int}(h:aV (fM ax) gM aq td k s t')(hrun:∀q,k<=q->q<j->nB (td.getD q 0)=true)(hj:j<=td.length)(hd:¬s=sI ax (td.drop j)):
  ∀m,k+m<=j->aV (fM ax) gM aq td (k+m) s t'
 |0,_=>h
 |m+1,hm=>by
  have h1:=ab4 h hrun hj hd m (by omega);have hs:=hrun (k+m) (by omega) (by omega);refine h1.stay (by omega) s ?_ ?_
  .rw [fM,aj hs,Sk hj (j - (k+m+1)) (k+m+1) (by omega) (fun q h1 h2=>hrun q (by omega) h2),ai hd]
  .rw [gM,aj hs]
theorem ab5 {ax aq:Int}{td t':List Int}{k:Nat}{s:Int}(h:aV (fM ax) gM aq td k s t')(hk:k<td.length)(hs:¬nB (td.getD k 0)=true):aV (fM ax) gM aq td (k+1) (bC (td.getD k 0)) t':=
 h.stay hk _ (by rw [fM,ai hs]) (by rw [gM,ai hs])
section
variable(w:World)(B sb gc n cc bx:Nat)(pv rv bv:Value)(au aq ax:Int)(t:List Int)
def JN(a:Nat)(t':List Int)(W:World):Prop:=∃s,aW W B sb gc n cc pv rv bv au aq ax t'/\W.heap[bx]? =some (.cells #[.pointer (some ⟨sb,0,none⟩)] 146 (0,0))/\w.grownBy W (some gc)/\aV (fM ax) gM aq t (min a n) s t'/\((a=0/\s=aq)∨(0<a/\(a<=n->s=bC (t'.getD (a - 1) 0))))
theorem aji(hn:n<=1000)(hl:t.length=n)(vD:bC aq=aq)(hbz:bx<w.heap.size):GS n 214 216 #[.pointer (some ⟨bx,0,none⟩)] #[.pointer (some ⟨bx,0,none⟩)] (JN w B sb gc n cc bx pv rv bv au aq ax t) (fun t' i=>nB (t'.getD i 0)):=by
 refine⟨?_,?_,?_⟩
 .rintro t' a W i ⟨s,hS,hB,hG,hN,hA⟩ _ hi;rw [OY];refine(aio W B sb gc n cc bx pv rv bv au aq ax t' hS hB i hi).mono ?_;rintro e W' ⟨rfl,rfl⟩;exact⟨rfl,s,hS,hB,hG,hN,hA⟩
 .rintro t' a W ⟨s,hS,hB,hG,hN,hA⟩ ha hq;rw [jd (by omega)]at hN;have e:=hN.at a (ay _);have h5:¬nB (t.getD a 0)=true:=by
   rw [<-e];simpa using hq
  exact⟨t',bC (t.getD a 0),hS,hB,hG,by rw [jd (by omega)];exact ab5 hN (by omega) h5,.inr ⟨by omega,fun _=>by rw [kr,e]⟩⟩
 .rintro t' a b W ⟨s,hS,hB,hG,hN,hA⟩ hab nS hall hend;rw [jd (by omega)]at hN;have hrun:∀q,a<=q->q<b->nB (t.getD q 0)=true:=fun q h1 h2=>by
   rw [<-hN.at q h1];exact hall q h1 h2
  have dB:b<n->¬nB (t.getD b 0)=true:=fun h=>by
   rw [<-hN.at b (by omega)];simpa using hend h
  have hx:bC (fP aq ax t' ((a:Int) - 1))=s:=by
   rcases hA with⟨rfl,rfl⟩|⟨h0,h1⟩
   .rw [show((0:Nat):Int) - 1= -1 from rfl,fP,aj (by decide)];exact vD
   .rw [h1 (by omega),fP,ai (by omega),ai (by rw [hS.len];omega),show((a:Int) - 1).toNat=a - 1 by omega]
  have hy:bC (fP aq ax t' (b:Int))=sI ax (t.drop b):=by
   by_cases hb:b<n
   .rw [fP,ai (by omega),ai (by rw [hS.len];omega),CR,hN.at b (by omega),drop_at (show b<t.length by omega),sI,ai (dB hb)]
   .rw [fP,ai (by omega),aj (by rw [hS.len];omega),jD (by omega)];rfl
  rw [VX];refine(anf W B sb gc n cc bx pv rv bv au aq ax t' hS hn hB a b (by omega) nS).mono ?_;rintro e W' ⟨rfl,C8,Ai⟩;have hB':W'.heap[bx]? =some (.cells #[.pointer (some ⟨sb,0,none⟩)] 146 (0,0)):=by
   rw [Ai.block bx (ku hbz hG.size) (fun e=>(hS.boxed hB) (aK e).symm)];exact hB
  have key:∀t2,t2=(if bC (fP aq ax t' ((a:Int) - 1))=bC (fP aq ax t' (b:Int))then bL t' a (bC (fP aq ax t' ((a:Int) - 1))) (b - a)else t')->aV (fM ax) gM aq t b s t2->∃x',JN w B sb gc n cc bx pv rv bv au aq ax t (b+1) x' W':=by
   rintro t2 rfl h1;by_cases hb:b<n
   .refine⟨_,bC (t.getD b 0),C8,hB',hG.trans Ai,by rw [jd (by omega)];exact ab5 h1 (by omega) (dB hb),.inr ⟨by omega,fun _=> ?_⟩⟩;rw [kr,h1.at b (ay _)]
   .have e:min (b+1) n=b:=by omega
    exact⟨_,s,C8,hB',hG.trans Ai,by rw [e];exact h1,.inr ⟨by omega,fun h=>by omega⟩⟩
  refine⟨rfl,?_⟩;by_cases hc:s=sI ax (t.drop b)
  .have:=ab3 hN hrun (by omega) hc (b - a) (by omega);rw [show a+(b - a)=b by omega]at this;exact key _ (by rw [aj (by rw [hx,hy];exact hc),hx]) this
  .have:=ab4 hN hrun (by omega) hc (b - a) (by omega);rw [show a+(b - a)=b by omega]at this;exact key _ (by rw [ai (by rw [hx,hy];exact hc)]) this
end
theorem ajj(w:World)(B sb gc n cc:Nat)(pv rv bv:Value)(au aq ax:Int)(t:List Int)(h:aW w B sb gc n cc pv rv bv au aq ax t)(hn:n<=1000)(vD:bC aq=aq):
  Calls prog 152 #[.pointer (some ⟨sb,0,none⟩)] w fun e w'=>e= .returned (.tuple #[])/\aW w' B sb gc n cc pv rv bv au aq ax (pass (fM ax) gM aq t)/\w.grownBy w' (some gc):=by
 have ID:∀(fn:Fn)(first cap:Array Value)(w:World),(Instr.makeFunc fn first cap).run prog w= .ok (.func fn first cap) w:=fun _ _ _ _=>rfl
 have hb1:Below w.heap.size w (w.alloc (.cells #[.pointer (some ⟨sb,0,none⟩)] 146)):=(aA _ _).alloc (ay _) _;have hS1:=h.below hb1;have c2:=hS1.f2;have hl:=h.len;have HC:Hid (Calls prog 97 #[.int .i64 n,.func (.func 214) #[] #[.pointer (some ⟨w.heap.size,0,none⟩)],.func (.func 216) #[] #[.pointer (some ⟨w.heap.size,0,none⟩)]] (w.alloc (.cells #[.pointer (some ⟨sb,0,none⟩)] 146)) fun e w'=>e= .returned (.tuple #[])/\∃k x,n<=k/\JN (w.alloc (.cells #[.pointer (some ⟨sb,0,none⟩)] 146)) B sb gc n cc w.heap.size pv rv bv au aq ax t k x w'):=
  Lq n _ _ _ _ _ _ hn (aji _ B sb gc n cc w.heap.size pv rv bv au aq ax t hn hl vD (by simp)) (lF func214 (by kernel_rfl) (by kernel_rfl)) (lF func216 (by kernel_rfl) (by kernel_rfl)) t _
   ⟨aq,hS1,mP,jt _ _,by rw [GN];exact aV.start _ _ _ _,.inl ⟨rfl,rfl⟩⟩
 have D4:Hid (w.grownBy (w.alloc (.cells #[.pointer (some ⟨sb,0,none⟩)] 146)) (some gc)):=⟨rfl,rfl,rfl,by simp,fun k hk _=>dM w _ k hk⟩
 have HL:=ah hl;clear h hb1 hS1 hl;go_enter func152,ntmps152;go_wp2_with fail;refine HC.out.mono ?_;rintro ev w2 ⟨rfl,k,t',hk,s,hS,_,hG,hN,_⟩;rw [Et hk]at hN;have e:=hN.stop (by rw [HL.out];omega);have HS:Hid (aW w2 B sb gc n cc pv rv bv au aq ax (pass (fM ax) gM aq t)):=by rw [<-e];exact hS
 have HG:=ah (D4.out.trans hG);clear hS hG hN e HC c2;go_wp2;go_end0;exact⟨rfl,HS.out,HG.out⟩
