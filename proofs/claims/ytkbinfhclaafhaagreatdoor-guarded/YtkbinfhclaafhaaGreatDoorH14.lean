import Derived.Test.YtkbinfhclaafhaaGreatDoorH08
import Derived.Test.YtkbinfhclaafhaaGreatDoorH12
import Derived.Test.YtkbinfhclaafhaaGreatDoorH13
import Derived.Deep.RegionHeld3
import Derived.Deep.DrawnRows
import Derived.Maps.AppendAt
import Derived.ArgAppend
import Derived.Test.YtkbinfhclaafhaaGreatDoorH07
import Derived.Test.YtkbinfhclaafhaaGreatDoorH10
namespace Go.Proofs.YtkbinfhclaafhaaGreatDoor
open Go.RowKit
open Go.Proofs.Tryz
set_option maxRecDepth 100000
set_option maxHeartbeats 32000000
section
attribute [local go_sem ↓] Go.wp_at_zero Go.wp_at_succ
def jm(g:Nat)(left:List Nat)(ax:List (Nat×Nat)):List MapEntry:=ax.zipIdx.map fun x=>⟨.int .i64 ((left.getD x.1.1 0:Nat):Int),kN g x.1,x.2⟩
theorem abe(g:Nat)(left:List Nat)(ax:List (Nat×Nat))(ab:Nat×Nat):jm g left (ax++[ab])=jm g left ax++[⟨.int .i64 ((left.getD ab.1 0:Nat):Int),kN g ab,ax.length⟩]:=by
 unfold jm;rw [List.zipIdx_append,List.map_append];simp
theorem Ru {g:Nat}{left:List Nat}{ax:List (Nat×Nat)}{m:MapEntry}(h:m∈jm g left ax):∃ab∈ax,m.key= .int .i64 ((left.getD ab.1 0:Nat):Int):=by
 unfold jm at h;obtain⟨x,hx,rfl⟩:=List.mem_map.1 h;exact⟨x.1,List.fst_mem_of_mem_zipIdx hx,rfl⟩
theorem Rt {g:Nat}{left:List Nat}{ax:List (Nat×Nat)}{m:MapEntry}{j:Nat}(h:(jm g left ax)[j]? =some m):j<ax.length/\m.key= .int .i64 ((left.getD (ax.getD j (0,0)).1 0:Nat):Int)/\m.val=kN g (ax.getD j (0,0)):=by
 unfold jm at h;rw [List.getElem?_map,List.getElem?_zipIdx]at h;rcases Nat.lt_or_ge j ax.length with hj|hj
 .rw [List.getElem?_eq_getElem hj]at h;have e:ax.getD j (0,0)=ax[j]:=by rw [List.getD_eq_getElem?_getD,List.getElem?_eq_getElem hj];rfl
  simp only [Option.map_some,Option.some.injEq,Nat.zero_add]at h;subst h;rw [e];exact⟨hj,rfl,rfl⟩
 .rw [List.getElem?_eq_none hj]at h;cases h
theorem abc {g:Nat}{left:List Nat}{ax:List (Nat×Nat)}{j:Nat}(hj:j<ax.length):∃m∈jm g left ax,m.key= .int .i64 ((left.getD (ax.getD j (0,0)).1 0:Nat):Int):=by
 refine⟨⟨.int .i64 ((left.getD (ax.getD j (0,0)).1 0:Nat):Int),kN g (ax.getD j (0,0)),j⟩,?_,rfl⟩;unfold jm;refine List.mem_map.2 ⟨(ax.getD j (0,0),j),?_,rfl⟩;rw [List.mem_zipIdx_iff_getElem?,List.getD_eq_getElem?_getD,List.getElem?_eq_getElem hj];rfl
def pg(g:Nat)(ax:List (Nat×Nat)):Option Nat->Value
 |some k=>kN g (ax.getD k (0,0))
 |none=> .slice none 0 0
theorem uE {left:List Nat}{ab:Nat×Nat}(h:ab.1<ab.2/\ab.2<=left.length):(bL left ab).headD 0=left.getD ab.1 0/\bL left ab≠[]/\(bL left ab).length=ab.2 - ab.1:=OE h.1 h.2
theorem GG(left:List Nat)(ax:List (Nat×Nat))(k:Nat)(hk:k<ax.length):(ax.map (bL left)).getD k []=bL left (ax.getD k (0,0)):=by
 rw [List.getD_eq_getElem?_getD,List.getElem?_map,List.getD_eq_getElem?_getD,List.getElem?_eq_getElem hk];rfl
theorem UR {n:Nat}{rs:List (List Nat)}(h:kD n rs){i j:Nat}(hi:i<rs.length)(hj:j<rs.length)(he:(rs.getD i []).headD 0=(rs.getD j []).headD 0):i=j:=by
 have h1:=head_mem (h.ne _ (dB (d:=[]) hi));have h2:=head_mem (h.ne _ (dB (d:=[]) hj));rw [he]at h1;exact Gz h.oW h1 h2
theorem Pg:prog.underlying 217=some (.map 3 31):=by kernel_rfl
theorem Rv {w:World}{mb g n:Nat}{left:List Nat}{ax:List (Nat×Nat)}{cs:List Int}(hm:w.heap[mb]? =some (.map (jm g left ax).toArray ax.length))(hok:∀ab∈ax,ab.1<ab.2/\ab.2<=left.length)(hR:kD n (ax.map (bL left)))(hcn:cs.length=n)(last:Nat):
  (Instr.lookup 217 (.map (some mb)) (.int .i64 (og cs last)) false).run prog w= .ok (pg g ax (fT cs (ax.map (bL left)) last)) w:=by
 have hz:(zeroValue 31).run prog w= .ok (.slice none 0 0) w:=by kernel_rfl
 have hkeys:∀m∈(jm g left ax).toArray.toList,∃x,m.key= .int .i64 x:=fun m hm=>by
  obtain⟨ab,_,h⟩:=Ru (by simpa using hm);exact⟨_,h⟩
 have hhd:∀k,k<ax.length->((ax.map (bL left)).getD k []).headD 0=left.getD (ax.getD k (0,0)).1 0:=fun k hk=>by
  rw [GG _ _ _ hk];exact(uE (hok _ (dB hk))).1
 rcases YX underlying3 w (og cs last) (jm g left ax).toArray.toList hkeys with⟨h1,h2⟩|⟨j,m,h1,h2,h3⟩
 .rw [YZ false Pg hz hm (fun em=>Ow underlying3 w _ em) h1];have:fT cs (ax.map (bL left)) last=none:=by
   unfold fT;split
   .rename_i bG;cases hk:yQ (ax.map (bL left)) (mt cs last) (ax.map (bL left)).length with
    |none=>rfl
    |some k=>
     exfalso;obtain⟨hkl,hke⟩:=Eu _ _ hk;rw [List.length_map]at hkl;rw [hhd k hkl]at hke;obtain⟨m,hm1,hm2⟩:=abc (g:=g) (left:=left) hkl;refine h2 m (by simpa using hm1) ?_;rw [hm2,hke,og,if_pos bG,if_pos];have hm3:mt cs last∈bL left (ax.getD k (0,0)):=by
      have:=head_mem (uE (hok _ (dB (d:=(0,0)) hkl))).2.1;rw [(uE (hok _ (dB (d:=(0,0)) hkl))).1,hke]at this;exact this
     rw [hcn];exact hR.lt _ (List.mem_map.2 ⟨_,dB (d:=(0,0)) hkl,rfl⟩) _ hm3
   .rfl
  rw [this];rfl
 .rw [Y0 false Pg hm (fun em=>Ow underlying3 w _ em) h1];obtain⟨hj,hk,hv⟩:=Rt (by simpa using h2);rw [hk]at h3;have h4:((left.getD (ax.getD j (0,0)).1 0:Nat):Int)=og cs last:=by injection h3
  have bG:aG (cs.getD last 0)=true:=by
   by_cases h:aG (cs.getD last 0)=true
   .exact h
   .rw [og,if_neg h]at h4;omega
  rw [og,if_pos bG]at h4;have hmt:mt cs last<cs.length:=by
   by_cases h:mt cs last<cs.length
   .exact h
   .rw [if_neg h]at h4;omega
  rw [if_pos hmt]at h4;have h5:left.getD (ax.getD j (0,0)).1 0=mt cs last:=by omega
  have:fT cs (ax.map (bL left)) last=some j:=by
   unfold fT;rw [if_pos bG];cases hk:yQ (ax.map (bL left)) (mt cs last) (ax.map (bL left)).length with
   |none=>
    exfalso;refine Xo _ hk j (by rw [List.length_map];exact hj) ?_;rw [hhd j hj,h5]
   |some k=>
    obtain⟨hkl,hke⟩:=Eu _ _ hk
    congr 1
    refine UR hR hkl (by rw [List.length_map];exact hj) ?_;rw [hke,hhd j hj,h5]
  rw [this,hv];rfl
theorem abf {w:World}{mb g n:Nat}{left:List Nat}{ax:List (Nat×Nat)}{k:Nat}(hk:k<ax.length)(hm:w.heap[mb]? =some (.map (jm g left (ax.take k)).toArray k))(hok:∀ab∈ax,ab.1<ab.2/\ab.2<=left.length)(hR:kD n (ax.map (bL left))):
  (Instr.mapUpdate 217 (.map (some mb)) (.int .i64 ((left.getD (ax.getD k (0,0)).1 0:Nat):Int)) (kN g (ax.getD k (0,0)))).run prog w= .ok () (ChangeMaps.setBlock w mb (.map (jm g left (ax.take (k+1))).toArray (k+1))):=by
 have hkeys:∀m∈(jm g left (ax.take k)).toArray.toList,∃x,m.key= .int .i64 x:=fun m hm=>by
  obtain⟨ab,_,h⟩:=Ru (by simpa using hm);exact⟨_,h⟩
 rcases YX underlying3 w ((left.getD (ax.getD k (0,0)).1 0:Nat):Int) (jm g left (ax.take k)).toArray.toList hkeys with⟨h1,h2⟩|⟨j,m,h1,h2,h3⟩
 .have e:=Y1 (val:=kN g (ax.getD k (0,0))) Pg hm (Ow underlying3 w _ false) h1;rw [e];have e2:ax.take (k+1)=ax.take k++[ax.getD k (0,0)]:=by
   rw [List.take_add_one,List.getElem?_eq_getElem hk,List.getD_eq_getElem?_getD,List.getElem?_eq_getElem hk];rfl
  rw [e2,abe,List.length_take,Nat.min_eq_left (Nat.le_of_lt hk)];simp
 .exfalso;obtain⟨hj,hkk,_⟩:=Rt (by simpa using h2);rw [List.length_take]at hj;have hjk:j<k:=by omega
  have hjs:j<ax.length:=by omega
  rw [hkk]at h3;have e1:(ax.take k).getD j (0,0)=ax.getD j (0,0):=by
   rw [List.getD_eq_getElem?_getD,List.getElem?_take_of_lt hjk,<-List.getD_eq_getElem?_getD]
  rw [e1]at h3;have h4:((left.getD (ax.getD j (0,0)).1 0:Nat):Int)=((left.getD (ax.getD k (0,0)).1 0:Nat):Int):=by injection h3
  have:=UR hR (i:=j) (j:=k) (by rw [List.length_map];exact hjs) (by rw [List.length_map];exact hk) (by
   rw [GG _ _ _ hjs,GG _ _ _ hk,(uE (hok _ (dB hjs))).1,(uE (hok _ (dB hk))).1];omega)
  omega
theorem ah4(W:World)(L:LP)(ks ls:List Int)(h:LX W L ks ls)(lx mx mb g gp op m cp last:Nat)(left:List Nat)(ax:List (Nat×Nat))(hl:W.cell? ⟨lx,0,none⟩=some (.pointer (some ⟨L.lb,0,none⟩)))(hmx:W.cell? ⟨mx,0,none⟩=some (.map (some mb)))(hm:W.heap[mb]? =some (.map (jm g left ax).toArray ax.length))(hok:∀ab∈ax,ab.1<ab.2/\ab.2<=left.length)(hR:kD L.n (ax.map (bL left)))
  (hm0:0<m) (hm1:m<=1000) (hla:W.cell? ⟨gp,op+(m - 1),none⟩=some (.int .i64 ((last:Nat):Int))) (hlast:last<L.n):
  Calls prog 155 #[.slice (some ⟨gp,op,none⟩) m cp,.pointer (some ⟨mx,0,none⟩),.pointer (some ⟨lx,0,none⟩)] W fun e w'=>e= .returned (pg g ax (fT L.cs (ax.map (bL left)) last))/\Below W.heap.size W w':=by
 have hlk:=Rv (w:=W) hm hok hR h.len last;have HN:Hid (∀W',Below W.heap.size W W'->Calls prog 156 #[.pointer (some ⟨L.lb,0,none⟩),.int .i64 last] W' fun e w'=>e= .returned (.int .i64 (og L.cs last))/\w'=W'):=fun W' hb=>agn W' L ks ls (h.below hb) last hlast
 have hlk2:(Instr.lookup 217 (.map (some mb)) (.int .i64 (og L.cs last)) false).run prog W.drew= .ok (pg g ax (fT L.cs (ax.map (bL left)) last)) W.drew:=Rv (w:=W.drew) hm hok hR h.len last;clear h hm hok hR hlk;generalize og L.cs last=nb at*;generalize pg g ax (fT L.cs (ax.map (bL left)) last)=nv at*;have hj1:(1:Int)<=(m:Int):=by omega
 have hj2:(0:Int)<=(m:Int) - 1:=by omega
 have U6:(m:Int) - 1<(m:Int):=by omega
 have BH:(m:Int)<=(m:Int):=by omega
 have U7:(0:Int)<(m:Int):=by omega
 have hw:IntKind.i64.wrap ((m:Int) - 1)=(m:Int) - 1:=IntWalk.i64_in _ ⟨by omega,by omega⟩;go_enter func155,ntmps155;go_wp2
 go_region_held3 (fun w'=>w'.cell? ⟨mx,0,none⟩=some (.map (some mb))/\w'.cell? ⟨lx,0,none⟩=some (.pointer (some ⟨L.lb,0,none⟩))/\w'.cell? ⟨gp,op+(m - 1),none⟩=some (.int .i64 ((last:Nat):Int))) (go_keep)
  (first|(go_at_call 156;refine(HN.out _ (Below.refl _ _).drew).mono ?_;rintro ev wx ⟨rfl,rfl⟩))
 all_goals
  go_wp2;go_ret;exact⟨rfl,(Below.refl _ _).drew⟩
end
structure fA where
 sb:Nat
 gr:Nat
 cr:Nat
 gc:Nat
 cc:Nat
 gb:Nat
 gp:Nat
 op:Nat
 cp:Nat
 m:Nat
 at':List Nat
def fA.ptr(q:fA):Value:= .pointer (some ⟨q.sb,0,none⟩)
structure l7(W:World)(B:Nat)(L:LP)(ks ls:List Int)(q:fA):Prop where
 sq:aA W B q.sb q.gc q.m q.cc (.slice (some ⟨q.gp,q.op,none⟩) q.m q.cp) (.slice (some ⟨q.gr,0,none⟩) q.m q.cr) (.slice (some ⟨q.gb,0,none⟩) q.m q.m) (ls.getD (q.at'.headD 0) 0) (mO (ls.getD (q.at'.headD 0) 0) (kW ls (aD L.cs) L.p (q.at'.headD 0))) (mO (ls.getD (q.at'.headD 0) 0) (tJ L.cs ls (aD L.cs) L.p (q.at'.getLastD 0))) (aV ks q.at')
 ru:W.ownsRow B 21 1 (.slice (some ⟨q.gr,0,none⟩) q.m q.cr) q.m (lV (aV L.rs q.at'))
 be:aK W B 108 q.gb q.m (iv (aV ks q.at'))
 pl:dz W q.gp q.op (nl q.at')
 ty:∃cs fr,W.heap[q.gp]? =some (.cells cs 3 fr)
 lo:B<=q.gp/\B<=q.sb
 ne:q.gb≠q.gc
 len:q.at'.length=q.m
 pos:0<q.m
section
variable{W W':World}{B:Nat}{L:LP}{ks ls:List Int}{q:fA}
theorem yV {w:World}{B B':Nat}{e:TypeId}{z n:Nat}{v:Value}{xs:List Value}(h:w.ownsRow B e z v n xs)(hb:B'<=B):w.ownsRow B' e z v n xs:=by
 refine⟨h.1,?_⟩;rcases h.2 with h|⟨g,cap,cur,h1,h2,h3⟩
 .exact .inl h
 .exact .inr ⟨g,cap,cur,h1,Nat.le_trans hb h2,h3⟩
theorem l7.base {B':Nat}(h:l7 W B L ks ls q)(hb:B'<=B):l7 W B' L ks ls q:=
 ⟨⟨h.sq.cell,yV h.sq.row hb⟩,yV h.ru hb,yV h.be hb,h.pl,h.ty,⟨Nat.le_trans hb h.lo.1,Nat.le_trans hb h.lo.2⟩,h.ne,h.len,h.pos⟩
theorem l7.below(h:l7 W B L ks ls q)(hb:Below W.heap.size W W'):l7 W' B L ks ls q:=by
 obtain⟨cs,fr,hty⟩:=h.ty;exact⟨h.sq.below hb,own_below h.ru hb,own_below h.be hb,h.pl.below hb,⟨cs,fr,aR hb hty⟩,h.lo,h.ne,h.len,h.pos⟩
theorem l7.grown {r:Nat}(h:l7 W B L ks ls q)(hg:W.grownBy W' (some r))(h1:q.sb≠r)(h2:q.gc≠r)(h3:q.gr≠r)(h4:q.gb≠r)(h5:q.gp≠r):l7 W' B L ks ls q:=by
 obtain⟨cs,fr,hty⟩:=h.ty;exact⟨⟨(hg.block q.sb (bK h.sq.cell) (fun e=>h1 (Option.some.inj e))).trans h.sq.cell,fJ h.sq.row hg h2⟩,fJ h.ru hg h3,fJ h.be hg h4,h.pl.grown hg h5,⟨cs,fr,(hg.block q.gp (bK hty) (fun e=>h5 (Option.some.inj e))).trans hty⟩,h.lo,h.ne,h.len,h.pos⟩
end
def Apart(q q':fA):Prop:=q.gc≠q'.gc/\q.gb≠q'.gc/\q.gc≠q'.gb
structure nk(W:World)(B:Nat)(L:LP)(ks ls:List Int)(av:Value)(qs:List fA):Prop where
 row:W.ownsRow B 146 1 av qs.length (qs.map fA.ptr)
 all:∀q∈qs,l7 W B L ks ls q
 ap:qs.Pairwise Apart
theorem vz {w:World}{B g n c z:Nat}{e:TypeId}{xs:List Value}(h:w.ownsRow B e z (.slice (some ⟨g,0,none⟩) n c) n xs):∃cur,w.heap[g]? =some (.cells cur e (0,0)):=by
 rcases h.2 with⟨e1,_⟩|⟨g',cap,cur,e1,_,hh,_⟩
 .cases e1
 .injection e1 with e2
  injection e2 with e3
  injection e3 with e4
  subst e4;exact⟨cur,hh⟩
section
variable{W W':World}{B:Nat}{L:LP}{ks ls:List Int}{av Rl:Value}{qs:List fA}{q:fA}
theorem nk.below(h:nk W B L ks ls av qs)(hb:Below W.heap.size W W'):nk W' B L ks ls av qs:=⟨own_below h.row hb,fun q hq=>(h.all q hq).below hb,h.ap⟩
theorem rQ {w:World}{k:Nat}{a b:Array Value}{s t:TypeId}{f g:Nat×Nat}(h:w.heap[k]? =some (.cells a s f))(h':w.heap[k]? =some (.cells b t g)):s=t:=by
 rw [h]at h';injection h' with h'
 injection h'
theorem nk.push(h:nk W B L ks ls av qs)(hq:l7 W B L ks ls q)(hap:∀q'∈qs,Apart q' q)(hown:W'.ownsRow B 146 1 Rl (qs.length+1) (qs.map fA.ptr++[q.ptr]))(hg:W.grownBy W' av.ownBlock):nk W' B L ks ls Rl (qs++[q]):=by
 have key:∀x,l7 W B L ks ls x->l7 W' B L ks ls x:=fun x hx=>by
  rcases h.row.2 with⟨rfl,_⟩|⟨g,cp,cur,rfl,_,hh,_⟩
  .exact hx.below ⟨hg.os,hg.tape,hg.output,hg.size,fun k hk=>hg.block k hk (by simp [Value.ownBlock])⟩
  .have hg':W.grownBy W' (some g):=hg;obtain⟨c2,e2⟩:=vz hx.sq.row;obtain⟨c3,e3⟩:=vz hx.ru;obtain⟨c4,e4⟩:=vz hx.be;obtain⟨c5,fr,e5⟩:=hx.ty;refine hx.grown hg' ?_ ?_ ?_ ?_ ?_
   .rintro rfl;exact absurd (rQ hx.sq.cell hh) (by decide)
   .rintro rfl;exact absurd (rQ e2 hh) (by decide)
   .rintro rfl;exact absurd (rQ e3 hh) (by decide)
   .rintro rfl;exact absurd (rQ e4 hh) (by decide)
   .rintro rfl;exact absurd (rQ e5 hh) (by decide)
 refine⟨by rw [List.length_append,List.map_append];exact hown,?_,?_⟩
 .intro x hx;rcases List.mem_append.1 hx with hx|hx
  .exact key x (h.all x hx)
  .rw [List.mem_singleton.1 hx];exact key q hq
 .rw [List.pairwise_append];exact⟨h.ap,List.pairwise_singleton _ _,fun a ha b hb=>by rw [List.mem_singleton.1 hb];exact hap a ha⟩
end
structure nU(W:World)(B Bi gp op m cp:Nat)(at':List Nat):Prop where
 pl:dz W gp op (nl at')
 ty:∃cs fr,W.heap[gp]? =some (.cells cs 3 fr)
 lo:B<=gp
 len:at'.length=m
 fo:cp=m∨(op=0/\W.ownsRow Bi 3 1 (.slice (some ⟨gp,0,none⟩) m cp) m (iv (nl at')))
theorem nU.below {W W':World}{B Bi gp op m cp:Nat}{at':List Nat}(h:nU W B Bi gp op m cp at')(hb:Below W.heap.size W W'):nU W' B Bi gp op m cp at':=by
 obtain⟨cs,fr,hty⟩:=h.ty;refine⟨h.pl.below hb,⟨cs,fr,aR hb hty⟩,h.lo,h.len,?_⟩;rcases h.fo with h1|⟨h1,h2⟩
 .exact .inl h1
 .exact .inr ⟨h1,own_below h2 hb⟩
theorem nU.own {W:World}{B Bi g n c:Nat}{at':List Nat}(h:W.ownsRow Bi 3 1 (.slice (some ⟨g,0,none⟩) n c) n (iv (nl at')))(hB:B<=Bi):nU W B Bi g 0 n c at':=by
 obtain⟨cur,hh⟩:=vz h;refine⟨fun k hk=>by rw [Nat.zero_add];exact jZ h k hk,⟨cur,_,hh⟩,Nat.le_trans hB (h.lt g rfl).1,?_,.inr ⟨rfl,h⟩⟩;have:=h.1;simpa [iv,nl]using this
theorem TS(l:List Int)(at':List Nat):(aV l at').length=at'.length:=by simp [aV]
section
attribute [local go_sem ↓] Go.wp_at_zero Go.wp_at_succ
theorem aiu(W:World)(mb:Nat)(o:Obj):W.grownBy (ChangeMaps.setBlock W mb o) (some mb):=⟨rfl,rfl,rfl,by simp [ChangeMaps.setBlock],fun k _ hne=>by simp [ChangeMaps.setBlock,Array.getElem?_setIfInBounds_ne (show mb≠k from fun e=>hne (by rw [e]))]⟩
theorem KE {W:World}{a:Addr}{v:Value}{mb c:Nat}{es:Array MapEntry}(h:W.cell? a=some v)(hm:W.heap[mb]? =some (.map es c)):a.block≠mb:=by
 intro e;simp [World.cell?,e,hm]at h
theorem yg.below {w w':World}{B g:Nat}{v:Value}{left:List Nat}{ax:List (Nat×Nat)}(h:yg w B v g left ax)(hb:Below w.heap.size w w'):yg w' B v g left ax:=
 ⟨own_below h.row hb,h.lf.below hb,h.ok,fun hn=>⟨(h.lt hn).1,Nat.lt_of_lt_of_le (h.lt hn).2 hb.size⟩,fun hn=>by obtain⟨cs,hc⟩:=h.ty hn;exact⟨cs,aR hb hc⟩⟩
structure SE(W:World)(B lx mx mb g:Nat)(L:LP)(rv:Value)(left:List Nat)(ax:List (Nat×Nat))(k:Nat):Prop where
 lh:W.heap[lx]? =some (.cells #[.pointer (some ⟨L.lb,0,none⟩)] 136 (0,0))
 mh:W.heap[mx]? =some (.cells #[.map (some mb)] 217 (0,0))
 mp:W.heap[mb]? =some (.map (jm g left (ax.take k)).toArray k)
 r:yg W B rv g left ax
section
variable{W W':World}{B lx mx mb g k:Nat}{L:LP}{rv:Value}{left:List Nat}{ax:List (Nat×Nat)}
theorem SE.l(h:SE W B lx mx mb g L rv left ax k):W.cell? ⟨lx,0,none⟩=some (.pointer (some ⟨L.lb,0,none⟩)):=au h.lh 0
theorem SE.m(h:SE W B lx mx mb g L rv left ax k):W.cell? ⟨mx,0,none⟩=some (.map (some mb)):=au h.mh 0
theorem SE.below(h:SE W B lx mx mb g L rv left ax k)(hb:Below W.heap.size W W'):SE W' B lx mx mb g L rv left ax k:=
 ⟨aR hb h.lh,aR hb h.mh,aR hb h.mp,h.r.below hb⟩
theorem SE.store(h:SE W B lx mx mb g L rv left ax k):SE (ChangeMaps.setBlock W mb (.map (jm g left (ax.take (k+1))).toArray (k+1))) B lx mx mb g L rv left ax (k+1):=by
 have hg:=aiu W mb (.map (jm g left (ax.take (k+1))).toArray (k+1));have n1:=KE h.l h.mp;have n2:=KE h.m h.mp;refine⟨(hg.block lx (bK h.lh) (fun e=>n1 (Option.some.inj e))).trans h.lh,(hg.block mx (bK h.mh) (fun e=>n2 (Option.some.inj e))).trans h.mh,Ze h.mp,?_⟩;have n3:∀hn:left≠[],g≠mb:=fun hn e=>by
  obtain⟨cs,hc⟩:=h.r.ty hn;rw [e,h.mp]at hc;cases hc
 refine⟨dJ h.r.row hg (.inr (Ir h.r.row h.mp)),fun i hi=>cell_grown hg (h.r.lf i hi) (fun e=>KE (h.r.lf i hi) h.mp (Option.some.inj e)),h.r.ok,fun hn=>⟨(h.r.lt hn).1,Nat.lt_of_lt_of_le (h.r.lt hn).2 hg.size⟩,fun hn=> ?_⟩;obtain⟨cs,hc⟩:=h.r.ty hn;exact⟨cs,(hg.block g (bK hc) (fun e=>n3 hn (Option.some.inj e))).trans hc⟩
end
theorem SE.app {W W':World}{B lx mx mb g k:Nat}{L:LP}{rv:Value}{left:List Nat}{ax:List (Nat×Nat)}{B' n:Nat}{av:Value}{xs:List Value}(h:SE W B lx mx mb g L rv left ax k)(hrow:W.ownsRow B' 146 1 av n xs)(hg:W.grownBy W' av.ownBlock):SE W' B lx mx mb g L rv left ax k:=by
 refine⟨(hg.block lx (bK h.lh) (fun e=>iF hrow h.lh (by decide) e.symm)).trans h.lh,(hg.block mx (bK h.mh) (fun e=>iF hrow h.mh (by decide) e.symm)).trans h.mh,(hg.block mb (bK h.mp) (fun e=>Ir hrow h.mp e.symm)).trans h.mp,?_⟩;have n3:left≠[]->some g≠av.ownBlock:=fun hn e=>by
  obtain⟨cs,hc⟩:=h.r.ty hn;exact iF hrow hc (by decide) e.symm
 refine⟨dJ h.r.row hg (lQ h.r.row hrow (by decide)),fun i hi=>cell_grown hg (h.r.lf i hi) (n3 (by rintro rfl;simp [nl]at hi)),h.r.ok,fun hn=>⟨(h.r.lt hn).1,Nat.lt_of_lt_of_le (h.r.lt hn).2 hg.size⟩,fun hn=> ?_⟩;obtain⟨cs,hc⟩:=h.r.ty hn;exact⟨cs,(hg.block g (bK hc) (n3 hn)).trans hc⟩
theorem Xt(left:List Nat)(a b:Nat):nl (bL left (a,b))=((nl left).take b).drop a:=by simp [nl,bL,List.map_take,List.map_drop]
theorem Tryz.aeU:(prog.info? 146).map (fun i=>(i.zero,i.size,i.bytes))=some (some (.pointer none),1,8):=by kernel_rfl
theorem abh(cs:List Int)(r:List Nat)(p:Nat)(hp:r.headD 0=p):fQ cs r= !(cs.getD p 0==21&&decide (0<=opener cs p)):=by rw [fQ,hp]
theorem aje {α β:Type}(f:α->β)(l:List α)(d:α)(k:Nat)(hk:k<l.length):(l.take (k+1)).map f=(l.take k).map f++[f (l.getD k d)]:=by
 rw [List.take_add_one,List.getElem?_eq_getElem hk,List.map_append,List.getD_eq_getElem?_getD,List.getElem?_eq_getElem hk];rfl
theorem Zb {left:List Nat}{a b:Nat}(h:a<b/\b<=left.length):(bL left (a,b)).getLastD 0=left.getD (b - 1) 0:=by
 have hl:=(uE (ab:=(a,b)) h).2.2;rw [List.getLastD_eq_getLast?,List.getLast?_eq_getElem?,hl];simp only [bL];rw [List.getElem?_drop,List.getElem?_take_of_lt (by omega),List.getD_eq_getElem?_getD]
 congr 2
 omega
theorem afi(l r:List Nat)(h:r≠[]):(l++r).getLastD 0=r.getLastD 0:=by
 rw [List.getLastD_eq_getLast?,List.getLastD_eq_getLast?,List.getLast?_append];cases hr:r.getLast? with
 |none=>exact absurd (List.getLast?_eq_none_iff.1 hr) h
 |some x=>rfl
end
structure FS(w:World)(L:LP)(ks ls:List Int)(go:Nat)(o:List Int):Prop where
 ln:LX w L ks ls
 row:dx w L.B go L.n L.n o
 ap:∀g,L.has g->g≠go
section
variable{w w':World}{L:LP}{ks ls o:List Int}{go:Nat}
theorem FS.below(h:FS w L ks ls go o)(hb:Below w.heap.size w w'):FS w' L ks ls go o:=⟨h.ln.below hb,own_below h.row hb,h.ap⟩
theorem FS.set(h:FS w L ks ls go o)(k:Nat)(a:Int):FS (w.setCell ⟨go,k,none⟩ (.int .i64 a)) L ks ls go (o.set k a):=
 ⟨h.ln.same (by simp) fun g hg=>Below.heap_setCell _ _ _ _ (h.ap g hg),h.row.set k a,h.ap⟩
theorem FS.grown(h:FS w L ks ls go o)(k:Nat)(a:Int):w.grownBy (w.setCell ⟨go,k,none⟩ (.int .i64 a)) (some go):=h.row.grown k a
theorem FS.drew(h:FS w L ks ls go o):FS w.drew L ks ls go o:=h.below (Below.refl _ _).drew
theorem FS.len(h:FS w L ks ls go o):o.length=L.n:=h.row.len
theorem dx.apart {B g n c b:Nat}{t:List Int}{ty:TypeId}{cs:Array Value}(h:dx w B g n c t)(hb:w.heap[b]? =some (.cells cs ty (0,0)))(hty:ty≠3):g≠b:=by
 rcases h.2 with⟨e,_⟩|⟨g',cp,cur,e,_,hh,_⟩
 .cases e
 .injection e with e1
  injection e1 with e4
  injection e4 with e5
  subst e5;intro e;rw [e,hb]at hh;simp at hh;exact hty hh.2
end
def fF(s c:Int)(_:List Int):Int:=if c= -1 then s else c
theorem Yh:∀(l:List Int)(a:Int),pass fF fF a l=tT a l
 |[],_=>rfl
 |c::r,a=>by rw [pass,tT,Yh r];rfl
theorem adh(w:World)(L:LP)(ks ls:List Int)(go:Nat)(o:List Int)(h:FS w L ks ls go o)(hn:L.n<=1000):
  Calls prog 164 #[.pointer (some ⟨L.lb,0,none⟩),.slice (some ⟨go,0,none⟩) L.n L.n] w fun e w'=>e= .returned (.tuple #[])/\FS w' L ks ls go (tT L.p o)/\w.grownBy w' (some go):=by
 have cK:Hid (FS w L ks ls go o):=h;have HL:Hid (o.length=L.n):=h.len;have a5:=h.ln.f5;clear h;go_enter func164,ntmps164;go_wp2;clear a5;go_loopg [4,13] L.n (fun gk sv iv wr=>∃(k:Nat)(s:Int)(t':List Int),k<=L.n/\gk=L.n - k/\sv= .int .i64 s/\iv= .int .i64 k/\FS wr L ks ls go t'/\w.grownBy wr (some go)/\bz fF fF L.p o k s t');case atStart=>exact⟨0,L.p,o,by omega,rfl,rfl,rfl,cK.out,World.grownBy.refl _ _,bz.start _ _ _ _⟩
 case round=>
  clear cK;obtain⟨k,s,t',hk,rfl,rfl,rfl,hS,hG,hN⟩:=hrel;by_cases hlt:k<L.n
  .have hlt':k<o.length:=by rw [HL.out];exact hlt
   have hcell:=hS.row.cell k hlt;rw [hN.at k (Nat.le_refl _)]at hcell;have hfr:=hS.row.frozen k;have hkn:(k:Int)<(L.n:Int):=by omega
   have HS:Hid (FS wr L ks ls go t'):=hS;have HG:Hid (w.grownBy wr (some go)):=hG;have bQ:¬o.getD k 0= -1->Hid (bz fF fF L.p o (k+1) (o.getD k 0) t'):=fun h1=>hN.stay hlt' _ (by rw [fF,if_neg h1]) (by rw [fF,if_neg h1])
   have bY:o.getD k 0= -1->Hid (bz fF fF L.p o (k+1) s (t'.set k s)):=fun h1=>hN.step hlt' s s (by rw [fF,if_pos h1]) (by rw [fF,if_pos h1])
   have HC:Hid ((wr.setCell ⟨go,k,none⟩ (.int .i64 s)).cell? ⟨go,k,none⟩=some (.int .i64 s)):=World.cell?_setCell_same' _ _ _ (by rw [hcell];rfl);clear hS hG hN;generalize o.getD k 0=c at*;by_cases hc:c= -1
   .have HK:=bY hc;subst hc;clear bQ bY;go_wp2;go_roundg (L.n - (k+1));case measure=>omega
    case rel=>exact⟨k+1,s,_,by omega,rfl,rfl,by go_num,HS.out.set k s,HG.out.trans (HS.out.grown k s),HK.out⟩
   .have HK:=bQ hc;have qc:(c== -1)=false:=by simpa using hc
    clear bQ bY;go_wp2;go_roundg (L.n - (k+1));case measure=>omega
    case rel=>exact⟨k+1,c,_,by omega,rfl,rfl,by go_num,HS.out,HG.out,HK.out⟩
  .have hpe:t'=tT L.p o:=by rw [<-Yh];exact hN.stop (by rw [HL.out];exact hlt)
   have HS:Hid (FS wr L ks ls go (tT L.p o)):=by rw [<-hpe];exact hS
   have HG:Hid (w.grownBy wr (some go)):=hG;have hkn:¬(k:Int)<(L.n:Int):=by omega
   clear hS hG hN hpe;go_wp2;go_end0;exact⟨rfl,HS.out,HG.out⟩
def nP(W:World)(L:LP)(bl:Nat):Prop:=W.heap[bl]? =some (.cells #[.pointer (some ⟨L.lb,0,none⟩)] 136 (0,0))
def ow(W:World)(L:LP)(go bv:Nat):Prop:=W.heap[bv]? =some (.cells #[.slice (some ⟨go,0,none⟩) L.n L.n] 31 (0,0))
theorem ae5(w:World)(L:LP)(ks ls:List Int)(go bl:Nat)(o:List Int)(h:FS w L ks ls go o)(hb:nP w L bl)(i:Nat)(hi:i<L.n):
  Calls prog 161 #[.int .i64 i,.pointer (some ⟨bl,0,none⟩)] w fun e w'=>e= .returned (.bool (AA (L.cs.getD i 0)))/\w'=w:=by
 have a1:=h.ln.f1;have ci:=h.ln.ct i hi;have cb:w.cell? ⟨bl,0,none⟩=some (.pointer (some ⟨L.lb,0,none⟩)):=au hb 0;have hi':(i:Int)<(L.n:Int):=by omega
 clear h hb;generalize L.cs.getD i 0=c at*;go_enter func161,ntmps161;go_wp2_with fail;refine(abD c _).mono ?_;rintro ev wx ⟨rfl,hx⟩;have hx':=hx.symm;subst hx';go_wp2;go_ret;exact⟨rfl,rfl⟩
theorem ajh(w:World)(L:LP)(ks ls:List Int)(go bl bv:Nat)(o:List Int)(h:FS w L ks ls go o)(hn:L.n<=1000)(hb:nP w L bl)(hv:ow w L go bv)(a b:Nat)(hab:a<=b)(hbn:b<=L.n):
  Calls prog 163 #[.int .i64 a,.int .i64 b,.pointer (some ⟨bv,0,none⟩),.pointer (some ⟨bl,0,none⟩)] w fun e w'=>e= .returned (.tuple #[])/\FS w' L ks ls go (if b<L.n/\L.cs.getD b 0≠10 then o else dI o a L.p (b - a))/\nP w' L bl/\ow w' L go bv/\w.grownBy w' (some go):=by
 have cl:w.cell? ⟨bl,0,none⟩=some (.pointer (some ⟨L.lb,0,none⟩)):=au hb 0;have cv:w.cell? ⟨bv,0,none⟩=some (.slice (some ⟨go,0,none⟩) L.n L.n):=au hv 0;have cK:Hid (FS w L ks ls go o):=h;have xS:Hid (nP w L bl/\ow w L go bv):=⟨hb,hv⟩
 have a1:=h.ln.f1;have HT:Hid (∀k,k<L.n->w.cell? ⟨L.gt,k,none⟩=some (.int .i64 (L.cs.getD k 0))):=fun k hk=>h.ln.ct k hk
 have nR:Hid (go≠bl):=h.row.apart hb (by decide);have nS:Hid (go≠bv):=h.row.apart hv (by decide);clear h hb hv;by_cases hx:b<L.n/\L.cs.getD b 0≠10
 .rw [if_pos hx];have cb:=HT.out b hx.1;have q:(L.cs.getD b 0 !=10)=true:=by simpa using hx.2
  have hb':(b:Int)<(L.n:Int):=by omega
  clear hx;generalize L.cs.getD b 0=c at*;go_enter func163,ntmps163;go_wp2;exact bodyPost_ret (results_none rfl _ _ _) rfl ⟨rfl,cK.out,xS.out.1,xS.out.2,World.grownBy.refl _ _⟩
 .rw [if_neg hx];by_cases hb:b<L.n;case pos=>
   have cb:=HT.out b hb;have q:(L.cs.getD b 0 !=10)=false:=by
    have:L.cs.getD b 0=10:=Decidable.byContradiction fun h=>hx ⟨hb,h⟩
    rw [this];rfl
   have hb':(b:Int)<(L.n:Int):=by omega
   clear hx;generalize L.cs.getD b 0=c at*;go_enter func163,ntmps163;go_wp2;clear cl cv a1;go_loopg [6] (b - a) (fun gk iv wr=>∃m:Nat,a+m<=b/\gk=b - a - m/\iv= .int .i64 ((a+m:Nat):Int)/\FS wr L ks ls go (dI o a L.p m)/\(nP wr L bl/\ow wr L go bv)/\w.grownBy wr (some go));case atStart=>exact⟨0,by omega,rfl,rfl,cK.out,xS.out,World.grownBy.refl _ _⟩
   case round=>
    clear cK xS HT;obtain⟨m,hm,rfl,rfl,hS,iO,hG⟩:=hrel;by_cases hlt:a+m<b
    .have hcell:=hS.row.cell (a+m) (by omega);have hfr:=hS.row.frozen (a+m);have c5:=hS.ln.f5;have cl:wr.cell? ⟨bl,0,none⟩=some (.pointer (some ⟨L.lb,0,none⟩)):=au iO.1 0;have cv:wr.cell? ⟨bv,0,none⟩=some (.slice (some ⟨go,0,none⟩) L.n L.n):=au iO.2 0;have HS:Hid (FS (wr.setCell ⟨go,a+m,none⟩ (.int .i64 L.p)) L ks ls go (dI o a L.p (m+1))):=hS.set (a+m) L.p;have HB:Hid (nP (wr.setCell ⟨go,a+m,none⟩ (.int .i64 L.p)) L bl/\ow (wr.setCell ⟨go,a+m,none⟩ (.int .i64 L.p)) L go bv):=⟨(Below.heap_setCell _ _ _ _ nR.out.symm).trans iO.1,(Below.heap_setCell _ _ _ _ nS.out.symm).trans iO.2⟩
     have HG:Hid (w.grownBy (wr.setCell ⟨go,a+m,none⟩ (.int .i64 L.p)) (some go)):=hG.trans (hS.grown (a+m) L.p);have h1:(a:Int)+(m:Int)<(b:Int):=by omega
     have h2:(a:Int)+(m:Int)<(L.n:Int):=by omega
     clear hS hG iO;generalize(dI o a L.p m).getD (a+m) 0=q at*;go_wp2;go_region;all_goals
      go_wp2;go_roundg (b - a - (m+1));case measure=>omega
      case rel=>exact⟨m+1,by omega,rfl,by go_num,HS.out.drew,HB.out,HG.out.trans zL⟩
    .have h1:¬(a:Int)+(m:Int)<(b:Int):=by omega
     have e:m=b - a:=by omega
     have HS:Hid (FS wr L ks ls go (dI o a L.p (b - a))):=by rw [<-e];exact hS
     have HG:Hid (w.grownBy wr (some go)):=hG;have HB:Hid (nP wr L bl/\ow wr L go bv):=iO;clear hS hG iO;go_wp2;go_end0;exact⟨rfl,HS.out,HB.out.1,HB.out.2,HG.out⟩
  case neg=>
   have hb':¬(b:Int)<(L.n:Int):=by omega
   have hb2:decide ((b:Int)<(L.n:Int))=false:=by simpa using hb'
   clear hx;go_enter func163,ntmps163;go_wp2;clear cl cv a1;go_loopg [6] (b - a) (fun gk iv wr=>∃m:Nat,a+m<=b/\gk=b - a - m/\iv= .int .i64 ((a+m:Nat):Int)/\FS wr L ks ls go (dI o a L.p m)/\(nP wr L bl/\ow wr L go bv)/\w.grownBy wr (some go));case atStart=>exact⟨0,by omega,rfl,rfl,cK.out,xS.out,World.grownBy.refl _ _⟩
   case round=>
    clear cK xS HT;obtain⟨m,hm,rfl,rfl,hS,iO,hG⟩:=hrel;by_cases hlt:a+m<b
    .have hcell:=hS.row.cell (a+m) (by omega);have hfr:=hS.row.frozen (a+m);have c5:=hS.ln.f5;have cl:wr.cell? ⟨bl,0,none⟩=some (.pointer (some ⟨L.lb,0,none⟩)):=au iO.1 0;have cv:wr.cell? ⟨bv,0,none⟩=some (.slice (some ⟨go,0,none⟩) L.n L.n):=au iO.2 0;have HS:Hid (FS (wr.setCell ⟨go,a+m,none⟩ (.int .i64 L.p)) L ks ls go (dI o a L.p (m+1))):=hS.set (a+m) L.p;have HB:Hid (nP (wr.setCell ⟨go,a+m,none⟩ (.int .i64 L.p)) L bl/\ow (wr.setCell ⟨go,a+m,none⟩ (.int .i64 L.p)) L go bv):=⟨(Below.heap_setCell _ _ _ _ nR.out.symm).trans iO.1,(Below.heap_setCell _ _ _ _ nS.out.symm).trans iO.2⟩
     have HG:Hid (w.grownBy (wr.setCell ⟨go,a+m,none⟩ (.int .i64 L.p)) (some go)):=hG.trans (hS.grown (a+m) L.p);have h1:(a:Int)+(m:Int)<(b:Int):=by omega
     have h2:(a:Int)+(m:Int)<(L.n:Int):=by omega
     clear hS hG iO;generalize(dI o a L.p m).getD (a+m) 0=q at*;go_wp2;go_region;all_goals
      go_wp2;go_roundg (b - a - (m+1));case measure=>omega
      case rel=>exact⟨m+1,by omega,rfl,by go_num,HS.out.drew,HB.out,HG.out.trans zL⟩
    .have h1:¬(a:Int)+(m:Int)<(b:Int):=by omega
     have e:m=b - a:=by omega
     have HS:Hid (FS wr L ks ls go (dI o a L.p (b - a))):=by rw [<-e];exact hS
     have HG:Hid (w.grownBy wr (some go)):=hG;have HB:Hid (nP wr L bl/\ow wr L go bv):=iO;clear hS hG iO;go_wp2;go_end0;exact⟨rfl,HS.out,HB.out.1,HB.out.2,HG.out⟩
