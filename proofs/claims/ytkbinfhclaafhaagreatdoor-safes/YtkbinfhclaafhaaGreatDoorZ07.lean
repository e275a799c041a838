import Derived.Test.YtkbinfhclaafhaaGreatDoorZ06
import Derived.Deep.LoopGhost
import Derived.Deep.RegionWith
import Derived.BigQuiet
namespace Go.Proofs.YtkbinfhclaafhaaGreatDoor
open Go.RowKit
open Go.Proofs.Tryz
set_option maxRecDepth 100000
set_option maxHeartbeats 32000000
set_option linter.all false
theorem adt(y0 y1 y2:Value)(n:Nat):(Builtin.zeroCells #[y0,y1,y2] n).toList.length=n*3:=by simp [Builtin.zeroCells]
theorem aoe(y0 y1 y2:Value)(n:Nat)(u:Value)(h:u∈(Builtin.zeroCells #[y0,y1,y2] n).toList):u=y0∨u=y1∨u=y2:=by
 simp [Builtin.zeroCells]at h;obtain⟨i,_,rfl⟩:=h;have h3:i%3=0∨i%3=1∨i%3=2:=by omega
 rcases h3 with h|h|h<;>simp [h]
theorem alq(w:World)(ty:TypeId)(b o n c:Nat)(hn:0<n)(hc:∀j,j<n*3->(w.cell? ⟨b,o+j,none⟩).isSome=true)(hf:∀j,j<n*3->w.frozen? ⟨b,o+j,none⟩=false):
  (Builtin.clear_ #[208] ty #[.slice (some ⟨b,o,none⟩) n c]).run prog w= .ok (.tuple #[]) (w.setCells b o (Builtin.zeroCells #[.int .i64 0,.int .i64 0,.bool false] n).toList):=by
 have hst:=run_storeCells_cells (P:=prog) b o (Builtin.zeroCells #[.int .i64 0,.int .i64 0,.bool false] n).toList 0 w (by rw [adt];simpa using hc) (by rw [adt];simpa using hf) (by intro v hv;rcases aoe _ _ _ _ _ hv with rfl|rfl|rfl<;>rfl);simp only [qY]at hst;obtain⟨m,rfl⟩:∃m,n=m+1:=⟨n - 1,by omega⟩
 have hzc:(Value.agg #[.int .i64 0,.int .i64 0,.bool false]).cells=#[.int .i64 0,.int .i64 0,.bool false]:=rfl;simp [Builtin.clear_,Cr underlying208,Tryz.zeroValue215,hzc,hst]
theorem Xp:∀(st:List aU)(n:Nat),(ji st).take (n*3)=ji (st.take n)
 |[],n=>by simp [ji]
 |e::st,0=>by simp [ji]
 |e::st,n+1=>by
  have h:∀l:List aU,ji (e::l)= .int .i64 e.l:: .int .i64 e.o:: .bool e.i::ji l:=fun l=>by simp [ji,aU.cells]
  rw [VJ,h,h,show(n+1)*3=n*3+1+1+1 by omega];simp only [VJ];rw [Xp st n]
theorem bM.cut {w:World}{B s g c n:Nat}{lp:Value}{x:XS}{vs:List Value}(h:bM w B s (.slice (some ⟨g,0,none⟩) x.st.length c) lp x)(hn:n<x.st.length):
  bM ((w.setCells g (n*3) vs).setCell ⟨s,1,none⟩ (.slice (some ⟨g,0,none⟩) n c)) B s (.slice (some ⟨g,0,none⟩) n c) lp {x with st:=x.st.take n}/\bw w ((w.setCells g (n*3) vs).setCell ⟨s,1,none⟩ (.slice (some ⟨g,0,none⟩) n c)) s (.slice (some ⟨g,0,none⟩) x.st.length c) (.slice (some ⟨g,0,none⟩) n c)/\(w.setCells g (n*3) vs).cell? ⟨s,1,none⟩=some (.slice (some ⟨g,0,none⟩) x.st.length c)/\(w.setCells g (n*3) vs).frozen? ⟨s,1,none⟩=false:=by
 have hlt:=bZ h.cell;have gV:g≠s:=by simpa [Value.ownBlock]using h.ne
 obtain⟨xs',h1,h2,h3⟩:=MI vs (n*3) w _ h.row;have iF:(w.setCells g (n*3) vs).heap[s]? =some (.cells #[lp,.slice (some ⟨g,0,none⟩) x.st.length c,.int .i64 x.aH,.int .i64 x.aM,.int .i64 x.valid] 212 (0,0)):=by rw [h2.block s hlt (by simpa using gV.symm)];exact h.cell
 have h4:=MJ h1 n (by omega);rw [TA _ _ (n*3) h3,Xp]at h4;refine⟨⟨by rw [fK iF];rfl,?_,h.low⟩,⟨h2.os,h2.tape,h2.output,by have:=h2.size;simpa using this,?_,.inl rfl⟩,az iF 1,cH iF 1⟩
 .have:=jm h4 (s:=s) (by simpa [Value.ownBlock]using gV) 1 (.slice (some ⟨g,0,none⟩) n c);simpa [jd (fW hn)]using this
 .intro k hk hks hkv;rw [gK]
  .exact h2.block k hk (fun e=>hkv (by rw [e];rfl))
  .exact hks
theorem afX(w:World)(B s:Nat)(v lp:Value)(x:XS)(n:Nat)(h:bM w B s v lp x)(hn:n<x.st.length)(hl:x.st.length<=1000000):Calls prog 264 #[.pointer (some ⟨s,1,none⟩),.int .i64 n] w fun e w'=>e= .returned (.tuple #[])/\∃v',bM w' B s v' lp {x with st:=x.st.take n}/\bw w w' s v v':=by
 obtain⟨g,c,rfl,hcap,sw,hgB⟩:=fS h.row (by omega);have c0:w.cell? ⟨s,1,none⟩=some (.slice (some ⟨g,0,none⟩) x.st.length c):=az h.cell 1;have f0:w.frozen? ⟨s,1,none⟩=false:=cH h.cell 1;have Y0:=alq w 0 g (n*3) (x.st.length - n) (c - n) (by omega) (fun j hj=>by
   rw [dg h.row (n*3+j) (by omega)];have:n*3+j<(ji x.st).length:=by rw [Hp];omega
   rw [aQ this];rfl) (fun j _=>Bu h.row (n*3+j))
 have Zt:n<=c:=by omega
 have hni:((n:Int)<(x.st.length:Int)):=by omega
 obtain⟨hS,hF,c5,f5⟩:=h.cut (vs:=(Builtin.zeroCells #[.int .i64 0,.int .i64 0,.bool false] (x.st.length - n)).toList) hn;have HS:=ah hS;have HF:=ah hF;clear h hS hF;generalize w.setCells g (n*3) (Builtin.zeroCells #[.int .i64 0,.int .i64 0,.bool false] (x.st.length - n)).toList=Wc at*;generalize x.st.length=L at*;go_enter func264,ntmps264;go_wp2;go_end0;exact⟨rfl,_,HS.out,HF.out⟩
theorem bM.below {w w':World}{B s:Nat}{v lp:Value}{x:XS}(h:bM w B s v lp x)(hb:Below w.heap.size w w'):bM w' B s v lp x:=⟨by rw [hb.block s (bZ h.cell)];exact h.cell,eH h.row hb,h.low⟩
theorem bw.pre {w w2 w3:World}{s:Nat}{v v':Value}(hb:Below w.heap.size w w2)(h:bw w2 w3 s v v'):bw w w3 s v v':=
 ⟨h.os.trans hb.os,h.tape.trans hb.tape,h.output.trans hb.output,bU hb.size h.size,fun k hk hks hkv=>by rw [h.block k (ku hk hb.size) hks hkv];exact hb.block k hk,by
  rcases h.own with h|h
  .exact .inl h
  .exact .inr fun k hk=>bU hb.size (h k hk)⟩
theorem bw.post {w w3 w4:World}{s:Nat}{v v':Value}(h:bw w w3 s v v')(hb:Below w.heap.size w3 w4):bw w w4 s v v':=
 ⟨hb.os.trans h.os,hb.tape.trans h.tape,hb.output.trans h.output,bU h.size hb.size,fun k hk hks hkv=>by rw [hb.block k hk];exact h.block k hk hks hkv,h.own⟩
theorem bM.setOther {w:World}{B s g:Nat}{v lp:Value}{x:XS}(h:bM w B s v lp x)(gV:g≠s)(Di:v.ownBlock≠some g)(k:Nat)(u:Value):bM (w.setCell ⟨g,k,none⟩ u) B s v lp x:=
 ⟨by
  rw [gK]
  .exact h.cell
  .exact gV.symm,jm h.row Di k u,h.low⟩
theorem abJ(w:World)(B s:Nat)(v lp:Value)(x:XS)(st:List aU)(e:aU)(h:bM w B s v lp x)(hst:x.st=st++[e])(hl:st.length<=100000):Calls prog 237 #[.pointer (some ⟨s,1,none⟩)] w fun ev w'=>ev= .returned (.tuple #[.agg #[.int .i64 e.l,.int .i64 e.o,.bool e.i],.bool true])/\∃v',bM w' B s v' lp {x with st:=st}/\bw w w' s v v':=by
 have hlen:x.st.length=st.length+1:=by rw [hst];simp
 obtain⟨a,c,rfl⟩:=ey h.row;have hsl:=bZ h.cell;have kf:Hid (∀W,Below w.heap.size w W->Calls prog 263 #[.pointer (some ⟨s,1,none⟩),.int .i64 st.length] W fun ev w'=>ev= .returned (.tuple #[.agg #[.int .i64 e.l,.int .i64 e.o,.bool e.i],.bool true])/\Below W.heap.size W w'):=fun W hb=>
  VY W B s _ lp x st.length e (h.below hb) (by rw [hst];simp)
 have zB:Hid (∀W,Below w.heap.size w W->Calls prog 264 #[.pointer (some ⟨s,1,none⟩),.int .i64 st.length] W fun ev w'=>ev= .returned (.tuple #[])/\∃v',bM w' B s v' lp {x with st:=st}/\bw W w' s (.slice a x.st.length c) v'):=fun W hb=>by
  have:=afX W B s _ lp x st.length (h.below hb) (by omega) (by omega);rw [show x.st.take st.length=st by rw [hst];simp]at this;exact this
 have HC:Hid (∀W,Below w.heap.size w W->W.cell? ⟨s,1,none⟩=some (.slice a (st.length+1) c)):=fun W hb=>by
  rw [<-hlen];exact az (h.below hb).cell 1
 have Gf:Hid (∀k,w.heap.size<=k->(Value.slice a x.st.length c).ownBlock≠some k):=by
  intro k hk e';have:=rJ h.row _ e';omega
 have c1:=HC.out (w.alloc (.cells #[.int .i64 0,.int .i64 0,.bool false] 215)) ((aA _ _).alloc (ay _) _);clear h hst hlen;obtain⟨el,eo,ei⟩:=e;simp only at kf ⊢;generalize st.length=L at*;go_enter func237,ntmps237;go_wp2_with fail;refine(kf.out _ ((aA _ _).alloc (ay _) _)).mono ?_;rintro ev w2 ⟨rfl,hb2⟩;have bq:Below w.heap.size w w2:=((aA _ _).alloc (ay _) _).trans (hb2.mono (by simp));have hz:w.heap.size<w2.heap.size:=by have:=hb2.size;simp at this;omega
 obtain⟨hc2,hf2⟩:=V5 hb2;have k0:=(hc2 w.heap.size 0 (by simp)).trans (show _=some (.int .i64 0)by simp);have k1:=(hc2 w.heap.size 1 (by simp)).trans (show _=some (.int .i64 0)by simp);have k2:=(hc2 w.heap.size 2 (by simp)).trans (show _=some (.bool false)by simp);have f0:=(hf2 w.heap.size 0 (by simp)).trans (show _=false by simp);have f1:=(hf2 w.heap.size 1 (by simp)).trans (show _=false by simp);have f2:=(hf2 w.heap.size 2 (by simp)).trans (show _=false by simp);have c2:=HC.out (w2.alloc (.cells #[.int .i64 el,.int .i64 eo,.bool ei] 215)) (bq.alloc bq.size _);have aJ:=ah bq;clear hc2 hf2 hb2 c1 kf bq;go_wp2_with fail;refine(zB.out _ (aJ.out.alloc aJ.out.size _)).mono ?_;rintro ev w3 ⟨rfl,v',hS,hF⟩;have hb3:∀g k:Nat,g<w2.heap.size+1->w.heap.size<=g->w3.cell? ⟨g,k,none⟩=(w2.alloc (.cells #[.int .i64 el,.int .i64 eo,.bool ei] 215)).cell? ⟨g,k,none⟩/\w3.frozen? ⟨g,k,none⟩=(w2.alloc (.cells #[.int .i64 el,.int .i64 eo,.bool ei] 215)).frozen? ⟨g,k,none⟩:=fun g k hg sw=>by
  have:=hF.block g (by simpa using hg) (by omega) (Gf.out g sw);exact⟨by simp only [World.cell?,this],by simp only [World.frozen?,this]⟩
 have q0:w3.cell? ⟨w2.heap.size,0,none⟩=some (.int .i64 el):=(hb3 _ 0 (by omega) (by omega)).1.trans (by simp);have q1:w3.cell? ⟨w2.heap.size,1,none⟩=some (.int .i64 eo):=(hb3 _ 1 (by omega) (by omega)).1.trans (by simp);have q2:w3.cell? ⟨w2.heap.size,2,none⟩=some (.bool ei):=(hb3 _ 2 (by omega) (by omega)).1.trans (by simp);have r0:w3.cell? ⟨w.heap.size,0,none⟩=some (.int .i64 0):=((hb3 _ 0 (by omega) (by omega)).1.trans (jQ _ _ ⟨w.heap.size,0,none⟩ hz)).trans k0;have r1:w3.cell? ⟨w.heap.size,1,none⟩=some (.int .i64 0):=((hb3 _ 1 (by omega) (by omega)).1.trans (jQ _ _ ⟨w.heap.size,1,none⟩ hz)).trans k1;have r2:w3.cell? ⟨w.heap.size,2,none⟩=some (.bool false):=((hb3 _ 2 (by omega) (by omega)).1.trans (jQ _ _ ⟨w.heap.size,2,none⟩ hz)).trans k2;have hfz:∀k,w3.frozen? ⟨w.heap.size,k,none⟩=w2.frozen? ⟨w.heap.size,k,none⟩:=fun k=>(hb3 _ k (by omega) (by omega)).2.trans (((aA w2.heap.size w2).alloc (ay _) _).frozen (p:=⟨w.heap.size,k,none⟩) hz)
 have g0:=(hfz 0).trans f0;have g1:=(hfz 1).trans f1;have g2:=(hfz 2).trans f2;have I7:v'.ownBlock≠some w.heap.size:=by
  rcases hF.own with h|h
  .rw [h];exact Gf.out _ (ay _)
  .intro e;have:=h _ e;simp at this;omega
 have Mn:w.heap.size≠s:=by omega
 have aoG:w.heap.size≠w2.heap.size:=by omega
 have HS:Hid _:=((hS.setOther Mn I7 0 (.int .i64 el)).setOther Mn I7 1 (.int .i64 eo)).setOther Mn I7 2 (.bool ei);have HF:Hid _:=(bw.pre (aJ.out.alloc aJ.out.size _) hF).post ((((aA w.heap.size w3).setCell (p:=⟨w.heap.size,0,none⟩) (ay _) (.int .i64 el)).setCell (p:=⟨w.heap.size,1,none⟩) (ay _) (.int .i64 eo)).setCell (p:=⟨w.heap.size,2,none⟩) (ay _) (.bool ei));clear hS hF hfz hb3 k0 k1 k2 f0 f1 f2 c2 HC zB aJ;go_wp2;refine cG (v:= .tuple #[.agg #[.int .i64 el,.int .i64 eo,.bool ei],.bool true]) (by simp [results,results237,Tryz.isAgg215,Tryz.sizeOf215,go_sem,r0,r1,r2]) rfl ⟨rfl,_,HS.out,HF.out⟩
theorem Tryz.ae5(l o:Int)(i:Bool)(w:World):(Instr.field 215 (.agg #[.int .i64 l,.int .i64 o,.bool i]) 0).run prog w= .ok (.int .i64 l) w:=by kernel_rfl
theorem Tryz.ae4(l o:Int)(i:Bool)(w:World):(Instr.field 215 (.agg #[.int .i64 l,.int .i64 o,.bool i]) 2).run prog w= .ok (.bool i) w:=by kernel_rfl
theorem rC(w:World)(B s:Nat)(v lp:Value)(x:XS)(n:Int)(h:bM w B s v lp x):Calls prog 240 #[.pointer (some ⟨s,0,none⟩),.int .i64 n] w fun e w'=>e= .returned (.bool (jx x n))/\w'=w:=by
 have c2:w.cell? ⟨s,2,none⟩=some (.int .i64 x.aH):=az h.cell 2;have c3:w.cell? ⟨s,3,none⟩=some (.int .i64 x.aM):=az h.cell 3;unfold jx;clear h;generalize x.aH=a at*;generalize x.aM=b at*;by_cases h1:n<=125
 .by_cases h2:a=0
  .by_cases h3:b=0
   .subst h2 h3;go_enter func240,ntmps240;go_wp2;go_ret;simp [h1]
   .have h3':(b==0)=false:=by simpa using h3
    subst h2;go_enter func240,ntmps240;go_wp2;go_ret;simp [h3]
  .have h2':(a==0)=false:=by simpa using h2
   go_enter func240,ntmps240;go_wp2;go_ret;simp [h2]
 .go_enter func240,ntmps240;go_wp2;go_ret;simp;omega
theorem Ju(w:World)(B s:Nat)(v lp:Value)(x:XS)(bJ:Int)(h:bM w B s v lp x)(hne:x.st≠[])(hn:x.st.length<=100000)(hl:0<=(aR x.st).l)(hl':(aR x.st).l<=1000):Calls prog 239 #[.pointer (some ⟨s,0,none⟩),.int .i64 bJ] w fun ev w'=>ev= .returned (.int .i64 (fG (aR x.st).l bJ))/\Below w.heap.size w w':=by
 have he:x.st[x.st.length - 1]? =some (aR x.st):=by
  have h1:x.st.length - 1<x.st.length:=by have:=jc.2 hne;omega
  unfold aR;rw [pW,Ek,aQ h1];rfl
 have HT:Hid (Calls prog 238 #[.pointer (some ⟨s,1,none⟩)] w fun ev w'=>ev= .returned (.agg #[.int .i64 (aR x.st).l,.int .i64 (aR x.st).o,.bool (aR x.st).i])/\Below w.heap.size w w'):=TF w B s v lp x _ h he hn;have fL:=Tryz.ae5;clear he h hne hn;generalize aR x.st=t at*;obtain⟨l,o,i⟩:=t;simp only at HT hl hl' ⊢;unfold fG;by_cases hq:(l+1)%2=bJ
 .rw [aj hq];have hq':((l+1)%2 !=bJ)=false:=by simp [hq]
  have HQ:=ah hq;clear hq;go_enter func239,ntmps239;go_wp2_with fail;refine HT.out.mono ?_;rintro ev w2 ⟨rfl,hb⟩;have HB:=ah hb;clear hb;go_wp2_with fail;refine(AW (l+1) _ (by omega)).mono ?_;rintro ev w3 ⟨rfl,rfl⟩;go_wp2;go_ret;exact⟨rfl,HB.out⟩
 .rw [ai hq];have hq':((l+1)%2 !=bJ)=true:=by simp [hq]
  have HQ:=ah hq;clear hq;go_enter func239,ntmps239;go_wp2_with fail;refine HT.out.mono ?_;rintro ev w2 ⟨rfl,hb⟩;have HB:=ah hb;clear hb;go_wp2_with fail;refine(AW (l+1) _ (by omega)).mono ?_;rintro ev w3 ⟨rfl,rfl⟩;go_wp2;go_ret;exact⟨bI (by omega),HB.out⟩
theorem bM.JS {w:World}{B s:Nat}{v lp:Value}{x:XS}(h:bM w B s v lp x)(e:Int):bM (w.setCell ⟨s,2,none⟩ (.int .i64 e)) B s v lp {x with aH:=e}:=⟨by rw [fK h.cell];rfl,jm h.row h.ne 2 _,h.low⟩
theorem bM.zm {w:World}{B s:Nat}{v lp:Value}{x:XS}(h:bM w B s v lp x)(e:Int):bM (w.setCell ⟨s,3,none⟩ (.int .i64 e)) B s v lp {x with aM:=e}:=⟨by rw [fK h.cell];rfl,jm h.row h.ne 3 _,h.low⟩
theorem bM.JT {w:World}{B s:Nat}{v lp:Value}{x:XS}(h:bM w B s v lp x)(e:Int):bM (w.setCell ⟨s,4,none⟩ (.int .i64 e)) B s v lp {x with valid:=e}:=⟨by rw [fK h.cell];rfl,jm h.row h.ne 4 _,h.low⟩
theorem bw.set(w:World)(s:Nat)(v:Value)(k:Nat)(u:Value):bw w (w.setCell ⟨s,k,none⟩ u) s v v:=⟨rfl,rfl,rfl,by simp,fun k' _ hks _=>by rw [gK];exact hks,.inl rfl⟩
theorem bw.trans {w w2 w3:World}{s:Nat}{v v2 v3:Value}(h:bw w w2 s v v2)(h2:bw w2 w3 s v2 v3):bw w w3 s v v3:=
 ⟨h2.os.trans h.os,h2.tape.trans h.tape,h2.output.trans h.output,bU h.size h2.size,fun k hk hks hkv=>by
  rw [h2.block k (ku hk h.size) hks,h.block k hk hks hkv];rcases h.own with e|e
  .rw [e];exact hkv
  .intro e';have:=e k e';omega,by
  rcases h2.own with e2|e2
  .rw [e2];exact h.own
  .exact .inr fun k hk=>bU h.size (e2 k hk)⟩
theorem acO {st:List aU}(hne:st≠[]):st[st.length - 1]? =some (aR st):=by
 have h1:st.length - 1<st.length:=by have:=jc.2 hne;omega
 unfold aR;rw [pW,Ek,aQ h1];rfl
theorem anp {st:List aU}(hne:st≠[]):st=st.dropLast++[aR st]:=by
 have:=CS hne;rw [aR,pW,El hne];exact this.symm
theorem aiw(w:World)(B s:Nat)(v lp:Value)(x:XS)(bJ:Int)(h:bM w B s v lp x)(hne:x.st≠[])(hn:x.st.length<=1000)(hl:0<=(aR x.st).l)(hl':(aR x.st).l<=1000)(hi:0<=x.aH/\x.aH<=100000)(hv:0<=x.valid/\x.valid<=100000):
  Calls prog 204 #[.pointer (some ⟨s,0,none⟩),.int .i64 bJ] w fun ev w'=>ev= .returned (.tuple #[])/\∃v',bM w' B s v' lp (iO x bJ)/\bw w w' s v v':=by
 have HN:Hid (Calls prog 239 #[.pointer (some ⟨s,0,none⟩),.int .i64 bJ] w fun ev w'=>ev= .returned (.int .i64 (fG (aR x.st).l bJ))/\Below w.heap.size w w'):=Ju w B s v lp x bJ h hne (by omega) hl hl';have HW:Hid (∀W,Below w.heap.size w W->bM W B s v lp x):=fun W hb=>h.below hb
 have HL:=ah hn;unfold iO;generalize fG (aR x.st).l bJ=n at*;simp only;clear h hne hn hl hl';obtain⟨st,aH,aM,valid⟩:=x;simp only at HN HW HL hi hv ⊢;by_cases hf:jx ⟨st,aH,aM,valid⟩ n=true
 .rw [aj hf];have HF:=ah hf;clear hf;go_enter func204,ntmps204;go_wp2_with fail;refine HN.out.mono ?_;rintro ev w2 ⟨rfl,hb⟩;have HB:=ah hb;clear hb;go_wp2_with fail;refine(rC w2 B s v lp _ n (HW.out w2 HB.out)).mono ?_;rintro ev wx ⟨rfl,hx⟩;have hx':=hx.symm;subst hx';rw [HF.out];have c4:w2.cell? ⟨s,4,none⟩=some (.int .i64 valid):=az (HW.out _ HB.out).cell 4;have f4:w2.frozen? ⟨s,4,none⟩=false:=cH (HW.out _ HB.out).cell 4;go_wp2_with fail;refine(DG _ B s v lp _ n (-1) true ((HW.out _ HB.out).JT (valid+1)) (by have:=HL.out;simp only;omega)).mono ?_;rintro ev w3 ⟨rfl,v',hS,hF⟩;have HS:=ah hS;have HG:Hid _:=bw.pre HB.out ((bw.set w2 s v 4 (.int .i64 (valid+1))).trans hF);clear hS hF;go_wp2;go_end0;exact⟨rfl,_,HS.out,HG.out⟩
 .rw [ai hf];have hf':jx ⟨st,aH,aM,valid⟩ n=false:=by simpa using hf
  have HF:=ah hf';clear hf hf';go_enter func204,ntmps204;go_wp2_with fail;refine HN.out.mono ?_;rintro ev w2 ⟨rfl,hb⟩;have HB:=ah hb;clear hb;go_wp2_with fail;refine(rC w2 B s v lp _ n (HW.out w2 HB.out)).mono ?_;rintro ev wx ⟨rfl,hx⟩;have hx':=hx.symm;subst hx';rw [HF.out];have c4:w2.cell? ⟨s,2,none⟩=some (.int .i64 aH):=az (HW.out _ HB.out).cell 2;have f4:w2.frozen? ⟨s,2,none⟩=false:=cH (HW.out _ HB.out).cell 2;go_wp2;exact cG (zj rfl _ _ _) rfl ⟨rfl,_,(HW.out _ HB.out).JS _,bw.pre HB.out (bw.set _ s v 2 _)⟩
theorem akD(w:World)(B s:Nat)(v lp:Value)(x:XS)(h:bM w B s v lp x)(hne:x.st≠[])(hn:x.st.length<=1000)(he:x.aM<=100000):
  Calls prog 206 #[.pointer (some ⟨s,0,none⟩)] w fun ev w'=>ev= .returned (.tuple #[])/\∃v',bM w' B s v' lp (jA x)/\bw w w' s v v':=by
 have c2:w.cell? ⟨s,2,none⟩=some (.int .i64 x.aH):=az h.cell 2;have c3:w.cell? ⟨s,3,none⟩=some (.int .i64 x.aM):=az h.cell 3;have f3:w.frozen? ⟨s,3,none⟩=false:=cH h.cell 3;have HH:=ah h;unfold jA;by_cases h1:0<x.aH
 .rw [aj h1];clear h he;go_enter func206,ntmps206;go_wp2;go_end0;exact⟨rfl,_,HH.out,bw.refl _ _ _⟩
 .rw [ai h1];by_cases h2:0<x.aM
  .rw [aj h2];clear h;go_enter func206,ntmps206;go_wp2;go_end0;exact⟨rfl,_,HH.out.zm _,bw.set _ _ _ _ _⟩
  .rw [ai h2];have HT:Hid (Calls prog 238 #[.pointer (some ⟨s,1,none⟩)] w fun ev w'=>ev= .returned (.agg #[.int .i64 (aR x.st).l,.int .i64 (aR x.st).o,.bool (aR x.st).i])/\Below w.heap.size w w'):=TF w B s v lp x _ h (acO hne) (by omega);have fI:=Tryz.ae4;have HP:Hid (∀W,Below w.heap.size w W->Calls prog 237 #[.pointer (some ⟨s,1,none⟩)] W fun ev w'=>ev= .returned (.tuple #[.agg #[.int .i64 (aR x.st).l,.int .i64 (aR x.st).o,.bool (aR x.st).i],.bool true])/\∃v',bM w' B s v' lp {x with st:=x.st.dropLast}/\bw W w' s v v'):=fun W hb=>abJ W B s v lp x x.st.dropLast (aR x.st) (h.below hb) (anp hne) (by simp;omega)
   have eP:Hid (∀W,Below w.heap.size w W->Calls prog 241 #[.pointer (some ⟨s,1,none⟩)] W fun e w'=>e= .returned (.int .i64 x.st.length)/\w'=W):=fun W hb=>aiR W B s v lp x (h.below hb)
   clear h;by_cases h3:(aR x.st).i=true
   .rw [ai (by simp [h3])];go_enter func206,ntmps206;go_wp2_with fail;refine HT.out.mono ?_;rintro ev w2 ⟨rfl,hb⟩;have HB:=ah hb;clear hb;rw [h3];go_wp2;go_end0;exact⟨rfl,_,HH.out.below HB.out,bw.pre HB.out (bw.refl _ _ _)⟩
   .have h3':(aR x.st).i=false:=by simpa using h3
    by_cases h4:1<x.st.length
    .rw [aj ⟨h3',h4⟩];have h4':(2:Int)<=x.st.length:=by omega
     generalize x.st.length=L at*;go_enter func206,ntmps206;go_wp2_with fail;refine HT.out.mono ?_;rintro ev w2 ⟨rfl,hb⟩;have HB:=ah hb;clear hb;rw [h3'];go_wp2_with fail;refine(eP.out _ HB.out).mono ?_;rintro ev wx ⟨rfl,hx⟩;have hx':=hx.symm;subst hx';go_wp2_with fail;refine(HP.out _ HB.out).mono ?_;rintro ev w3 ⟨rfl,v',hS,hF⟩;have HS:=ah hS;have HG:Hid _:=bw.pre HB.out hF;clear hS hF;go_wp2;go_end0;exact⟨rfl,_,HS.out,HG.out⟩
    .rw [ai (fun hh=>h4 hh.2)];have h4':¬(2:Int)<=x.st.length:=by omega
     generalize x.st.length=L at*;go_enter func206,ntmps206;go_wp2_with fail;refine HT.out.mono ?_;rintro ev w2 ⟨rfl,hb⟩;have HB:=ah hb;clear hb;rw [h3'];go_wp2_with fail;refine(eP.out _ HB.out).mono ?_;rintro ev wx ⟨rfl,hx⟩;have hx':=hx.symm;subst hx';go_wp2;go_end0;exact⟨rfl,_,HH.out.below HB.out,bw.pre HB.out (bw.refl _ _ _)⟩
theorem ags(w:World)(B s:Nat)(v lp:Value)(x:XS)(h:bM w B s v lp x)(hi:0<=x.aH/\x.aH<=100000)(h0:0<x.aH∨x.valid=0):
  Calls prog 200 #[.pointer (some ⟨s,0,none⟩)] w fun ev w'=>ev= .returned (.tuple #[])/\∃v',bM w' B s v' lp (iD x)/\bw w w' s v v':=by
 have c2:w.cell? ⟨s,2,none⟩=some (.int .i64 x.aH):=az h.cell 2;have c4:w.cell? ⟨s,4,none⟩=some (.int .i64 x.valid):=az h.cell 4;have f2:w.frozen? ⟨s,2,none⟩=false:=cH h.cell 2;have HH:=ah h;unfold iD;clear h;by_cases h1:0<x.aH
 .rw [aj h1];clear h0;go_enter func200,ntmps200;go_wp2;exact cG (zj rfl _ _ _) rfl ⟨rfl,_,HH.out.JS _,bw.set _ _ _ _ _⟩
 .rw [ai h1];have h2:x.valid=0:=by omega
  rw [aj h2];rw [h2]at c4;clear h0;go_enter func200,ntmps200;go_wp2;exact cG (zj rfl _ _ _) rfl ⟨rfl,_,HH.out,bw.refl _ _ _⟩
theorem agr(w:World)(B s:Nat)(v lp:Value)(x:XS)(h:bM w B s v lp x)(hn:x.st.length<=1000)(h0:x.aH=0)(hv:1<=x.valid/\x.valid<=100000)(hex:∃e∈x.st,e.i=true):
  Calls prog 200 #[.pointer (some ⟨s,0,none⟩)] w fun ev w'=>ev= .returned (.tuple #[])/\∃v',bM w' B s v' lp {x with aM:=0,st:=gJ x.st,valid:=x.valid - 1}/\bw w w' s v v':=by
 obtain⟨st,aH,aM,valid⟩:=x;simp only at hn h0 hv hex ⊢;subst h0;have c2:w.cell? ⟨s,2,none⟩=some (.int .i64 0):=az h.cell 2;have c3:w.cell? ⟨s,3,none⟩=some (.int .i64 aM):=az h.cell 3;have f3:w.frozen? ⟨s,3,none⟩=false:=cH h.cell 3;have c4:w.cell? ⟨s,4,none⟩=some (.int .i64 valid):=az h.cell 4;have f4:w.frozen? ⟨s,4,none⟩=false:=cH h.cell 4;have hv':(valid==0)=false:=by simp;omega
 have bD:Hid (bM ((w.setCell ⟨s,4,none⟩ (.int .i64 (valid - 1))).setCell ⟨s,3,none⟩ (.int .i64 0)) B s v lp ⟨st,0,0,valid - 1⟩):=(h.JT (valid - 1)).zm 0;have kH:Hid (bw w ((w.setCell ⟨s,4,none⟩ (.int .i64 (valid - 1))).setCell ⟨s,3,none⟩ (.int .i64 0)) s v v):=(bw.set _ _ _ _ _).trans (bw.set _ _ _ _ _);have HX:=ah hex;clear h hex;go_enter func200,ntmps200;go_wp2;clear c2 c3 c4 f3 f4;go_loopg [2,3,31,32,33,34,35,36,37,38,39,40,41,42,43] (st.length+1) (fun gk _ _ _ _ _ _ _ _ _ _ _ _ _ _ _ wr=>∃(v':Value)(st':List aU),bM wr B s v' lp ⟨st',0,0,valid - 1⟩/\bw w wr s v v'/\gJ st'=gJ st/\(∃e∈st',e.i=true)/\st'.length<gk/\st'.length<=1000);case atStart=>exact⟨v,st,bD.out,kH.out,rfl,HX.out,by omega,hn⟩
 case round=>
  obtain⟨v',st',hS,hF,hp,hex,hg,hl⟩:=hrel;clear bD kH HX;have hne:st'≠[]:=by rintro rfl;simp at hex
  obtain⟨st0,e,rfl⟩:∃st0 e,st'=st0++[e]:=⟨st'.dropLast,st'.getLast hne,(CS hne).symm⟩
  simp only [bP,eW,kq]at hg hl;have HT:Hid (∀W,Below wr.heap.size wr W->Calls prog 237 #[.pointer (some ⟨s,1,none⟩)] W fun ev w'=>ev= .returned (.tuple #[.agg #[.int .i64 e.l,.int .i64 e.o,.bool e.i],.bool true])/\∃v2,bM w' B s v2 lp ⟨st0,0,0,valid - 1⟩/\bw W w' s v' v2):=fun W hb=>abJ W B s v' lp ⟨st0++[e],0,0,valid - 1⟩ st0 e (hS.below hb) rfl (by omega)
  have HF:=ah hF;have HP:=ah hp;have HX:=ah hex;have cE:=ah (bZ hS.cell);clear hS hF hp hex hne;obtain⟨el,eo,ei⟩:=e;simp only at HT;cases ei
  .have wJ:Hid (gJ st0=gJ st):=by have:=HP.out;rw [MN _ _ rfl]at this;exact this
   have zT:Hid (∃e'∈st0,e'.i=true):=by
    obtain⟨e',hm,hi⟩:=HX.out;rcases kK.1 hm with hm|hm
    .exact⟨e',hm,hi⟩
    .rw [pY.1 hm]at hi;cases hi
   go_wp2_with fail;refine(HT.out _ (aA _ _)).mono ?_;rintro ev w2 ⟨rfl,v2,gB,hF2⟩;have cW:=ah gB;have dX:=ah (HF.out.trans hF2);clear gB hF2 HT;go_wp2;go_roundg (st0.length+1);case measure=>omega
   case rel=>exact⟨_,st0,cW.out.below ((aA _ _).alloc (ay _) _),dX.out.post ((aA _ _).alloc dX.out.size _),wJ.out,zT.out,by omega,by omega⟩
  .have wJ:Hid (st0=gJ st):=by have:=HP.out;rw [MM _ _ rfl]at this;exact this
   go_wp2_with fail;refine(HT.out _ (aA _ _)).mono ?_;rintro ev w2 ⟨rfl,v2,gB,hF2⟩;have cW:Hid (bM w2 B s v2 lp ⟨gJ st,0,0,valid - 1⟩):=by have:=gB;rw [wJ.out]at this;exact this
   have dX:=ah (HF.out.trans hF2);clear gB hF2 HT;go_wp2;exact cG (zj rfl _ _ _) rfl ⟨rfl,_,cW.out.below ((aA _ _).alloc (ay _) _),dX.out.post ((aA _ _).alloc dX.out.size _)⟩
def pg(x:XS)(bJ o:Int):XS:=
 if jx x (fG (aR x.st).l bJ)=true then{x with st:=x.st++[⟨fG (aR x.st).l bJ,o,false⟩]}
 else if x.aH=0 then{x with aM:=x.aM+1}else x
theorem agk(x:XS):iZ x 13=pg x 0 (-1):=by simp [iZ,pg]
theorem agl(x:XS):iZ x 14=pg x 1 (-1):=by simp [iZ,pg]
theorem agm(x:XS):iZ x 15=pg x 0 0:=by simp [iZ,pg]
theorem agn(x:XS):iZ x 16=pg x 1 1:=by simp [iZ,pg]
theorem vk {w w2:World}{t:TypeId}(hb:Below (w.alloc (.cells #[.int .i64 0,.int .i64 0,.bool false] t)).heap.size (w.alloc (.cells #[.int .i64 0,.int .i64 0,.bool false] t)) w2):
  Below w.heap.size w w2/\w2.cell? ⟨w.heap.size,0,none⟩=some (.int .i64 0)/\w2.cell? ⟨w.heap.size,1,none⟩=some (.int .i64 0)/\w2.cell? ⟨w.heap.size,2,none⟩=some (.bool false)
   /\w2.frozen? ⟨w.heap.size,0,none⟩=false/\w2.frozen? ⟨w.heap.size,1,none⟩=false/\w2.frozen? ⟨w.heap.size,2,none⟩=false:=by
 refine⟨((aA _ _).alloc (ay _) _).trans (hb.mono (by simp)),?_,?_,?_,?_,?_,?_⟩;all_goals first|rw [hb.cell (by simp)];go_simp|rw [hb.frozen (by simp)];go_simp
theorem vh {w w2:World}(h:Below w.heap.size w w2)(a b c:Value):
  Hid (Below w.heap.size w (((w2.setCell ⟨w.heap.size,0,none⟩ a).setCell ⟨w.heap.size,1,none⟩ b).setCell ⟨w.heap.size,2,none⟩ c)):=
 ((h.setCell (ay _) _).setCell (ay _) _).setCell (ay _) _
theorem age(w:World)(B s:Nat)(v lp:Value)(x:XS)(h:bM w B s v lp x)(hne:x.st≠[])(hn:x.st.length<=1000)(hl:0<=(aR x.st).l)(hl':(aR x.st).l<=1000)(he:0<=x.aM/\x.aM<=100000):
  Calls prog 203 #[.pointer (some ⟨s,0,none⟩),.int .i64 13] w fun ev w'=>ev= .returned (.tuple #[])/\∃v',bM w' B s v' lp (pg x 0 (-1))/\bw w w' s v v':=by
 have HN:Hid (∀W,Below w.heap.size w W->Calls prog 239 #[.pointer (some ⟨s,0,none⟩),.int .i64 0] W fun ev w'=>ev= .returned (.int .i64 (fG (aR x.st).l 0))/\Below W.heap.size W w'):=fun W hb=>Ju W B s v lp x 0 (h.below hb) hne (by omega) hl hl'
 have HW:Hid (∀W,Below w.heap.size w W->bM W B s v lp x):=fun W hb=>h.below hb
 have HL:=ah hn;have HZ:=ah (bZ h.cell);unfold pg;generalize fG (aR x.st).l 0=n at*;clear h hne hn hl hl';obtain⟨st,aH,aM,valid⟩:=x;simp only at HN HW HL he ⊢;have hb0:Below w.heap.size w (w.alloc (.cells #[.int .i64 0,.int .i64 0,.bool false] 215)):=(aA _ _).alloc (ay _) _;by_cases hf:jx ⟨st,aH,aM,valid⟩ n=true
 .rw [aj hf];have HF:=ah hf;clear hf;go_enter func203,ntmps203;go_wp2_with fail;refine(HN.out _ hb0).mono ?_;rintro ev w2 ⟨rfl,hb⟩;obtain⟨bq,j0,j1,j2,g0,g1,g2⟩:=vk hb;have aI:=vh bq (.int .i64 n) (.int .i64 (-1)) (.bool false);clear hb bq;go_wp2_with fail;refine(rC _ B s v lp _ n (HW.out _ aI.out)).mono ?_;rintro ev wx ⟨rfl,hx⟩;subst hx;rw [HF.out];go_wp2_with fail
  go_region_with (go_at_call 142;refine(DG _ B s v lp _ n (-1) false (HW.out _ aI.out.drew) (by have:=HL.out;simp only;omega)).mono ?_;rintro ev w3 ⟨rfl,v',hS,hF⟩)
  all_goals
   have HS:=ah hS;have HG:Hid _:=bw.pre aI.out.drew hF;clear hS hF;go_wp2;go_end0;exact⟨rfl,_,HS.out,HG.out⟩
 .rw [ai hf];have hf':jx ⟨st,aH,aM,valid⟩ n=false:=by simpa using hf
  have HF:=ah hf';clear hf hf';by_cases hi:aH=0
  .rw [aj hi];subst hi;go_enter func203,ntmps203;go_wp2_with fail;refine(HN.out _ hb0).mono ?_;rintro ev w2 ⟨rfl,hb⟩;obtain⟨bq,j0,j1,j2,g0,g1,g2⟩:=vk hb;have aI:=vh bq (.int .i64 n) (.int .i64 (-1)) (.bool false);clear hb bq;go_wp2_with fail;refine(rC _ B s v lp _ n (HW.out _ aI.out)).mono ?_;rintro ev wx ⟨rfl,hx⟩;subst hx;rw [HF.out];clear j0 j1 j2 g0 g1 g2;generalize((w2.setCell ⟨w.heap.size,0,none⟩ (.int .i64 n)).setCell ⟨w.heap.size,1,none⟩ (.int .i64 (-1))).setCell ⟨w.heap.size,2,none⟩ (.bool false)=W3 at*;have c2:W3.cell? ⟨s,2,none⟩=some (.int .i64 0):=az (HW.out _ aI.out).cell 2;have c3:W3.cell? ⟨s,3,none⟩=some (.int .i64 aM):=az (HW.out _ aI.out).cell 3;have f3:W3.frozen? ⟨s,3,none⟩=false:=cH (HW.out _ aI.out).cell 3;go_wp2;go_end0;exact⟨rfl,_,(HW.out _ aI.out).zm _,bw.pre aI.out (bw.set _ s v 3 _)⟩
  .rw [ai hi];have hi':(aH==0)=false:=by simpa using hi
   go_enter func203,ntmps203;go_wp2_with fail;refine(HN.out _ hb0).mono ?_;rintro ev w2 ⟨rfl,hb⟩;obtain⟨bq,j0,j1,j2,g0,g1,g2⟩:=vk hb;have aI:=vh bq (.int .i64 n) (.int .i64 (-1)) (.bool false);clear hb bq;go_wp2_with fail;refine(rC _ B s v lp _ n (HW.out _ aI.out)).mono ?_;rintro ev wx ⟨rfl,hx⟩;subst hx;rw [HF.out];clear j0 j1 j2 g0 g1 g2;generalize((w2.setCell ⟨w.heap.size,0,none⟩ (.int .i64 n)).setCell ⟨w.heap.size,1,none⟩ (.int .i64 (-1))).setCell ⟨w.heap.size,2,none⟩ (.bool false)=W3 at*;have c2:W3.cell? ⟨s,2,none⟩=some (.int .i64 aH):=az (HW.out _ aI.out).cell 2;go_wp2;go_end0;exact⟨rfl,_,HW.out _ aI.out,bw.pre aI.out (bw.refl _ s v)⟩
theorem agf(w:World)(B s:Nat)(v lp:Value)(x:XS)(h:bM w B s v lp x)(hne:x.st≠[])(hn:x.st.length<=1000)(hl:0<=(aR x.st).l)(hl':(aR x.st).l<=1000)(he:0<=x.aM/\x.aM<=100000):
  Calls prog 203 #[.pointer (some ⟨s,0,none⟩),.int .i64 14] w fun ev w'=>ev= .returned (.tuple #[])/\∃v',bM w' B s v' lp (pg x 1 (-1))/\bw w w' s v v':=by
 have HN:Hid (∀W,Below w.heap.size w W->Calls prog 239 #[.pointer (some ⟨s,0,none⟩),.int .i64 1] W fun ev w'=>ev= .returned (.int .i64 (fG (aR x.st).l 1))/\Below W.heap.size W w'):=fun W hb=>Ju W B s v lp x 1 (h.below hb) hne (by omega) hl hl'
 have HW:Hid (∀W,Below w.heap.size w W->bM W B s v lp x):=fun W hb=>h.below hb
 have HL:=ah hn;have HZ:=ah (bZ h.cell);unfold pg;generalize fG (aR x.st).l 1=n at*;clear h hne hn hl hl';obtain⟨st,aH,aM,valid⟩:=x;simp only at HN HW HL he ⊢;have hb0:Below w.heap.size w (w.alloc (.cells #[.int .i64 0,.int .i64 0,.bool false] 215)):=(aA _ _).alloc (ay _) _;by_cases hf:jx ⟨st,aH,aM,valid⟩ n=true
 .rw [aj hf];have HF:=ah hf;clear hf;go_enter func203,ntmps203;go_wp2_with fail;refine(HN.out _ hb0).mono ?_;rintro ev w2 ⟨rfl,hb⟩;obtain⟨bq,j0,j1,j2,g0,g1,g2⟩:=vk hb;have aI:=vh bq (.int .i64 n) (.int .i64 (-1)) (.bool false);clear hb bq;go_wp2_with fail;refine(rC _ B s v lp _ n (HW.out _ aI.out)).mono ?_;rintro ev wx ⟨rfl,hx⟩;subst hx;rw [HF.out];go_wp2_with fail
  go_region_with (go_at_call 142;refine(DG _ B s v lp _ n (-1) false (HW.out _ aI.out.drew) (by have:=HL.out;simp only;omega)).mono ?_;rintro ev w3 ⟨rfl,v',hS,hF⟩)
  all_goals
   have HS:=ah hS;have HG:Hid _:=bw.pre aI.out.drew hF;clear hS hF;go_wp2;go_end0;exact⟨rfl,_,HS.out,HG.out⟩
 .rw [ai hf];have hf':jx ⟨st,aH,aM,valid⟩ n=false:=by simpa using hf
  have HF:=ah hf';clear hf hf';by_cases hi:aH=0
  .rw [aj hi];subst hi;go_enter func203,ntmps203;go_wp2_with fail;refine(HN.out _ hb0).mono ?_;rintro ev w2 ⟨rfl,hb⟩;obtain⟨bq,j0,j1,j2,g0,g1,g2⟩:=vk hb;have aI:=vh bq (.int .i64 n) (.int .i64 (-1)) (.bool false);clear hb bq;go_wp2_with fail;refine(rC _ B s v lp _ n (HW.out _ aI.out)).mono ?_;rintro ev wx ⟨rfl,hx⟩;subst hx;rw [HF.out];clear j0 j1 j2 g0 g1 g2;generalize((w2.setCell ⟨w.heap.size,0,none⟩ (.int .i64 n)).setCell ⟨w.heap.size,1,none⟩ (.int .i64 (-1))).setCell ⟨w.heap.size,2,none⟩ (.bool false)=W3 at*;have c2:W3.cell? ⟨s,2,none⟩=some (.int .i64 0):=az (HW.out _ aI.out).cell 2;have c3:W3.cell? ⟨s,3,none⟩=some (.int .i64 aM):=az (HW.out _ aI.out).cell 3;have f3:W3.frozen? ⟨s,3,none⟩=false:=cH (HW.out _ aI.out).cell 3;go_wp2;go_end0;exact⟨rfl,_,(HW.out _ aI.out).zm _,bw.pre aI.out (bw.set _ s v 3 _)⟩
  .rw [ai hi];have hi':(aH==0)=false:=by simpa using hi
   go_enter func203,ntmps203;go_wp2_with fail;refine(HN.out _ hb0).mono ?_;rintro ev w2 ⟨rfl,hb⟩;obtain⟨bq,j0,j1,j2,g0,g1,g2⟩:=vk hb;have aI:=vh bq (.int .i64 n) (.int .i64 (-1)) (.bool false);clear hb bq;go_wp2_with fail;refine(rC _ B s v lp _ n (HW.out _ aI.out)).mono ?_;rintro ev wx ⟨rfl,hx⟩;subst hx;rw [HF.out];clear j0 j1 j2 g0 g1 g2;generalize((w2.setCell ⟨w.heap.size,0,none⟩ (.int .i64 n)).setCell ⟨w.heap.size,1,none⟩ (.int .i64 (-1))).setCell ⟨w.heap.size,2,none⟩ (.bool false)=W3 at*;have c2:W3.cell? ⟨s,2,none⟩=some (.int .i64 aH):=az (HW.out _ aI.out).cell 2;go_wp2;go_end0;exact⟨rfl,_,HW.out _ aI.out,bw.pre aI.out (bw.refl _ s v)⟩
theorem agh(w:World)(B s:Nat)(v lp:Value)(x:XS)(h:bM w B s v lp x)(hne:x.st≠[])(hn:x.st.length<=1000)(hl:0<=(aR x.st).l)(hl':(aR x.st).l<=1000)(he:0<=x.aM/\x.aM<=100000):
  Calls prog 203 #[.pointer (some ⟨s,0,none⟩),.int .i64 15] w fun ev w'=>ev= .returned (.tuple #[])/\∃v',bM w' B s v' lp (pg x 0 0)/\bw w w' s v v':=by
 have HN:Hid (∀W,Below w.heap.size w W->Calls prog 239 #[.pointer (some ⟨s,0,none⟩),.int .i64 0] W fun ev w'=>ev= .returned (.int .i64 (fG (aR x.st).l 0))/\Below W.heap.size W w'):=fun W hb=>Ju W B s v lp x 0 (h.below hb) hne (by omega) hl hl'
 have HW:Hid (∀W,Below w.heap.size w W->bM W B s v lp x):=fun W hb=>h.below hb
 have HL:=ah hn;have HZ:=ah (bZ h.cell);unfold pg;generalize fG (aR x.st).l 0=n at*;clear h hne hn hl hl';obtain⟨st,aH,aM,valid⟩:=x;simp only at HN HW HL he ⊢;have hb0:Below w.heap.size w (w.alloc (.cells #[.int .i64 0,.int .i64 0,.bool false] 215)):=(aA _ _).alloc (ay _) _;by_cases hf:jx ⟨st,aH,aM,valid⟩ n=true
 .rw [aj hf];have HF:=ah hf;clear hf;go_enter func203,ntmps203;go_wp2_with fail;refine(HN.out _ hb0).mono ?_;rintro ev w2 ⟨rfl,hb⟩;obtain⟨bq,j0,j1,j2,g0,g1,g2⟩:=vk hb;have aI:=vh bq (.int .i64 n) (.int .i64 0) (.bool false);clear hb bq;go_wp2_with fail;refine(rC _ B s v lp _ n (HW.out _ aI.out)).mono ?_;rintro ev wx ⟨rfl,hx⟩;subst hx;rw [HF.out];go_wp2_with fail
  go_region_with (go_at_call 142;refine(DG _ B s v lp _ n 0 false (HW.out _ aI.out.drew) (by have:=HL.out;simp only;omega)).mono ?_;rintro ev w3 ⟨rfl,v',hS,hF⟩)
  all_goals
   have HS:=ah hS;have HG:Hid _:=bw.pre aI.out.drew hF;clear hS hF;go_wp2;go_end0;exact⟨rfl,_,HS.out,HG.out⟩
 .rw [ai hf];have hf':jx ⟨st,aH,aM,valid⟩ n=false:=by simpa using hf
  have HF:=ah hf';clear hf hf';by_cases hi:aH=0
  .rw [aj hi];subst hi;go_enter func203,ntmps203;go_wp2_with fail;refine(HN.out _ hb0).mono ?_;rintro ev w2 ⟨rfl,hb⟩;obtain⟨bq,j0,j1,j2,g0,g1,g2⟩:=vk hb;have aI:=vh bq (.int .i64 n) (.int .i64 0) (.bool false);clear hb bq;go_wp2_with fail;refine(rC _ B s v lp _ n (HW.out _ aI.out)).mono ?_;rintro ev wx ⟨rfl,hx⟩;subst hx;rw [HF.out];clear j0 j1 j2 g0 g1 g2;generalize((w2.setCell ⟨w.heap.size,0,none⟩ (.int .i64 n)).setCell ⟨w.heap.size,1,none⟩ (.int .i64 0)).setCell ⟨w.heap.size,2,none⟩ (.bool false)=W3 at*;have c2:W3.cell? ⟨s,2,none⟩=some (.int .i64 0):=az (HW.out _ aI.out).cell 2;have c3:W3.cell? ⟨s,3,none⟩=some (.int .i64 aM):=az (HW.out _ aI.out).cell 3;have f3:W3.frozen? ⟨s,3,none⟩=false:=cH (HW.out _ aI.out).cell 3;go_wp2;go_end0;exact⟨rfl,_,(HW.out _ aI.out).zm _,bw.pre aI.out (bw.set _ s v 3 _)⟩
  .rw [ai hi];have hi':(aH==0)=false:=by simpa using hi
   go_enter func203,ntmps203;go_wp2_with fail;refine(HN.out _ hb0).mono ?_;rintro ev w2 ⟨rfl,hb⟩;obtain⟨bq,j0,j1,j2,g0,g1,g2⟩:=vk hb;have aI:=vh bq (.int .i64 n) (.int .i64 0) (.bool false);clear hb bq;go_wp2_with fail;refine(rC _ B s v lp _ n (HW.out _ aI.out)).mono ?_;rintro ev wx ⟨rfl,hx⟩;subst hx;rw [HF.out];clear j0 j1 j2 g0 g1 g2;generalize((w2.setCell ⟨w.heap.size,0,none⟩ (.int .i64 n)).setCell ⟨w.heap.size,1,none⟩ (.int .i64 0)).setCell ⟨w.heap.size,2,none⟩ (.bool false)=W3 at*;have c2:W3.cell? ⟨s,2,none⟩=some (.int .i64 aH):=az (HW.out _ aI.out).cell 2;go_wp2;go_end0;exact⟨rfl,_,HW.out _ aI.out,bw.pre aI.out (bw.refl _ s v)⟩
theorem agi(w:World)(B s:Nat)(v lp:Value)(x:XS)(h:bM w B s v lp x)(hne:x.st≠[])(hn:x.st.length<=1000)(hl:0<=(aR x.st).l)(hl':(aR x.st).l<=1000)(he:0<=x.aM/\x.aM<=100000):
  Calls prog 203 #[.pointer (some ⟨s,0,none⟩),.int .i64 16] w fun ev w'=>ev= .returned (.tuple #[])/\∃v',bM w' B s v' lp (pg x 1 1)/\bw w w' s v v':=by
 have HN:Hid (∀W,Below w.heap.size w W->Calls prog 239 #[.pointer (some ⟨s,0,none⟩),.int .i64 1] W fun ev w'=>ev= .returned (.int .i64 (fG (aR x.st).l 1))/\Below W.heap.size W w'):=fun W hb=>Ju W B s v lp x 1 (h.below hb) hne (by omega) hl hl'
 have HW:Hid (∀W,Below w.heap.size w W->bM W B s v lp x):=fun W hb=>h.below hb
 have HL:=ah hn;have HZ:=ah (bZ h.cell);unfold pg;generalize fG (aR x.st).l 1=n at*;clear h hne hn hl hl';obtain⟨st,aH,aM,valid⟩:=x;simp only at HN HW HL he ⊢;have hb0:Below w.heap.size w (w.alloc (.cells #[.int .i64 0,.int .i64 0,.bool false] 215)):=(aA _ _).alloc (ay _) _;by_cases hf:jx ⟨st,aH,aM,valid⟩ n=true
 .rw [aj hf];have HF:=ah hf;clear hf;go_enter func203,ntmps203;go_wp2_with fail;refine(HN.out _ hb0).mono ?_;rintro ev w2 ⟨rfl,hb⟩;obtain⟨bq,j0,j1,j2,g0,g1,g2⟩:=vk hb;have aI:=vh bq (.int .i64 n) (.int .i64 1) (.bool false);clear hb bq;go_wp2_with fail;refine(rC _ B s v lp _ n (HW.out _ aI.out)).mono ?_;rintro ev wx ⟨rfl,hx⟩;subst hx;rw [HF.out];go_wp2_with fail
  go_region_with (go_at_call 142;refine(DG _ B s v lp _ n 1 false (HW.out _ aI.out.drew) (by have:=HL.out;simp only;omega)).mono ?_;rintro ev w3 ⟨rfl,v',hS,hF⟩)
  all_goals
   have HS:=ah hS;have HG:Hid _:=bw.pre aI.out.drew hF;clear hS hF;go_wp2;go_end0;exact⟨rfl,_,HS.out,HG.out⟩
 .rw [ai hf];have hf':jx ⟨st,aH,aM,valid⟩ n=false:=by simpa using hf
  have HF:=ah hf';clear hf hf';by_cases hi:aH=0
  .rw [aj hi];subst hi;go_enter func203,ntmps203;go_wp2_with fail;refine(HN.out _ hb0).mono ?_;rintro ev w2 ⟨rfl,hb⟩;obtain⟨bq,j0,j1,j2,g0,g1,g2⟩:=vk hb;have aI:=vh bq (.int .i64 n) (.int .i64 1) (.bool false);clear hb bq;go_wp2_with fail;refine(rC _ B s v lp _ n (HW.out _ aI.out)).mono ?_;rintro ev wx ⟨rfl,hx⟩;subst hx;rw [HF.out];clear j0 j1 j2 g0 g1 g2;generalize((w2.setCell ⟨w.heap.size,0,none⟩ (.int .i64 n)).setCell ⟨w.heap.size,1,none⟩ (.int .i64 1)).setCell ⟨w.heap.size,2,none⟩ (.bool false)=W3 at*;have c2:W3.cell? ⟨s,2,none⟩=some (.int .i64 0):=az (HW.out _ aI.out).cell 2;have c3:W3.cell? ⟨s,3,none⟩=some (.int .i64 aM):=az (HW.out _ aI.out).cell 3;have f3:W3.frozen? ⟨s,3,none⟩=false:=cH (HW.out _ aI.out).cell 3;go_wp2;go_end0;exact⟨rfl,_,(HW.out _ aI.out).zm _,bw.pre aI.out (bw.set _ s v 3 _)⟩
  .rw [ai hi];have hi':(aH==0)=false:=by simpa using hi
   go_enter func203,ntmps203;go_wp2_with fail;refine(HN.out _ hb0).mono ?_;rintro ev w2 ⟨rfl,hb⟩;obtain⟨bq,j0,j1,j2,g0,g1,g2⟩:=vk hb;have aI:=vh bq (.int .i64 n) (.int .i64 1) (.bool false);clear hb bq;go_wp2_with fail;refine(rC _ B s v lp _ n (HW.out _ aI.out)).mono ?_;rintro ev wx ⟨rfl,hx⟩;subst hx;rw [HF.out];clear j0 j1 j2 g0 g1 g2;generalize((w2.setCell ⟨w.heap.size,0,none⟩ (.int .i64 n)).setCell ⟨w.heap.size,1,none⟩ (.int .i64 1)).setCell ⟨w.heap.size,2,none⟩ (.bool false)=W3 at*;have c2:W3.cell? ⟨s,2,none⟩=some (.int .i64 aH):=az (HW.out _ aI.out).cell 2;go_wp2;go_end0;exact⟨rfl,_,HW.out _ aI.out,bw.pre aI.out (bw.refl _ s v)⟩
theorem agj(w:World)(B s:Nat)(v lp:Value)(x:XS)(c:Int)(hc:kS c=true)(h:bM w B s v lp x)(hne:x.st≠[])(hn:x.st.length<=1000)(hl:0<=(aR x.st).l)(hl':(aR x.st).l<=1000)(he:0<=x.aM/\x.aM<=100000):
  Calls prog 203 #[.pointer (some ⟨s,0,none⟩),.int .i64 c] w fun ev w'=>ev= .returned (.tuple #[])/\∃v',bM w' B s v' lp (iZ x c)/\bw w w' s v v':=by
 have:c=13∨c=14∨c=15∨c=16:=by simpa [kS]using hc
 rcases this with rfl|rfl|rfl|rfl
 .rw [agk];exact age w B s v lp x h hne hn hl hl' he
 .rw [agl];exact agf w B s v lp x h hne hn hl hl' he
 .rw [agm];exact agh w B s v lp x h hne hn hl hl' he
 .rw [agn];exact agi w B s v lp x h hne hn hl hl' he
def AY(lv:List Int)(x:List (List Nat)×List Nat)(p:Nat):List (List Nat)×List Nat:=
 if x.2≠[]/\lv.getD (x.2.headD 0) 0≠lv.getD p 0 then(x.1++[x.2],[p])else(x.1,x.2++[p])
def iG(lf:List Bool)(n:Nat):List Nat:=(List.range n).filter (jW lf)
theorem aci(lv:List Int)(lf:List Bool):∀n i x,vK lv lf n i x=sM (((List.range' i n).filter (jW lf)).foldl (AY lv) x)
 |0,i,x=>rfl
 |n+1,i,x=>by
  rw [vK,aci lv lf n (i+1),List.range'_succ,qU];unfold DM;cases h:lf.getD i false
  .have e:jW lf i=false:=h;rw [aj rfl,e,ai (by decide)]
  .have e:jW lf i=true:=h;rw [e,ai (by decide),aj (rfl:true=true),o6];rfl
theorem alF(lv:List Int)(lf:List Bool):cQ lv lf=sM ((iG lf lv.length).foldl (AY lv) ([],[])):=by
 rw [cQ,aci,iG,List.range_eq_range']
def nI(lv:List Int)(left:List Nat)(total runs:List (List Nat))(fr:Nat):Prop:=sM ((left.drop fr).foldl (AY lv) (runs,[]))=total
def uS(lv:List Int)(left:List Nat)(total runs:List (List Nat))(fr to':Nat):Prop:=sM ((left.drop to').foldl (AY lv) (runs,(left.take to').drop fr))=total
theorem acp {left:List Nat}{fr to':Nat}(h:fr<=to')(ht:to'<left.length):(left.take (to'+1)).drop fr=(left.take to').drop fr++[left.getD to' 0]:=by
 rw [zX,aQ ht,ad3 (by simp;omega),aO,aQ ht];rfl
theorem Te {left:List Nat}{fr to':Nat}(h:fr<to')(ht:to'<=left.length):((left.take to').drop fr).headD 0=left.getD fr 0/\(left.take to').drop fr≠[]/\((left.take to').drop fr).length=to' - fr:=by
 have hl:((left.take to').drop fr).length=to' - fr:=by simp;omega
 refine⟨?_,?_,hl⟩
 .rw [List.headD_eq_head?_getD,List.head?_drop,KH h,aO]
 .intro e;rw [e]at hl;simp at hl;omega
theorem Ll {left:List Nat}{k:Nat}(h:k<left.length):left.drop k=left.getD k 0::left.drop (k+1):=by
 rw [l9 h,aO,aQ h];rfl
theorem nI.start(lv:List Int)(lf:List Bool):nI lv (iG lf lv.length) (cQ lv lf) [] 0:=by rw [nI,alF];rfl
theorem nI.opn {lv:List Int}{left:List Nat}{total runs:List (List Nat)}{fr:Nat}(h:nI lv left total runs fr)(hf:fr<left.length):uS lv left total runs fr (fr+1):=by
 unfold nI at h;rw [Ll hf,o6]at h;rw [uS,acp (ay _) hf,jD (by simp;omega)];rw [AY,ai (fun hh=>hh.1 rfl)]at h;exact h
theorem uS.more {lv:List Int}{left:List Nat}{total runs:List (List Nat)}{fr to':Nat}(h:uS lv left total runs fr to')(hft:fr<to')(ht:to'<left.length)(he:lv.getD (left.getD to' 0) 0=lv.getD (left.getD fr 0) 0):uS lv left total runs fr (to'+1):=by
 unfold uS at h;rw [Ll ht,o6,AY,ai (fun hh=>hh.2 (by simp only;rw [(Te hft (fW ht)).1,he]))]at h;rw [uS,acp (fW hft) ht];exact h
theorem uS.shut {lv:List Int}{left:List Nat}{total runs:List (List Nat)}{fr to':Nat}(h:uS lv left total runs fr to')(hft:fr<to')(ht:to'<=left.length)(he:¬to'<left.length∨lv.getD (left.getD to' 0) 0≠lv.getD (left.getD fr 0) 0):nI lv left total (runs++[(left.take to').drop fr]) to':=by
 unfold uS at h;obtain⟨h1,h2,_⟩:=Te hft ht;rcases cK to' left.length with hlt|hge
 .rw [Ll hlt,o6,AY,aj ⟨h2,by simp only;rw [h1];exact fun e=>he.elim (fun h=>h hlt) (fun h=>h e.symm)⟩]at h;rw [nI,Ll hlt,o6];have:AY lv (runs++[(left.take to').drop fr],[]) (left.getD to' 0)=(runs++[(left.take to').drop fr],[left.getD to' 0]):=by
   rw [AY,ai (fun hh=>hh.1 rfl)];rfl
  rw [this];exact h
 .rw [jD hge,OG,sM,ai h2]at h;rw [nI,jD hge,OG,sM,aj rfl];exact h
theorem nI.done {lv:List Int}{left:List Nat}{total runs:List (List Nat)}{fr:Nat}(h:nI lv left total runs fr)(hf:¬fr<left.length):runs=total:=by
 unfold nI at h;rw [jD (by omega),OG,sM,aj rfl]at h;exact h
theorem K5(cs:List Int)(rs:List (List Nat)):∀f p,bV cs rs (f+1) p=match gD cs rs ((bV cs rs f p).getLastD 0)with
  |none=>bV cs rs f p
  |some k=>bV cs rs f p++rs.getD k []
 |0,p=>by
  rw [bV];cases h:gD cs rs (p.getLastD 0)<;>simp only [bV,h]
 |f+1,p=>by
  rw [bV];cases h:gD cs rs (p.getLastD 0)with
  |none=>simp only [bV,h]
  |some k=>
   simp only;rw [K5 cs rs f (p++rs.getD k [])];rw [show bV cs rs (f+1) p=bV cs rs f (p++rs.getD k [])by rw [bV,h]]
theorem Wv {cs:List Int}{rs:List (List Nat)}{a:Nat}{p:List Nat}(h:gD cs rs ((bV cs rs a p).getLastD 0)=none):∀d,bV cs rs (a+d) p=bV cs rs a p
 |0=>rfl
 |d+1=>by
  rw [<-GJ,K5,Wv h d,h]
theorem afz {cs:List Int}{rs:List (List Nat)}{a k:Nat}{p:List Nat}(h:gD cs rs ((bV cs rs a p).getLastD 0)=some k):bV cs rs (a+1) p=bV cs rs a p++rs.getD k []:=by
 rw [K5,h]
theorem afB {cs:List Int}{rs:List (List Nat)}(h:kN cs.length rs)(f:Nat){r:List Nat}(hr:r∈rs)(hb:gA cs r=true):(bV cs rs f r).Nodup:=
 have key:∀(l:List (List Nat)),(l.flatMap (bV cs rs f)).Nodup->∀r∈l,(bV cs rs f r).Nodup:=by
  intro l
  induction l with
  |nil=>intro _ r hr;cases hr
  |cons a l ih=>
   intro hn r hr;rw [uV,Eo]at hn;rcases jF.1 hr with rfl|hr
   .exact hn.1
   .exact ih hn.2.1 r hr
 key _ (acq h f) r (uW.2 ⟨hr,hb⟩)
theorem R9 {cs:List Int}{rs:List (List Nat)}{last k:Nat}(h:gD cs rs last=some k):k<rs.length/\aS (cs.getD last 0)=true/\(rs.getD k []).headD 0=mt cs last:=by
 unfold gD at h;split at h
 .rename_i hi;obtain⟨h1,h2⟩:=DB _ _ h;exact⟨h1,hi,h2⟩
 .cases h
theorem K6 {cs:List Int}{rs:List (List Nat)}(h:kN cs.length rs){r:List Nat}(hr:r∈rs):∀f,∀p∈bV cs rs f r,p<cs.length
 |0=>h.lt r hr
 |f+1=>by
  rw [K5];cases hn:gD cs rs ((bV cs rs f r).getLastD 0)with
  |none=>exact K6 h hr f
  |some k=>
   intro p hp;rcases kK.1 hp with hp|hp
   .exact K6 h hr f p hp
   .exact h.lt _ (dm (R9 hn).1) p hp
theorem Hs:∀(l:List Nat)(n:Nat),l.Nodup->(∀a∈l,a<n)->l.length<=n
 |[],n,_,_=>by simp
 |a::l,0,_,h=>by have:=h a (by simp);omega
 |a::l,n+1,hn,h=>by
  have ih:=Hs ((a::l).erase n) n (hn.erase n) (fun b hb=>by
   have h1:=h b (aef hb);have h2:b≠n:=fun e=>by subst e;exact(adZ hn) hb
   omega)
  by_cases hm:n∈a::l
  .rw [aec hm]at ih;omega
  .rw [ad5 hm]at ih;omega
theorem Ww {cs:List Int}{rs:List (List Nat)}(h:kN cs.length rs)(f:Nat){r:List Nat}(hr:r∈rs)(hb:gA cs r=true):(bV cs rs f r).length<=cs.length:=
 Hs _ _ (afB h f hr hb) (K6 h hr f)
structure yz(w:World)(lb gt gm n ct cm:Nat)(r c l:Value)(p:Int)(cs:List Int):Prop where
 cell:w.heap[lb]? =some (.cells #[r,.slice (some ⟨gt,0,none⟩) n ct,c,l,.slice (some ⟨gm,0,none⟩) n cm,.int .i64 p] 141 (0,0))
 tb:bG w gt 0 cs
 ms:bG w gm 0 (lS cs)
 len:cs.length=n
theorem yz.below {w w':World}{lb gt gm n ct cm:Nat}{r c l:Value}{p:Int}{cs:List Int}(h:yz w lb gt gm n ct cm r c l p cs)(hb:Below w.heap.size w w'):yz w' lb gt gm n ct cm r c l p cs:=
 ⟨cB hb h.cell,h.tb.below hb,h.ms.below hb,h.len⟩
def C4(cs:List Int)(i:Nat):Int:=if(lS cs).getD i 0= -1 then(cs.length:Int)else(lS cs).getD i 0
theorem Xm {cs:List Int}{i:Nat}(hi:i<cs.length)(h:aS (cs.getD i 0)=true):C4 cs i=(mt cs i:Int):=by
 unfold C4;rw [RU hi h];have:=rG cs i (fW hi);by_cases hm:mt cs i<cs.length
 .rw [aj hm,ai (by omega)]
 .rw [ai hm,aj rfl];omega
theorem aan(w:World)(lb gt gm n ct cm:Nat)(r c l:Value)(p:Int)(cs:List Int)(h:yz w lb gt gm n ct cm r c l p cs)(i:Nat)(hi:i<n):
  Calls prog 236 #[.pointer (some ⟨lb,0,none⟩),.int .i64 i] w fun e w'=>e= .returned (.int .i64 (C4 cs i))/\w'=w:=by
 have c1:w.cell? ⟨lb,1,none⟩=some (.slice (some ⟨gt,0,none⟩) n ct):=az h.cell 1;have c4:w.cell? ⟨lb,4,none⟩=some (.slice (some ⟨gm,0,none⟩) n cm):=az h.cell 4;have cq:w.cell? ⟨gm,i,none⟩=some (.int .i64 ((lS cs).getD i 0)):=by
  have:=h.ms i (by rw [aaH,h.len];exact hi);simpa using this
 have hi':(i:Int)<(n:Int):=by omega
 unfold C4;rw [h.len];generalize(lS cs).getD i 0=m at*;clear h;by_cases hm:m= -1
 .subst hm;rw [aj rfl];go_enter func236,ntmps236;go_wp2;go_ret;exact⟨rfl,rfl⟩
 .rw [ai hm];have hm':(m== -1)=false:=by simpa using hm
  go_enter func236,ntmps236;go_wp2;go_ret;exact⟨rfl,rfl⟩
theorem aks(cs:List Int)(to':Nat):∀f i,¬i<to'->oN cs to' f i=0
 |0,_,_=>rfl
 |f+1,i,h=>by rw [oN,ai h]
theorem SK(cs:List Int)(to':Nat):∀f i,oN cs to' f i=0∨oN cs to' f i=1
 |0,_=> .inl rfl
 |f+1,i=>by
  rw [oN];split
  .split
   .exact .inl rfl
   .split
    .exact .inr rfl
    .split
     .exact SK cs to' f _
     .exact SK cs to' f _
  .exact .inl rfl
theorem XN(w:World)(lb gt gm n ct cm:Nat)(r c l:Value)(p:Int)(cs:List Int)(h:yz w lb gt gm n ct cm r c l p cs)(hn:n<=1000)(fr to' f:Nat)(hto:to'<=n)(hfr:fr<=n+1)(hf:n+1 - fr<=f):
  Calls prog 199 #[.pointer (some ⟨lb,0,none⟩),.int .i64 fr,.int .i64 to'] w fun e w'=>e= .returned (.int .i64 (oN cs to' f fr))/\w'=w:=by
 have HIE:Hid (∀i:Nat,i<n->Calls prog 236 #[.pointer (some ⟨lb,0,none⟩),.int .i64 i] w fun e w'=>e= .returned (.int .i64 (C4 cs i))/\w'=w):=fun i hi=>aan w lb gt gm n ct cm r c l p cs h i hi
 have c1:w.cell? ⟨lb,1,none⟩=some (.slice (some ⟨gt,0,none⟩) n ct):=az h.cell 1;have HT:Hid (∀k:Nat,k<n->w.cell? ⟨gt,k,none⟩=some (.int .i64 (cs.getD k 0))):=fun k hk=>by
  have:=h.tb k (by rw [h.len];exact hk);simpa using this
 have HL:=ah h.len;obtain⟨P,hP⟩:∃P,P=oN cs to' f fr:=⟨_,rfl⟩
 rw [<-hP];have HP:=ah hP.symm;clear h hP;go_enter func199,ntmps199;go_wp2;go_loopg [7] (n+1 - fr) (fun gh kv W=>∃(k f':Nat),k<=n+1/\gh=n+1 - k/\gh<=f'/\kv= .int .i64 k/\W=w/\oN cs to' f' k=P);case atStart=>exact⟨fr,f,hfr,rfl,hf,rfl,rfl,HP.out⟩
 case round=>
  obtain⟨k,f',hk,rfl,su,rfl,hW,hp⟩:=hrel;have hW':=hW.symm;subst hW';clear HP;by_cases hlt:k<to'
  .obtain⟨f2,rfl⟩:∃f2,f'=f2+1:=⟨f' - 1,by omega⟩
   rw [oN,aj hlt]at hp;have hkn:k<n:=by omega
   have ck:=HT.out k hkn;have HI:=ah (HIE.out k hkn);have Ki:Hid (aS (cs.getD k 0)=true->C4 cs k=(mt cs k:Int)/\k<=mt cs k/\mt cs k<=n):=fun hh=>⟨Xm (by rw [HL.out];exact hkn) hh,by have:=rG cs k (by rw [HL.out];omega);rw [HL.out]at this;exact this⟩
   have hlt':(k:Int)<(to':Int):=by omega
   generalize cs.getD k 0=q at*;by_cases h0:q=0
   .rw [aj h0]at hp;subst h0;have HP:=ah hp;clear hp;go_wp2;go_ret;exact⟨bI HP.out,rfl⟩
   .rw [ai h0]at hp;have h0':(q==0)=false:=by simpa using h0
    by_cases h1:q=1
    .rw [aj (.inl h1)]at hp;subst h1;have HP:=ah hp;clear hp;go_wp2;go_ret;exact⟨bI HP.out,rfl⟩
    .have h1':(q==1)=false:=by simpa using h1
     by_cases h2:q=2
     .rw [aj (.inr h2)]at hp;subst h2;have HP:=ah hp;clear hp;go_wp2;go_ret;exact⟨bI HP.out,rfl⟩
     .rw [ai (by omega)]at hp;have h2':(q==2)=false:=by simpa using h2
      cases bH:aS q
      .rw [ai (by rw [bH];decide)]at hp;have HP:=ah hp;have HQ:=ah bH;clear hp bH;go_wp2_with fail;refine(mG q _).mono ?_;rintro ev wx ⟨rfl,hx⟩;subst hx;rw [HQ.out];go_wp2;go_roundg (n+1 - (k+1));case measure=>omega
       case rel=>exact⟨k+1,f2,by omega,rfl,by omega,by go_num,rfl,HP.out⟩
      .rw [aj bH]at hp;have HP:=ah hp;have HQ:=ah bH;obtain⟨he,hge,hle⟩:=Ki.out bH;rw [he]at HI;generalize mt cs k=z at*;clear hp bH he;go_wp2_with fail;refine(mG q _).mono ?_;rintro ev wx ⟨rfl,hx⟩;subst hx;rw [HQ.out];go_wp2_with fail;refine HI.out.mono ?_;rintro ev wx ⟨rfl,hx⟩;subst hx;go_wp2;go_roundg (n+1 - (z+1));case measure=>omega
       case rel=>exact⟨z+1,f2,by omega,rfl,by omega,by go_num,rfl,HP.out⟩
  .have HP:Hid ((0:Int)=P):=by show _=_;rw [<-hp,aks _ _ _ _ hlt]
   have hlt':¬(k:Int)<(to':Int):=by omega
   clear hp;go_wp2;go_ret;exact⟨bI HP.out,rfl⟩
theorem aiv(w:World)(s lb gt gm n ct cm:Nat)(r c l:Value)(p:Int)(cs:List Int)(h:yz w lb gt gm n ct cm r c l p cs)(hn:n<=1000)(cp:w.cell? ⟨s,0,none⟩=some (.pointer (some ⟨lb,0,none⟩)))(_hs:s<w.heap.size)(i:Nat)(hi:i<n)(hq:cs.getD i 0=18∨cs.getD i 0=19∨cs.getD i 0=20):
  Calls prog 205 #[.pointer (some ⟨s,0,none⟩),.int .i64 i] w fun e w'=>e= .returned (.int .i64 (if cs.getD i 0=18 then 0 else if cs.getD i 0=19 then 1 else qg cs i))/\Below w.heap.size w w':=by
 have c1:w.cell? ⟨lb,1,none⟩=some (.slice (some ⟨gt,0,none⟩) n ct):=az h.cell 1;have ck:w.cell? ⟨gt,i,none⟩=some (.int .i64 (cs.getD i 0)):=by
  have:=h.tb i (by rw [h.len];exact hi);simpa using this
 have hi':(i:Int)<(n:Int):=by omega
 have HR:=ah h;have bH:aS (cs.getD i 0)=true:=by rcases hq with e|e|e<;>rw [e]<;>rfl
 have hend:C4 cs i=(mt cs i:Int):=Xm (by rw [h.len];exact hi) bH;have hml:=rG cs i (by rw [h.len];omega);rw [h.len]at hml;have QZ:oN cs (mt cs i) (n+1) (i+1)=qg cs i:=agY (by rw [h.len];exact hi) bH (n+1) (by omega);have HF:Hid (∀W,Below w.heap.size w W->Calls prog 199 #[.pointer (some ⟨lb,0,none⟩),.int .i64 ((i:Int)+1),.int .i64 (mt cs i)] W fun e w'=>e= .returned (.int .i64 (qg cs i))/\w'=W):=fun W hb=>by
  rw [<-QZ];have:=XN W lb gt gm n ct cm r c l p cs (h.below hb) hn (i+1) (mt cs i) (n+1) hml.2 (by omega) (by omega);rw [Int.natCast_add]at this;exact this
 have HE:Hid (∀W,Below w.heap.size w W->Calls prog 236 #[.pointer (some ⟨lb,0,none⟩),.int .i64 i] W fun e w'=>e= .returned (.int .i64 (mt cs i))/\w'=W):=fun W hb=>by
  rw [<-hend];exact aan W lb gt gm n ct cm r c l p cs (h.below hb) i hi
 have EM:qg cs i=0∨qg cs i=1:=by rw [<-QZ];exact SK _ _ _ _
 clear h bH hend hml QZ HR;generalize qg cs i=d at*;generalize mt cs i=z at*;generalize cs.getD i 0=q at*;rcases hq with rfl|rfl|rfl
 .rw [aj rfl];go_enter func205,ntmps205;go_wp2;go_ret;exact⟨rfl,aA _ _⟩
 .rw [ai (by decide),aj rfl];go_enter func205,ntmps205;go_wp2;go_ret;exact⟨rfl,aA _ _⟩
 .rw [ai (by decide),ai (by decide)];have hd2:d%2=d:=by omega
  have hd0:0<=d:=by omega
  have HD:Hid (d%2=d/\0<=d):=⟨hd2,hd0⟩
  clear hd2 hd0 EM;go_enter func205,ntmps205;go_wp2_with fail;go_quiet(first
   |(go_at_call 236;refine Cx (HE.out _ ?_);exact fZ (aA _ _) _)
   |(go_at_call 199;refine Cx (HF.out _ ?_);exact fZ (aA _ _) _)
   |(go_at_call 96;refine Cx (AW d _ HD.out.2)))
  go_wp2;go_ret;exact⟨bI HD.out.1,fZ (aA _ _) _⟩
