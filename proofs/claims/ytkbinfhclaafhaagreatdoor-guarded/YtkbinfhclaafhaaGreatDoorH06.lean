import Derived.Test.YtkbinfhclaafhaaGreatDoorH05
import Derived.Deep.LoopGhost
import Derived.Deep.RegionWith
import Derived.Test.YtkbinfhclaafhaaGreatDoorH04
import Derived.BigQuiet
namespace Go.Proofs.YtkbinfhclaafhaaGreatDoor
open Go.RowKit
open Go.Proofs.Tryz
set_option maxRecDepth 100000
set_option maxHeartbeats 32000000
theorem Tryz.abn(l o:Int)(i:Bool)(w:World):(Instr.field 215 (.agg #[.int .i64 l,.int .i64 o,.bool i]) 0).run prog w= .ok (.int .i64 l) w:=by kernel_rfl
theorem Tryz.abm(l o:Int)(i:Bool)(w:World):(Instr.field 215 (.agg #[.int .i64 l,.int .i64 o,.bool i]) 2).run prog w= .ok (.bool i) w:=by kernel_rfl
theorem Lm(w:World)(B s:Nat)(v lp:Value)(x:XS)(n:Int)(h:bD w B s v lp x):Calls prog 240 #[.pointer (some ⟨s,0,none⟩),.int .i64 n] w fun e w'=>e= .returned (.bool (lJ x n))/\w'=w:=by
 have c2:w.cell? ⟨s,2,none⟩=some (.int .i64 x.bu):=au h.cell 2;have c3:w.cell? ⟨s,3,none⟩=some (.int .i64 x.bN):=au h.cell 3;unfold lJ;clear h;generalize x.bu=a at*;generalize x.bN=b at*;by_cases h1:n<=125
 .by_cases h2:a=0
  .by_cases h3:b=0
   .subst h2 h3;go_enter func240,ntmps240;go_wp2;go_ret;simp [h1]
   .have h3':(b==0)=false:=by simpa using h3
    subst h2;go_enter func240,ntmps240;go_wp2;go_ret;simp [h3]
  .have h2':(a==0)=false:=by simpa using h2
   go_enter func240,ntmps240;go_wp2;go_ret;simp [h2]
 .go_enter func240,ntmps240;go_wp2;go_ret;simp;omega
theorem Xq(w:World)(B s:Nat)(v lp:Value)(x:XS)(odd:Int)(h:bD w B s v lp x)(hne:x.st≠[])(hn:x.st.length<=100000)(hl:0<=(aS x.st).l)(hl':(aS x.st).l<=1000):Calls prog 239 #[.pointer (some ⟨s,0,none⟩),.int .i64 odd] w fun ev w'=>ev= .returned (.int .i64 (iD (aS x.st).l odd))/\Below w.heap.size w w':=by
 have he:x.st[x.st.length - 1]? =some (aS x.st):=by
  have h1:x.st.length - 1<x.st.length:=by have:=List.length_pos_iff.2 hne;omega
  unfold aS;rw [List.getLastD_eq_getLast?,List.getLast?_eq_getElem?,List.getElem?_eq_getElem h1];rfl
 have HT:Hid (Calls prog 238 #[.pointer (some ⟨s,1,none⟩)] w fun ev w'=>ev= .returned (.agg #[.int .i64 (aS x.st).l,.int .i64 (aS x.st).o,.bool (aS x.st).i])/\Below w.heap.size w w'):=O1 w B s v lp x _ h he hn;have fL:=Tryz.abn;clear he h hne hn;generalize aS x.st=t at*;obtain⟨l,o,i⟩:=t;simp only at HT hl hl' ⊢;unfold iD;by_cases hq:(l+1)%2=odd
 .rw [if_pos hq];have hq':((l+1)%2 !=odd)=false:=by simp [hq]
  have HQ:Hid ((l+1)%2=odd):=hq;clear hq;go_enter func239,ntmps239;go_wp2_with fail;refine HT.out.mono ?_;rintro ev w2 ⟨rfl,hb⟩;have HB:Hid _:=hb;clear hb;go_wp2_with fail;refine(xJ (l+1) _ (by omega)).mono ?_;rintro ev w3 ⟨rfl,rfl⟩;go_wp2;go_ret;exact⟨rfl,HB.out⟩
 .rw [if_neg hq];have hq':((l+1)%2 !=odd)=true:=by simp [hq]
  have HQ:Hid (¬(l+1)%2=odd):=hq;clear hq;go_enter func239,ntmps239;go_wp2_with fail;refine HT.out.mono ?_;rintro ev w2 ⟨rfl,hb⟩;have HB:Hid _:=hb;clear hb;go_wp2_with fail;refine(xJ (l+1) _ (by omega)).mono ?_;rintro ev w3 ⟨rfl,rfl⟩;go_wp2;go_ret;exact⟨kM (by omega),HB.out⟩
theorem bD.OL {w:World}{B s:Nat}{v lp:Value}{x:XS}(h:bD w B s v lp x)(e:Int):bD (w.setCell ⟨s,2,none⟩ (.int .i64 e)) B s v lp {x with bu:=e}:=⟨by rw [Joins.block_setCell h.cell];rfl,iG h.row h.ne 2 _,h.low⟩
theorem bD.IQ {w:World}{B s:Nat}{v lp:Value}{x:XS}(h:bD w B s v lp x)(e:Int):bD (w.setCell ⟨s,3,none⟩ (.int .i64 e)) B s v lp {x with bN:=e}:=⟨by rw [Joins.block_setCell h.cell];rfl,iG h.row h.ne 3 _,h.low⟩
theorem bD.OM {w:World}{B s:Nat}{v lp:Value}{x:XS}(h:bD w B s v lp x)(e:Int):bD (w.setCell ⟨s,4,none⟩ (.int .i64 e)) B s v lp {x with valid:=e}:=⟨by rw [Joins.block_setCell h.cell];rfl,iG h.row h.ne 4 _,h.low⟩
theorem aU.set(w:World)(s:Nat)(v:Value)(k:Nat)(u:Value):aU w (w.setCell ⟨s,k,none⟩ u) s v v:=⟨rfl,rfl,rfl,by simp,fun k' _ hks _=>by rw [Below.heap_setCell];exact hks,.inl rfl⟩
theorem aU.trans {w w2 w3:World}{s:Nat}{v v2 v3:Value}(h:aU w w2 s v v2)(h2:aU w2 w3 s v2 v3):aU w w3 s v v3:=
 ⟨h2.os.trans h.os,h2.tape.trans h.tape,h2.output.trans h.output,Nat.le_trans h.size h2.size,fun k hk hks hkv=>by
  rw [h2.block k (Nat.lt_of_lt_of_le hk h.size) hks,h.block k hk hks hkv];rcases h.own with e|e
  .rw [e];exact hkv
  .intro e';have:=e k e';omega,by
  rcases h2.own with e2|e2
  .rw [e2];exact h.own
  .exact .inr fun k hk=>Nat.le_trans h.size (e2 k hk)⟩
theorem ZN {st:List aO}(hne:st≠[]):st[st.length - 1]? =some (aS st):=by
 have h1:st.length - 1<st.length:=by have:=List.length_pos_iff.2 hne;omega
 unfold aS;rw [List.getLastD_eq_getLast?,List.getLast?_eq_getElem?,List.getElem?_eq_getElem h1];rfl
theorem ajk {st:List aO}(hne:st≠[]):st=st.dropLast++[aS st]:=by
 have:=List.dropLast_concat_getLast hne;rw [aS,List.getLastD_eq_getLast?,List.getLast?_eq_some_getLast hne];exact this.symm
theorem ae9(w:World)(B s:Nat)(v lp:Value)(x:XS)(odd:Int)(h:bD w B s v lp x)(hne:x.st≠[])(hn:x.st.length<=1000)(hl:0<=(aS x.st).l)(hl':(aS x.st).l<=1000)(hi:0<=x.bu/\x.bu<=100000)(hv:0<=x.valid/\x.valid<=100000):
  Calls prog 204 #[.pointer (some ⟨s,0,none⟩),.int .i64 odd] w fun ev w'=>ev= .returned (.tuple #[])/\∃v',bD w' B s v' lp (jT x odd)/\aU w w' s v v':=by
 have HN:Hid (Calls prog 239 #[.pointer (some ⟨s,0,none⟩),.int .i64 odd] w fun ev w'=>ev= .returned (.int .i64 (iD (aS x.st).l odd))/\Below w.heap.size w w'):=Xq w B s v lp x odd h hne (by omega) hl hl';have HW:Hid (∀W,Below w.heap.size w W->bD W B s v lp x):=fun W hb=>h.below hb
 have HL:Hid (x.st.length<=1000):=hn;unfold jT;generalize iD (aS x.st).l odd=n at*;simp only;clear h hne hn hl hl';obtain⟨st,bu,bN,valid⟩:=x;simp only at HN HW HL hi hv ⊢;by_cases hf:lJ ⟨st,bu,bN,valid⟩ n=true
 .rw [if_pos hf];have HF:Hid (lJ ⟨st,bu,bN,valid⟩ n=true):=hf;clear hf;go_enter func204,ntmps204;go_wp2_with fail;refine HN.out.mono ?_;rintro ev w2 ⟨rfl,hb⟩;have HB:Hid _:=hb;clear hb;go_wp2_with fail;refine(Lm w2 B s v lp _ n (HW.out w2 HB.out)).mono ?_;rintro ev wx ⟨rfl,hx⟩;have hx':=hx.symm;subst hx';rw [HF.out];have c4:w2.cell? ⟨s,4,none⟩=some (.int .i64 valid):=au (HW.out _ HB.out).cell 4;have f4:w2.frozen? ⟨s,4,none⟩=false:=bX (HW.out _ HB.out).cell 4;go_wp2_with fail;refine(Iz _ B s v lp _ n (-1) true ((HW.out _ HB.out).OM (valid+1)) (by have:=HL.out;simp only;omega)).mono ?_;rintro ev w3 ⟨rfl,v',hS,hF⟩;have HS:Hid _:=hS;have HG:Hid _:=aU.pre HB.out ((aU.set w2 s v 4 (.int .i64 (valid+1))).trans hF);clear hS hF;go_wp2;go_end0;exact⟨rfl,_,HS.out,HG.out⟩
 .rw [if_neg hf];have hf':lJ ⟨st,bu,bN,valid⟩ n=false:=by simpa using hf
  have HF:Hid (lJ ⟨st,bu,bN,valid⟩ n=false):=hf';clear hf hf';go_enter func204,ntmps204;go_wp2_with fail;refine HN.out.mono ?_;rintro ev w2 ⟨rfl,hb⟩;have HB:Hid _:=hb;clear hb;go_wp2_with fail;refine(Lm w2 B s v lp _ n (HW.out w2 HB.out)).mono ?_;rintro ev wx ⟨rfl,hx⟩;have hx':=hx.symm;subst hx';rw [HF.out];have c4:w2.cell? ⟨s,2,none⟩=some (.int .i64 bu):=au (HW.out _ HB.out).cell 2;have f4:w2.frozen? ⟨s,2,none⟩=false:=bX (HW.out _ HB.out).cell 2;go_wp2;exact bodyPost_ret (results_none rfl _ _ _) rfl ⟨rfl,_,(HW.out _ HB.out).OL _,aU.pre HB.out (aU.set _ s v 2 _)⟩
theorem ahx(w:World)(B s:Nat)(v lp:Value)(x:XS)(h:bD w B s v lp x)(hne:x.st≠[])(hn:x.st.length<=1000)(he:x.bN<=100000):
  Calls prog 206 #[.pointer (some ⟨s,0,none⟩)] w fun ev w'=>ev= .returned (.tuple #[])/\∃v',bD w' B s v' lp (uC x)/\aU w w' s v v':=by
 have c2:w.cell? ⟨s,2,none⟩=some (.int .i64 x.bu):=au h.cell 2;have c3:w.cell? ⟨s,3,none⟩=some (.int .i64 x.bN):=au h.cell 3;have f3:w.frozen? ⟨s,3,none⟩=false:=bX h.cell 3;have HH:Hid (bD w B s v lp x):=h;unfold uC;by_cases h1:0<x.bu
 .rw [if_pos h1];clear h he;go_enter func206,ntmps206;go_wp2;go_end0;exact⟨rfl,_,HH.out,aU.refl _ _ _⟩
 .rw [if_neg h1];by_cases h2:0<x.bN
  .rw [if_pos h2];clear h;go_enter func206,ntmps206;go_wp2;go_end0;exact⟨rfl,_,HH.out.IQ _,aU.set _ _ _ _ _⟩
  .rw [if_neg h2];have HT:Hid (Calls prog 238 #[.pointer (some ⟨s,1,none⟩)] w fun ev w'=>ev= .returned (.agg #[.int .i64 (aS x.st).l,.int .i64 (aS x.st).o,.bool (aS x.st).i])/\Below w.heap.size w w'):=O1 w B s v lp x _ h (ZN hne) (by omega);have fI:=Tryz.abm;have HP:Hid (∀W,Below w.heap.size w W->Calls prog 237 #[.pointer (some ⟨s,1,none⟩)] W fun ev w'=>ev= .returned (.tuple #[.agg #[.int .i64 (aS x.st).l,.int .i64 (aS x.st).o,.bool (aS x.st).i],.bool true])/\∃v',bD w' B s v' lp {x with st:=x.st.dropLast}/\aU W w' s v v'):=fun W hb=>Yv W B s v lp x x.st.dropLast (aS x.st) (h.below hb) (ajk hne) (by simp;omega)
   have iZ:Hid (∀W,Below w.heap.size w W->Calls prog 241 #[.pointer (some ⟨s,1,none⟩)] W fun e w'=>e= .returned (.int .i64 x.st.length)/\w'=W):=fun W hb=>afr W B s v lp x (h.below hb)
   clear h;by_cases h3:(aS x.st).i=true
   .rw [if_neg (by simp [h3])];go_enter func206,ntmps206;go_wp2_with fail;refine HT.out.mono ?_;rintro ev w2 ⟨rfl,hb⟩;have HB:Hid _:=hb;clear hb;rw [h3];go_wp2;go_end0;exact⟨rfl,_,HH.out.below HB.out,aU.pre HB.out (aU.refl _ _ _)⟩
   .have h3':(aS x.st).i=false:=by simpa using h3
    by_cases h4:1<x.st.length
    .rw [if_pos ⟨h3',h4⟩];have h4':(2:Int)<=x.st.length:=by omega
     generalize x.st.length=L at*;go_enter func206,ntmps206;go_wp2_with fail;refine HT.out.mono ?_;rintro ev w2 ⟨rfl,hb⟩;have HB:Hid _:=hb;clear hb;rw [h3'];go_wp2_with fail;refine(iZ.out _ HB.out).mono ?_;rintro ev wx ⟨rfl,hx⟩;have hx':=hx.symm;subst hx';go_wp2_with fail;refine(HP.out _ HB.out).mono ?_;rintro ev w3 ⟨rfl,v',hS,hF⟩;have HS:Hid _:=hS;have HG:Hid _:=aU.pre HB.out hF;clear hS hF;go_wp2;go_end0;exact⟨rfl,_,HS.out,HG.out⟩
    .rw [if_neg (fun hh=>h4 hh.2)];have h4':¬(2:Int)<=x.st.length:=by omega
     generalize x.st.length=L at*;go_enter func206,ntmps206;go_wp2_with fail;refine HT.out.mono ?_;rintro ev w2 ⟨rfl,hb⟩;have HB:Hid _:=hb;clear hb;rw [h3'];go_wp2_with fail;refine(iZ.out _ HB.out).mono ?_;rintro ev wx ⟨rfl,hx⟩;have hx':=hx.symm;subst hx';go_wp2;go_end0;exact⟨rfl,_,HH.out.below HB.out,aU.pre HB.out (aU.refl _ _ _)⟩
theorem acT(w:World)(B s:Nat)(v lp:Value)(x:XS)(h:bD w B s v lp x)(hi:0<=x.bu/\x.bu<=100000)(h0:0<x.bu∨x.valid=0):
  Calls prog 200 #[.pointer (some ⟨s,0,none⟩)] w fun ev w'=>ev= .returned (.tuple #[])/\∃v',bD w' B s v' lp (nC x)/\aU w w' s v v':=by
 have c2:w.cell? ⟨s,2,none⟩=some (.int .i64 x.bu):=au h.cell 2;have c4:w.cell? ⟨s,4,none⟩=some (.int .i64 x.valid):=au h.cell 4;have f2:w.frozen? ⟨s,2,none⟩=false:=bX h.cell 2;have HH:Hid (bD w B s v lp x):=h;unfold nC;clear h;by_cases h1:0<x.bu
 .rw [if_pos h1];clear h0;go_enter func200,ntmps200;go_wp2;exact bodyPost_ret (results_none rfl _ _ _) rfl ⟨rfl,_,HH.out.OL _,aU.set _ _ _ _ _⟩
 .rw [if_neg h1];have h2:x.valid=0:=by omega
  rw [if_pos h2];rw [h2]at c4;clear h0;go_enter func200,ntmps200;go_wp2;exact bodyPost_ret (results_none rfl _ _ _) rfl ⟨rfl,_,HH.out,aU.refl _ _ _⟩
theorem acS(w:World)(B s:Nat)(v lp:Value)(x:XS)(h:bD w B s v lp x)(hn:x.st.length<=1000)(h0:x.bu=0)(hv:1<=x.valid/\x.valid<=100000)(hex:∃e∈x.st,e.i=true):
  Calls prog 200 #[.pointer (some ⟨s,0,none⟩)] w fun ev w'=>ev= .returned (.tuple #[])/\∃v',bD w' B s v' lp {x with bN:=0,st:=gI x.st,valid:=x.valid - 1}/\aU w w' s v v':=by
 obtain⟨st,bu,bN,valid⟩:=x;simp only at hn h0 hv hex ⊢;subst h0;have c2:w.cell? ⟨s,2,none⟩=some (.int .i64 0):=au h.cell 2;have c3:w.cell? ⟨s,3,none⟩=some (.int .i64 bN):=au h.cell 3;have f3:w.frozen? ⟨s,3,none⟩=false:=bX h.cell 3;have c4:w.cell? ⟨s,4,none⟩=some (.int .i64 valid):=au h.cell 4;have f4:w.frozen? ⟨s,4,none⟩=false:=bX h.cell 4;have hv':(valid==0)=false:=by simp;omega
 have gQ:Hid (bD ((w.setCell ⟨s,4,none⟩ (.int .i64 (valid - 1))).setCell ⟨s,3,none⟩ (.int .i64 0)) B s v lp ⟨st,0,0,valid - 1⟩):=(h.OM (valid - 1)).IQ 0;have P8:Hid (aU w ((w.setCell ⟨s,4,none⟩ (.int .i64 (valid - 1))).setCell ⟨s,3,none⟩ (.int .i64 0)) s v v):=(aU.set _ _ _ _ _).trans (aU.set _ _ _ _ _);have HX:Hid (∃e∈st,e.i=true):=hex;clear h hex;go_enter func200,ntmps200;go_wp2;clear c2 c3 c4 f3 f4;go_loopg [2,3,31,32,33,34,35,36,37,38,39,40,41,42,43] (st.length+1) (fun gk _ _ _ _ _ _ _ _ _ _ _ _ _ _ _ wr=>∃(v':Value)(st':List aO),bD wr B s v' lp ⟨st',0,0,valid - 1⟩/\aU w wr s v v'/\gI st'=gI st/\(∃e∈st',e.i=true)/\st'.length<gk/\st'.length<=1000);case atStart=>exact⟨v,st,gQ.out,P8.out,rfl,HX.out,by omega,hn⟩
 case round=>
  obtain⟨v',st',hS,hF,hp,hex,hg,hl⟩:=hrel;clear gQ P8 HX;have hne:st'≠[]:=by rintro rfl;simp at hex
  obtain⟨st0,e,rfl⟩:∃st0 e,st'=st0++[e]:=⟨st'.dropLast,st'.getLast hne,(List.dropLast_concat_getLast hne).symm⟩
  simp only [List.length_append,List.length_cons,List.length_nil]at hg hl;have HT:Hid (∀W,Below wr.heap.size wr W->Calls prog 237 #[.pointer (some ⟨s,1,none⟩)] W fun ev w'=>ev= .returned (.tuple #[.agg #[.int .i64 e.l,.int .i64 e.o,.bool e.i],.bool true])/\∃v2,bD w' B s v2 lp ⟨st0,0,0,valid - 1⟩/\aU W w' s v' v2):=fun W hb=>Yv W B s v' lp ⟨st0++[e],0,0,valid - 1⟩ st0 e (hS.below hb) rfl (by omega)
  have HF:Hid (aU w wr s v v'):=hF;have HP:Hid (gI (st0++[e])=gI st):=hp;have HX:Hid (∃e'∈st0++[e],e'.i=true):=hex;have cK:Hid (s<wr.heap.size):=bK hS.cell;clear hS hF hp hex hne;obtain⟨el,eo,ei⟩:=e;simp only at HT;cases ei
  .have JC:Hid (gI st0=gI st):=by have:=HP.out;rw [Oe _ _ rfl]at this;exact this
   have zx:Hid (∃e'∈st0,e'.i=true):=by
    obtain⟨e',hm,hi⟩:=HX.out;rcases List.mem_append.1 hm with hm|hm
    .exact⟨e',hm,hi⟩
    .rw [List.mem_singleton.1 hm]at hi;cases hi
   go_wp2_with fail;refine(HT.out _ (Below.refl _ _)).mono ?_;rintro ev w2 ⟨rfl,v2,hS2,hF2⟩;have HS2:Hid (bD w2 B s v2 lp ⟨st0,0,0,valid - 1⟩):=hS2;have gP:Hid (aU w w2 s v v2):=HF.out.trans hF2;clear hS2 hF2 HT;go_wp2;go_roundg (st0.length+1);case measure=>omega
   case rel=>exact⟨_,st0,HS2.out.below ((Below.refl _ _).alloc (Nat.le_refl _) _),gP.out.post ((Below.refl _ _).alloc gP.out.size _),JC.out,zx.out,by omega,by omega⟩
  .have JC:Hid (st0=gI st):=by have:=HP.out;rw [Oc _ _ rfl]at this;exact this
   go_wp2_with fail;refine(HT.out _ (Below.refl _ _)).mono ?_;rintro ev w2 ⟨rfl,v2,hS2,hF2⟩;have HS2:Hid (bD w2 B s v2 lp ⟨gI st,0,0,valid - 1⟩):=by have:=hS2;rw [JC.out]at this;exact this
   have gP:Hid (aU w w2 s v v2):=HF.out.trans hF2;clear hS2 hF2 HT;go_wp2;exact bodyPost_ret (results_none rfl _ _ _) rfl ⟨rfl,_,HS2.out.below ((Below.refl _ _).alloc (Nat.le_refl _) _),gP.out.post ((Below.refl _ _).alloc gP.out.size _)⟩
def zM(x:XS)(odd o:Int):XS:=
 if lJ x (iD (aS x.st).l odd)=true then{x with st:=x.st++[⟨iD (aS x.st).l odd,o,false⟩]}
 else if x.bu=0 then{x with bN:=x.bN+1}else x
theorem acO {w w2:World}{t:TypeId}(hb:Below (w.alloc (.cells #[.int .i64 0,.int .i64 0,.bool false] t)).heap.size (w.alloc (.cells #[.int .i64 0,.int .i64 0,.bool false] t)) w2):
  Below w.heap.size w w2/\w2.cell? ⟨w.heap.size,0,none⟩=some (.int .i64 0)/\w2.cell? ⟨w.heap.size,1,none⟩=some (.int .i64 0)/\w2.cell? ⟨w.heap.size,2,none⟩=some (.bool false)
   /\w2.frozen? ⟨w.heap.size,0,none⟩=false/\w2.frozen? ⟨w.heap.size,1,none⟩=false/\w2.frozen? ⟨w.heap.size,2,none⟩=false:=by
 refine⟨((Below.refl _ _).alloc (Nat.le_refl _) _).trans (hb.mono (by simp)),?_,?_,?_,?_,?_,?_⟩;all_goals first|rw [hb.cell (by simp)];go_simp|rw [hb.frozen (by simp)];go_simp
theorem acN {w w2:World}(h:Below w.heap.size w w2)(a b c:Value):
  Hid (Below w.heap.size w (((w2.setCell ⟨w.heap.size,0,none⟩ a).setCell ⟨w.heap.size,1,none⟩ b).setCell ⟨w.heap.size,2,none⟩ c)):=
 ((h.setCell (Nat.le_refl _) _).setCell (Nat.le_refl _) _).setCell (Nat.le_refl _) _
theorem acP(w:World)(B s:Nat)(v lp:Value)(x:XS)(c:Int)(hc:ic c=true)(h:bD w B s v lp x)(hne:x.st≠[])(hn:x.st.length<=1000)(hl:0<=(aS x.st).l)(hl':(aS x.st).l<=1000)(he:0<=x.bN/\x.bN<=100000):
  Calls prog 203 #[.pointer (some ⟨s,0,none⟩),.int .i64 c] w fun ev w'=>ev= .returned (.tuple #[])/\∃v',bD w' B s v' lp (nW x c)/\aU w w' s v v':=by
 obtain⟨odd,o,hc,hX⟩:∃odd o:Int,(c=13/\odd=0/\o= -1∨c=14/\odd=1/\o= -1∨c=15/\odd=0/\o=0∨c=16/\odd=1/\o=1)/\nW x c=zM x odd o:=by
  have:c=13∨c=14∨c=15∨c=16:=by simpa [ic]using hc
  rcases this with rfl|rfl|rfl|rfl
  .exact⟨0, -1,by simp,by simp [nW,zM]⟩
  .exact⟨1, -1,by simp,by simp [nW,zM]⟩
  .exact⟨0,0,by simp,by simp [nW,zM]⟩
  .exact⟨1,1,by simp,by simp [nW,zM]⟩
 have ho:0<=odd/\odd<=1:=by omega
 rw [hX];clear hX;have HN:Hid (∀W,Below w.heap.size w W->Calls prog 239 #[.pointer (some ⟨s,0,none⟩),.int .i64 odd] W fun ev w'=>ev= .returned (.int .i64 (iD (aS x.st).l odd))/\Below W.heap.size W w'):=fun W hb=>Xq W B s v lp x odd (h.below hb) hne (by omega) hl hl'
 have HW:Hid (∀W,Below w.heap.size w W->bD W B s v lp x):=fun W hb=>h.below hb
 have HL:Hid (x.st.length<=1000):=hn;have HZ:Hid (s<w.heap.size):=bK h.cell;obtain⟨R,hR⟩:∃R,R=zM x odd o:=⟨_,rfl⟩
 rw [<-hR];unfold zM at hR;have HR:Hid (R=if lJ x (iD (aS x.st).l odd)=true then{x with st:=x.st++[⟨iD (aS x.st).l odd,o,false⟩]}else if x.bu=0 then{x with bN:=x.bN+1}else x):=hR;clear hR;generalize iD (aS x.st).l odd=n at*;clear h hne hn hl hl' ho;obtain⟨st,bu,bN,valid⟩:=x;simp only at HN HW HL HR he;have hb0:Below w.heap.size w (w.alloc (.cells #[.int .i64 0,.int .i64 0,.bool false] 215)):=(Below.refl _ _).alloc (Nat.le_refl _) _;obtain⟨S3,iQ⟩:∃S3:World->World,S3=fun w2=>((w2.setCell ⟨w.heap.size,0,none⟩ (.int .i64 n)).setCell ⟨w.heap.size,1,none⟩ (.int .i64 o)).setCell ⟨w.heap.size,2,none⟩ (.bool false):=⟨_,rfl⟩
 have gY:Hid (∀w2,((w2.setCell ⟨w.heap.size,0,none⟩ (.int .i64 n)).setCell ⟨w.heap.size,1,none⟩ (.int .i64 o)).setCell ⟨w.heap.size,2,none⟩ (.bool false)=S3 w2):=fun w2=>by rw [iQ]
 have HE3:Hid (∀w2,Below w.heap.size w w2->Below w.heap.size w (S3 w2)):=fun w2 hb=>by rw [iQ];exact(acN hb _ _ _).out
 clear iQ;rcases hc with⟨rfl,rfl,rfl⟩|⟨rfl,rfl,rfl⟩|⟨rfl,rfl,rfl⟩|⟨rfl,rfl,rfl⟩
 all_goals
  go_enter func203,ntmps203;go_wp2_with fail;refine(HN.out _ hb0).mono ?_;rintro ev w2 ⟨rfl,hb⟩;obtain⟨hB2,j0,j1,j2,g0,g1,g2⟩:=acO hb;have HB3:Hid _:=HE3.out _ hB2;clear hb hB2;go_wp2_with fail;rw [gY.out w2];refine(Lm _ B s v lp _ n (HW.out _ HB3.out)).mono ?_;rintro ev wx ⟨rfl,hx⟩;subst hx;have HF:Hid _:=HR.out;generalize lJ ⟨st,bu,bN,valid⟩ n=f at HF ⊢;cases f
  .clear j0 j1 j2 g0 g1 g2;generalize S3 w2=W3 at*;have c2:W3.cell? ⟨s,2,none⟩=some (.int .i64 bu):=au (HW.out _ HB3.out).cell 2;by_cases hi:bu=0
   .subst hi;have c3:W3.cell? ⟨s,3,none⟩=some (.int .i64 bN):=au (HW.out _ HB3.out).cell 3;have f3:W3.frozen? ⟨s,3,none⟩=false:=bX (HW.out _ HB3.out).cell 3;go_wp2;go_end0;exact⟨rfl,_,by rw [HF.out];exact(HW.out _ HB3.out).IQ _,aU.pre HB3.out (aU.set _ s v 3 _)⟩
   .have hi':(bu==0)=false:=by simpa using hi
    go_wp2;go_end0;exact⟨rfl,_,by rw [HF.out,if_neg (by simp),if_neg hi];exact HW.out _ HB3.out,aU.pre HB3.out (aU.refl _ s v)⟩
  rw [<-gY.out w2];have HB3:Hid _:=gY.out w2▸HB3.out;go_wp2_with fail
  go_region_with (go_at_call 142;refine(Iz _ B s v lp _ n _ false (HW.out _ HB3.out.drew) (by have:=HL.out;simp only;omega)).mono ?_;rintro ev w3 ⟨rfl,v',hS,hF⟩)
  all_goals
   have HS:Hid _:=hS;have HG:Hid _:=aU.pre HB3.out.drew hF;clear hS hF;go_wp2;go_end0;exact⟨rfl,_,by rw [HF.out,if_pos trivial];exact HS.out,HG.out⟩
def xK(lv:List Int)(x:List (List Nat)×List Nat)(p:Nat):List (List Nat)×List Nat:=
 if x.2≠[]/\lv.getD (x.2.headD 0) 0≠lv.getD p 0 then(x.1++[x.2],[p])else(x.1,x.2++[p])
def eH(lf:List Bool)(n:Nat):List Nat:=(List.range n).filter (jW lf)
theorem Y6(lv:List Int)(lf:List Bool):∀n i x,Co lv lf n i x=vL (((List.range' i n).filter (jW lf)).foldl (xK lv) x)
 |0,i,x=>rfl
 |n+1,i,x=>by
  rw [Co,Y6 lv lf n (i+1),List.range'_succ,List.filter_cons];unfold IL;cases h:lf.getD i false
  .have e:jW lf i=false:=h;rw [if_pos rfl,e,if_neg (by decide)]
  .have e:jW lf i=true:=h;rw [e,if_neg (by decide),if_pos (rfl:true=true),List.foldl_cons];rfl
theorem aij(lv:List Int)(lf:List Bool):eZ lv lf=vL ((eH lf lv.length).foldl (xK lv) ([],[])):=by
 rw [eZ,Y6,eH,List.range_eq_range']
def lF(lv:List Int)(left:List Nat)(total runs:List (List Nat))(fr:Nat):Prop:=vL ((left.drop fr).foldl (xK lv) (runs,[]))=total
def pO(lv:List Int)(left:List Nat)(total runs:List (List Nat))(fr to':Nat):Prop:=vL ((left.drop to').foldl (xK lv) (runs,(left.take to').drop fr))=total
theorem Zc {left:List Nat}{fr to':Nat}(h:fr<=to')(ht:to'<left.length):(left.take (to'+1)).drop fr=(left.take to').drop fr++[left.getD to' 0]:=by
 rw [List.take_add_one,List.getElem?_eq_getElem ht,List.drop_append_of_le_length (by simp;omega),List.getD_eq_getElem?_getD,List.getElem?_eq_getElem ht];rfl
theorem OE {left:List Nat}{fr to':Nat}(h:fr<to')(ht:to'<=left.length):((left.take to').drop fr).headD 0=left.getD fr 0/\(left.take to').drop fr≠[]/\((left.take to').drop fr).length=to' - fr:=by
 have hl:((left.take to').drop fr).length=to' - fr:=by simp;omega
 refine⟨?_,?_,hl⟩
 .rw [List.headD_eq_head?_getD,List.head?_drop,List.getElem?_take_of_lt h,List.getD_eq_getElem?_getD]
 .intro e;rw [e]at hl;simp at hl;omega
theorem Ga {left:List Nat}{k:Nat}(h:k<left.length):left.drop k=left.getD k 0::left.drop (k+1):=by
 rw [List.drop_eq_getElem_cons h,List.getD_eq_getElem?_getD,List.getElem?_eq_getElem h];rfl
theorem lF.start(lv:List Int)(lf:List Bool):lF lv (eH lf lv.length) (eZ lv lf) [] 0:=by rw [lF,aij];rfl
theorem lF.opn {lv:List Int}{left:List Nat}{total runs:List (List Nat)}{fr:Nat}(h:lF lv left total runs fr)(hf:fr<left.length):pO lv left total runs fr (fr+1):=by
 unfold lF at h;rw [Ga hf,List.foldl_cons]at h;rw [pO,Zc (Nat.le_refl _) hf,List.drop_eq_nil_of_le (by simp;omega)];rw [xK,if_neg (fun hh=>hh.1 rfl)]at h;exact h
theorem pO.more {lv:List Int}{left:List Nat}{total runs:List (List Nat)}{fr to':Nat}(h:pO lv left total runs fr to')(hft:fr<to')(ht:to'<left.length)(he:lv.getD (left.getD to' 0) 0=lv.getD (left.getD fr 0) 0):pO lv left total runs fr (to'+1):=by
 unfold pO at h;rw [Ga ht,List.foldl_cons,xK,if_neg (fun hh=>hh.2 (by simp only;rw [(OE hft (Nat.le_of_lt ht)).1,he]))]at h;rw [pO,Zc (Nat.le_of_lt hft) ht];exact h
theorem pO.shut {lv:List Int}{left:List Nat}{total runs:List (List Nat)}{fr to':Nat}(h:pO lv left total runs fr to')(hft:fr<to')(ht:to'<=left.length)(he:¬to'<left.length∨lv.getD (left.getD to' 0) 0≠lv.getD (left.getD fr 0) 0):lF lv left total (runs++[(left.take to').drop fr]) to':=by
 unfold pO at h;obtain⟨h1,h2,_⟩:=OE hft ht;rcases Nat.lt_or_ge to' left.length with hlt|hge
 .rw [Ga hlt,List.foldl_cons,xK,if_pos ⟨h2,by simp only;rw [h1];exact fun e=>he.elim (fun h=>h hlt) (fun h=>h e.symm)⟩]at h;rw [lF,Ga hlt,List.foldl_cons];have:xK lv (runs++[(left.take to').drop fr],[]) (left.getD to' 0)=(runs++[(left.take to').drop fr],[left.getD to' 0]):=by
   rw [xK,if_neg (fun hh=>hh.1 rfl)];rfl
  rw [this];exact h
 .rw [List.drop_eq_nil_of_le hge,List.foldl_nil,vL,if_neg h2]at h;rw [lF,List.drop_eq_nil_of_le hge,List.foldl_nil,vL,if_pos rfl];exact h
theorem lF.done {lv:List Int}{left:List Nat}{total runs:List (List Nat)}{fr:Nat}(h:lF lv left total runs fr)(hf:¬fr<left.length):runs=total:=by
 unfold lF at h;rw [List.drop_eq_nil_of_le (by omega),List.foldl_nil,vL,if_pos rfl]at h;exact h
theorem FV(cs:List Int)(rs:List (List Nat)):∀f p,bP cs rs (f+1) p=match fT cs rs ((bP cs rs f p).getLastD 0)with
  |none=>bP cs rs f p
  |some k=>bP cs rs f p++rs.getD k []
 |0,p=>by
  rw [bP];cases h:fT cs rs (p.getLastD 0)<;>simp only [bP,h]
 |f+1,p=>by
  rw [bP];cases h:fT cs rs (p.getLastD 0)with
  |none=>simp only [bP,h]
  |some k=>
   simp only;rw [FV cs rs f (p++rs.getD k [])];rw [show bP cs rs (f+1) p=bP cs rs f (p++rs.getD k [])by rw [bP,h]]
theorem RN {cs:List Int}{rs:List (List Nat)}{a:Nat}{p:List Nat}(h:fT cs rs ((bP cs rs a p).getLastD 0)=none):∀d,bP cs rs (a+d) p=bP cs rs a p
 |0=>rfl
 |d+1=>by
  rw [<-Nat.add_assoc,FV,RN h d,h]
theorem abQ {cs:List Int}{rs:List (List Nat)}{a k:Nat}{p:List Nat}(h:fT cs rs ((bP cs rs a p).getLastD 0)=some k):bP cs rs (a+1) p=bP cs rs a p++rs.getD k []:=by
 rw [FV,h]
theorem abS {cs:List Int}{rs:List (List Nat)}(h:kD cs.length rs)(f:Nat){r:List Nat}(hr:r∈rs)(hb:fQ cs r=true):(bP cs rs f r).Nodup:=
 have key:∀(l:List (List Nat)),(l.flatMap (bP cs rs f)).Nodup->∀r∈l,(bP cs rs f r).Nodup:=by
  intro l
  induction l with
  |nil=>intro _ r hr;cases hr
  |cons a l ih=>
   intro hn r hr;rw [List.flatMap_cons,List.nodup_append]at hn;rcases List.mem_cons.1 hr with rfl|hr
   .exact hn.1
   .exact ih hn.2.1 r hr
 key _ (Zd h f) r (List.mem_filter.2 ⟨hr,hb⟩)
theorem NB {cs:List Int}{rs:List (List Nat)}{last k:Nat}(h:fT cs rs last=some k):k<rs.length/\aG (cs.getD last 0)=true/\(rs.getD k []).headD 0=mt cs last:=by
 unfold fT at h;split at h
 .rename_i hi;obtain⟨h1,h2⟩:=Eu _ _ h;exact⟨h1,hi,h2⟩
 .cases h
theorem FW {cs:List Int}{rs:List (List Nat)}(h:kD cs.length rs){r:List Nat}(hr:r∈rs):∀f,∀p∈bP cs rs f r,p<cs.length
 |0=>h.lt r hr
 |f+1=>by
  rw [FV];cases hn:fT cs rs ((bP cs rs f r).getLastD 0)with
  |none=>exact FW h hr f
  |some k=>
   intro p hp;rcases List.mem_append.1 hp with hp|hp
   .exact FW h hr f p hp
   .exact h.lt _ (dB (NB hn).1) p hp
theorem Dz:∀(l:List Nat)(n:Nat),l.Nodup->(∀a∈l,a<n)->l.length<=n
 |[],n,_,_=>by simp
 |a::l,0,_,h=>by have:=h a (by simp);omega
 |a::l,n+1,hn,h=>by
  have ih:=Dz ((a::l).erase n) n (hn.erase n) (fun b hb=>by
   have h1:=h b (List.mem_of_mem_erase hb);have h2:b≠n:=fun e=>by subst e;exact(List.Nodup.not_mem_erase hn) hb
   omega)
  by_cases hm:n∈a::l
  .rw [List.length_erase_of_mem hm]at ih;omega
  .rw [List.erase_of_not_mem hm]at ih;omega
theorem RO {cs:List Int}{rs:List (List Nat)}(h:kD cs.length rs)(f:Nat){r:List Nat}(hr:r∈rs)(hb:fQ cs r=true):(bP cs rs f r).length<=cs.length:=
 Dz _ _ (abS h f hr hb) (FW h hr f)
structure tu(w:World)(lb gt gm n ct cm:Nat)(r c l:Value)(p:Int)(cs:List Int):Prop where
 cell:w.heap[lb]? =some (.cells #[r,.slice (some ⟨gt,0,none⟩) n ct,c,l,.slice (some ⟨gm,0,none⟩) n cm,.int .i64 p] 141 (0,0))
 tb:dz w gt 0 cs
 ms:dz w gm 0 (jL cs)
 len:cs.length=n
theorem tu.below {w w':World}{lb gt gm n ct cm:Nat}{r c l:Value}{p:Int}{cs:List Int}(h:tu w lb gt gm n ct cm r c l p cs)(hb:Below w.heap.size w w'):tu w' lb gt gm n ct cm r c l p cs:=
 ⟨aR hb h.cell,h.tb.below hb,h.ms.below hb,h.len⟩
def yx(cs:List Int)(i:Nat):Int:=if(jL cs).getD i 0= -1 then(cs.length:Int)else(jL cs).getD i 0
theorem S9 {cs:List Int}{i:Nat}(hi:i<cs.length)(h:aG (cs.getD i 0)=true):yx cs i=(mt cs i:Int):=by
 unfold yx;rw [Np hi h];have:=vG cs i (Nat.le_of_lt hi);by_cases hm:mt cs i<cs.length
 .rw [if_pos hm,if_neg (by omega)]
 .rw [if_neg hm,if_pos rfl];omega
theorem VZ(w:World)(lb gt gm n ct cm:Nat)(r c l:Value)(p:Int)(cs:List Int)(h:tu w lb gt gm n ct cm r c l p cs)(i:Nat)(hi:i<n):
  Calls prog 236 #[.pointer (some ⟨lb,0,none⟩),.int .i64 i] w fun e w'=>e= .returned (.int .i64 (yx cs i))/\w'=w:=by
 have c1:w.cell? ⟨lb,1,none⟩=some (.slice (some ⟨gt,0,none⟩) n ct):=au h.cell 1;have c4:w.cell? ⟨lb,4,none⟩=some (.slice (some ⟨gm,0,none⟩) n cm):=au h.cell 4;have cq:w.cell? ⟨gm,i,none⟩=some (.int .i64 ((jL cs).getD i 0)):=by
  have:=h.ms i (by rw [WS,h.len];exact hi);simpa using this
 have hi':(i:Int)<(n:Int):=by omega
 unfold yx;rw [h.len];generalize(jL cs).getD i 0=m at*;clear h;by_cases hm:m= -1
 .subst hm;rw [if_pos rfl];go_enter func236,ntmps236;go_wp2;go_ret;exact⟨rfl,rfl⟩
 .rw [if_neg hm];have hm':(m== -1)=false:=by simpa using hm
  go_enter func236,ntmps236;go_wp2;go_ret;exact⟨rfl,rfl⟩
theorem ahl(cs:List Int)(to':Nat):∀f i,¬i<to'->kL cs to' f i=0
 |0,_,_=>rfl
 |f+1,i,h=>by rw [kL,if_neg h]
theorem N8(cs:List Int)(to':Nat):∀f i,kL cs to' f i=0∨kL cs to' f i=1
 |0,_=> .inl rfl
 |f+1,i=>by
  rw [kL];split
  .split
   .exact .inl rfl
   .split
    .exact .inr rfl
    .split
     .exact N8 cs to' f _
     .exact N8 cs to' f _
  .exact .inl rfl
theorem TI(w:World)(lb gt gm n ct cm:Nat)(r c l:Value)(p:Int)(cs:List Int)(h:tu w lb gt gm n ct cm r c l p cs)(hn:n<=1000)(fr to' f:Nat)(hto:to'<=n)(hfr:fr<=n+1)(hf:n+1 - fr<=f):
  Calls prog 199 #[.pointer (some ⟨lb,0,none⟩),.int .i64 fr,.int .i64 to'] w fun e w'=>e= .returned (.int .i64 (kL cs to' f fr))/\w'=w:=by
 have HIE:Hid (∀i:Nat,i<n->Calls prog 236 #[.pointer (some ⟨lb,0,none⟩),.int .i64 i] w fun e w'=>e= .returned (.int .i64 (yx cs i))/\w'=w):=fun i hi=>VZ w lb gt gm n ct cm r c l p cs h i hi
 have c1:w.cell? ⟨lb,1,none⟩=some (.slice (some ⟨gt,0,none⟩) n ct):=au h.cell 1;have HT:Hid (∀k:Nat,k<n->w.cell? ⟨gt,k,none⟩=some (.int .i64 (cs.getD k 0))):=fun k hk=>by
  have:=h.tb k (by rw [h.len];exact hk);simpa using this
 have HL:Hid (cs.length=n):=h.len;obtain⟨P,hP⟩:∃P,P=kL cs to' f fr:=⟨_,rfl⟩
 rw [<-hP];have HP:Hid (kL cs to' f fr=P):=hP.symm;clear h hP;go_enter func199,ntmps199;go_wp2;go_loopg [7] (n+1 - fr) (fun gh kv W=>∃(k f':Nat),k<=n+1/\gh=n+1 - k/\gh<=f'/\kv= .int .i64 k/\W=w/\kL cs to' f' k=P);case atStart=>exact⟨fr,f,hfr,rfl,hf,rfl,rfl,HP.out⟩
 case round=>
  obtain⟨k,f',hk,rfl,hgf,rfl,hW,hp⟩:=hrel;have hW':=hW.symm;subst hW';clear HP;by_cases hlt:k<to'
  .obtain⟨f2,rfl⟩:∃f2,f'=f2+1:=⟨f' - 1,by omega⟩
   rw [kL,if_pos hlt]at hp;have hkn:k<n:=by omega
   have ck:=HT.out k hkn;have HI:Hid (Calls prog 236 #[.pointer (some ⟨lb,0,none⟩),.int .i64 k] w fun e w'=>e= .returned (.int .i64 (yx cs k))/\w'=w):=HIE.out k hkn;have AY:Hid (aG (cs.getD k 0)=true->yx cs k=(mt cs k:Int)/\k<=mt cs k/\mt cs k<=n):=fun hh=>⟨S9 (by rw [HL.out];exact hkn) hh,by have:=vG cs k (by rw [HL.out];omega);rw [HL.out]at this;exact this⟩
   have hlt':(k:Int)<(to':Int):=by omega
   generalize cs.getD k 0=q at*;by_cases h0:q=0
   .rw [if_pos h0]at hp;subst h0;have HP:Hid ((0:Int)=P):=hp;clear hp;go_wp2;go_ret;exact⟨kM HP.out,rfl⟩
   .rw [if_neg h0]at hp;have h0':(q==0)=false:=by simpa using h0
    by_cases h1:q=1
    .rw [if_pos (.inl h1)]at hp;subst h1;have HP:Hid ((1:Int)=P):=hp;clear hp;go_wp2;go_ret;exact⟨kM HP.out,rfl⟩
    .have h1':(q==1)=false:=by simpa using h1
     by_cases h2:q=2
     .rw [if_pos (.inr h2)]at hp;subst h2;have HP:Hid ((1:Int)=P):=hp;clear hp;go_wp2;go_ret;exact⟨kM HP.out,rfl⟩
     .rw [if_neg (by omega)]at hp;have h2':(q==2)=false:=by simpa using h2
      cases bG:aG q
      .rw [if_neg (by rw [bG];decide)]at hp;have HP:Hid (kL cs to' f2 (k+1)=P):=hp;have HQ:Hid (aG q=false):=bG;clear hp bG;go_wp2_with fail;refine(kH q _).mono ?_;rintro ev wx ⟨rfl,hx⟩;subst hx;rw [HQ.out];go_wp2;go_roundg (n+1 - (k+1));case measure=>omega
       case rel=>exact⟨k+1,f2,by omega,rfl,by omega,by go_num,rfl,HP.out⟩
      .rw [if_pos bG]at hp;have HP:Hid (kL cs to' f2 (mt cs k+1)=P):=hp;have HQ:Hid (aG q=true):=bG;obtain⟨he,hge,hle⟩:=AY.out bG;rw [he]at HI;generalize mt cs k=z at*;clear hp bG he;go_wp2_with fail;refine(kH q _).mono ?_;rintro ev wx ⟨rfl,hx⟩;subst hx;rw [HQ.out];go_wp2_with fail;refine HI.out.mono ?_;rintro ev wx ⟨rfl,hx⟩;subst hx;go_wp2;go_roundg (n+1 - (z+1));case measure=>omega
       case rel=>exact⟨z+1,f2,by omega,rfl,by omega,by go_num,rfl,HP.out⟩
  .have HP:Hid ((0:Int)=P):=by show _=_;rw [<-hp,ahl _ _ _ _ hlt]
   have hlt':¬(k:Int)<(to':Int):=by omega
   clear hp;go_wp2;go_ret;exact⟨kM HP.out,rfl⟩
theorem ae8(w:World)(s lb gt gm n ct cm:Nat)(r c l:Value)(p:Int)(cs:List Int)(h:tu w lb gt gm n ct cm r c l p cs)(hn:n<=1000)(cp:w.cell? ⟨s,0,none⟩=some (.pointer (some ⟨lb,0,none⟩)))(_hs:s<w.heap.size)(i:Nat)(hi:i<n)(hq:cs.getD i 0=18∨cs.getD i 0=19∨cs.getD i 0=20):
  Calls prog 205 #[.pointer (some ⟨s,0,none⟩),.int .i64 i] w fun e w'=>e= .returned (.int .i64 (if cs.getD i 0=18 then 0 else if cs.getD i 0=19 then 1 else nH cs i))/\Below w.heap.size w w':=by
 have c1:w.cell? ⟨lb,1,none⟩=some (.slice (some ⟨gt,0,none⟩) n ct):=au h.cell 1;have ck:w.cell? ⟨gt,i,none⟩=some (.int .i64 (cs.getD i 0)):=by
  have:=h.tb i (by rw [h.len];exact hi);simpa using this
 have hi':(i:Int)<(n:Int):=by omega
 have HR:Hid (tu w lb gt gm n ct cm r c l p cs):=h;have bG:aG (cs.getD i 0)=true:=by rcases hq with e|e|e<;>rw [e]<;>rfl
 have hend:yx cs i=(mt cs i:Int):=S9 (by rw [h.len];exact hi) bG;have hml:=vG cs i (by rw [h.len];omega);rw [h.len]at hml;have hodd:kL cs (mt cs i) (n+1) (i+1)=nH cs i:=adu (by rw [h.len];exact hi) bG (n+1) (by omega);have HF:Hid (∀W,Below w.heap.size w W->Calls prog 199 #[.pointer (some ⟨lb,0,none⟩),.int .i64 ((i:Int)+1),.int .i64 (mt cs i)] W fun e w'=>e= .returned (.int .i64 (nH cs i))/\w'=W):=fun W hb=>by
  rw [<-hodd];have:=TI W lb gt gm n ct cm r c l p cs (h.below hb) hn (i+1) (mt cs i) (n+1) hml.2 (by omega) (by omega);rw [Int.natCast_add]at this;exact this
 have HE:Hid (∀W,Below w.heap.size w W->Calls prog 236 #[.pointer (some ⟨lb,0,none⟩),.int .i64 i] W fun e w'=>e= .returned (.int .i64 (mt cs i))/\w'=W):=fun W hb=>by
  rw [<-hend];exact VZ W lb gt gm n ct cm r c l p cs (h.below hb) i hi
 have h01:nH cs i=0∨nH cs i=1:=by rw [<-hodd];exact N8 _ _ _ _
 clear h bG hend hml hodd HR;generalize nH cs i=d at*;generalize mt cs i=z at*;generalize cs.getD i 0=q at*;rcases hq with rfl|rfl|rfl
 .rw [if_pos rfl];go_enter func205,ntmps205;go_wp2;go_ret;exact⟨rfl,Below.refl _ _⟩
 .rw [if_neg (by decide),if_pos rfl];go_enter func205,ntmps205;go_wp2;go_ret;exact⟨rfl,Below.refl _ _⟩
 .rw [if_neg (by decide),if_neg (by decide)];have hd2:d%2=d:=by omega
  have hd0:0<=d:=by omega
  have HD:Hid (d%2=d/\0<=d):=⟨hd2,hd0⟩
  clear hd2 hd0 h01;go_enter func205,ntmps205;go_wp2_with fail;go_quiet(first
   |(go_at_call 236;refine Calls.quiet_of_same (HE.out _ ?_);exact below_drewN (Below.refl _ _) _)
   |(go_at_call 199;refine Calls.quiet_of_same (HF.out _ ?_);exact below_drewN (Below.refl _ _) _)
   |(go_at_call 96;refine Calls.quiet_of_same (xJ d _ HD.out.2)))
  go_wp2;go_ret;exact⟨kM HD.out.1,below_drewN (Below.refl _ _) _⟩
