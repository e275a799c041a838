import Derived.Test.YtkbinfhclaafhaaGreatDoorH07
import Derived.BigQuiet
import Derived.Maps.Keyed
import Derived.ChangeMaps4
namespace Go.Proofs.YtkbinfhclaafhaaGreatDoor
open Go.RowKit
open Go.Proofs.Tryz
set_option maxRecDepth 100000
set_option maxHeartbeats 32000000
theorem afn(lf:List Bool)(k:Nat):eH lf (k+1)=eH lf k++(if jW lf k=true then [k]else []):=by
 rw [eH,List.range_succ,List.filter_append,List.filter_cons,List.filter_nil];rfl
theorem M7(lf:List Bool)(k:Nat):(eH lf k).length<=k:=by
 have:=List.length_filter_le (jW lf) (List.range k);rw [List.length_range]at this;exact this
theorem Wo {lf:List Bool}{n p:Nat}(h:p∈eH lf n):p<n/\jW lf p=true:=⟨List.mem_range.1 (List.mem_filter.1 h).1,(List.mem_filter.1 h).2⟩
theorem afo(w:World)(L:LP)(ks ls:List Int)(h:LX w L ks ls)(hn:L.n<=1000):
  Calls prog 218 #[.pointer (some ⟨L.lb,0,none⟩)] w fun e w'=>∃v,e= .returned v/\w'.ownsRow w.heap.size 3 1 v (eH (aD L.cs) L.n).length (iv (nl (eH (aD L.cs) L.n)))/\Below w.heap.size w w':=by
 obtain⟨iI,p8,p9,qb,qd⟩:=info_parts Tryz.xh;have a1:=h.f1;have HX:Hid (LX w L ks ls):=h;clear h;go_enter func218,ntmps218;go_wp2;clear a1;go_loopg [3,11] L.n (fun gh pv kv W=>∃k:Nat,k<=L.n/\gh=L.n - k/\kv= .int .i64 k/\W.ownsRow w.heap.size 3 1 pv (eH (aD L.cs) k).length (iv (nl (eH (aD L.cs) k)))/\Below w.heap.size w W);case atStart=>exact⟨0,by omega,rfl,rfl,World.ownsRow_nil _ _ _ _,Below.refl _ _⟩
 case round=>
  obtain⟨k,hk,rfl,rfl,hrow,hb⟩:=hrel;obtain⟨pa,pc,rfl⟩:=fH hrow;have hbz:=hb.size;have hpl:=M7 (aD L.cs) k;by_cases hlt:k<L.n
  .have hX:=HX.out.below hb;have b1:=hX.ct k hlt;have hlt':(k:Int)<(L.n:Int):=by omega
   have zZ:=afn (aD L.cs) k;have U5:jW (aD L.cs) k=dm (L.cs.getD k 0):=Pp (by rw [HX.out.len];exact hlt);rw [U5]at zZ;clear hX U5;generalize L.cs.getD k 0=c at*;cases hl:dm c
   .rw [hl,if_neg (by decide),List.append_nil]at zZ;have HL:Hid ((!dm c)=true):=by show _=_;rw [hl];rfl
    have HR:Hid (wr.ownsRow w.heap.size 3 1 (.slice pa (eH (aD L.cs) k).length pc) (eH (aD L.cs) (k+1)).length (iv (nl (eH (aD L.cs) (k+1))))):=by rw [zZ];exact hrow
    have HB:Hid (Below w.heap.size w wr):=hb;clear hl zZ hrow hb;go_wp2_with fail;refine(sw c _).mono ?_;rintro ev wx ⟨rfl,hx⟩;have hx':=hx.symm;subst hx';rw [HL.out];go_wp2;go_roundg (L.n - (k+1));case measure=>omega
    case rel=>exact⟨k+1,by omega,rfl,by go_num,HR.out,HB.out⟩
   .rw [hl,if_pos rfl]at zZ;have HL:Hid ((!dm c)=false):=by show _=_;rw [hl];rfl
    have HS:Hid (eH (aD L.cs) (k+1)=eH (aD L.cs) k++[k]):=zZ;clear hl zZ;go_wp2_with fail;refine(sw c _).mono ?_;rintro ev wx ⟨rfl,hx⟩;have hx':=hx.symm;subst hx';rw [HL.out];go_wp2_with(at_builtin;refine zf _ rfl _ _ 31 rfl w.heap.size 3 iI (.int .i64 0) 8 underlying31 p8 p9 qb qd rfl (by decide) _ _ _ rfl hrow _ _ rfl rfl (by omega) hbz ?_);intro v' w5 hown5 hg5;have HR:Hid (w5.ownsRow w.heap.size 3 1 v' (eH (aD L.cs) (k+1)).length (iv (nl (eH (aD L.cs) (k+1))))):=by
     rw [HS.out];have e:iv (nl (eH (aD L.cs) k++[k]))=iv (nl (eH (aD L.cs) k))++[.int .i64 (k:Int)]:=by simp [iv,nl]
     rw [e,List.length_append];exact hown5
    have HB:Hid (Below w.heap.size w w5):=hb.grown hg5 hbz fun q hq=>(hrow.lt q hq).1
    clear hown5 hg5 hrow hb;go_wp2;go_roundg (L.n - (k+1));case measure=>omega
    case rel=>exact⟨k+1,by omega,rfl,by go_num,HR.out,HB.out⟩
  .obtain rfl:k=L.n:=by omega
   have HR:Hid _:=hrow;have HB:Hid _:=hb;clear hrow hb;go_wp2;go_ret;exact⟨_,rfl,HR.out,HB.out⟩
def kN(g:Nat)(ab:Nat×Nat):Value:= .slice (some ⟨g,ab.1,none⟩) (ab.2 - ab.1) (ab.2 - ab.1)
def bL(left:List Nat)(ab:Nat×Nat):List Nat:=(left.take ab.2).drop ab.1
structure yg(w:World)(B:Nat)(v:Value)(g:Nat)(left:List Nat)(ax:List (Nat×Nat)):Prop where
 row:w.ownsRow B 31 1 v ax.length (ax.map (kN g))
 lf:dz w g 0 (nl left)
 ok:∀ab∈ax,ab.1<ab.2/\ab.2<=left.length
 lt:left≠[]->B<=g/\g<w.heap.size
 ty:left≠[]->∃cs,w.heap[g]? =some (.cells cs 3 (0,0))
theorem ail(w:World)(L:LP)(ks ls:List Int)(h:LX w L ks ls)(hn:L.n<=1000):
  Calls prog 154 #[.pointer (some ⟨L.lb,0,none⟩)] w fun e w'=>∃v g ax,e= .returned v/\yg w' w.heap.size v g (eH (aD L.cs) L.n) ax/\ax.map (bL (eH (aD L.cs) L.n))=eZ ls (aD L.cs)/\Below w.heap.size w w':=by
 obtain⟨iS,U2,VH,VI,VJ⟩:=info_parts Tryz.aeT;have HX:Hid (LX w L ks ls):=h;have Qf:Hid (Calls prog 218 #[.pointer (some ⟨L.lb,0,none⟩)] w fun e w'=>∃v,e= .returned v/\w'.ownsRow w.heap.size 3 1 v (eH (aD L.cs) L.n).length (iv (nl (eH (aD L.cs) L.n)))/\Below w.heap.size w w'):=afo w L ks ls h hn;have hll:=M7 (aD L.cs) L.n;have AZ:Hid (lF ls (eH (aD L.cs) L.n) (eZ ls (aD L.cs)) [] 0):=by have:=lF.start ls (aD L.cs);rw [h.kl.2]at this;exact this
 have HM:Hid (∀k,k<(eH (aD L.cs) L.n).length->(eH (aD L.cs) L.n).getD k 0<L.n):=fun k hk=>(Wo (dB hk)).1
 clear h;generalize eH (aD L.cs) L.n=left at*;generalize eZ ls (aD L.cs)=R at*;go_enter func154,ntmps154;go_wp2_with fail;refine Qf.out.mono ?_;rintro ev w2 ⟨lv,rfl,hown,hb2⟩;obtain⟨la,lc,rfl⟩:=fH hown;obtain⟨g,hg⟩:∃g,0<left.length->la=some ⟨g,0,none⟩:=by
  by_cases h0:0<left.length
  .obtain⟨g,cap,hv,_⟩:=kg hown h0;exact⟨g,fun _=>by simpa using(by simpa using hv:la=some ⟨g,0,none⟩/\lc=cap).1⟩
  .exact⟨0,fun h=>absurd h h0⟩
 have Qu:Hid (w2.ownsRow w.heap.size 3 1 (.slice la left.length lc) left.length (iv (nl left))):=hown;have HB2:Hid (Below w.heap.size w w2):=hb2;have Fw:Hid (0<left.length->la=some ⟨g,0,none⟩):=hg;clear hown hb2 Qf hg;go_wp2;go_loopg [4,5] left.length (fun gh rv fv W=>∃(f:Nat)(ax:List (Nat×Nat)),f<=left.length/\gh=left.length - f/\fv= .int .i64 f/\ax.length<=f/\W.ownsRow w.heap.size 31 1 rv ax.length (ax.map (kN g))/\W.ownsRow w.heap.size 3 1 (.slice la left.length lc) left.length (iv (nl left))/\Below w.heap.size w W/\(∀ab∈ax,ab.1<ab.2/\ab.2<=left.length)/\lF ls left R (ax.map (bL left)) f);case atStart=>exact⟨0,[],by omega,rfl,rfl,by simp,World.ownsRow_nil _ _ _ _,Qu.out,HB2.out,by simp,AZ.out⟩
 case round=>
  clear Qu HB2 AZ;obtain⟨f,ax,hf,rfl,rfl,VB,hrow,hown,hb,hok,hG⟩:=hrel;obtain⟨ra,rc,rfl⟩:=fH hrow;have hbz:=hb.size;by_cases hlt:f<left.length
  .have hlt':(f:Int)<(left.length:Int):=by omega
   have hla:=Fw.out (by omega);subst hla;have JH:Hid (wr.ownsRow w.heap.size 31 1 (.slice ra ax.length rc) ax.length (ax.map (kN g))):=hrow;have HOWN:Hid (wr.ownsRow w.heap.size 3 1 (.slice (some ⟨g,0,none⟩) left.length lc) left.length (iv (nl left))):=hown;have hcap:left.length<=lc:=(kg hown (by omega)).choose_spec.choose_spec.2.1|>fun h=>by
    obtain⟨g',c',hv,hc,_⟩:=kg hown (show 0<left.length by omega);have:lc=c':=by have:=hv;simp at this;exact this.2
    omega
   have HB:Hid (Below w.heap.size w wr):=hb;have Qr:Hid (∀ab∈ax,ab.1<ab.2/\ab.2<=left.length):=hok;have HI:Hid (pO ls left R (ax.map (bL left)) f (f+1)):=hG.opn hlt;have HC:Hid (∀k,k<left.length->wr.cell? ⟨g,k,none⟩=some (.int .i64 ((left.getD k 0:Nat):Int))/\wr.cell? ⟨L.gl,left.getD k 0,none⟩=some (.int .i64 (ls.getD (left.getD k 0) 0))/\left.getD k 0<L.n):=fun k hk=>by
    have h1:=jZ hown k (by rw [jM];exact hk);rw [uw _ _ hk]at h1;exact⟨h1,(HX.out.below hb).cl _ (HM.out k hk),HM.out k hk⟩
   have a3:=(HX.out.below hb).f3;obtain⟨cf1,cf2,cf3⟩:=HC.out f hlt;clear hrow hown hb hok hG;obtain⟨W1,hW1⟩:∃W1,W1=wr:=⟨_,rfl⟩
   subst hW1;go_wp2;go_loopg [6] (left.length - (f+1)) (fun gh tv W=>∃(t m:Nat),f+1<=t/\t<=left.length/\gh=left.length - t/\tv= .int .i64 t/\W=W1.drewN m/\pO ls left R (ax.map (bL left)) f t);case atStart=>exact⟨f+1,0,by omega,by omega,rfl,by go_num,rfl,HI.out⟩
   case round=>
    obtain⟨t,m,hft,ht,rfl,rfl,rfl,hI⟩:=hrel;clear HI;have hbf:((left.getD f 0:Nat):Int)<(L.n:Int):=by omega
    by_cases hgo:t<left.length/\ls.getD (left.getD t 0) 0=ls.getD (left.getD f 0) 0
    .obtain⟨ct1,Sc,ct3⟩:=HC.out t hgo.1;have HI2:Hid (pO ls left R (ax.map (bL left)) f (t+1)):=hI.more (by omega) hgo.1 hgo.2;have htl:=hgo.1;have ht':(t:Int)<(left.length:Int):=by omega
     have hbt:((left.getD t 0:Nat):Int)<(L.n:Int):=by omega
     have heq:(ls.getD (left.getD t 0) 0==ls.getD (left.getD f 0) 0)=true:=by simpa using hgo.2
     clear hgo hI;generalize ls.getD (left.getD t 0) 0=lt' at*;generalize ls.getD (left.getD f 0) 0=lf' at*;generalize left.getD t 0=pt at*;generalize left.getD f 0=pf at*;go_wp2_with fail;go_quiet(fail);go_wp2;go_roundg (left.length - (t+1));case measure=>omega
     case rel=>exact⟨t+1,_,by omega,by omega,rfl,by go_num,rfl,HI2.out⟩
    .have HG2:Hid (lF ls left R (ax.map (bL left)++[(left.take t).drop f]) t):=hI.shut (by omega) ht (by
      by_cases h:t<left.length
      .exact .inr fun e=>hgo ⟨h,e⟩
      .exact .inl h)
     have hr2:(W1.drewN m).ownsRow w.heap.size 31 1 (.slice ra ax.length rc) ax.length (ax.map (kN g)):=dJ JH.out (wK (r:=none)) (by cases(Value.slice ra ax.length rc).ownBlock<;>simp);have UN:w.heap.size<=(W1.drewN m).heap.size:=hbz;have hnone:(Value.slice ra ax.length rc).ownBlock=none∨(Value.slice ra ax.length rc).ownBlock≠none:=by cases(Value.slice ra ax.length rc).ownBlock<;>simp
     have aka:(f:Int)<=(t:Int):=by omega
     have htc:(t:Int)<=(lc:Int):=by omega
     have hcnt:Hid (ax.length<=1000):=by show _<=_;omega
     by_cases htl:t<left.length;case pos=>
      obtain⟨ct1,Sc,ct3⟩:=HC.out t htl;have ht':(t:Int)<(left.length:Int):=by omega
      have hbt:((left.getD t 0:Nat):Int)<(L.n:Int):=by omega
      have heq:(ls.getD (left.getD t 0) 0==ls.getD (left.getD f 0) 0)=false:=by
       simp only [beq_eq_false_iff_ne];exact fun e=>hgo ⟨htl,e⟩
      clear hgo hI;generalize ls.getD (left.getD t 0) 0=lt' at*;generalize ls.getD (left.getD f 0) 0=lf' at*;generalize left.getD t 0=pt at*;generalize left.getD f 0=pf at*;go_wp2_with fail;go_quiet(fail);have mZ:((W1.drewN m).drewN nq).ownsRow w.heap.size 31 1 (.slice ra ax.length rc) ax.length (ax.map (kN g)):=dJ (dJ JH.out (wK (r:=none)) hnone) (wK (r:=none)) hnone;have uQ:Hid (((W1.drewN m).drewN nq).ownsRow w.heap.size 3 1 (.slice (some ⟨g,0,none⟩) left.length lc) left.length (iv (nl left))):=dJ (dJ HOWN.out (wK (r:=none)) (.inr (by simp [Value.ownBlock]))) (wK (r:=none)) (.inr (by simp [Value.ownBlock]));have bW:Hid (Below w.heap.size w ((W1.drewN m).drewN nq)):=below_drewN (below_drewN HB.out _) _;have iR:w.heap.size<=((W1.drewN m).drewN nq).heap.size:=hbz;generalize(W1.drewN m).drewN nq=W5 at*;clear hr2 UN;go_wp2_with(at_builtin;refine zf _ rfl _ _ 127 rfl w.heap.size 31 iS (.slice none 0 0) 24 underlying127 U2 VH VI VJ rfl (by decide) _ _ _ rfl mZ _ _ rfl rfl (by have:=hcnt.out;omega) iR ?_);intro v6 w6 hown6 jI;have JG:Hid (w6.ownsRow w.heap.size 31 1 v6 (ax++[(f,t)]).length ((ax++[(f,t)]).map (kN g))):=by
       rw [List.map_append,List.length_append];exact hown6
      have CY:Hid (w6.ownsRow w.heap.size 3 1 (.slice (some ⟨g,0,none⟩) left.length lc) left.length (iv (nl left))):=dJ uQ.out jI (lQ uQ.out mZ (by decide));have bO:Hid (Below w.heap.size w w6):=bW.out.grown jI iR fun q hq=>(mZ.lt q hq).1
      have JA:Hid (∀ab∈ax++[(f,t)],ab.1<ab.2/\ab.2<=left.length):=fun ab hab=>by
       rcases List.mem_append.1 hab with h|h
       .exact Qr.out ab h
       .rw [List.mem_singleton.1 h];exact⟨hft,ht⟩
      have Jo:Hid (lF ls left R ((ax++[(f,t)]).map (bL left)) t):=by rw [List.map_append];exact HG2.out
      clear hown6 jI mZ;go_wp2;go_roundg (left.length - t);case measure=>omega
      case rel=>exact⟨t,ax++[(f,t)],ht,rfl,by go_num,by rw [List.length_append,List.length_singleton];omega,JG.out,CY.out,bO.out,JA.out,Jo.out⟩
     case neg=>
      have ht':¬(t:Int)<(left.length:Int):=by omega
      have ht2:decide ((t:Int)<(left.length:Int))=false:=by simpa using ht'
      clear hgo hI;go_wp2_with fail;go_quiet(fail);have mZ:((W1.drewN m).drewN nq).ownsRow w.heap.size 31 1 (.slice ra ax.length rc) ax.length (ax.map (kN g)):=dJ (dJ JH.out (wK (r:=none)) hnone) (wK (r:=none)) hnone;have uQ:Hid (((W1.drewN m).drewN nq).ownsRow w.heap.size 3 1 (.slice (some ⟨g,0,none⟩) left.length lc) left.length (iv (nl left))):=dJ (dJ HOWN.out (wK (r:=none)) (.inr (by simp [Value.ownBlock]))) (wK (r:=none)) (.inr (by simp [Value.ownBlock]));have bW:Hid (Below w.heap.size w ((W1.drewN m).drewN nq)):=below_drewN (below_drewN HB.out _) _;have iR:w.heap.size<=((W1.drewN m).drewN nq).heap.size:=hbz;generalize(W1.drewN m).drewN nq=W5 at*;clear hr2 UN;go_wp2_with(at_builtin;refine zf _ rfl _ _ 127 rfl w.heap.size 31 iS (.slice none 0 0) 24 underlying127 U2 VH VI VJ rfl (by decide) _ _ _ rfl mZ _ _ rfl rfl (by have:=hcnt.out;omega) iR ?_);intro v6 w6 hown6 jI;have JG:Hid (w6.ownsRow w.heap.size 31 1 v6 (ax++[(f,t)]).length ((ax++[(f,t)]).map (kN g))):=by
       rw [List.map_append,List.length_append];exact hown6
      have CY:Hid (w6.ownsRow w.heap.size 3 1 (.slice (some ⟨g,0,none⟩) left.length lc) left.length (iv (nl left))):=dJ uQ.out jI (lQ uQ.out mZ (by decide));have bO:Hid (Below w.heap.size w w6):=bW.out.grown jI iR fun q hq=>(mZ.lt q hq).1
      have JA:Hid (∀ab∈ax++[(f,t)],ab.1<ab.2/\ab.2<=left.length):=fun ab hab=>by
       rcases List.mem_append.1 hab with h|h
       .exact Qr.out ab h
       .rw [List.mem_singleton.1 h];exact⟨hft,ht⟩
      have Jo:Hid (lF ls left R ((ax++[(f,t)]).map (bL left)) t):=by rw [List.map_append];exact HG2.out
      clear hown6 jI mZ;go_wp2;go_roundg (left.length - t);case measure=>omega
      case rel=>exact⟨t,ax++[(f,t)],ht,rfl,by go_num,by rw [List.length_append,List.length_singleton];omega,JG.out,CY.out,bO.out,JA.out,Jo.out⟩
  .have hG0:=hG.done hlt;obtain rfl:f=left.length:=by omega
   have HR:Hid (yg wr w.heap.size (.slice ra ax.length rc) g left ax):=by
    refine⟨hrow,?_,hok,fun hne=> ?_,fun hne=> ?_⟩
    .by_cases h0:0<left.length
     .have:=Fw.out h0;subst this;intro i hi;rw [jM]at hi;have h1:=jZ hown i (by rw [jM];exact hi);simpa using h1
     .have:left=[]:=List.length_eq_zero_iff.1 (by omega);rw [this];intro i hi;simp [nl]at hi
    .have h0:=List.length_pos_iff.2 hne;have:=Fw.out h0;subst this;obtain⟨g',c',hv,hc,hlt,hB⟩:=kg hown h0;have e:g=g':=by have:=hv;simp at this;exact this.1
     subst e;exact⟨hB,hlt⟩
    .have:=Fw.out (List.length_pos_iff.2 hne);subst this;rcases hown.2 with⟨e1,_⟩|⟨g',cap,cur,e1,_,hh,_⟩
     .cases e1
     .injection e1 with e2
      injection e2 with e3
      injection e3 with e4
      subst e4;exact⟨cur,hh⟩
   have HB:Hid (Below w.heap.size w wr):=hb;have HE:Hid (ax.map (bL left)=R):=hG0;have hlt':¬(left.length:Int)<(left.length:Int):=by omega
   clear hrow hown hb hok hG hG0 hlt;go_wp2;go_ret;exact⟨_,rfl,g,ax,HR.out,HE.out,HB.out⟩
section
open Go.Maps
section
variable{P:Program}{w:World}{t k e:TypeId}{b clock:Nat}{es:Array MapEntry}{key val z:Value}
theorem Y1(ht:P.underlying t=some (.map k e))(hb:w.heap[b]? =some (.map es clock))(hc:(Instr.checkKey false 10000 k key).run P w= .ok () w)(hf:(Instr.findKey k key es.toList).run P w= .ok none w):
  (Instr.mapUpdate t (.map (some b)) key val).run P w= .ok () (ChangeMaps.setBlock w b (.map (es.push ⟨key,val,clock⟩) (clock+1))):=by
 simp [Instr.mapUpdate,run_underlying ht,MapKept.run_getObj_map hb,hc,hf,MapKept.run_setObj_map _ hb,Result.andThen,ChangeMaps.setBlock]
theorem YZ(c:Bool)(ht:P.underlying t=some (.map k e))(hz:(zeroValue e).run P w= .ok z w)(hb:w.heap[b]? =some (.map es clock))(hc:∀em,(Instr.checkKey em 10000 k key).run P w= .ok () w)(hf:(Instr.findKey k key es.toList).run P w= .ok none w):
  (Instr.lookup t (.map (some b)) key c).run P w= .ok (if c then .tuple #[z,.bool false]else z) w:=by
 simp [Instr.lookup,run_underlying ht,MapKept.run_getObj_map hb,hc,hf,hz,Result.andThen]
theorem Y0(c:Bool){j:Nat}{v:Value}(ht:P.underlying t=some (.map k e))(hb:w.heap[b]? =some (.map es clock))(hc:∀em,(Instr.checkKey em 10000 k key).run P w= .ok () w)(hf:(Instr.findKey k key es.toList).run P w= .ok (some (j,v)) w):
  (Instr.lookup t (.map (some b)) key c).run P w= .ok (if c then .tuple #[v,.bool true]else v) w:=by
 simp [Instr.lookup,run_underlying ht,MapKept.run_getObj_map hb,hc,hf,Result.andThen]
theorem aic(w:World)(k:TypeId)(x:Value)(i:Nat):(Instr.findAsking k x [] i).run P w= .ok none w:=by
 simp [Instr.findAsking]
theorem aib {x:Value}{m:MapEntry}{r:List MapEntry}{q:Bool}(i:Nat)(h:(Op.equal k x m.key).run P w= .ok q w):
  (Instr.findAsking k x (m::r) i).run P w=if q=true then .ok (some (i,m.val)) w else(Instr.findAsking k x r (i+1)).run P w:=by
 cases q<;>simp [Instr.findAsking,h,Result.andThen]
theorem YY(hk:P.underlying k=some (.int .i64))(a:Int):∀(es:List MapEntry)(i:Nat),(∀m∈es,∃x,m.key= .int .i64 x)->∃r,Instr.findNow (.int .i64) (.int .i64 a) es i=some r/\((r=none/\∀m∈es,m.key≠.int .i64 a)∨∃j m,r=some (i+j,m.val)/\es[j]? =some m/\m.key= .int .i64 a/\∀j' m',j'<j->es[j']? =some m'->m'.key≠.int .i64 a)
 |[],i,_=>⟨none,rfl,.inl ⟨rfl,by simp⟩⟩
 |m::r,i,h=>by
  obtain⟨x,hx⟩:=h m (by simp);by_cases hxa:a=x
  .refine⟨some (i,m.val),by simp [Instr.findNow,hx,Instr.sameNow,hxa],.inr ⟨0,m,by simp,by simp,by rw [hx,hxa],fun j' _ hj'=>by omega⟩⟩
  .obtain⟨q,hq,hr⟩:=YY hk a r (i+1) (fun y hy=>h y (by simp [hy]));have hne:(a==x)=false:=by simpa using hxa
   refine⟨q,by simp [Instr.findNow,hx,Instr.sameNow,hne,hq],?_⟩;rcases hr with⟨h1,h2⟩|⟨j,y,h1,h2,h3,h4⟩
   .refine .inl ⟨h1,fun y hy=> ?_⟩;rcases List.mem_cons.1 hy with rfl|hy
    .rw [hx];intro e;cases e;exact hxa rfl
    .exact h2 y hy
   .refine .inr ⟨j+1,y,by rw [h1];congr 2;omega,by simpa using h2,h3,?_⟩;intro j' m' hj' hm';cases j' with
    |zero=>simp at hm';subst hm';rw [hx];intro e;cases e;exact hxa rfl
    |succ j'=>exact h4 j' m' (by omega) (by simpa using hm')
theorem Ow(hk:P.underlying k=some (.int .i64))(w:World)(a:Int)(em:Bool):(Instr.checkKey em 10000 k (.int .i64 a)).run P w= .ok () w:=by
 unfold Instr.checkKey;simp [run_underlying hk]
theorem YX(hk:P.underlying k=some (.int .i64))(w:World)(a:Int)(es:List MapEntry)(h:∀m∈es,∃x,m.key= .int .i64 x):
  ((Instr.findKey k (.int .i64 a) es).run P w= .ok none w/\∀m∈es,m.key≠.int .i64 a)∨∃j m,(Instr.findKey k (.int .i64 a) es).run P w= .ok (some (j,m.val)) w/\es[j]? =some m/\m.key= .int .i64 a:=by
 obtain⟨r,hr,h1⟩:=YY hk a es 0 h;have e1:(Instr.findKey k (.int .i64 a) es).run P w= .ok r w:=by simp [Instr.findKey,run_underlying hk,hr]
 rcases h1 with⟨rfl,h2⟩|⟨j,m,rfl,h2,h3,_⟩
 .exact .inl ⟨e1,h2⟩
 .exact .inr ⟨j,m,by simpa using e1,h2,h3⟩
end
end
