import Derived.Test.YtkbinfhclaafhaaGreatDoorZ13
import Derived.Test.YtkbinfhclaafhaaGreatDoorZ17
import Derived.Deep.DeepCutAuto
import Derived.Test.YtkbinfhclaafhaaGreatDoorZ16
namespace Go.Proofs.YtkbinfhclaafhaaGreatDoor
open Go.RowKit
open Go.Proofs.Tryz
set_option maxRecDepth 100000
set_option maxHeartbeats 32000000
set_option linter.all false
theorem Tryz.MW:(prog.info? 3).map (·.size)=some 1:=by kernel_rfl
def zz(para:Int)(cs o o':List Int)(k:Nat):Prop:=o'.length=cs.length/\(∀j,j<cs.length->bN (cs.getD j 0)=true->o'.getD j 0=o.getD j 0)/\(0<k->bN (cs.getD 0 0)=false->o'.getD 0 0=para)
theorem zz.keep {para:Int}{cs o o':List Int}{k:Nat}(h:zz para cs o o' k)(hl:bN (cs.getD k 0)=true):zz para cs o o' (k+1):=
 ⟨h.1,h.2.1,fun _ h0=>by
  rcases Es k with hk|hk
  .subst hk;rw [hl]at h0;cases h0
  .exact h.2.2 hk h0⟩
theorem zz.set {para v:Int}{cs o o':List Int}{k:Nat}(h:zz para cs o o' k)(hk:k<cs.length)(hl:bN (cs.getD k 0)=false)(hv:k=0->v=para):zz para cs o (o'.set k v) (k+1):=by
 refine⟨by simp [h.1],?_,?_⟩
 .intro j hj hjl;rw [getD_set_ne (by rintro rfl;rw [hl]at hjl;cases hjl)];exact h.2.1 j hj hjl
 .intro _ h0;rcases Es k with h'|h'
  .subst h';rw [xd (by rw [h.1];exact hk),hv rfl]
  .rw [getD_set_ne (by omega)];exact h.2.2 h' h0
theorem ajX {w:World}{B B' g n c:Nat}{e:TypeId}{z:Nat}{xs:List Value}(h:w.ownsRow B e z (.slice (some ⟨g,0,none⟩) n c) n xs)(hb:B'<=g):w.ownsRow B' e z (.slice (some ⟨g,0,none⟩) n c) n xs:=by
 refine⟨h.1,?_⟩;rcases h.2 with⟨h,_⟩|⟨g',cap',cur,e1,h3,h4⟩
 .cases h
 .cases e1;exact .inr ⟨g,c,cur,rfl,hb,h4⟩
theorem acF:∀(dh:List Value)(ss:List Sq)(j:Nat),dh.length=ss.length->j<ss.length->(sO dh ss)[j*4]? =some (dh.getD j .nilFunc)/\(sO dh ss)[j*4+1]? =some (.int .i64 (ss.getD j ⟨[],0,0,0⟩).level)/\(sO dh ss)[j*4+2]? =some (.int .i64 (ss.getD j ⟨[],0,0,0⟩).aq)/\(sO dh ss)[j*4+3]? =some (.int .i64 (ss.getD j ⟨[],0,0,0⟩).ax)
 |[],[],j,_,h=>by simp at h
 |a::dh,s::ss,0,_,_=>by simp [sO]
 |a::dh,s::ss,j+1,h,hj=>by
  have ih:=acF dh ss j (by simpa using h) (by simpa using hj);rw [sO,show(j+1)*4=j*4+4 by omega];simpa using ih
theorem alH(lv:List Int)(lf:List Bool):(cQ lv lf).length<=lv.length:=by
 have h1:=congrArg List.length (xN lv lf).1;have h2:=yw (jW lf) (List.range lv.length);rw [KL]at h2;have h3:∀l:List (List Nat),(∀r∈l,r≠[])->l.length<=l.flatten.length:=by
  intro l
  induction l with
  |nil=>intro _;simp
  |cons a l ih=>
   intro hl';have:=ih (fun r hr=>hl' r (by simp [hr]));have:=jc.2 (hl' a (by simp));simp only [eW,yq,bP];omega
 have h4:=h3 _ (xN lv lf).2.1;omega
theorem aiY(rs:List Int)(d:Int)(n b off cap:Nat)(w:World)(hl:rs.length=n)(hn:n<=1000)(hn0:0<n)(hc:bG w b off rs)(hb:b<w.heap.size):
  Calls prog 48 #[.slice (some ⟨b,off,none⟩) n cap,.int .i64 d] w fun ev w'=>∃g c,ev= .returned (.slice (some ⟨g,0,none⟩) n c)/\w'.ownsRow w.heap.size 3 1 (.slice (some ⟨g,0,none⟩) n c) n (iv (gu rs (rs.map cls) d))/\Below w.heap.size w w':=by
 have hmk:=run_make_row' (P:=prog) 31 3 (.int .i64 0) 8 underlying31 Tryz.qB rfl .i64 .i64 n (by omega) (by omega);obtain⟨cs,hcs⟩:∃cs,cs=rs.map cls:=⟨_,rfl⟩
 have oV:Hid (Calls prog 46 #[.slice (some ⟨b,off,none⟩) n cap] w fun e w'=>∃v,e= .returned v/\w'.ownsRow w.heap.size 3 1 v n (iv cs)/\Below w.heap.size w w'):=by rw [hcs];exact WH rs b off cap n w hl hn hc
 rw [<-hcs];have hcl:cs.length=n:=by rw [hcs,jE,hl]
 obtain⟨para,Mi⟩:∃para,para=gz cs d:=⟨_,rfl⟩
 have adR:=ah Mi;have aoJ:para=0∨para=1:=by rw [Mi];exact abm cs d
 obtain⟨LV,P9⟩:∃LV,LV=gu rs cs d:=⟨_,rfl⟩
 rw [<-P9];have HQ:Hid (LV=lG para para cs (((gF cs (aZ cs para) (aN cs) para).flatMap (oP rs (gZ cs para))).foldl jZ (aZ cs para))):=by show _=_;rw [P9,Mi];rfl
 have HL:Hid (rs.length=n/\cs.length=n):=⟨hl,hcl⟩
 have HI:Hid (bG w b off rs/\b<w.heap.size):=⟨hc,hb⟩
 clear hl hc hb hcs hcl Mi P9;go_enter func48,ntmps48;go_wp2_with fail;refine oV.out.mono ?_;rintro ev w1 ⟨cv,rfl,LW,hb1⟩;obtain⟨gc,cc,rfl,YW,jV,QC⟩:=fS LW hn0;have CA:=ah LW;have aG:=ah hb1;have kI:Hid (gc<w1.heap.size/\w.heap.size<=gc/\n<=cc):=⟨jV,QC,YW⟩
 have ou:Hid (Calls prog 70 #[.slice (some ⟨gc,0,none⟩) n cc] w1 fun e w'=>e= .returned (.int .i64 (found cs))/\w'=w1):=PT cs gc 0 cc n w1 HL.out.2 (by omega) (Fu LW);clear LW hb1 YW jV QC oV;have h3:((d !=0)=false/\para=d)∨((d !=0)=true/\(d !=1)=false/\para=d)∨((d !=0)=true/\(d !=1)=true/\para=found cs):=by
  rw [adR.out,gz];by_cases h0:d=0
  .exact .inl ⟨by simpa using h0,by rw [aj (.inl h0)]⟩
  .by_cases h1:d=1
   .exact .inr (.inl ⟨by simpa using h0,by simpa using h1,by rw [aj (.inr h1)]⟩)
   .exact .inr (.inr ⟨by simpa using h0,by simpa using h1,by rw [ai (by omega)]⟩)
 rcases h3 with⟨q0,hd⟩|⟨q0,q1,hd⟩|⟨q0,q1,hd⟩
 subst hd;clear ou;go_wp2_with fail
 rotate_left
 subst hd;clear ou;go_wp2_with fail
 rotate_left
 have HV:=ah hd.symm;clear hd;go_wp2_with fail;refine ou.out.mono ?_;rintro ev wx ⟨rfl,hx⟩;have hx':=hx.symm;subst hx';rw [HV.out];clear ou HV;go_wp2_with fail;all_goals
  refine(agF cs para gc 0 cc n w1 HL.out.2 (by omega) kI.out.2.2 (Fu CA.out) kI.out.1 (by omega)).mono ?_;rintro ev w2 ⟨g1,g2,g3,rfl,hb2,dQ,eu,ni⟩;have hz2:w1.heap.size<=w2.heap.size:=hb2.size;have hg1:=dQ.ge;have hg2:=eu.ge;have hg3:=ni.ge;obtain⟨W3,hW3⟩:∃W3,W3=w2.alloc (.cells (madeCells #[.int .i64 0] n) 3):=⟨_,rfl⟩
  have hb3:Below w2.heap.size w2 W3:=by rw [hW3];exact(aA _ _).alloc (ay _) _
  have mB:bh W3 w2.heap.size 3 w2.heap.size n (List.replicate n (.int .i64 0)):=by rw [hW3];exact bh.made (ay _) (by omega)
  have YB:=dQ.keep hb3 hg1.2;have hlv:(aZ cs para).length=n:=by rw [adn];exact HL.out.2
  have HZ:Hid (w1.heap.size<=w2.heap.size/\Below w1.heap.size w1 w2/\g1<w2.heap.size/\g2<w2.heap.size/\g3<w2.heap.size/\Below w2.heap.size w2 W3/\w2.heap.size<W3.heap.size):=⟨hz2,hb2,hg1.2,hg2.2,hg3.2,hb3,by rw [hW3];simp⟩
  have HR:Hid (bh w2 w1.heap.size 3 g1 n (iv (aZ cs para))/\bh w2 w1.heap.size 3 g2 n (iv (gZ cs para))/\bh w2 w1.heap.size 4 g3 n (bv (aN cs))):=⟨dQ,eu,ni⟩
  have BR:=mB.heap;have rR:Hid ((∀l∈aZ cs para,0<=l/\l<=125)/\(aZ cs para).length=n):=⟨an6 cs para (by omega),hlv⟩
  have bD:Hid (∀s∈gF cs (aZ cs para) (aN cs) para,0<s.at'.length/\s.at'.length<=cs.length/\(∀p∈s.at',p<cs.length)/\0<=s.level/\s.level<=125):=al3 (by rw [adn]) rR.out.1;have Qt:∀j v,(iv (aZ cs para))[j]? =some v->W3.cell? ⟨g1,j,none⟩=some v:=fun j v hj=>by
   have hj':j<n:=by have:=(qW.1 hj).1;rw [mH,hlv]at this;exact this
   rw [YB.cell j hj'];exact hj
  have rQ:=ah (aG.out.trans (hb2.mono aG.out.size));obtain⟨iH,QM⟩:∃iH,iH=aZ cs para:=⟨_,rfl⟩
  have CF:=ah QM;rw [<-QM]at Qt hlv;clear dQ eu ni hb2 YB mB QM hg1 hg2 hg3;have QE:(w2.alloc (.cells (madeCells #[.int .i64 0] n) 3)).heap[w2.heap.size]? =some (.cells (List.replicate n (.int .i64 0)).toArray 3 (0,0)):=by rw [<-hW3];exact BR
  have YX:∀j v,(iv iH)[j]? =some v->(w2.alloc (.cells (madeCells #[.int .i64 0] n) 3)).cell? ((⟨g1,0,none⟩:Addr).add j)=some v:=fun j v hj=>by
   have:=Qt j v hj;rw [<-hW3];simp only [Addr.add];split
   .rename_i h0;subst h0;exact this
   .simpa using this
  have KB:=ah hW3;have CH:=ah hlv;clear BR Qt hlv hW3;have Io:=run_copy_row (P:=prog) (w2.alloc (.cells (madeCells #[.int .i64 0] n) 3)) 31 31 3 3 w2.heap.size 0 n n ⟨g1,0,none⟩ n n (List.replicate n (.int .i64 0)).toArray 3 (iv iH) underlying31 Tryz.MW QE (by rw [mH,CH.out];exact(Nat.min_self n).symm) YX (by rw [mH,CH.out];simp) (fun v hv=>by simp only [iv,jr]at hv;obtain⟨q,_,rfl⟩:=hv;rfl);have A7:Hid ((((w2.alloc (.cells (madeCells #[.int .i64 0] n) 3)).setRow w2.heap.size ((List.replicate n (Value.int .i64 0)).toArray.toList.take 0++iv iH++(List.replicate n (Value.int .i64 0)).toArray.toList.drop (0+(iv iH).length)).toArray)).heap[w2.heap.size]? =some (.cells (iv iH).toArray 3 (0,0))):=by
   show _=_;rw [setRow_heap _ _ _ _ _ _ QE];have:(List.replicate n (Value.int .i64 0)).toArray.toList.take 0++iv iH++(List.replicate n (Value.int .i64 0)).toArray.toList.drop (0+(iv iH).length)=iv iH:=by
    rw [VK,yx,jD (by rw [mH,CH.out];simp),lu]
   rw [this]
  have hb4:=below_setRow (aA w2.heap.size (w2.alloc (.cells (madeCells #[.int .i64 0] n) 3))) (ay _) ((List.replicate n (Value.int .i64 0)).toArray.toList.take 0++iv iH++(List.replicate n (Value.int .i64 0)).toArray.toList.drop (0+(iv iH).length)).toArray;rw [<-KB.out]at hb4;obtain⟨w4,hw4⟩:∃w4,w4=(w2.alloc (.cells (madeCells #[.int .i64 0] n) 3)).setRow w2.heap.size ((List.replicate n (Value.int .i64 0)).toArray.toList.take 0++iv iH++(List.replicate n (Value.int .i64 0)).toArray.toList.drop (0+(iv iH).length)).toArray:=⟨_,rfl⟩
  rw [KB.out,<-hw4,<-KB.out]at hb4;rw [<-hw4]at Io A7;clear hw4;rw [mH,CH.out]at Io;have hB4:Below w2.heap.size w2 w4:=HZ.out.2.2.2.2.2.1.trans hb4;have BZ:w2.heap.size<w4.heap.size:=ku HZ.out.2.2.2.2.2.2 hb4.size;have pF:bh w4 w2.heap.size 3 w2.heap.size n (iv iH):=bh.MB A7.out (ay _) (by rw [mH,CH.out]) (by omega);obtain⟨go,hgo⟩:∃go,go=w2.heap.size:=⟨_,rfl⟩
  have hwb:Below w.heap.size w w4:=rQ.out.trans (hB4.mono rQ.out.size);have dQ:=HR.out.1.keep hB4 HZ.out.2.2.1;have eu:=HR.out.2.1.keep hB4 HZ.out.2.2.2.1;have ni:=HR.out.2.2.keep hB4 HZ.out.2.2.2.2.1;have Ye:w4.ownsRow w.heap.size 3 1 (.slice (some ⟨gc,0,none⟩) n cc) n (iv cs):=nC CA.out fun k o hk ho=>by
   have:gc=k:=by simpa [Value.ownBlock]using hk
   subst this;rw [hB4.block gc (by have:=kI.out.1;have:=HZ.out.1;omega),HZ.out.2.1.block gc kI.out.1];exact ho
  have HX:Hid (bG w4 gc 0 cs/\bG w4 g1 0 iH/\xW w4 g3 0 (aN cs)/\bG w4 b off rs/\bG w4 g2 0 (gZ cs para)):=⟨Fu Ye,by rw [CF.out];exact dQ.ints,ni.bools,HI.out.1.stay hwb HI.out.2,eu.ints⟩
  have HY:Hid (gc<w4.heap.size/\g1<w4.heap.size/\g3<w4.heap.size/\b<w4.heap.size/\g2<w4.heap.size/\go<w4.heap.size/\gc≠go/\g3≠go/\Below w.heap.size w w4/\w.heap.size<=go):=by
   have h1:=kI.out.1;have h2:=HZ.out;have h3:=HI.out.2;have h4:=rQ.out.size;exact⟨by omega,by omega,by omega,by omega,by omega,by omega,by omega,by omega,hwb,by omega⟩
  have Bd:Hid (bf w4 w2.heap.size go n n iH):=by rw [hgo];exact pF
  have A8:=ah hgo;clear hb4 A7 hB4 BZ pF hwb dQ eu ni Ye QE YX;go_wp2_with fail;rw [<-hgo];clear Io hgo KB;refine(al5 cs iH (aN cs) para n gc 0 cc g1 0 n g3 0 n w4 HL.out.2 CH.out (by rw [adl];exact HL.out.2) (by omega) (fun l hl=>by rw [CF.out]at hl;have:=rR.out.1 l hl;omega) (by omega) HX.out.1 HX.out.2.1 HX.out.2.2.1 HY.out.1 HY.out.2.1 HY.out.2.2.1).mono ?_;rintro ev w5 ⟨sv,dh,rfl,dB,Du,hal,hdn⟩;have wL:Hid (∃S,S=gF cs iH (aN cs) para):=⟨_,rfl⟩
  obtain⟨S,hS⟩:=wL.out;rw [<-hS]at Du hal hdn;obtain⟨sa,sc,rfl⟩:=ey Du;have adU:Hid (∀s∈S,0<s.at'.length/\s.at'.length<=n/\(∀p∈s.at',p<n)/\0<=s.level/\s.level<=1000):=by
   intro s hs;rw [hS,CF.out]at hs;have:=bD.out s hs;rw [HL.out.2]at this;exact⟨this.1,this.2.1,this.2.2.1,this.2.2.2.1,by omega⟩
  have Vl:=ah hS;have yo:=ah Du;have HDn:Hid (dh.length=S.length/\∀i,i<S.length->w5.ownsRow w4.heap.size 3 1 (dh.getD i .nilFunc) (S.getD i ⟨[],0,0,0⟩).at'.length (iv (nl (S.getD i ⟨[],0,0,0⟩).at'))):=⟨hal,hdn⟩
  have dx:=ah dB;have pP:=ah (eH Bd.out dB);clear dB Du hal hdn hS;have hSn:S.length<=100000:=by
   have h1:=acE cs iH (aN cs) para (cQ iH (aN cs)) n (cQ iH (aN cs)).length;have h2:S=rL cs iH (aN cs) para (cQ iH (aN cs)) n (cQ iH (aN cs)).length:=by rw [Vl.out];unfold gF rL;rw [KQ,HL.out.2]
   have h3:=alH iH (aN cs);rw [CH.out]at h3;rw [<-h2]at h1;omega
  go_wp2;go_loopg [12] S.length (fun gh fE W=>∃(j:Nat)(o:List Int),j<=S.length/\gh=S.length - j/\fE= .int .i64 j/\bf W w2.heap.size go n n o/\w5.grownBy W (some go)/\o=((S.take j).flatMap (oP rs (gZ cs para))).foldl jZ iH);case atStart=>exact⟨0,iH,by omega,rfl,rfl,pP.out,jt _ _,rfl⟩
  case round=>
   clear pP;obtain⟨j,o,hj,rfl,rfl,hI,eX,hE⟩:=hrel;have D6:=ah hI;have pN:=ah eX;have HE:=ah hE;have lN:w4.heap.size<=w5.heap.size:=dx.out.size;have hY:=HY.out;by_cases hlt:j<S.length
   .obtain⟨gs,cps,hv,aol,gV,aor⟩:=fS yo.out (by omega);obtain⟨hv1,hv2⟩:sa=some ⟨gs,0,none⟩/\sc=cps:=by simpa using hv
    clear hv;subst hv1;subst hv2;have hsm:S.getD j ⟨[],0,0,0⟩∈S:=dm hlt;have hok:=adU.out _ hsm;obtain⟨ga,ca,Ql,aoj,ahm,aop⟩:=fS (HDn.out.2 j hlt) hok.1;have hat:=HDn.out.2 j hlt;rw [Ql]at hat;have oK:=acF dh S j HDn.out.1 hlt;have e0:=dg yo.out (j*4) (by omega);have e1:=dg yo.out (j*4+1) (by omega);have e2:=dg yo.out (j*4+2) (by omega);have e3:=dg yo.out (j*4+3) (by omega);rw [oK.1,Ql,<-pq eX gV (by omega)]at e0;rw [oK.2.1,<-pq eX gV (by omega)]at e1;rw [oK.2.2.1,<-pq eX gV (by omega)]at e2;rw [oK.2.2.2,<-pq eX gV (by omega)]at e3;have HN:Hid (((S.take (j+1)).flatMap (oP rs (gZ cs para))).foldl jZ iH=(oP rs (gZ cs para) (S.getD j ⟨[],0,0,0⟩)).foldl jZ o):=by
     show _=_;rw [hE,pZ hlt,OE,CT];simp [aO,aQ hlt]
    have N9:Hid (∀W,W.heap=wr.heap->Calls prog 73 #[.agg #[.slice (some ⟨ga,0,none⟩) (S.getD j ⟨[],0,0,0⟩).at'.length ca,.int .i64 (S.getD j ⟨[],0,0,0⟩).level,.int .i64 (S.getD j ⟨[],0,0,0⟩).aq,.int .i64 (S.getD j ⟨[],0,0,0⟩).ax],.slice (some ⟨b,off,none⟩) n cap,.slice (some ⟨g2,0,none⟩) n n,.slice (some ⟨go,0,none⟩) n n] W fun ev w'=>ev= .returned (.tuple #[])/\bf w' w2.heap.size go n n ((oP rs (gZ cs para) (S.getD j ⟨[],0,0,0⟩)).foldl jZ o)/\W.grownBy w' (some go)):=by
     intro W hW;have CZ:∀(bb k:Nat),bb<w5.heap.size->bb≠go->W.cell? ⟨bb,k,none⟩=w5.cell? ⟨bb,k,none⟩:=fun bb k h1 h2=>by
      rw [<-pq eX h1 h2];simp only [World.cell?,hW]
     have hIW:bf W w2.heap.size go n n o:=nC hI fun k oo _ ho=>by rw [hW];exact ho
     refine amN rs (gZ cs para) o (S.getD j ⟨[],0,0,0⟩) n (S.getD j ⟨[],0,0,0⟩).at'.length ga 0 ca b off cap g2 0 n go n w2.heap.size W rfl hok.1 (by omega) hok.2.2.1 hok.2.2.2 ?_ ?_ ?_ ?_ ?_ ?_ HL.out.1 (by rw [an5];exact HL.out.2) hIW (by omega)
     .intro k hk;rw [iz,CZ ga k ahm (by omega)];exact iJ hat k hk
     .rw [hW];have:=eX.size;omega
     .intro k hk;rw [CZ b (off+k) (by omega) (by have:=A8.out;have:=HI.out.2;have:=rQ.out.size;omega)];rw [dx.out.cell (p:=⟨b,off+k,none⟩) hY.2.2.2.1];exact HX.out.2.2.2.1 k hk
     .rw [hW];have:=eX.size;omega
     .intro k hk;rw [CZ g2 (0+k) (by omega) (by have:=A8.out;have:=HZ.out.2.2.2.1;omega)];rw [dx.out.cell (p:=⟨g2,0+k,none⟩) hY.2.2.2.2.1];exact HX.out.2.2.2.2 k hk
     .rw [hW];have:=eX.size;omega
    generalize S.getD j ⟨[],0,0,0⟩=sj at*;obtain⟨sat,FH,FI,FD⟩:=sj;simp only at e1 e2 e3 N9;clear hI eX hE oK Ql hat hsm hok;go_wp2_with fail;refine(N9.out wr rfl).mono ?_;rintro ev w6 ⟨rfl,Yl,Yj⟩;have HI6:=ah Yl;have F8:=ah (pN.out.trans Yj);clear Yl Yj N9 e0 e1 e2 e3;go_wp2;go_roundg (S.length - (j+1));case measure=>omega
    case rel=>exact⟨j+1,_,by omega,rfl,by simp,HI6.out,F8.out,HN.out.symm⟩
   .have HO:Hid (o=(S.flatMap (oP rs (gZ cs para))).foldl jZ iH):=by
     show _=_;rw [hE,show j=S.length by omega,KQ]
    have hol:o.length=n:=hI.len;have HF:Hid (xW w5 g3 0 (aN cs)/\bG w5 gc 0 cs):=⟨HX.out.2.2.1.stay dx.out hY.2.2.1,HX.out.1.stay dx.out hY.1⟩
    have yg:=ah hol;clear hI eX hE hol;go_wp2;go_loopg [13] n (fun gh fE W=>∃(k:Nat)(o':List Int),k<=n/\gh=n - k/\fE= .int .i64 k/\bf W w2.heap.size go n n o'/\w5.grownBy W (some go)/\zz para cs o o' k);case atStart=>exact⟨0,o,by omega,rfl,rfl,D6.out,pN.out,by rw [yg.out,HL.out.2],fun _ _ _=>rfl,fun h=>by omega⟩
    case round=>
     clear D6 pN;obtain⟨k,o',hk,rfl,rfl,hI,eX,yR⟩:=hrel;have D6:=ah hI;have pN:=ah eX;by_cases hlt:k<n
     .have hkc:k<cs.length:=by rw [HL.out.2];exact hlt
      have cf:=HF.out.1 k (by rw [adl];exact hkc);rw [adk cs k hkc,iz,<-pq eX (by omega) hY.2.2.2.2.2.2.2.1]at cf;have hcell:=hI.cell k hlt;have hfr:=hI.frozen k;cases hlb:bN (cs.getD k 0)
      .rw [hlb]at cf;cases k with
       |zero=>
        have HN:Hid (zz para cs o (o'.set 0 para) 1):=yR.set hkc hlb (fun _=>rfl);generalize o'.getD 0 0=oc at hcell;clear hI eX yR hlb hkc lN hY;go_wp2;go_roundg (n - 1);case measure=>omega
        case rel=>exact⟨1,_,by omega,rfl,rfl,D6.out.set 0 para,pN.out.trans (D6.out.grown 0 para),HN.out⟩
       |succ q=>
        have dR:=hI.cell q (by omega);have HN:Hid (zz para cs o (o'.set (q+1) (o'.getD q 0)) (q+1+1)):=yR.set hkc hlb (fun h=>by omega);generalize o'.getD (q+1) 0=oc at hcell;generalize o'.getD q 0=pv at dR HN;have zQ:Hid (bf ((wr.setCell ⟨go,q+1,none⟩ (.int .i64 para)).setCell ⟨go,q+1,none⟩ (.int .i64 pv)) w2.heap.size go n n (o'.set (q+1) pv)/\w5.grownBy ((wr.setCell ⟨go,q+1,none⟩ (.int .i64 para)).setCell ⟨go,q+1,none⟩ (.int .i64 pv)) (some go)):=by
         have h2:=(hI.set (q+1) para).set (q+1) pv;rw [OQ]at h2;exact⟨h2,(eX.trans (hI.grown (q+1) para)).trans ((hI.set (q+1) para).grown (q+1) pv)⟩
        clear hI eX yR hlb hkc lN hY;go_wp2;go_roundg (n - (q+1+1));case measure=>omega
        case rel=>exact⟨q+1+1,_,by omega,rfl,by simp,zQ.out.1,zQ.out.2,HN.out⟩
      .rw [hlb]at cf;have HN:=ah (yR.keep hlb);clear hI eX yR hlb hkc lN hY hcell hfr;go_wp2;go_roundg (n - (k+1));case measure=>omega
       case rel=>exact⟨k+1,o',by omega,rfl,by simp,D6.out,pN.out,HN.out⟩
     .obtain rfl:k=n:=by omega
      have hsz:=eX.size;have CZ:∀(bb q:Nat),bb<w5.heap.size->bb≠go->wr.cell? ⟨bb,q,none⟩=w5.cell? ⟨bb,q,none⟩:=fun bb q h1 h2=>pq eX h1 h2
      have adK:Hid (lG para para cs o'=LV):=by
       show _=_;rw [HQ.out,XG cs o o' para (by rw [yg.out,HL.out.2]) yR.1 yR.2.1,HO.out,Vl.out,CF.out]
      have Gu:Hid (Calls prog 74 #[.slice (some ⟨gc,0,none⟩) k cc,.slice (some ⟨go,0,none⟩) k k,.slice (some ⟨g3,0,none⟩) k k,.int .i64 para] wr fun ev w'=>ev= .returned (.slice (some ⟨go,0,none⟩) k k)/\bf w' w2.heap.size go k k (lG para para cs o')/\wr.grownBy w' (some go)):=by
       refine anu cs o' para k gc 0 cc g3 0 k w2.heap.size go k wr HL.out.2 (by omega) ?_ ?_ (by omega) (by omega) hI hY.2.2.2.2.2.2.1 hY.2.2.2.2.2.2.2.1 (fun h h'=>yR.2.2 h h')
       .intro q hq;rw [CZ gc (0+q) (by omega) hY.2.2.2.2.2.2.1];exact HF.out.2 q hq
       .intro q hq;rw [CZ g3 (0+q) (by omega) hY.2.2.2.2.2.2.2.1];exact HF.out.1 q hq
      have oU:Hid (Below w.heap.size w wr):=(hY.2.2.2.2.2.2.2.2.1.trans (dx.out.mono (by have:=hY.2.2.2.2.2.2.2.2.1.size;omega))).grown eX (by have:=hY.2.2.2.2.2.2.2.2.1.size;omega) (fun q hq=>by have:=aK hq;have:=hY.2.2.2.2.2.2.2.2.2;omega);have hB0:w.heap.size<=go:=hY.2.2.2.2.2.2.2.2.2;clear hI eX yR lN hY hsz CZ;go_wp2_with fail;refine Gu.out.mono ?_;rintro ev w7 ⟨rfl,P8,Yk⟩;rw [adK.out]at P8;have HI7:=ah (ajX P8 hB0);have oh:Hid (Below w.heap.size w w7):=oU.out.grown Yk oU.out.size (fun q hq=>by have:=aK hq;omega);clear P8 Yk Gu;go_wp2;refine cG (v:= .slice (some ⟨go,0,none⟩) k k) (by simp [results,results48,go_sem]) rfl ⟨go,k,rfl,HI7.out,oh.out⟩
section
attribute [local go_sem ↓] Go.wp_at_zero Go.wp_at_succ
theorem ab0(w:World):Calls prog 86 #[] w fun e w'=>∃g,e= .returned (.slice (some ⟨g,0,none⟩) 10 10)/\(∀k,k<10->w'.cell? ⟨g,k,none⟩=some (.func (.func (oO k)) #[] #[]))/\w.heap.size<=g/\g<w'.heap.size/\Below w.heap.size w w':=by
 go_enter func86,ntmps86;go_wp2;go_ret;refine⟨_,rfl,fun k hk=> ?_,ay _,by simp,(aA _ _).alloc (ay _) _⟩
 match k,hk with
 |0,_=>simp [oO]
 |1,_=>simp [oO]
 |2,_=>simp [oO]
 |3,_=>simp [oO]
 |4,_=>simp [oO]
 |5,_=>simp [oO]
 |6,_=>simp [oO]
 |7,_=>simp [oO]
 |8,_=>simp [oO]
 |9,_=>simp [oO]
theorem aeR(ZY:∀(W:World)(L:LP)(ks ls:List Int),LX W L ks ls->L.n<=1000->(∀p,0<=ls.getD p 0/\ls.getD p 0<=1000)->(0<=L.p/\L.p<=1000)->
   Calls prog 87 #[.pointer (some ⟨L.lb,0,none⟩)] W fun e w'=>∃av qs,e= .returned av/\wV w' W.heap.size L ks ls av qs/\qs.map ic.at'=((cQ ls (aN L.cs)).filter (gA L.cs)).map (bV L.cs (cQ ls (aN L.cs)) L.n)/\Below W.heap.size W w')
  (s:ByteArray) (l:List Int) (d:Int) (w:World) (hs:s.size<=600) (hr:fH s=some l) (hl:l≠[]) (hl6:l.length<=1000) (hbr:Br w) (hcs:∀c∈l.map cls,0<=c/\c<=21) (hcl:∀(r:Int)(W:World),Below w.heap.size w W->Calls prog 66 #[.int .i32 r] W fun e w'=>e= .returned (.int .i64 (cls r))/\Below W.heap.size W w'):
  Calls prog 55 #[.string s,.int .i64 d] w fun e w'=>∃g,e= .returned (.slice (some ⟨g,0,none⟩) l.length l.length)/\bh w' w.heap.size 3 g l.length (iv (gu l (l.map cls) d))/\Below w.heap.size w w':=by
 have HSQ:=ah ZY;clear ZY;have Gh:=ah (aaU s l d w hs hr hl hcl);have kg:=ah hbr;have IM:0<=gz (l.map cls) d/\gz (l.map cls) d<=1:=by rcases abm (l.map cls) d with h|h<;>omega
 clear hs hr hl hbr hcl;go_enter func55,ntmps55;go_wp2_with fail;refine Gh.out.mono ?_;rintro ev w1 ⟨L,rfl,hX,LM,Yt,hLn,Hz,xo,hb1⟩;clear Gh;have Kn:Hid (∀c∈L.cs,0<=c/\c<=21):=by show∀c∈L.cs,_;rw [LM];exact hcs
 have hp:0<=L.p/\L.p<=125:=by rw [Hz];omega
 have HEq:Hid (gu l (l.map cls) d=gu L.rs L.cs d/\L.p=gz L.cs d/\l.length=L.n/\w.heap.size=L.B):=⟨by rw [Yt,LM],by rw [LM];exact Hz,hLn.symm,xo.symm⟩
 have IE:L.n<=1000:=by omega
 have hn0:L.cs.length=L.n:=hX.len;have UD:Hid (Calls prog 85 #[.pointer (some ⟨L.lb,0,none⟩)] w1 fun e w'=>e= .returned (.tuple #[])/\LX w' L (kP L.cs L.p) (aZ L.cs L.p)/\Below L.B w1 w'):=al9 w1 L hX (by rw [xo];exact hb1.size) hp IE;have aG:Hid (Below L.B w w1):=by show Below _ _ _;rw [xo];exact hb1
 clear hX LM Yt hLn Hz hb1 hcs IM hl6;go_wp2_with fail;refine UD.out.mono ?_;rintro ev w2 ⟨rfl,nj,hb2⟩;clear UD;have bq:Below L.B w w2:=aG.out.trans hb2;have hz2:L.B<=w2.heap.size:=by have:=bq.size;rw [<-HEq.out.2.2.2]at*;omega
 obtain⟨n,hn⟩:∃n,n=L.n:=⟨_,rfl⟩
 have hmk:=run_make_row' (P:=prog) 31 3 (.int .i64 0) 8 underlying31 Tryz.qB rfl .i64 .i64 n (by omega) (by omega);have c3:=nj.f3;rw [<-hn]at c3;have hb3:Below w2.heap.size w2 (w2.alloc (.cells (madeCells #[.int .i64 0] n) 3)):=(aA _ _).alloc (ay _) _;have xq:=nj.below hb3;have mB:bh (w2.alloc (.cells (madeCells #[.int .i64 0] n) 3)) L.B 3 w2.heap.size n (List.replicate n (.int .i64 0)):=bh.made hz2 (by omega);have cV:Below L.B w (w2.alloc (.cells (madeCells #[.int .i64 0] n) 3)):=bq.alloc hz2 _;have hz3:(w2.alloc (.cells (madeCells #[.int .i64 0] n) 3)).heap.size=w2.heap.size+1:=by simp
 have di:=ah nj.lt;have KY:=xq.f3;rw [<-hn]at KY;have hrl:=xq.rl;unfold bh at hrl;rw [<-hn]at hrl;obtain⟨W4,jy,Zf,hg4⟩:=Pp (P:=prog) (w:=w2.alloc (.cells (madeCells #[.int .i64 0] n) 3)) (sT:=31) (e:=3) (ty:=3) (g:=w2.heap.size) underlying31 Tryz.MW (bh.heap mB) (by simp) hrl (fun v hv=>by simp only [iv,jr]at hv;obtain⟨x,_,rfl⟩:=hv;rfl);have hap:∀g,L.has g->g≠w2.heap.size:=fun g hg=>by have:=nj.lt g hg;omega
 have YL:LX W4 L (kP L.cs L.p) (aZ L.cs L.p):=xq.same hg4.size fun g hg=>hg4.block g (xq.lt g hg) (fun e=>hap g hg (aK e))
 have pF:bh W4 L.B 3 w2.heap.size n (iv (aZ L.cs L.p)):=bh.MB Zf hz2 (by rw [mH,Ud,hn];exact hn0) (by omega);have hB4:Below L.B w W4:=cV.grown hg4 (by omega) (fun k hk=>by cases hk;exact hz2);have BZ:w2.heap.size<W4.heap.size:=by have:=hg4.size;omega
 have YR:Br W4:=kg.out.below (by have:=hB4;rw [<-HEq.out.2.2.2]at this;exact this);have A6:Hid (FS W4 L (kP L.cs L.p) (aZ L.cs L.p) w2.heap.size (aZ L.cs L.p)/\Below L.B w W4/\w2.heap.size<W4.heap.size/\Br W4):=⟨⟨YL,by rw [<-hn];exact pF,hap⟩,hB4,BZ,YR⟩
 have KD:=ah hz2;have CI:=ah hn;have hn7:n<=1000:=by omega
 clear nj hb2 bq hb3 xq mB cV hz3 hz2 aG hn hrl Zf hg4 YL pF hB4 BZ YR hap;obtain⟨go,hgo⟩:∃go,go=w2.heap.size:=⟨_,rfl⟩
 have zP:=ah (ab0 W4);go_wp2_with fail;rw [<-hgo]at A6 di KD ⊢;clear hgo c3 KY hmk jy;refine zP.out.mono ?_;rintro ev W5 ⟨g,rfl,ZH,cA,Ze,dB⟩;clear zP;have xg:=A6.out.1.below dB;have qh:Below L.B w W5:=A6.out.2.1.trans (dB.mono (by have:=A6.out.2.2.1;have:=KD.out;omega));have YS:=A6.out.2.2.2.below dB;have lN:go<W5.heap.size:=by have:=A6.out.2.2.1;have:=dB.size;omega
 have hgg:g≠go:=by have:=A6.out.2.2.1;omega
 have Kw:Hid (Calls prog 87 #[.pointer (some ⟨L.lb,0,none⟩)] W5 fun e w'=>∃av qs,e= .returned av/\wV w' W5.heap.size L (kP L.cs L.p) (aZ L.cs L.p) av qs/\qs.map ic.at'=((cQ (aZ L.cs L.p) (aN L.cs)).filter (gA L.cs)).map (bV L.cs (cQ (aZ L.cs L.p) (aN L.cs)) L.n)/\Below W5.heap.size W5 w'):=
  HSQ.out W5 L _ _ xg.ln IE (fun p=>by have:=Nf (cs:=L.cs) hp p;omega) (by omega)
 have HC:Hid (Oy W5.heap.size L go g):=⟨by have:=KD.out;omega,lN,KD.out,Ze,hgg,fun x hx=>by have:=di.out x hx;omega,by
  obtain⟨tt,fr,e⟩:=kg.out;have:=bZ e;rw [<-HEq.out.2.2.2];exact this⟩
 have H5:Hid (FS W5 L (kP L.cs L.p) (aZ L.cs L.p) go (aZ L.cs L.p)/\(∀k,k<10->W5.cell? ⟨g,k,none⟩=some (.func (.func (oO k)) #[] #[]))/\Br W5/\Below L.B w W5):=⟨xg,ZH,YS,qh⟩
 clear A6 xg qh YS lN hgg ZH cA Ze dB;go_wp2_with fail;refine Kw.out.mono ?_;rintro ev W6 ⟨av,qs,rfl,hQ,BU,fR⟩;clear Kw;obtain⟨B,hB⟩:∃B,B=W5.heap.size:=⟨_,rfl⟩
 rw [<-hB]at hQ HC;have Yr:LV W6 w B L (kP L.cs L.p) (aZ L.cs L.p) go g av qs 0 (aZ L.cs L.p):=⟨H5.out.1.below fR,fun k hk=>cell_grown (r:=none) (Ez fR) (H5.out.2.1 k hk) (by simp),hQ.row,fun q hq=>hQ.all q (by simpa using hq),H5.out.2.2.1.below fR,H5.out.2.2.2.trans (fR.mono (by have:=HC.out.lo;omega))⟩
 have NC:=ah Yr;have HZ:Hid (B<=W6.heap.size):=by show _<=_;rw [hB];exact fR.size
 have N7:=ah (amV hn0 BU);have Kc:=ah hQ.ap;have HIn:Hid (∀q∈qs,qI L (aZ L.cs L.p) q∈gF L.cs (aZ L.cs L.p) (aN L.cs) L.p):=fun q hq=>by
  rw [<-N7.out];exact jr.2 ⟨q,hq,rfl⟩
 obtain⟨ra,rc,rfl⟩:=ey hQ.row;have Mk:qs.length<=1000:=by
  have h1:(qs.map ic.at').length<=L.n:=by
   rw [BU,jE];refine bU (yw _ _) ?_;have hR:=Ub L.cs L.p;have h2:=Hs (cQ (aZ L.cs L.p) (aN L.cs)).flatten L.cs.length hR.rI (fun a ha=>by obtain⟨r,hr,ha⟩:=OO.1 ha;exact hR.lt r hr a ha);have h3:∀l:List (List Nat),(∀r∈l,r≠[])->l.length<=l.flatten.length:=by
    intro l
    induction l with
    |nil=>intro _;simp
    |cons a l ih=>
     intro hl;have h1:=ih (fun r hr=>hl r (by simp [hr]));have h2:0<a.length:=jc.2 (hl a (by simp));simp only [eW,yq,bP];omega
   have:=h3 _ hR.ne;omega
  rw [jE]at h1;omega
 obtain⟨N,hN⟩:∃N,N=qs.length:=⟨_,rfl⟩
 rw [<-hN]at NC Mk ⊢;have pO:=ah hN.symm;clear hQ BU fR hB Yr H5 hN;go_wp2;go_loopg [33] N (fun gk iv W=>∃(j:Nat),j<=N/\gk=N - j/\iv= .int .i64 j/\B<=W.heap.size/\LV W w B L (kP L.cs L.p) (aZ L.cs L.p) go g (.slice ra N rc) qs j ((((qs.take j).map (qI L (aZ L.cs L.p))).flatMap (mN L.rs (kP L.cs L.p))).foldl ig (aZ L.cs L.p)));case atStart=>exact⟨0,by omega,rfl,rfl,HZ.out,NC.out⟩
 case round=>
  clear NC HZ;obtain⟨j,hj,rfl,rfl,hz,hV⟩:=hrel;by_cases hlt:j<N
  .have hjq:j<qs.length:=by rw [pO.out];exact hlt
   obtain⟨q,hq⟩:∃q,qs[j]? =some q:=⟨_,aQ hjq⟩
   have hrow:=hV.row;rw [pO.out]at hrow;obtain⟨rg,JJ,hre,_,_,_⟩:=fS hrow (by omega);have Dp:ra=some ⟨rg,0,none⟩:=(show ra=some ⟨rg,0,none⟩/\rc=JJ by simpa using hre).1;subst Dp;have c1:wr.cell? ⟨rg,j,none⟩=some (.pointer (some ⟨q.sb,0,none⟩)):=by
    rw [dg hrow j (by omega),jO,hq];rfl
   have BM:=hV.sq q (by rw [drop_cons hq];exact KN);obtain⟨sq,oK⟩:∃sq,sq=qI L (aZ L.cs L.p) q:=⟨_,rfl⟩
   have hin:sq∈gF L.cs (aZ L.cs L.p) (aN L.cs) L.p:=by rw [oK];exact HIn.out q (VG hq)
   obtain⟨s1,s2,_,_,s5⟩:=MV Kn.out hp hin;have hat:sq.at'=q.at':=by rw [oK];rfl
   have kU:0<=sq.level:=by rw [oK];exact(Nf hp _).1
   have kT:wW wr B L sq.level sq.aq sq.ax (bz (kP L.cs L.p) q.at') q (bz (kP L.cs L.p) q.at'):=by rw [oK];exact BM.sqs
   have htk:(qs.take (j+1)).map (qI L (aZ L.cs L.p))=(qs.take j).map (qI L (aZ L.cs L.p))++[sq]:=by
    rw [zX,hq,fO,oK];rfl
   have hsub:((qs.take j).map (qI L (aZ L.cs L.p))).Sublist (gF L.cs (aZ L.cs L.p) (aN L.cs) L.p):=by
    rw [<-N7.out];exact(aer j qs).map _
   have Zx:=akk Kn.out L.rs hp _ hsub;have Oe:Hid (LV wr w B L (kP L.cs L.p) (aZ L.cs L.p) go g (.slice (some ⟨rg,0,none⟩) N rc) qs (j+1) ((((qs.take j).map (qI L (aZ L.cs L.p))).flatMap (mN L.rs (kP L.cs L.p))).foldl ig (aZ L.cs L.p))):=⟨hV.fs,hV.rl,hV.row,fun q' hq'=>hV.sq q' (by rw [drop_cons hq];exact En _ hq'),hV.br,hV.hb⟩
   have cE:=ah kT;have HQ:Hid (B<=q.gc/\q.m<=1000/\0<q.m/\q.at'.length=q.m/\(∀q'∈qs.drop (j+1),Cv q q')/\(∀p∈q.at',p<L.n)/\B<=q.gp/\B<=q.sb):=by
    refine⟨(BM.sq.row.lt q.gc rfl).1,?_,BM.pos,BM.len,agb Kc.out hq,fun p IM=>by rw [<-hn0];exact(s5 p (by rw [hat];exact IM)).1,BM.lo.1,BM.lo.2⟩;have h1:=Hs q.at' L.n ?_ (fun p IM=>by rw [<-hn0];exact(s5 p (by rw [hat];exact IM)).1)
    .rw [BM.len]at h1;omega
    .rw [<-hat];have h2:=Th L.cs L.p;exact h2.sublist (by rw [GA];exact VI (jr.2 ⟨sq,hin,rfl⟩))
   have qP:Hid (((((qs.take (j+1)).map (qI L (aZ L.cs L.p))).flatMap (mN L.rs (kP L.cs L.p))).foldl ig (aZ L.cs L.p))=(mN L.rs (kP L.cs L.p) sq).foldl ig ((((qs.take j).map (qI L (aZ L.cs L.p))).flatMap (mN L.rs (kP L.cs L.p))).foldl ig (aZ L.cs L.p))):=by
    show _=_;rw [htk,OE,CT];simp
   have Gu:Hid (mN L.rs (kP L.cs L.p) sq=iM q.at' sq.level (MS sq.level sq.aq sq.ax (bz (kP L.cs L.p) q.at') (bz L.rs q.at') 10)):=by
    show _=_;rw [mN,<-alj,hat]
   have HOb:Hid (∀p,0<=((((qs.take j).map (qI L (aZ L.cs L.p))).flatMap (mN L.rs (kP L.cs L.p))).foldl ig (aZ L.cs L.p)).getD p 0/\((((qs.take j).map (qI L (aZ L.cs L.p))).flatMap (mN L.rs (kP L.cs L.p))).foldl ig (aZ L.cs L.p)).getD p 0<=1000):=fun p=>by have:=Zx p;omega
   have bX:(bz (kP L.cs L.p) q.at').length=q.m:=by rw [XX];exact HQ.out.2.2.2.1
   have Ap:(j:Int)<(N:Int):=by omega
   have HZ:=ah hz;clear hjq hrow hre BM hin s5 kT htk hsub Zx hV hz;generalize((((qs.take j).map (qI L (aZ L.cs L.p))).flatMap (mN L.rs (kP L.cs L.p))).foldl ig (aZ L.cs L.p))=oo at*;generalize mN L.rs (kP L.cs L.p) sq=tp at*;obtain⟨k0,Zl⟩:∃k0,k0=bz (kP L.cs L.p) q.at':=⟨_,rfl⟩
   rw [<-Zl]at cE Gu bX;clear Zl hq oK hat;go_wp2;go_loopg [39] 10 (fun gk iv W=>∃k:Nat,k<=10/\gk=10 - k/\iv= .int .i64 k/\B<=W.heap.size/\LV W w B L (kP L.cs L.p) (aZ L.cs L.p) go g (.slice (some ⟨rg,0,none⟩) N rc) qs (j+1) oo/\wW W B L sq.level sq.aq sq.ax k0 q (MS sq.level sq.aq sq.ax k0 (bz L.rs q.at') k));case atStart=>exact⟨0,by omega,rfl,rfl,HZ.out,Oe.out,cE.out⟩
   case round=>
    clear Oe cE HZ c1;obtain⟨k,hk,rfl,rfl,hz,hV,hS⟩:=hrel;by_cases iU:k<10
    .have ck:=hV.rl k iU;have hen:=ali k;have HR:=ah (alh hS hV.br HQ.out.2.1 HQ.out.2.2.1 kU s1 s2 bX k);have HV:=ah hV;have UB:=ah (yV hS.sq.row);have aht:(k:Int)<10:=by omega
     have HZ:=ah hz;clear hV hS hz;generalize oO k=fk at*;go_wp2_with fail;refine HR.out.mono ?_;rintro ev W7 ⟨rfl,YE,gU⟩;have Oh:Hid (LV W7 w B L (kP L.cs L.p) (aZ L.cs L.p) go g (.slice (some ⟨rg,0,none⟩) N rc) qs (j+1) oo):=HV.out.rule HC.out UB.out HQ.out.1 HQ.out.2.2.2.2.1 gU (by have:=HC.out.lo;have:=HZ.out;omega);have N4:=ah YE;have Ou:Hid (B<=W7.heap.size):=by have:=gU.size;have:=HZ.out;show _<=_;omega
     clear YE gU HR HV UB HZ ck hen;go_wp2;go_roundg (10 - (k+1));case measure=>omega
     case rel=>exact⟨k+1,by omega,rfl,by go_num,Ou.out,Oh.out,N4.out⟩
    .obtain rfl:k=10:=by omega
     have aht:¬((10:Nat):Int)<10:=by omega
     have UG:Hid (Calls prog 88 #[.pointer (some ⟨q.sb,0,none⟩),.slice (some ⟨go,0,none⟩) n n] wr fun e w'=>e= .returned (.tuple #[])/\bf w' L.B go n n (tp.foldl ig oo)/\wr.grownBy w' (some go)):=by
      have:=ama wr B q.sb q.gc q.m q.cc q.gp q.op q.cp _ _ sq.level sq.aq sq.ax _ q.at' L.B go n oo hS.sq hS.pl HQ.out.2.2.2.1 (by rw [CI.out];exact hV.fs.row) (by have:=HC.out.PY;have:=HQ.out;omega) (by rw [CI.out];exact HQ.out.2.2.2.2.2.1) HQ.out.2.1 kU HOb.out;rw [<-Gu.out]at this;exact this
     have HV:=ah hV;have HZ:=ah hz;clear hV hS hz;go_wp2_with fail;refine UG.out.mono ?_;rintro ev W7 ⟨rfl,YC,gU⟩;have Oh:Hid (LV W7 w B L (kP L.cs L.p) (aZ L.cs L.p) go g (.slice (some ⟨rg,0,none⟩) N rc) qs (j+1) (tp.foldl ig oo)):=HV.out.impl HC.out (by rw [<-CI.out];exact YC) gU (by have:=HC.out.lo;have:=HZ.out;omega);have Ou:Hid (B<=W7.heap.size):=by have:=gU.size;have:=HZ.out;show _<=_;omega
     clear YC gU UG HV HZ;go_wp2;go_roundg (N - (j+1));case measure=>omega
     case rel=>exact⟨j+1,by omega,rfl,by go_num,Ou.out,by rw [qP.out];exact Oh.out⟩
  .obtain rfl:j=N:=by omega
   have Ap:¬(j:Int)<(j:Int):=by omega
   have P6:=hV.fs;have HB:=ah hV.hb;have CG:Hid (L.B<=wr.heap.size):=by have:=HC.out.lo;show _<=_;omega
   have hall:(qs.take j).map (qI L (aZ L.cs L.p))=gF L.cs (aZ L.cs L.p) (aN L.cs) L.p:=by
    rw [lB (by rw [pO.out];exact ay _),N7.out]
   rw [hall]at P6;have heq:=aiX (cs:=L.cs) (para:=L.p) Kn.out L.rs d HEq.out.2.1 hp;generalize((gF L.cs (aZ L.cs L.p) (aN L.cs) L.p).flatMap (mN L.rs (kP L.cs L.p))).foldl ig (aZ L.cs L.p)=oo at*;have uN:Hid (Calls prog 89 #[.pointer (some ⟨L.lb,0,none⟩),.slice (some ⟨go,0,none⟩) L.n L.n] wr fun e w'=>e= .returned (.tuple #[])/\FS w' L (kP L.cs L.p) (aZ L.cs L.p) go (wZ L.p (l1 L.p L.cs oo))/\wr.grownBy w' (some go)):=amb wr L _ _ go oo P6 IE Kn.out;rw [<-CI.out]at uN;rw [heq]at uN;clear P6 hall heq hV hz;go_wp2_with fail;refine uN.out.mono ?_;rintro ev W8 ⟨rfl,Yh,nk⟩;have Vd:Hid (bh W8 L.B 3 go n (iv (gu L.rs L.cs d))/\Below L.B w W8):=⟨by have:=Yh.row;rw [<-CI.out]at this;exact this,HB.out.grown nk CG.out (fun y hy=>by cases hy;exact HC.out.PW)⟩
   clear uN Yh nk;go_wp2;go_ret;exact⟨go,by rw [HEq.out.2.2.1,<-CI.out];rfl,by rw [HEq.out.1,HEq.out.2.2.1,HEq.out.2.2.2,<-CI.out];exact Vd.out.1,by rw [HEq.out.2.2.2];exact Vd.out.2⟩
end
