import Derived.Test.YtkbinfhclaafhaaGreatDoorH10
import Derived.Test.YtkbinfhclaafhaaGreatDoorH07
import Derived.Deep.RegionLaw
import Derived.Test.YtkbinfhclaafhaaGreatDoorH09
import Derived.BigQuiet
namespace Go.Proofs.YtkbinfhclaafhaaGreatDoor
open Go.RowKit
open Go.Proofs.Tryz
set_option maxRecDepth 100000
set_option maxHeartbeats 32000000
def lV(l:List Int):List Value:=l.map (.int .i32 ·)
theorem Tryz.VS:(prog.info? 21).map (fun i=>(i.zero,i.size,i.bytes))=some (some (.int .i32 0),1,4):=by kernel_rfl
theorem Tryz.BO:(prog.info? 108).map (fun i=>(i.zero,i.size,i.bytes))=some (some (.int .i64 0),1,8):=by kernel_rfl
theorem iF {w:World}{B:Nat}{e e':TypeId}{z n b:Nat}{v:Value}{xs:List Value}{cs:Array Value}(h:w.ownsRow B e z v n xs)(hb:w.heap[b]? =some (.cells cs e' (0,0)))(he:e≠e'):v.ownBlock≠some b:=by
 rcases h.2 with⟨rfl,_⟩|⟨g,cp,cur,rfl,_,hh,_⟩
 .simp [Value.ownBlock]
 .simp only [Value.ownBlock];intro e1;obtain rfl:=Option.some.inj e1;rw [hb]at hh;simp at hh;exact he hh.2.symm
structure NL(W:World)(B lb it:Nat)(s:ByteArray)(p:Nat)(vr vt:Value)(qr qt:List Int):Prop where
 cell:W.heap[lb]? =some (.cells #[vr,vt,.slice none 0 0,.slice none 0 0,.slice none 0 0,.int .i64 0] 141 (0,0))
 rr:W.ownsRow B 21 1 vr qr.length (lV qr)
 rt:W.ownsRow B 108 1 vt qt.length (iv (qt.map cls))
 iter:W.heap[it]? =some (.stringIter s p)
 low:B<=lb
section
variable{W W':World}{B lb it p:Nat}{s:ByteArray}{vr vt v':Value}{qr qt:List Int}
theorem NL.ne(h:NL W B lb it s p vr vt qr qt):lb≠it:=by
 intro e;have:=h.cell;rw [e,h.iter]at this;cases this
theorem NL.below(h:NL W B lb it s p vr vt qr qt)(hb:Below W.heap.size W W'):NL W' B lb it s p vr vt qr qt:=⟨aR hb h.cell,own_below h.rr hb,own_below h.rt hb,aR hb h.iter,h.low⟩
theorem NL.next(h:NL W B lb it s p vr vt qr qt)(p':Nat):NL (W.iterAt it s p') B lb it s p' vr vt qr qt:=
 ⟨by rw [Lib.iterAt_other _ _ _ _ _ h.ne];exact h.cell,
  kK h.rr fun k o hk ho=>by rw [Lib.iterAt_other];exact ho;rintro rfl;exact own_ne_iter h.rr h.iter hk,
  kK h.rt fun k o hk ho=>by rw [Lib.iterAt_other];exact ho;rintro rfl;exact own_ne_iter h.rt h.iter hk,
  Lib.iterAt_heap W _ s p _ h.iter,h.low⟩
theorem NL.IA {y:Int}(h:NL W B lb it s p vr vt qr qt)(hown:W'.ownsRow B 21 1 v' (qr.length+1) (lV qr++[.int .i32 y]))(hg:W.grownBy W' vr.ownBlock):
  NL (W'.setCell ⟨lb,0,none⟩ v') B lb it s p v' vt (qr++[y]) qt/\W'.cell? ⟨lb,0,none⟩=some vr/\W'.frozen? ⟨lb,0,none⟩=false:=by
 have n1:=iF h.rr h.cell (by decide);have hc:W'.heap[lb]? =_:=(hg.block lb (bK h.cell) (fun e=>n1 e.symm)).trans h.cell;have hi:W'.heap[it]? =_:=(hg.block it (bK h.iter) (fun e=>own_ne_iter h.rr h.iter e.symm)).trans h.iter;have ht:W'.ownsRow B 108 1 vt qt.length (iv (qt.map cls)):=dJ h.rt hg (lQ h.rt h.rr (by decide));have n2:v'.ownBlock≠some lb:=iF hown hc (by decide);have n3:vt.ownBlock≠some lb:=iF ht hc (by decide);refine⟨⟨by rw [Joins.block_setCell hc];rfl,?_,iG ht n3 0 v',by rw [Below.heap_setCell _ _ _ _ h.ne.symm];exact hi,h.low⟩,au hc 0,bX hc 0⟩;rw [List.length_append,lV,List.map_append];exact iG hown n2 0 v'
theorem NL.YC {y:Int}(h:NL W B lb it s p vr vt qr qt)(hown:W'.ownsRow B 108 1 v' (qt.length+1) (iv (qt.map cls)++[.int .i64 (cls y)]))(hg:W.grownBy W' vt.ownBlock):
  NL (W'.setCell ⟨lb,1,none⟩ v') B lb it s p vr v' qr (qt++[y])/\W'.cell? ⟨lb,1,none⟩=some vt/\W'.frozen? ⟨lb,1,none⟩=false:=by
 have n1:=iF h.rt h.cell (by decide);have hc:W'.heap[lb]? =_:=(hg.block lb (bK h.cell) (fun e=>n1 e.symm)).trans h.cell;have hi:W'.heap[it]? =_:=(hg.block it (bK h.iter) (fun e=>own_ne_iter h.rt h.iter e.symm)).trans h.iter;have hr:W'.ownsRow B 21 1 vr qr.length (lV qr):=dJ h.rr hg (lQ h.rr h.rt (by decide));have n2:v'.ownBlock≠some lb:=iF hown hc (by decide);have n3:vr.ownBlock≠some lb:=iF hr hc (by decide);refine⟨⟨by rw [Joins.block_setCell hc];rfl,iG hr n3 1 v',?_,by rw [Below.heap_setCell _ _ _ _ h.ne.symm];exact hi,h.low⟩,au hc 1,bX hc 1⟩;rw [List.length_append,List.map_append,iv,List.map_append];exact iG hown n2 1 v'
end
theorem Ir {w:World}{base:Nat}{e:TypeId}{size:Nat}{v:Value}{n:Nat}{xs:List Value}(h:w.ownsRow base e size v n xs){K c:Nat}{es:Array MapEntry}(hk:w.heap[K]? =some (.map es c)):v.ownBlock≠some K:=by
 rcases h.2 with⟨rfl,_⟩|⟨g,cap,cur,rfl,h2,h3,h4⟩
 .simp [Value.ownBlock]
 .simp only [Value.ownBlock];intro e;obtain rfl:=Option.some.inj e;rw [hk]at h3;cases h3
structure PS(W:World)(B s fb:Nat)(v fv:Value)(x:List Nat×List (Nat×Nat)):Prop where
 stk:dG W B s v x.1
 fit:sS W fb
 row:W.ownsRow B 268 2 fv x.2.length (qp x.2)
section
variable{W W':World}{B s fb:Nat}{v fv v' TM:Value}{x:List Nat×List (Nat×Nat)}{st':List Nat}
theorem PS.below(h:PS W B s fb v fv x)(hb:Below W.heap.size W W'):PS W' B s fb v fv x:=⟨h.stk.below hb,h.fit.below hb,own_below h.row hb⟩
theorem PS.stack(h:PS W B s fb v fv x)(hs:dG W' B s v' st')(hf:aU W W' s v v'):PS W' B s fb v' fv (st',x.2):=by
 have hfs:fb≠s:=by
  intro e;have:=h.fit;rw [sS,e,h.stk.cell]at this;cases this
 refine⟨hs,(hf.block fb (bK h.fit) hfs (Ir h.stk.row h.fit)).trans h.fit,kK h.row fun k o hk ho=> ?_⟩;rw [hf.block k (bK ho) ?_ ?_]
 .exact ho
 .rintro rfl;exact iF h.row h.stk.cell (by decide) hk
 .intro e;rcases lQ h.row h.stk.row (by decide)with h1|h1
  .rw [h1]at hk;cases hk
  .exact h1 (hk.trans e.symm)
theorem PS.app {a b:Nat}(h:PS W B s fb v fv x)(hown:W'.ownsRow B 268 2 TM (x.2.length+1) (qp x.2++[.int .i64 (a:Nat),.int .i64 (b:Nat)]))(hg:W.grownBy W' fv.ownBlock):PS W' B s fb v TM (x.1,x.2++[(a,b)]):=by
 refine⟨⟨(hg.block s (bK h.stk.cell) (fun e=>iF h.row h.stk.cell (by decide) e.symm)).trans h.stk.cell,dJ h.stk.row hg (lQ h.stk.row h.row (by decide)),h.stk.low⟩,(hg.block fb (bK h.fit) (fun e=>Ir h.row h.fit e.symm)).trans h.fit,?_⟩;have e:=X6 x.2 (a,b);simp only at e;rw [e]at hown;simpa using hown
end
def QN(w:World)(B:Nat)(v:Value)(ps:List (Nat×Nat)):Prop:=(ps=[]/\∃a cap,v= .slice a 0 cap)∨∃g cap,v= .slice (some ⟨g,0,none⟩) ps.length cap/\B<=g/\g<w.heap.size/\lI w g ps
theorem Tryz.aeM:(prog.info? 268).map (fun i=>(i.zero,i.size,i.bytes))=some (some (.agg #[.int .i64 0,.int .i64 0]),2,16):=by kernel_rfl
def Br(w:World):Prop:=∃tt fr,w.heap[11]? =some (.cells kY tt fr)
theorem Br.below {w w':World}(h:Br w)(hb:Below w.heap.size w w'):Br w':=by
 obtain⟨tt,fr,h⟩:=h;exact⟨tt,fr,aR hb h⟩
theorem abv(w:World)(B sb gc n cc gr cr:Nat)(pv bv:Value)(ah aa aj:Int)(t rs:List Int)(h:aA w B sb gc n cc pv (.slice (some ⟨gr,0,none⟩) n cr) bv ah aa aj t)(hr:wC w gr n rs)(hbr:Br w)(hn:n<=1000):
  Calls prog 211 #[.pointer (some ⟨sb,0,none⟩)] w fun e w'=>∃v ps,e= .returned v/\kT t rs ps/\QN w' w.heap.size v ps/\Below w.heap.size w w':=by
 obtain⟨iP,hiP,MF,MH,MI⟩:=info_parts Tryz.aeM;have H1:Hid (∀W,Below w.heap.size w W->aA W B sb gc n cc pv (.slice (some ⟨gr,0,none⟩) n cr) bv ah aa aj t):=fun W hb=>h.below hb
 have H2:Hid (∀W,Below w.heap.size w W->wC W gr n rs):=fun W hb=>hr.below hb
 have H3:Hid (∀W,Below w.heap.size w W->Br W):=fun W hb=>hbr.below hb
 have PV:Hid (Calls prog 242 #[] w fun e w'=>e= .returned (.map (some w.heap.size))/\sS w' w.heap.size/\Below w.heap.size w w'):=by
  obtain⟨tt,fr,hb⟩:=hbr;exact abY w tt fr hb
 have HT:Hid (t.length=n):=h.len;clear h hr hbr;go_enter func211,ntmps211;go_wp2_with fail;refine PV.out.mono ?_;rintro ev w1 ⟨rfl,hf1,hb1⟩;clear PV;have L9:=hb1.size;have hb2:Below w.heap.size w (w1.alloc (.cells #[.slice none 0 0] 257)):=hb1.alloc L9 _;have Qw:Hid (PS (w1.alloc (.cells #[.slice none 0 0] 257)) w.heap.size w1.heap.size w.heap.size (.slice none 0 0) (.slice none 0 0) ([],[])):=
  ⟨⟨Array.getElem?_push_size,World.ownsRow_nil _ _ _ _,L9⟩,hf1.below ((Below.refl _ _).alloc (Nat.le_refl _) _),World.ownsRow_nil _ _ _ _⟩
 have HB2:Hid (Below w.heap.size w (w1.alloc (.cells #[.slice none 0 0] 257))):=hb2;have c1:(w1.alloc (.cells #[.slice none 0 0] 257)).cell? ⟨sb,1,none⟩=some (.slice (some ⟨gr,0,none⟩) n cr):=au (H1.out _ hb2).cell 1;clear hb1 hf1 hb2;obtain⟨fb,wX⟩:∃fb,fb=w.heap.size:=⟨_,rfl⟩
 obtain⟨s,hs⟩:∃s,s=w1.heap.size:=⟨_,rfl⟩
 have HP:Hid (PS (w1.alloc (.cells #[.slice none 0 0] 257)) w.heap.size s fb (.slice none 0 0) (.slice none 0 0) ([],[])):=by rw [wX,hs];exact Qw.out
 clear Qw;rw [<-wX];clear wX;go_wp2;rw [<-hs];clear hs c1 L9;generalize w1.alloc (.cells #[.slice none 0 0] 257)=W2 at*;go_loopg [5,16] n (fun gk fv iv W=>∃(k:Nat)(v:Value)(x:List Nat×List (Nat×Nat)),k<=n/\gk=n - k/\iv= .int .i64 k/\Below w.heap.size w W/\PS W w.heap.size s fb v fv x/\iA k x/\wF rs x.1/\eO t rs (n - k) k x=eO t rs n 0 ([],[]));case atStart=>exact⟨0,_,([],[]),by omega,rfl,rfl,HB2.out,HP.out,iA.start,fun a ha=>by simp at ha,rfl⟩
 case round=>
  clear HB2 HP;obtain⟨k,v,x,hk,rfl,rfl,hb,hP,hO,hSt,hF⟩:=hrel;have hbz:=hb.size;obtain⟨fa,fc,rfl⟩:=fH hP.row;by_cases hlt:k<n
  .have hnk:n - k=(n - (k+1))+1:=by omega
   rw [hnk]at hF;have c1:=(H2.out wr hb) k hlt;have c2:=(H1.out wr hb).f2;have c3:=(H1.out wr hb).at k hlt;have hkn:(k:Int)<(n:Int):=by omega
   have HB:Hid (Below w.heap.size w wr):=hb;have rD:Hid (PS wr w.heap.size s fb v (.slice fa x.2.length fc) x):=hP;have jQ:Hid (iA k x):=hO;have oG:Hid (wF rs x.1):=hSt;have aeA:x.1.length<=63:=hO.len;by_cases ht:t.getD k 0=12
   .rw [ht]at c3;by_cases h1:(brk (rs.getD k 0)).1=1
    .have sW:Hid (∀W,Below w.heap.size w W->Calls prog 243 #[.int .i32 (rs.getD k 0)] W fun e w'=>e= .returned (.bool true)/\Below W.heap.size W w'):=fun W hW=>by
      obtain⟨tt,fr,hh⟩:=H3.out W hW;have:=XO (rs.getD k 0) W tt fr hh;rw [decide_eq_true h1]at this;exact this
     by_cases h63:x.1.length=63
     .have HN:Hid (eO t rs n 0 ([],[])=none):=by
       show _=_;rw [<-hF];exact agU (by rw [oh,if_pos ht,if_pos h1,if_pos h63])
      clear hF hP hO hSt hb h1 ht aeA;have HL:Hid (∀W,Below wr.heap.size wr W->Calls prog 244 #[.pointer (some ⟨s,0,none⟩)] W fun e w'=>e= .returned (.int .i64 ((63:Nat):Int))/\w'=W):=fun W hW=>by
       have:=M8 W w.heap.size s v x.1 (rD.out.below hW).stk;rw [h63]at this;exact this
      clear h63;generalize rs.getD k 0=r at*;go_wp2_with fail;refine(sW.out wr HB.out).mono ?_;rintro ev w3 ⟨rfl,hb3⟩;have HB3:Hid (Below w.heap.size w w3):=HB.out.trans (hb3.mono hbz);have HR3:Hid (Below wr.heap.size wr w3):=hb3;clear hb3;go_wp2_with fail;refine(HL.out w3 HR3.out).mono ?_;rintro ev wx ⟨rfl,hx⟩;have hx':=hx.symm;subst hx';clear HL;go_wp2;go_ret;exact⟨_,[],rfl,by unfold kT;rw [HT.out,HN.out],.inl ⟨rfl,_,_,rfl⟩,HB3.out⟩
     .have HN:Hid (eO t rs (n - (k+1)) (k+1) (x.1++[k],x.2)=eO t rs n 0 ([],[])):=by
       show _=_;rw [<-hF];exact(EJ (by rw [oh,if_pos ht,if_pos h1,if_neg h63])).symm
      have aaF:Hid (iA (k+1) (x.1++[k],x.2)):=hO.push h63;have aaH:Hid (wF rs (x.1++[k])):=fun a ha=>by
       simp at ha;rcases ha with ha|rfl
       .exact hSt a ha
       .exact h1
      clear hF hP hO hSt hb h1 ht;have HL:Hid (∀W,Below wr.heap.size wr W->Calls prog 244 #[.pointer (some ⟨s,0,none⟩)] W fun e w'=>e= .returned (.int .i64 x.1.length)/\w'=W):=fun W hW=>M8 W w.heap.size s v x.1 (rD.out.below hW).stk
      have C7:Hid (∀W,Below wr.heap.size wr W->Calls prog 197 #[.pointer (some ⟨s,0,none⟩),.int .i64 k] W fun e w'=>e= .returned (.tuple #[])/\∃v',dG w' w.heap.size s v' (x.1++[k])/\aU W w' s v v'):=fun W hW=>YB W w.heap.size s v x.1 k (rD.out.below hW).stk (by omega)
      generalize rs.getD k 0=r at*;have h63':((x.1.length:Int)==63)=false:=by simp;omega
      have hxz:(0:Int)<=(x.1.length:Int):=Int.natCast_nonneg _;generalize(x.1.length:Int)=xl at*;go_wp2_with fail;refine(sW.out wr HB.out).mono ?_;rintro ev w3 ⟨rfl,hb3⟩;have HB3:Hid (Below w.heap.size w w3):=HB.out.trans (hb3.mono hbz);have HR3:Hid (Below wr.heap.size wr w3):=hb3;clear hb3;go_wp2_with fail;refine(HL.out w3 HR3.out).mono ?_;rintro ev wx ⟨rfl,hx⟩;have hx':=hx.symm;subst hx';clear HL;go_wp2_with fail;refine(sW.out w3 HB3.out).mono ?_;rintro ev w4 ⟨rfl,hb4⟩;have dL:Hid (Below w.heap.size w w4):=HB3.out.trans (hb4.mono HB3.out.size);have HR4:Hid (Below wr.heap.size wr w4):=HR3.out.trans (hb4.mono HR3.out.size);clear hb4 HR3 sW;go_wp2_with fail;refine(C7.out w4 HR4.out).mono ?_;rintro ev w5 ⟨rfl,v5,hs5,Mf⟩;have bW:Hid (Below w.heap.size w w5):=Mf.below (rD.out.below HR4.out).stk dL.out;have JD:Hid (PS w5 w.heap.size s fb v5 (.slice fa x.2.length fc) (x.1++[k],x.2)):=(rD.out.below HR4.out).stack hs5 Mf;clear hs5 Mf C7;go_wp2;go_roundg (n - (k+1));case measure=>omega
      case rel=>exact⟨k+1,v5,(x.1++[k],x.2),by omega,rfl,by go_num,bW.out,JD.out,aaF.out,aaH.out,HN.out⟩
    .have sW:Hid (∀W,Below w.heap.size w W->Calls prog 243 #[.int .i32 (rs.getD k 0)] W fun e w'=>e= .returned (.bool false)/\Below W.heap.size W w'):=fun W hW=>by
      obtain⟨tt,fr,hh⟩:=H3.out W hW;have:=XO (rs.getD k 0) W tt fr hh;rw [decide_eq_false h1]at this;exact this
     by_cases h2:(brk (rs.getD k 0)).1=2
     .have vX:Hid (∀W,Below w.heap.size w W->Calls prog 245 #[.int .i32 (rs.getD k 0)] W fun e w'=>e= .returned (.bool true)/\Below W.heap.size W w'):=fun W hW=>by
       obtain⟨tt,fr,hh⟩:=H3.out W hW;have:=R4 (rs.getD k 0) W tt fr hh;rw [decide_eq_true h2]at this;exact this
      have zu:=fun W (hW:Below wr.heap.size wr W) (hW2:Below w.heap.size w W)=>abX W B sb gc n cc gr cr w.heap.size s fb v pv bv ah aa aj t rs x.1 (rs.getD k 0) (H1.out W hW2) (H2.out W hW2) (rD.out.below hW).stk (rD.out.below hW).fit (fun a ha=>Nat.lt_trans (jQ.out.st a ha) hlt) oG.out h2 (by omega)
      have JQ:Hid (∀W,Below wr.heap.size wr W->Below w.heap.size w W->Calls prog 246 #[.pointer (some ⟨sb,0,none⟩),.pointer (some ⟨s,0,none⟩),.map (some fb),.int .i32 (rs.getD k 0)] W fun e w'=>
   (∃m v',lW rs (brk (rs.getD k 0)).2 x.1 x.1.length=some m/\e= .returned (.tuple #[.int .i64 (x.1.getD m 0:Nat),.bool true])/\dG w' w.heap.size s v' (x.1.take m)/\aU W w' s v v')∨
   (lW rs (brk (rs.getD k 0)).2 x.1 x.1.length=none/\e= .returned (.tuple #[.int .i64 0,.bool false])/\Below W.heap.size W w')):=zu
      have nR:Hid (∀m,lW rs (brk (rs.getD k 0)).2 x.1 x.1.length=some m->eO t rs (n - (k+1)) (k+1) (x.1.take m,x.2++[(x.1.getD m 0,k)])=eO t rs n 0 ([],[])/\iA (k+1) (x.1.take m,x.2++[(x.1.getD m 0,k)])/\wF rs (x.1.take m)):=fun m hm=>by
       have e:oh t rs k x=some (x.1.take m,x.2++[(x.1.getD m 0,k)]):=by rw [oh,if_pos ht,if_neg h1,if_pos h2,hm]
       exact⟨by rw [<-hF];exact(EJ e).symm,jQ.out.step e,oG.out.step e⟩
      have nS:Hid (lW rs (brk (rs.getD k 0)).2 x.1 x.1.length=none->eO t rs (n - (k+1)) (k+1) x=eO t rs n 0 ([],[])):=fun hm=>by
       have e:oh t rs k x=some x:=by rw [oh,if_pos ht,if_neg h1,if_pos h2,hm]
       rw [<-hF];exact(EJ e).symm
      have hx2:x.2.length<=1000:=by have:=hO.few;omega
      clear hF hP hO hSt hb h1 h2 ht zu;generalize rs.getD k 0=r at*;go_wp2_with fail;refine(sW.out wr HB.out).mono ?_;rintro ev w3 ⟨rfl,hb3⟩;have HB3:Hid (Below w.heap.size w w3):=HB.out.trans (hb3.mono hbz);have HR3:Hid (Below wr.heap.size wr w3):=hb3;clear hb3;go_wp2_with fail;refine(sW.out w3 HB3.out).mono ?_;rintro ev w4 ⟨rfl,hb4⟩;have dL:Hid (Below w.heap.size w w4):=HB3.out.trans (hb4.mono HB3.out.size);have HR4:Hid (Below wr.heap.size wr w4):=HR3.out.trans (hb4.mono HR3.out.size);clear hb4 HR3 sW;go_wp2_with fail;refine(vX.out w4 dL.out).mono ?_;rintro ev w5 ⟨rfl,hb5⟩;have bW:Hid (Below w.heap.size w w5):=dL.out.trans (hb5.mono dL.out.size);have mZ:Hid (Below wr.heap.size wr w5):=HR4.out.trans (hb5.mono HR4.out.size);clear hb5 HR4 vX;go_wp2_with fail;refine(JQ.out w5 mZ.out bW.out).mono ?_;rintro ev w6 (⟨m,v6,hm,rfl,hs6,Mg⟩|⟨hm,rfl,hb6⟩)
      .obtain⟨hN,Ut,UA⟩:=nR.out m hm;have bO:Hid (Below w.heap.size w w6):=Mg.below (rD.out.below mZ.out).stk bW.out;have xZ:Hid (PS w6 w.heap.size s fb v6 (.slice fa x.2.length fc) (x.1.take m,x.2)):=(rD.out.below mZ.out).stack hs6 Mg;have Jz:Hid _:=hN;have CZ:Hid _:=Ut;have HSS:Hid _:=UA;clear hN Ut UA hm hs6 Mg JQ;have hrow:w6.ownsRow w.heap.size 268 2 (.slice fa x.2.length fc) x.2.length (qp x.2):=xZ.out.row;have wV:=bO.out.size;generalize x.1.getD m 0=q at*;go_wp2_with(at_builtin;refine ajQ _ rfl _ _ 265 rfl w.heap.size 268 iP (.agg #[.int .i64 0,.int .i64 0]) 16 underlying265 hiP MF MH MI rfl (by decide) _ _ _ rfl hrow _ _ _ _ rfl (by simp) rfl rfl (by omega) wV ?_);intro v7 w7 wZ fB;have pM:Hid (PS w7 w.heap.size s fb v6 v7 (x.1.take m,x.2++[(q,k)])):=xZ.out.app wZ fB;have fe:Hid (Below w.heap.size w w7):=bO.out.grown fB wV (fun y hy=>(hrow.lt y hy).1);clear wZ fB hrow;go_wp2;go_roundg (n - (k+1));case measure=>omega
       case rel=>exact⟨k+1,v6,(x.1.take m,x.2++[(q,k)]),by omega,rfl,by go_num,fe.out,pM.out,CZ.out,HSS.out,Jz.out⟩
      .have bO:Hid (Below w.heap.size w w6):=bW.out.trans (hb6.mono bW.out.size);have xZ:Hid (PS w6 w.heap.size s fb v (.slice fa x.2.length fc) x):=(rD.out.below mZ.out).below hb6;have Jz:Hid _:=nS.out hm;have CZ:Hid (iA (k+1) x):=jQ.out.more;clear hm hb6 JQ;go_wp2;go_roundg (n - (k+1));case measure=>omega
       case rel=>exact⟨k+1,v,x,by omega,rfl,by go_num,bO.out,xZ.out,CZ.out,oG.out,Jz.out⟩
     .have vX:Hid (∀W,Below w.heap.size w W->Calls prog 245 #[.int .i32 (rs.getD k 0)] W fun e w'=>e= .returned (.bool false)/\Below W.heap.size W w'):=fun W hW=>by
       obtain⟨tt,fr,hh⟩:=H3.out W hW;have:=R4 (rs.getD k 0) W tt fr hh;rw [decide_eq_false h2]at this;exact this
      have HN:Hid (eO t rs (n - (k+1)) (k+1) x=eO t rs n 0 ([],[])):=by
       show _=_;rw [<-hF];exact(EJ (by rw [oh,if_pos ht,if_neg h1,if_neg h2])).symm
      have CZ:Hid (iA (k+1) x):=hO.more;clear hF hP hO hSt hb h1 h2 ht;generalize rs.getD k 0=r at*;go_wp2_with fail;refine(sW.out wr HB.out).mono ?_;rintro ev w3 ⟨rfl,hb3⟩;have HB3:Hid (Below w.heap.size w w3):=HB.out.trans (hb3.mono hbz);have HP3:Hid (PS w3 w.heap.size s fb v (.slice fa x.2.length fc) x):=rD.out.below hb3;clear hb3;go_wp2_with fail;refine(sW.out w3 HB3.out).mono ?_;rintro ev w4 ⟨rfl,hb4⟩;have dL:Hid (Below w.heap.size w w4):=HB3.out.trans (hb4.mono HB3.out.size);have HP4:Hid (PS w4 w.heap.size s fb v (.slice fa x.2.length fc) x):=HP3.out.below hb4;clear hb4 sW;go_wp2_with fail;refine(vX.out w4 dL.out).mono ?_;rintro ev w5 ⟨rfl,hb5⟩;have bW:Hid (Below w.heap.size w w5):=dL.out.trans (hb5.mono dL.out.size);have JD:Hid (PS w5 w.heap.size s fb v (.slice fa x.2.length fc) x):=HP4.out.below hb5;clear hb5 vX;go_wp2;go_roundg (n - (k+1));case measure=>omega
      case rel=>exact⟨k+1,v,x,by omega,rfl,by go_num,bW.out,JD.out,CZ.out,oG.out,HN.out⟩
   .have HN:Hid (eO t rs (n - (k+1)) (k+1) x=eO t rs n 0 ([],[])):=by
     show _=_;rw [<-hF];exact(EJ (by rw [oh,if_neg ht])).symm
    have ht':(t.getD k 0==12)=false:=by simpa using ht
    clear hF hP hO hSt hb ht;generalize t.getD k 0=c at*;generalize rs.getD k 0=r at*;go_wp2;go_roundg (n - (k+1));case measure=>omega
    case rel=>exact⟨k+1,v,x,by omega,rfl,by go_num,HB.out,rD.out,jQ.out.more,oG.out,HN.out⟩
  .obtain rfl:k=n:=by omega
   rw [Nat.sub_self,eO]at hF;have hkn:¬(k:Int)<(k:Int):=by omega
   have HB:Hid (Below w.heap.size w wr):=hb;have HF:Hid (eO t rs k 0 ([],[])=some x.2):=hF.symm;have FD:Hid (wr.ownsRow w.heap.size 268 2 (.slice fa x.2.length fc) x.2.length (qp x.2)):=hP.row;have hx2:x.2.length<=1000:=by have:=hO.few;omega
   clear hF hP hO hSt hb;generalize x.2=out at*;by_cases h0:out=[]
   .subst h0;have HS:Hid (∀f,Calls prog 247 #[.slice fa 0 fc,f] wr fun e w'=>e= .returned (.tuple #[])/\w'=wr):=fun f=>AnyF.slices_SortFunc_none Tryz.laysSort fa fc f wr
    clear FD hx2;go_wp2_with fail;refine(HS.out _).mono ?_;rintro ev wx ⟨rfl,hx⟩;have hx':=hx.symm;subst hx';clear HS;go_wp2;go_ret;exact⟨_,[],rfl,by unfold kT;rw [HT.out,HF.out];exact⟨.refl _,.nil⟩,.inl ⟨rfl,_,_,rfl⟩,HB.out⟩
   .obtain⟨g,cp,he,_,_,hgB⟩:=kg FD.out (List.length_pos_iff.2 h0);simp only [Value.slice.injEq,true_and]at he;obtain⟨rfl,rfl⟩:=he;have HS:Hid (Calls prog 247 #[.slice (some ⟨g,0,none⟩) out.length fc,.func (.func 248) #[] #[]] wr fun e w'=>e= .returned (.tuple #[])/\∃ps:List (Nat×Nat),ps.Perm out/\ps.Pairwise (fun a b=>a.1<=b.1)/\lI w' g ps/\Below w.heap.size wr w'/\g<w'.heap.size):=aiO wr w.heap.size g _ out FD.out hx2;clear FD h0;go_wp2_with fail;refine HS.out.mono ?_;rintro ev w3 ⟨rfl,ps,hp,hs,hA,hb3,hg3⟩;have HX:Hid (ps.Perm out/\ps.Pairwise (fun a b=>a.1<=b.1)/\lI w3 g ps):=⟨hp,hs,hA⟩
    have HB3:Hid (Below w.heap.size w w3):=HB.out.trans hb3;clear hp hs hA hb3 HS;go_wp2;go_ret;exact⟨_,ps,rfl,by unfold kT;rw [HT.out,HF.out];exact⟨HX.out.1,HX.out.2.1⟩,.inr ⟨g,_,by rw [HX.out.1.length_eq];rfl,hgB,hg3,HX.out.2.2⟩,HB3.out⟩
theorem ZC {c:Int}:(bC c<0↔bC c= -1):=by
 unfold bC;split
 .omega
 .split<;>omega
theorem aiF(w:World)(B sb gc n cc:Nat)(pv rv bv:Value)(ah aa aj:Int)(t:List Int)(h:aA w B sb gc n cc pv rv bv ah aa aj t)(hn:n<=1000)(f:Nat)(hf:f<n):
  Calls prog 250 #[.pointer (some ⟨sb,0,none⟩),.int .i64 f] w fun e w'=>e= .returned (.int .i64 (jJ aa t f))/\w'=w:=by
 have c2:=h.f2;have c5:=h.f5;have HT:Hid (∀k,k<n->w.cell? ⟨gc,k,none⟩=some (.int .i64 (t.getD k 0))):=fun k hk=>h.at k hk
 obtain⟨P,hP⟩:∃P,P=jJ aa t f:=⟨_,rfl⟩
 rw [<-hP];have HP:Hid (jJ aa t f=P):=hP.symm;clear h hP;go_enter func250,ntmps250;go_wp2;go_loopg [5] f (fun gh kv W=>∃k:Nat,k<=f/\gh=k/\kv= .int .i64 ((k:Int) - 1)/\W=w/\jJ aa t k=P);case atStart=>exact⟨f,Nat.le_refl _,rfl,rfl,rfl,HP.out⟩
 case round=>
  obtain⟨k,hk,rfl,rfl,hW,hp⟩:=hrel;have hW':=hW.symm;subst hW';clear HP;cases gk with
  |zero=>
   have hp0:aa=P:=hp;subst hp0;go_wp2;go_ret;exact⟨rfl,rfl⟩
  |succ k=>
   have hkn:k<n:=by omega
   have b1:=HT.out k hkn;have e1:((k+1:Nat):Int) - 1=(k:Int):=by omega
   rw [e1];rw [jJ]at hp;have hk':(k:Int)<(n:Int):=by omega
   have hk0:(0:Int)<=(k:Int):=by omega
   generalize t.getD k 0=c at*;have HS:Hid (∀W,Calls prog 217 #[.int .i64 c] W fun e w'=>e= .returned (.int .i64 (bC c))/\w'=W):=fun W=>FO c W
   by_cases hl:bC c<0
   .rw [if_pos hl]at hp;have HP:Hid (jJ aa t k=P):=hp;have hm:bC c= -1:=ZC.1 hl;rw [hm]at HS;clear hp hl hm;go_wp2_with fail;refine(HS.out _).mono ?_;rintro ev wx ⟨rfl,hx⟩;subst hx;go_wp2;go_roundg k;case measure=>omega
    case rel=>exact⟨k,by omega,rfl,by go_num,rfl,HP.out⟩
   .rw [if_neg hl]at hp;have hm:(bC c != -1)=true:=by
     simp only [bne_iff_ne,ne_eq];intro e;exact hl (ZC.2 e)
    generalize bC c=sc at*;subst hp;clear hl;go_wp2_with fail;refine(HS.out _).mono ?_;rintro ev wx ⟨rfl,hx⟩;subst hx;go_wp2;go_ret;exact⟨rfl,rfl⟩
theorem Zg(w:World)(B sb gc n cc gb cb:Nat)(pv rv:Value)(ah aa aj:Int)(t orig:List Int)(h:aA w B sb gc n cc pv rv (.slice (some ⟨gb,0,none⟩) n cb) ah aa aj t)(ho:dz w gb 0 orig)(hl:orig.length=n)(hg:gb≠gc)(hn:n<=1000)(k:Nat)(hk:k<n)(d:Int):
  Calls prog 213 #[.pointer (some ⟨sb,0,none⟩),.int .i64 k,.int .i64 d] w fun e w'=>e= .returned (.tuple #[])/\aA w' B sb gc n cc pv rv (.slice (some ⟨gb,0,none⟩) n cb) ah aa aj (pz orig d k t)/\w.grownBy w' (some gc):=by
 have c2:=h.f2;have ck:=h.at k hk;have fk:=h.frozen k;have hk':(k:Int)<(n:Int):=by omega
 have gQ:Hid (aA (w.setCell ⟨gc,k,none⟩ (.int .i64 d)) B sb gc n cc pv rv (.slice (some ⟨gb,0,none⟩) n cb) ah aa aj (dI t k d 1)):=h.set k d;have uO:Hid (w.grownBy (w.setCell ⟨gc,k,none⟩ (.int .i64 d)) (some gc)):=h.grown k d;have HO:Hid (∀W,w.grownBy W (some gc)->∀q,q<n->W.cell? ⟨gb,q,none⟩=some (.int .i64 (orig.getD q 0))):=fun W hG q hq=>by
  have h1:=ho q (by rw [hl];exact hq);rw [Nat.zero_add]at h1;have hlt:gb<w.heap.size:=by
   rcases Nat.lt_or_ge gb w.heap.size with h'|h'
   .exact h'
   .simp [World.cell?,Array.getElem?_eq_none h']at h1
  simp only [World.cell?]at h1 ⊢;rw [hG.block gb hlt (fun e=>hg (Option.some.inj e))];exact h1
 have HL:Hid (orig.length=n):=hl;generalize t.getD k 0=q0 at*;clear h ho hl;unfold pz;go_enter func213,ntmps213;go_wp2;clear c2 ck fk;go_loopg [6] (n - (k+1)) (fun gk iv wr=>∃m:Nat,k+1+m<=n/\gk=n - (k+1+m)/\iv= .int .i64 ((k+1+m:Nat):Int)/\aA wr B sb gc n cc pv rv (.slice (some ⟨gb,0,none⟩) n cb) ah aa aj (dI t k d (1+m))/\w.grownBy wr (some gc)/\rX (orig.drop (k+1))=m+rX (orig.drop (k+1+m)));case atStart=>exact⟨0,by omega,rfl,by go_num,gQ.out,uO.out,by rw [Nat.zero_add]⟩
 case round=>
  clear gQ uO;obtain⟨m,hm,rfl,rfl,hS,hG,hN⟩:=hrel;have c2:=hS.f2;have c3:wr.cell? ⟨sb,3,none⟩=some (.slice (some ⟨gb,0,none⟩) n cb):=au hS.cell 3;have HS:Hid (aA wr B sb gc n cc pv rv (.slice (some ⟨gb,0,none⟩) n cb) ah aa aj (dI t k d (1+m))):=hS;have HG:Hid (w.grownBy wr (some gc)):=hG;have ecast:((k+1+m:Nat):Int)=(k:Int)+1+(m:Int):=by omega
  by_cases hlt:k+1+m<n
  .have co:=HO.out wr hG (k+1+m) hlt;have cq:=hS.at (k+1+m) hlt;have fq:=hS.frozen (k+1+m);have h1:(k:Int)+1+(m:Int)<(n:Int):=by omega
   rw [ags (m:=k+1+m) (by rw [HL.out];exact hlt)]at hN;clear hS hG;generalize(dI t k d (1+m)).getD (k+1+m) 0=q at*;by_cases h8:orig.getD (k+1+m) 0=8
   .rw [if_pos h8]at hN;rw [h8]at co;have HN:Hid (rX (orig.drop (k+1))=(m+1)+rX (orig.drop (k+1+(m+1)))):=by show _=_;rw [hN,<-Nat.add_assoc (k+1)];omega
    have HS2:Hid (aA (wr.setCell ⟨gc,k+1+m,none⟩ (.int .i64 d)) B sb gc n cc pv rv (.slice (some ⟨gb,0,none⟩) n cb) ah aa aj (dI t k d (1+(m+1)))):=by
     have:=HS.out.set (k+1+m) d;show aA _ _ _ _ _ _ _ _ _ _ _ _ (dI t k d (1+(m+1)));rw [show 1+(m+1)=(1+m)+1 by omega,dI,show k+(1+m)=k+1+m by omega];exact this
    have HG2:Hid (w.grownBy (wr.setCell ⟨gc,k+1+m,none⟩ (.int .i64 d)) (some gc)):=HG.out.trans (HS.out.grown (k+1+m) d);clear hN h8;go_wp2;go_roundg (n - (k+1+(m+1)));case measure=>omega
    case rel=>exact⟨m+1,by omega,rfl,by go_num,HS2.out,HG2.out,HN.out⟩
   .rw [if_neg h8]at hN;have q8:(orig.getD (k+1+m) 0==8)=false:=by simpa using h8
    have HE:Hid (1+rX (orig.drop (k+1))=1+m):=by show _=_;omega
    clear hN h8;generalize orig.getD (k+1+m) 0=oq at*;go_wp2;go_end0;rw [HE.out];exact⟨rfl,HS.out,HG.out⟩
  .have h1:¬(k:Int)+1+(m:Int)<(n:Int):=by omega
   have h2:decide ((k:Int)+1+(m:Int)<(n:Int))=false:=by simpa using h1
   rw [agr (m:=k+1+m) (by rw [HL.out];exact hlt)]at hN;have HE:Hid (1+rX (orig.drop (k+1))=1+m):=by show _=_;omega
   clear hS hG hN;go_wp2;go_end0;rw [HE.out];exact⟨rfl,HS.out,HG.out⟩
theorem agV(w:World)(B sb gc n cc:Nat)(pv rv bv:Value)(ah aa aj:Int)(t:List Int)(h:aA w B sb gc n cc pv rv bv ah aa aj t)(hn:n<=1000)(mG:0<=ah)(a b:Nat)(hab:a<b)(hb:b<n):
  Calls prog 212 #[.pointer (some ⟨sb,0,none⟩),.agg #[.int .i64 a,.int .i64 b]] w fun e w'=>e= .returned (.int .i64 (qm t (a,b) (ah%2) aa))/\Below w.heap.size w w':=by
 have hb1:Below w.heap.size w (w.alloc (.cells #[.int .i64 a,.int .i64 b] 268)):=(Below.refl _ _).alloc (Nat.le_refl _) _;have hS1:=h.below hb1;have c2:=hS1.f2;have c4:=hS1.f4;have hcc:n<=cc:=by
  obtain⟨g',c',hv,hc,_⟩:=kg h.row (show 0<n by omega);have:cc=c':=by have:=hv;simp at this;exact this.2
  omega
 have HA:Hid (∀W,Below w.heap.size w W->Calls prog 250 #[.pointer (some ⟨sb,0,none⟩),.int .i64 a] W fun e w'=>e= .returned (.int .i64 (jJ aa t a))/\w'=W):=fun W hW=>aiF W B sb gc n cc pv rv bv ah aa aj t (h.below hW) hn a (by omega)
 have HT:Hid (∀W,Below w.heap.size w W->∀k,k<n->W.cell? ⟨gc,k,none⟩=some (.int .i64 (t.getD k 0))):=fun W hW k hk=>(h.below hW).at k hk
 have QG:Hid (∀W,Calls prog 96 #[.int .i64 ah] W fun e w'=>e= .returned (.int .i64 (ah%2))/\w'=W):=fun W=>xJ ah W mG
 have HB1:Hid (Below w.heap.size w (w.alloc (.cells #[.int .i64 a,.int .i64 b] 268))):=hb1;obtain⟨own,hown⟩:∃own,own=ah%2:=⟨_,rfl⟩
 rw [<-hown]at QG ⊢;obtain⟨P,hP⟩:∃P,P=qm t (a,b) own aa:=⟨_,rfl⟩
 rw [<-hP];unfold qm at hP;have HP:Hid (P=if nJ own t (a+1) (b - (a+1))=true then own else if lN t (a+1) (b - (a+1)) (-1)≠ -1/\jJ aa t a≠lN t (a+1) (b - (a+1)) (-1)then own else lN t (a+1) (b - (a+1)) (-1)):=hP;have g0:(w.alloc (.cells #[.int .i64 a,.int .i64 b] 268)).cell? ⟨w.heap.size,0,none⟩=some (.int .i64 a):=by go_simp
 have g1:(w.alloc (.cells #[.int .i64 a,.int .i64 b] 268)).cell? ⟨w.heap.size,1,none⟩=some (.int .i64 b):=by go_simp
 have hi1:(a:Int)+1<=(b:Int):=by omega
 have hi2:(b:Int)<=(cc:Int):=by omega
 have hi3:((a:Int)+1).toNat=a+1:=by omega
 have hi4:(cc:Int)≠(a:Int)+1:=by omega
 clear h hb1 hS1 hown hP;generalize hW1:w.alloc (.cells #[.int .i64 a,.int .i64 b] 268)=W1 at*;go_enter func212,ntmps212;go_wp2_with fail;refine(QG.out _).mono ?_;rintro ev wx ⟨rfl,hx⟩;have hx':=hx.symm;subst hx';clear hW1;generalize w.heap.size=bx at g0 g1 ⊢;go_wp2_with fail;go_quiet(fail);have HB2:Hid (Below w.heap.size w (W1.drewN nq)):=below_drewN HB1.out _;have g0':(W1.drewN nq).cell? ⟨bx,0,none⟩=some (.int .i64 a):=g0;generalize W1.drewN nq=W2 at*;clear g0 g1 c2 c4 hi1 hi2 hi3 hi4 HB1;obtain⟨m,hm⟩:∃m,m=b - (a+1):=⟨_,rfl⟩
 rw [<-hm]at HP ⊢;have HM:Hid (a+1+m=b):=by show _=_;omega
 have hm1:m<=1000:=by omega
 clear hm;go_wp2;go_loopg [6,25] m (fun gk wv iv W=>∃(j:Nat)(q:Int),j<=m/\gk=m - j/\wv= .int .i64 q/\iv= .int .i64 j/\W=W2/\nJ own t (a+1) m=nJ own t (a+1+j) (m - j)/\lN t (a+1) m (-1)=lN t (a+1+j) (m - j) q);case atStart=>exact⟨0, -1,by omega,rfl,rfl,rfl,rfl,rfl,rfl⟩
 case round=>
  obtain⟨j,q,hj,rfl,rfl,rfl,hW,h1,h2⟩:=hrel;have hW':=hW.symm;subst hW';by_cases hlt:j<m
  .have hjm:(j:Int)<(m:Int):=by omega
   have ck:=HT.out W2 HB2.out (a+1+j) (by have:=HM.out;omega);obtain⟨r,hr⟩:∃r,m - j=r+1:=⟨m - j - 1,by omega⟩
   rw [hr,nJ]at h1;rw [hr,lN]at h2;have er:m - (j+1)=r:=by omega
   generalize t.getD (a+1+j) 0=c at*;have HS:Hid (∀W,Calls prog 217 #[.int .i64 c] W fun e w'=>e= .returned (.int .i64 (bC c))/\w'=W):=fun W=>FO c W
   generalize bC c=sc at*;by_cases ho:sc=own
   .have HH:Hid (P=own):=by
     show _=_;rw [HP.out,h1,ho,if_pos (by simp)]
    subst ho;clear h1 h2;go_wp2_with fail;refine(HS.out _).mono ?_;rintro ev wx ⟨rfl,hx⟩;have hx':=hx.symm;subst hx';go_wp2;go_ret;exact⟨kM HH.out.symm,HB2.out⟩
   .have qo:(sc==own)=false:=by simpa using ho
    rw [qo,Bool.false_or]at h1;by_cases hs:sc= -1
    .rw [if_pos hs]at h2;have H1:Hid (nJ own t (a+1) m=nJ own t (a+1+(j+1)) (m - (j+1))/\lN t (a+1) m (-1)=lN t (a+1+(j+1)) (m - (j+1)) q):=⟨by rw [er];exact h1,by rw [er];exact h2⟩
     subst hs;clear h1 h2 ho;go_wp2_with fail;refine(HS.out _).mono ?_;rintro ev wx ⟨rfl,hx⟩;have hx':=hx.symm;subst hx';go_wp2_with fail;refine(HS.out _).mono ?_;rintro ev wx ⟨rfl,hx⟩;have hx':=hx.symm;subst hx';go_wp2;go_roundg (m - (j+1));case measure=>omega
     case rel=>exact⟨j+1,q,by omega,rfl,rfl,by go_num,rfl,H1.out.1,H1.out.2⟩
    .rw [if_neg hs]at h2;have H1:Hid (nJ own t (a+1) m=nJ own t (a+1+(j+1)) (m - (j+1))/\lN t (a+1) m (-1)=lN t (a+1+(j+1)) (m - (j+1)) sc):=⟨by rw [er];exact h1,by rw [er];exact h2⟩
     have qs:(sc != -1)=true:=by simpa using hs
     clear h1 h2 ho hs;go_wp2_with fail;refine(HS.out _).mono ?_;rintro ev wx ⟨rfl,hx⟩;have hx':=hx.symm;subst hx';go_wp2_with fail;refine(HS.out _).mono ?_;rintro ev wx ⟨rfl,hx⟩;have hx':=hx.symm;subst hx';go_wp2_with fail;refine(HS.out _).mono ?_;rintro ev wx ⟨rfl,hx⟩;have hx':=hx.symm;subst hx';go_wp2;go_roundg (m - (j+1));case measure=>omega
     case rel=>exact⟨j+1,sc,by omega,rfl,rfl,by go_num,rfl,H1.out.1,H1.out.2⟩
  .have hjm:¬(j:Int)<(m:Int):=by omega
   have hz:m - j=0:=by omega
   rw [hz]at h1 h2;have h1':nJ own t (a+1) m=false:=h1;have h2':lN t (a+1) m (-1)=q:=h2;have HH:Hid (P=if q≠ -1/\jJ aa t a≠q then own else q):=by
    show _=_;rw [HP.out,h1',h2',if_neg (by decide)]
   have HA2:Hid (Calls prog 250 #[.pointer (some ⟨sb,0,none⟩),.int .i64 a] W2 fun e w'=>e= .returned (.int .i64 (jJ aa t a))/\w'=W2):=HA.out W2 HB2.out;clear h1 h2 h1' h2' hz;generalize jJ aa t a=la at*;by_cases hq:q= -1
   .have e:P= -1:=by rw [HH.out,if_neg (fun h=>h.1 hq),hq]
    subst hq;subst e;go_wp2;go_ret;exact⟨rfl,HB2.out⟩
   .have qq:(q != -1)=true:=by simpa using hq
    by_cases hl:la=q
    .have e:P=q:=by rw [HH.out,if_neg (fun h=>h.2 hl)]
     have ql:(la !=q)=false:=by simp [hl]
     have HE:Hid (P=q):=e;clear hl e hq;go_wp2_with fail;refine HA2.out.mono ?_;rintro ev wx ⟨rfl,hx⟩;have hx':=hx.symm;subst hx';go_wp2;go_ret;exact⟨kM HE.out.symm,HB2.out⟩
    .have e:P=own:=by rw [HH.out,if_pos ⟨hq,hl⟩]
     have ql:(la !=q)=true:=by simpa using hl
     have HE:Hid (P=own):=e;clear hl e hq;go_wp2_with fail;refine HA2.out.mono ?_;rintro ev wx ⟨rfl,hx⟩;have hx':=hx.symm;subst hx';go_wp2;go_ret;exact⟨kM HE.out.symm,HB2.out⟩
