import Derived.Test.YtkbinfhclaafhaaGreatDoorH11
import Derived.Test.YtkbinfhclaafhaaGreatDoorH07
import Derived.Deep.RegionLaw
import Derived.Test.YtkbinfhclaafhaaGreatDoorH10
import Derived.Laws.CopyOwn
import Derived.Lib.SmallJoins
import Derived.Test.YtkbinfhclaafhaaGreatDoorH03
import Derived.Test.YtkbinfhclaafhaaGreatDoorH04
import Derived.Test.YtkbinfhclaafhaaGreatDoorH01
import Derived.Deep.DeepCutAuto
import Derived.Deep.RegionWith
namespace Go.Proofs.YtkbinfhclaafhaaGreatDoor
open Go.RowKit
open Go.Proofs.Tryz
set_option maxRecDepth 100000
set_option maxHeartbeats 32000000
theorem kT.few {t rs:List Int}{ps:List (Nat×Nat)}(h:kT t rs ps):ps.length<=t.length:=by
 unfold kT at h;cases hp:eO t rs t.length 0 ([],[])with
 |none=>rw [hp]at h;simp only at h;rw [h];simp
 |some out=>
  rw [hp]at h;have:=X5 _ _ _ _ iA.start hp;rw [h.1.length_eq];omega
def uu(t orig:List Int)(ps:List (Nat×Nat))(own aa:Int):List Int:=ps.foldl (fun t p=>xC t orig p own aa) t
theorem Bj {w w':World}{r:Option Nat}(h:Below w.heap.size w w'):w.grownBy w' r:=⟨h.os,h.tape,h.output,h.size,fun k hk _=>h.block k hk⟩
theorem cell_grown {w w':World}{r:Option Nat}(hg:w.grownBy w' r){a:Addr}{v:Value}(h:w.cell? a=some v)(hne:some a.block≠r):w'.cell? a=some v:=by
 have hlt:=World.block_lt_of_cell? w _ h;simp only [World.cell?]at h ⊢;rw [hg.block a.block hlt hne];exact h
theorem dz.grown {w w':World}{b off gc:Nat}{l:List Int}(h:dz w b off l)(hg:w.grownBy w' (some gc))(hne:b≠gc):dz w' b off l:=fun i hi=>cell_grown hg (h i hi) (fun e=>hne (Option.some.inj e))
theorem lI.grown {w w':World}{g gc:Nat}{ps:List (Nat×Nat)}(h:lI w g ps)(hg:w.grownBy w' (some gc))(hne:g≠gc):lI w' g ps:=fun j hj=>
 ⟨cell_grown hg (h j hj).1 (fun e=>hne (Option.some.inj e)),cell_grown hg (h j hj).2 (fun e=>hne (Option.some.inj e))⟩
theorem lI.below {w w':World}{g:Nat}{ps:List (Nat×Nat)}(h:lI w g ps)(hb:Below w.heap.size w w'):lI w' g ps:=fun j hj=>
 ⟨cell_grown (r:=none) (Bj hb) (h j hj).1 (by simp),cell_grown (r:=none) (Bj hb) (h j hj).2 (by simp)⟩
theorem adr {α β:Type}(f:β->α->β)(b:β)(l:List α)(d:α)(j:Nat)(hj:j<l.length):(l.take (j+1)).foldl f b=f ((l.take j).foldl f b) (l.getD j d):=by
 rw [List.take_add_one,List.getElem?_eq_getElem hj,List.foldl_append,List.getD_eq_getElem?_getD,List.getElem?_eq_getElem hj];rfl
theorem ahQ(w:World)(B sb gc n cc gr cr gb cb:Nat)(pv:Value)(ah aa aj:Int)(t rs orig:List Int)(h:aA w B sb gc n cc pv (.slice (some ⟨gr,0,none⟩) n cr) (.slice (some ⟨gb,0,none⟩) n cb) ah aa aj t)(hr:wC w gr n rs)(ho:dz w gb 0 orig)(hol:orig.length=n)(hgb:gb≠gc)(hbr:Br w)(hn:n<=1000)(mG:0<=ah):
  Calls prog 151 #[.pointer (some ⟨sb,0,none⟩)] w fun e w'=>e= .returned (.tuple #[])/\aA w' B sb gc n cc pv (.slice (some ⟨gr,0,none⟩) n cr) (.slice (some ⟨gb,0,none⟩) n cb) ah aa aj (uu t orig (yY t rs) (ah%2) aa)/\w.grownBy w' (some gc):=by
 have Qz:Hid (Calls prog 211 #[.pointer (some ⟨sb,0,none⟩)] w fun e w'=>∃v ps,e= .returned v/\kT t rs ps/\QN w' w.heap.size v ps/\Below w.heap.size w w'):=abv w B sb gc n cc gr cr pv (.slice (some ⟨gb,0,none⟩) n cb) ah aa aj t rs h hr hbr hn;have cK:Hid (∀W,Below w.heap.size w W->aA W B sb gc n cc pv (.slice (some ⟨gr,0,none⟩) n cr) (.slice (some ⟨gb,0,none⟩) n cb) ah aa aj t):=fun W hb=>h.below hb
 have HO:Hid (∀W,w.grownBy W (some gc)->dz W gb 0 orig):=fun W hg=>ho.grown hg hgb
 have HL:Hid (orig.length=n/\t.length=n):=⟨hol,h.len⟩
 have hgc:gc<w.heap.size:=(h.row.lt gc rfl).2;clear h hr ho hol hbr;go_enter func151,ntmps151;go_wp2_with fail;refine Qz.out.mono ?_;rintro ev w1 ⟨v,ps,rfl,hI,hV,hb1⟩;clear Qz;have jQ:Hid (∀p∈ps,p.1<p.2/\p.2<n):=fun p hp=>by have:=hI.ok p hp;rw [HL.out.2]at this;exact this
 have QA:Hid (ps=yY t rs):=hI.is;have hpn:ps.length<=1000:=by have:=hI.few;rw [HL.out.2]at this;omega
 have hG1:w.grownBy w1 (some gc):=(Bj hb1)
 have hS1:=cK.out w1 hb1;clear cK hI hb1;rcases hV with⟨rfl,a,cp,rfl⟩|⟨g,cp,rfl,hBg,hgw,hA⟩
 .have gQ:Hid (aA w1 B sb gc n cc pv (.slice (some ⟨gr,0,none⟩) n cr) (.slice (some ⟨gb,0,none⟩) n cb) ah aa aj t):=hS1;have uO:Hid (w.grownBy w1 (some gc)):=hG1;clear hS1 hG1 jQ hpn;go_wp2;go_loopg [8] 0 (fun gk iv W=>gk=0/\iv= .int .i64 0/\W=w1);case atStart=>exact⟨rfl,rfl,rfl⟩
  case round=>
   obtain⟨rfl,rfl,rfl⟩:=hrel;go_wp2;go_end0;exact⟨rfl,by rw [<-QA.out];exact gQ.out,uO.out⟩
 .have UX:g≠gc:=by omega
  have gQ:Hid (aA w1 B sb gc n cc pv (.slice (some ⟨gr,0,none⟩) n cr) (.slice (some ⟨gb,0,none⟩) n cb) ah aa aj t):=hS1;have uO:Hid (w.grownBy w1 (some gc)):=hG1;have HA1:Hid (lI w1 g ps):=hA;clear hS1 hG1 hA hBg hgw hgc;obtain⟨N,hN⟩:∃N,N=ps.length:=⟨_,rfl⟩
  have kR:Hid (ps.length=N):=hN.symm;rw [<-hN]at hpn ⊢;clear hN;go_wp2;go_loopg [8] N (fun gk iv W=>∃(j:Nat),j<=N/\gk=N - j/\iv= .int .i64 j/\aA W B sb gc n cc pv (.slice (some ⟨gr,0,none⟩) n cr) (.slice (some ⟨gb,0,none⟩) n cb) ah aa aj (uu t orig (ps.take j) (ah%2) aa)/\w.grownBy W (some gc)/\lI W g ps);case atStart=>exact⟨0,by omega,rfl,rfl,gQ.out,uO.out,HA1.out⟩
  case round=>
   clear gQ uO HA1;obtain⟨j,hj,rfl,rfl,hS,hG,hA⟩:=hrel;have HS:Hid (aA wr B sb gc n cc pv (.slice (some ⟨gr,0,none⟩) n cr) (.slice (some ⟨gb,0,none⟩) n cb) ah aa aj (uu t orig (ps.take j) (ah%2) aa)):=hS;have HG:Hid (w.grownBy wr (some gc)):=hG;have HA:Hid (lI wr g ps):=hA;by_cases hlt:j<N
   .have hjl:j<ps.length:=by rw [kR.out];exact hlt
    obtain⟨p1,p2⟩:=hA j hjl;obtain⟨hab,hbn⟩:=jQ.out _ (dB (d:=(0,0)) hjl);have hst:=adr (fun t p=>xC t orig p (ah%2) aa) t ps (0,0) j hjl;have oG:Hid (uu t orig (ps.take (j+1)) (ah%2) aa=xC (uu t orig (ps.take j) (ah%2) aa) orig (ps.getD j (0,0)) (ah%2) aa):=hst;have wY:(j:Int)<(N:Int):=by omega
    clear hS hG hA hst;generalize ps.getD j (0,0)=p at*;obtain⟨a,b⟩:=p;simp only at p1 p2 hab hbn;generalize uu t orig (ps.take j) (ah%2) aa=t' at*;have hb2:Below wr.heap.size wr (wr.alloc (.cells #[.int .i64 a,.int .i64 b] 268)):=(Below.refl _ _).alloc (Nat.le_refl _) _;have rF:Hid (Calls prog 212 #[.pointer (some ⟨sb,0,none⟩),.agg #[.int .i64 a,.int .i64 b]] (wr.alloc (.cells #[.int .i64 a,.int .i64 b] 268)) fun e w'=>e= .returned (.int .i64 (qm t' (a,b) (ah%2) aa))/\Below (wr.alloc (.cells #[.int .i64 a,.int .i64 b] 268)).heap.size (wr.alloc (.cells #[.int .i64 a,.int .i64 b] 268)) w'):=agV (wr.alloc (.cells #[.int .i64 a,.int .i64 b] 268)) B sb gc n cc pv (.slice (some ⟨gr,0,none⟩) n cr) (.slice (some ⟨gb,0,none⟩) n cb) ah aa aj t' (HS.out.below hb2) hn mG a b hab hbn;have HS2:Hid (∀W,Below (wr.alloc (.cells #[.int .i64 a,.int .i64 b] 268)).heap.size (wr.alloc (.cells #[.int .i64 a,.int .i64 b] 268)) W->aA W B sb gc n cc pv (.slice (some ⟨gr,0,none⟩) n cr) (.slice (some ⟨gb,0,none⟩) n cb) ah aa aj t'/\w.grownBy W (some gc)/\lI W g ps/\W.cell? ⟨wr.heap.size,0,none⟩=some (.int .i64 a)/\W.cell? ⟨wr.heap.size,1,none⟩=some (.int .i64 b)):=fun W hb=>by
     have hb3:Below wr.heap.size wr W:=hb2.trans (hb.mono hb2.size);have hc:(wr.alloc (.cells #[.int .i64 a,.int .i64 b] 268)).heap[wr.heap.size]? =some (.cells #[.int .i64 a,.int .i64 b] 268 (0,0)):=Array.getElem?_push_size;have hc':=aR hb hc;exact⟨HS.out.below hb3,HG.out.trans (Bj hb3),HA.out.below hb3,au hc' 0,au hc' 1⟩
    have hgz:gc≠wr.heap.size:=by have:=(HS.out.row.lt gc rfl).2;omega
    clear hb2;obtain⟨z,hz⟩:∃z,z=wr.heap.size:=⟨_,rfl⟩
    go_wp2_with fail;refine rF.out.mono ?_;rintro ev w3 ⟨rfl,hb3⟩;obtain⟨iQ,hG3,hA3,z0,z1⟩:=HS2.out w3 hb3;have gY:Hid _:=iQ;have CQ:Hid _:=hG3;have Py:Hid (lI w3 g ps):=hA3;clear hb3 rF HS2 iQ hG3 hA3 p1 p2;rw [<-hz]at z0 z1 hgz ⊢;have HZ:Hid (gc≠z):=hgz;clear hz hgz;by_cases hd:qm t' (a,b) (ah%2) aa= -1
    .have HQ:Hid (xC t' orig (a,b) (ah%2) aa=t'):=by show _=_;rw [xC,if_pos hd]
     rw [hd];clear hd;go_wp2;go_roundg (N - (j+1));case measure=>omega
     case rel=>exact⟨j+1,by omega,rfl,by go_num,by rw [oG.out,HQ.out];exact gY.out,CQ.out,Py.out⟩
    .have hd':(qm t' (a,b) (ah%2) aa== -1)=false:=by simpa using hd
     have HQ:Hid (xC t' orig (a,b) (ah%2) aa=pz orig (qm t' (a,b) (ah%2) aa) b (pz orig (qm t' (a,b) (ah%2) aa) a t')):=by show _=_;rw [xC,if_neg hd]
     clear hd;generalize qm t' (a,b) (ah%2) aa=d at*;have HB1:Hid (Calls prog 213 #[.pointer (some ⟨sb,0,none⟩),.int .i64 a,.int .i64 d] w3 fun e w'=>e= .returned (.tuple #[])/\aA w' B sb gc n cc pv (.slice (some ⟨gr,0,none⟩) n cr) (.slice (some ⟨gb,0,none⟩) n cb) ah aa aj (pz orig d a t')/\w3.grownBy w' (some gc)):=Zg w3 B sb gc n cc gb cb pv (.slice (some ⟨gr,0,none⟩) n cr) ah aa aj t' orig gY.out (HO.out w3 CQ.out) HL.out.1 hgb hn a (by omega) d;have HB2:Hid (∀W,w.grownBy W (some gc)->aA W B sb gc n cc pv (.slice (some ⟨gr,0,none⟩) n cr) (.slice (some ⟨gb,0,none⟩) n cb) ah aa aj (pz orig d a t')->Calls prog 213 #[.pointer (some ⟨sb,0,none⟩),.int .i64 b,.int .i64 d] W fun e w'=>e= .returned (.tuple #[])/\aA w' B sb gc n cc pv (.slice (some ⟨gr,0,none⟩) n cr) (.slice (some ⟨gb,0,none⟩) n cb) ah aa aj (pz orig d b (pz orig d a t'))/\W.grownBy w' (some gc)):=fun W hg hS=>Zg W B sb gc n cc gb cb pv (.slice (some ⟨gr,0,none⟩) n cr) ah aa aj _ orig hS (HO.out W hg) HL.out.1 hgb hn b hbn d
     go_wp2_with fail;refine HB1.out.mono ?_;rintro ev w4 ⟨rfl,ig,hg4⟩;have rE:Hid _:=ig;have Fv:Hid (w.grownBy w4 (some gc)):=CQ.out.trans hg4;have HA4:Hid (lI w4 g ps):=Py.out.grown hg4 UX;have y1:w4.cell? ⟨z,1,none⟩=some (.int .i64 b):=cell_grown hg4 z1 (fun e=>HZ.out (Option.some.inj e).symm);clear ig hg4 HB1 z0 z1;go_wp2_with fail;refine(HB2.out w4 Fv.out rE.out).mono ?_;rintro ev w5 ⟨rfl,hS5,hg5⟩;have lH:Hid _:=hS5;have A7:Hid (w.grownBy w5 (some gc)):=Fv.out.trans hg5;have AV:Hid (lI w5 g ps):=HA4.out.grown hg5 UX;clear hS5 hg5 HB2 y1;go_wp2;go_roundg (N - (j+1));case measure=>omega
     case rel=>exact⟨j+1,by omega,rfl,by go_num,by rw [oG.out,HQ.out];exact lH.out,A7.out,AV.out⟩
   .obtain rfl:j=N:=by omega
    have wY:¬(j:Int)<(j:Int):=by omega
    have HX:Hid (aA wr B sb gc n cc pv (.slice (some ⟨gr,0,none⟩) n cr) (.slice (some ⟨gb,0,none⟩) n cb) ah aa aj (uu t orig ps (ah%2) aa)):=by
     have:=HS.out;rw [List.take_of_length_le (by rw [kR.out];exact Nat.le_refl _)]at this;exact this
    clear hS hG hA;go_wp2;go_end0;exact⟨rfl,by rw [<-QA.out];exact HX.out,HG.out⟩
structure NS(W:World)(B sb:Nat)(pv vr vc:Value)(ah:Int)(qr qc:List Int):Prop where
 cell:W.heap[sb]? =some (.cells #[pv,vr,vc,.slice none 0 0,.int .i64 ah,.int .i64 0,.int .i64 0] 220 (0,0))
 rr:W.ownsRow B 21 1 vr qr.length (lV qr)
 rc:W.ownsRow B 108 1 vc qc.length (iv qc)
 low:B<=sb
section
variable{W W':World}{B sb:Nat}{pv vr vc v':Value}{ah:Int}{qr qc:List Int}
theorem NS.below(h:NS W B sb pv vr vc ah qr qc)(hb:Below W.heap.size W W'):NS W' B sb pv vr vc ah qr qc:=⟨aR hb h.cell,own_below h.rr hb,own_below h.rc hb,h.low⟩
theorem NS.IA {y:Int}(h:NS W B sb pv vr vc ah qr qc)(hown:W'.ownsRow B 21 1 v' (qr.length+1) (lV qr++[.int .i32 y]))(hg:W.grownBy W' vr.ownBlock):
  NS (W'.setCell ⟨sb,1,none⟩ v') B sb pv v' vc ah (qr++[y]) qc/\W'.cell? ⟨sb,1,none⟩=some vr/\W'.frozen? ⟨sb,1,none⟩=false:=by
 have n1:=iF h.rr h.cell (by decide);have hc:W'.heap[sb]? =_:=(hg.block sb (bK h.cell) (fun e=>n1 e.symm)).trans h.cell;have ht:W'.ownsRow B 108 1 vc qc.length (iv qc):=dJ h.rc hg (lQ h.rc h.rr (by decide));have n2:v'.ownBlock≠some sb:=iF hown hc (by decide);have n3:vc.ownBlock≠some sb:=iF ht hc (by decide);refine⟨⟨by rw [Joins.block_setCell hc];rfl,?_,iG ht n3 1 v',h.low⟩,au hc 1,bX hc 1⟩;rw [List.length_append,lV,List.map_append];exact iG hown n2 1 v'
theorem NS.ahE {y:Int}(h:NS W B sb pv vr vc ah qr qc)(hown:W'.ownsRow B 108 1 v' (qc.length+1) (iv qc++[.int .i64 y]))(hg:W.grownBy W' vc.ownBlock):
  NS (W'.setCell ⟨sb,2,none⟩ v') B sb pv vr v' ah qr (qc++[y])/\W'.cell? ⟨sb,2,none⟩=some vc/\W'.frozen? ⟨sb,2,none⟩=false:=by
 have n1:=iF h.rc h.cell (by decide);have hc:W'.heap[sb]? =_:=(hg.block sb (bK h.cell) (fun e=>n1 e.symm)).trans h.cell;have hr:W'.ownsRow B 21 1 vr qr.length (lV qr):=dJ h.rr hg (lQ h.rr h.rc (by decide));have n2:v'.ownBlock≠some sb:=iF hown hc (by decide);have n3:vr.ownBlock≠some sb:=iF hr hc (by decide);refine⟨⟨by rw [Joins.block_setCell hc];rfl,iG hr n3 2 v',?_,h.low⟩,au hc 2,bX hc 2⟩;rw [List.length_append,iv,List.map_append];exact iG hown n2 2 v'
end
theorem ag3(w:World)(lb gt gm n ct cm:Nat)(r c l:Value)(p:Int)(cs:List Int)(h:tu w lb gt gm n ct cm r c l p cs)(hn:n<=1000)(d:Int):
  Calls prog 141 #[.pointer (some ⟨lb,0,none⟩),.int .i64 d] w fun e w'=>e= .returned (.int .i64 (dO cs d))/\w'=w:=by
 have c1:w.cell? ⟨lb,1,none⟩=some (.slice (some ⟨gt,0,none⟩) n ct):=au h.cell 1;have HF:Hid (Calls prog 199 #[.pointer (some ⟨lb,0,none⟩),.int .i64 0,.int .i64 n] w fun e w'=>e= .returned (.int .i64 (found cs))/\w'=w):=by
  have:=TI w lb gt gm n ct cm r c l p cs h hn 0 n (n+1) (Nat.le_refl _) (by omega) (by omega);rw [<-h.len,N9,<-GD cs cs.length 0 (by omega)]at this;rw [<-h.len];exact this
 unfold dO;generalize found cs=fd at*;clear h;by_cases h0:d=0
 .subst h0;rw [if_pos (.inl rfl)];go_enter func141,ntmps141;go_wp2;go_ret;exact⟨rfl,rfl⟩
 .have q0:(d==0)=false:=by simpa using h0
  by_cases h1:d=1
  .subst h1;rw [if_pos (.inr rfl)];go_enter func141,ntmps141;go_wp2;go_ret;exact⟨rfl,rfl⟩
  .rw [if_neg (by omega)];have q1:(d==1)=false:=by simpa using h1
   go_enter func141,ntmps141;go_wp2_with fail;refine HF.out.mono ?_;rintro ev wx ⟨rfl,hx⟩;have hx':=hx.symm;subst hx';go_wp2;go_ret;exact⟨rfl,rfl⟩
theorem Aw(W:World)(b i:Nat)(v:Value):W.grownBy (W.setCell ⟨b,i,none⟩ v) (some b):=⟨rfl,rfl,rfl,by simp,fun k _ hne=>Below.heap_setCell _ _ _ _ (fun e=>hne (by rw [e]))⟩
theorem yj(w:World)(a:Obj)(r:Option Nat):w.grownBy (w.alloc a) r:=⟨rfl,rfl,rfl,by simp,fun k hk _=>Below.heap_alloc w a k hk⟩
theorem KO {P:Program}{w:World}{sT e ty:TypeId}{B g gs n cs:Nat}{xs:List Value}{cur:Array Value}(hu:P.underlying sT=some (.slice e))(hs:(P.info? e).map (·.size)=some 1)(hg:w.heap[g]? =some (.cells cur e (0,0)))(hc:cur.size=n)(hr:w.ownsRow B e 1 (.slice (some ⟨gs,0,none⟩) n cs) n xs)(h1:∀v∈xs,v.oneCell'=true):
  ∃w',(Builtin.copy_ #[sT,sT] ty #[.slice (some ⟨g,0,none⟩) n n,.slice (some ⟨gs,0,none⟩) n cs]).run P w= .ok (.int .i64 n) w'/\w'.heap[g]? =some (.cells xs.toArray e (0,0))/\w.grownBy w' (some g):=by
 have hxl:xs.length=n:=by have:=hr.1;simpa using this
 have hcp:=run_copy_row (P:=P) w sT sT ty e g 0 n n ⟨gs,0,none⟩ n cs cur e xs hu hs hg (by rw [hxl];exact(Nat.min_self n).symm) (fun j v hj=>World.ownsRow.cells hr rfl j v hj) (by rw [hxl,hc];omega) h1;have e1:cur.toList.take 0++xs++cur.toList.drop (0+xs.length)=xs:=by
  rw [List.take_zero,List.nil_append,List.drop_eq_nil_of_le (by rw [hxl];simp;omega),List.append_nil]
 rw [e1,hxl]at hcp;refine⟨_,hcp,setRow_heap _ _ _ _ _ _ hg,⟨rfl,rfl,rfl,by simp [World.setRow],fun k _ hne=>setRow_other w g k _ (fun e=>hne (by rw [e]))⟩⟩
def LB(W:World)(lb:Nat)(a0 a1 a2 a3 a4 a5:Value):Prop:=W.heap[lb]? =some (.cells #[a0,a1,a2,a3,a4,a5] 141 (0,0))
section
variable{W W':World}{lb:Nat}{a0 a1 a2 a3 a4 a5:Value}
theorem LB.c1(h:LB W lb a0 a1 a2 a3 a4 a5):W.cell? ⟨lb,1,none⟩=some a1:=au h 1
theorem LB.c2(h:LB W lb a0 a1 a2 a3 a4 a5):W.cell? ⟨lb,2,none⟩=some a2/\W.frozen? ⟨lb,2,none⟩=false:=⟨au h 2,bX h 2⟩
theorem LB.c3(h:LB W lb a0 a1 a2 a3 a4 a5):W.cell? ⟨lb,3,none⟩=some a3/\W.frozen? ⟨lb,3,none⟩=false:=⟨au h 3,bX h 3⟩
theorem LB.c4(h:LB W lb a0 a1 a2 a3 a4 a5):W.cell? ⟨lb,4,none⟩=some a4/\W.frozen? ⟨lb,4,none⟩=false:=⟨au h 4,bX h 4⟩
theorem LB.c5(h:LB W lb a0 a1 a2 a3 a4 a5):W.cell? ⟨lb,5,none⟩=some a5/\W.frozen? ⟨lb,5,none⟩=false:=⟨au h 5,bX h 5⟩
theorem LB.grown {r:Option Nat}(h:LB W lb a0 a1 a2 a3 a4 a5)(hg:W.grownBy W' r)(hne:some lb≠r):LB W' lb a0 a1 a2 a3 a4 a5:=(hg.block lb (bK h) hne).trans h
theorem LB.below(h:LB W lb a0 a1 a2 a3 a4 a5)(hb:Below W.heap.size W W'):LB W' lb a0 a1 a2 a3 a4 a5:=aR hb h
theorem LB.s2(h:LB W lb a0 a1 a2 a3 a4 a5)(v:Value):LB (W.setCell ⟨lb,2,none⟩ v) lb a0 a1 v a3 a4 a5:=by unfold LB;rw [Joins.block_setCell h];rfl
theorem LB.s3(h:LB W lb a0 a1 a2 a3 a4 a5)(v:Value):LB (W.setCell ⟨lb,3,none⟩ v) lb a0 a1 a2 v a4 a5:=by unfold LB;rw [Joins.block_setCell h];rfl
theorem LB.s4(h:LB W lb a0 a1 a2 a3 a4 a5)(v:Value):LB (W.setCell ⟨lb,4,none⟩ v) lb a0 a1 a2 a3 v a5:=by unfold LB;rw [Joins.block_setCell h];rfl
theorem LB.s5(h:LB W lb a0 a1 a2 a3 a4 a5)(v:Value):LB (W.setCell ⟨lb,5,none⟩ v) lb a0 a1 a2 a3 a4 v:=by unfold LB;rw [Joins.block_setCell h];rfl
end
theorem fJ {w w':World}{B g n c:Nat}{e:TypeId}{xs:List Value}{r:Nat}(h:w.ownsRow B e 1 (.slice (some ⟨g,0,none⟩) n c) n xs)(hg:w.grownBy w' (some r))(hne:g≠r):w'.ownsRow B e 1 (.slice (some ⟨g,0,none⟩) n c) n xs:=
 dJ h hg (.inr (by simp [Value.ownBlock];exact hne))
theorem Tryz.OT:(prog.info? 108).map (·.size)=some 1:=by kernel_rfl
def Cw:List Value->List Sq->List Value
 |a::jE,s::ss=>a:: .int .i64 s.level:: .int .i64 s.aa:: .int .i64 s.aj::Cw jE ss
 |_,_=>[]
theorem Zq:∀(jE:List Value)(ss:List Sq)(a:Value)(s:Sq),jE.length=ss.length->Cw (jE++[a]) (ss++[s])=Cw jE ss++[a,.int .i64 s.level,.int .i64 s.aa,.int .i64 s.aj]
 |[],[],a,s,_=>rfl
 |b::jE,t::ss,a,s,h=>by simp [Cw,Zq jE ss a s (by simpa using h)]
structure rH(w0 w:World)(B:Nat)(vK ov cv:Value)(vs jE:List Value)(rs:List (List Nat))(ss:List Sq)(cur:List Nat):Prop where
 below:Below B w0 w
 base:B<=w.heap.size
 Cm:w.ownsRow B 31 1 vK rs.length vs
 old:∀i,i<rs.length->w.ownsRow B 3 1 (vs.getD i .nilFunc) (rs.getD i []).length (iv (nl (rs.getD i [])))
 out:w.ownsRow B 120 4 ov ss.length (Cw jE ss)
 Bf:jE.length=ss.length
 done:∀i,i<ss.length->w.ownsRow B 3 1 (jE.getD i .nilFunc) (ss.getD i ⟨[],0,0,0⟩).at'.length (iv (nl (ss.getD i ⟨[],0,0,0⟩).at'))
 cur':w.ownsRow B 3 1 cv cur.length (iv (nl cur))
 Kk:∀i,i<rs.length->lY (vs.getD i .nilFunc).ownBlock cv.ownBlock
 Kj:∀i,i<ss.length->lY (jE.getD i .nilFunc).ownBlock cv.ownBlock
section
variable{w0 w w':World}{B:Nat}{vK ov cv:Value}{vs jE:List Value}{rs:List (List Nat)}{ss:List Sq}{cur:List Nat}
theorem rH.call(h:rH w0 w B vK ov cv vs jE rs ss cur)(hb:Below w.heap.size w w'):rH w0 w' B vK ov cv vs jE rs ss cur:=
 ⟨h.below.trans (hb.mono h.base),Nat.le_trans h.base hb.size,own_below h.Cm hb,fun i hi=>own_below (h.old i hi) hb,own_below h.out hb,h.Bf,fun i hi=>own_below (h.done i hi) hb,own_below h.cur' hb,h.Kk,h.Kj⟩
theorem rH.drop(h:rH w0 w B vK ov cv vs jE rs ss cur):rH w0 w B vK ov (.slice none 0 0) vs jE rs ss []:=
 ⟨h.below,h.base,h.Cm,h.old,h.out,h.Bf,h.done,⟨rfl,.inl ⟨rfl,rfl⟩⟩,fun _ _ k _ hk=>(by cases hk),fun _ _ k _ hk=>(by cases hk)⟩
theorem lY.fresh {w:World}{a a' b:Option Nat}(h:lY b a)(h1:a'=a∨a'=some w.heap.size)(hb:∀k,b=some k->k<w.heap.size):lY b a':=by
 intro k h2 h3;rcases h1 with rfl|h1
 .exact h k h2 h3
 .rw [h1]at h3;have:=Option.some.inj h3;have:=hb k h2;omega
theorem rH.app {cv':Value}{r:List Nat}(h:rH w0 w B vK ov cv vs jE rs ss cur)(h1:w'.ownsRow B 3 1 cv' (cur.length+r.length) (iv (nl cur)++iv (nl r)))(hg:w.grownBy w' cv.ownBlock)(hv:cv'.ownBlock=cv.ownBlock∨cv'.ownBlock=some w.heap.size):rH w0 w' B vK ov cv' vs jE rs ss (cur++r):=
 ⟨h.below.grown hg h.base (uB h.cur'),Nat.le_trans h.base hg.size,dJ h.Cm hg (lQ h.Cm h.cur' (by decide)),fun i hi=>dJ (h.old i hi) hg (h.Kk i hi).ne,dJ h.out hg (lQ h.out h.cur' (by decide)),h.Bf,
  fun i hi=>dJ (h.done i hi) hg (h.Kj i hi).ne,by simpa [iv,nl]using h1,fun i hi=>(h.Kk i hi).fresh hv (yX (h.old i hi)),fun i hi=>(h.Kj i hi).fresh hv (yX (h.done i hi))⟩
theorem rH.push {EF:Value}{s:Sq}(h:rH w0 w B vK ov cv vs jE rs ss cur)(hs:s.at'=cur)(h1:w'.ownsRow B 120 4 EF (ss.length+1) (Cw jE ss++[cv,.int .i64 s.level,.int .i64 s.aa,.int .i64 s.aj]))(hg:w.grownBy w' ov.ownBlock):rH w0 w' B vK EF (.slice none 0 0) vs (jE++[cv]) rs (ss++[s]) []:=by
 refine⟨h.below.grown hg h.base (uB h.out),Nat.le_trans h.base hg.size,dJ h.Cm hg (lQ h.Cm h.out (by decide)),fun i hi=>dJ (h.old i hi) hg (lQ (h.old i hi) h.out (by decide)),?_,by simp [h.Bf],?_,⟨rfl,.inl ⟨rfl,rfl⟩⟩,fun _ _ k _ hk=>(by cases hk),fun _ _ k _ hk=>(by cases hk)⟩
 .rw [Zq _ _ _ _ h.Bf];simpa using h1
 .intro i hi;simp only [List.length_append,List.length_cons,List.length_nil]at hi;have ha:=h.Bf;rcases Nat.lt_or_ge i ss.length with h'|h'
  .simp only [List.getD_eq_getElem?_getD];rw [List.getElem?_append_left (by omega),List.getElem?_append_left h'];have:=dJ (h.done i h') hg (lQ (h.done i h') h.out (by decide));simpa [List.getD_eq_getElem?_getD]using this
  .have hie:i=ss.length:=by omega
   subst hie;simp only [List.getD_eq_getElem?_getD];rw [List.getElem?_append_right (by omega),List.getElem?_append_right (by omega),ha,Nat.sub_self];have:=dJ h.cur' hg (lQ h.cur' h.out (by decide));simpa [hs]using this
end
structure XR(w0 w:World)(B s g2 g3 g4 len:Nat)(x:XS)(ls ks:List Int)(fs:List Bool):Prop where
 st:∃v,eX w B s v x.st x.bu x.bN x.valid
 lv:aK w B 3 g2 len (iv ls)
 kd:aK w B 3 g3 len (iv ks)
 lf:aK w B 4 g4 len (bv fs)
 be:Below B w0 w
theorem XR.call {w0 w w':World}{B s g2 g3 g4 len:Nat}{x y:XS}{ls ks:List Int}{fs:List Bool}(h:XR w0 w B s g2 g3 g4 len x ls ks fs)(hs2:g2≠s)(hs3:g3≠s)(hs4:g4≠s)(hf:Fr B s w w')(hst:∃v,eX w' B s v y.st y.bu y.bN y.valid):XR w0 w' B s g2 g3 g4 len y ls ks fs:=
 ⟨hst,Ov h.lv hf.uA (by decide) (by simp [Value.ownBlock,hs2]),Ov h.kd hf.uA (by decide) (by simp [Value.ownBlock,hs3]),Ov h.lf hf.uA (by decide) (by simp [Value.ownBlock,hs4]),h.be.trans hf.below⟩
theorem eX.alloc {w:World}{B s:Nat}{v:Value}{st:List aO}{a b c:Int}(h:eX w B s v st a b c)(o:Obj):eX (w.alloc o) B s v st a b c:=h.below ((Below.refl _ _).alloc (Nat.le_refl _) o)
theorem eX.setOther {w:World}{B s:Nat}{v:Value}{st:List aO}{a b c:Int}(h:eX w B s v st a b c){g:Nat}(k:Nat)(u:Value)(hg:g≠s)(ht:∀cu,w.heap[g]? ≠some (.cells cu 181 (0,0))):eX (w.setCell ⟨g,k,none⟩ u) B s v st a b c:=by
 refine⟨?_,iG h.row ?_ k u,h.low⟩
 .rw [Below.heap_setCell];exact h.cell;exact fun e=>hg e.symm
 .rcases h.row.2 with⟨rfl,_⟩|⟨g',cp,cur,rfl,_,hh,_⟩
  .simp [Value.ownBlock]
  .simp only [Value.ownBlock];intro e;obtain rfl:=Option.some.inj e;exact ht _ hh
theorem aK.kind {w:World}{B g n:Nat}{e:TypeId}{xs:List Value}(h:aK w B e g n xs)(he:e≠181):∀cu,w.heap[g]? ≠some (.cells cu 181 (0,0)):=by
 intro cu hh;rcases h.2 with⟨h',_⟩|⟨g',cp,cur,h',_,hh',_⟩
 .cases h'
 .simp only [Value.slice.injEq,Option.some.injEq,Addr.mk.injEq,and_true,true_and]at h';obtain⟨rfl,rfl⟩:=h';rw [hh]at hh';simp at hh';exact he hh'.2.symm
theorem XR.alloc {w0 w:World}{B s g2 g3 g4 len:Nat}{x:XS}{ls ks:List Int}{fs:List Bool}(h:XR w0 w B s g2 g3 g4 len x ls ks fs)(o:Obj):XR w0 (w.alloc o) B s g2 g3 g4 len x ls ks fs:=by
 obtain⟨v,hst⟩:=h.st;exact⟨⟨v,hst.alloc o⟩,h.lv.alloc o,h.kd.alloc o,h.lf.alloc o,h.be.alloc (Nat.le_trans hst.low (Nat.le_of_lt hst.lt)) o⟩
theorem XR.Cv {w0 w:World}{B s g2 g3 g4 len:Nat}{x:XS}{ls ks:List Int}{fs:List Bool}(h:XR w0 w B s g2 g3 g4 len x ls ks fs)(h2:g2≠s)(h3:g3≠g2)(h4:g4≠g2)(k:Nat)(a:Int):XR w0 (w.setCell ⟨g2,k,none⟩ (.int .i64 a)) B s g2 g3 g4 len x (ls.set k a) ks fs:=by
 obtain⟨v,hst⟩:=h.st;exact⟨⟨v,hst.setOther k _ h2 (h.lv.kind (by decide))⟩,BR ls k a▸h.lv.set k _,h.kd.setOther g2 k _ h3,h.lf.setOther g2 k _ h4,h.be.setCell h.lv.ge.1 _⟩
theorem XR.aiz {w0 w:World}{B s g2 g3 g4 len:Nat}{x:XS}{ls ks:List Int}{fs:List Bool}(h:XR w0 w B s g2 g3 g4 len x ls ks fs)(h2:g3≠s)(h3:g2≠g3)(h4:g4≠g3)(k:Nat)(a:Int):XR w0 (w.setCell ⟨g3,k,none⟩ (.int .i64 a)) B s g2 g3 g4 len x ls (ks.set k a) fs:=by
 obtain⟨v,hst⟩:=h.st;exact⟨⟨v,hst.setOther k _ h2 (h.kd.kind (by decide))⟩,h.lv.setOther g3 k _ h3,BR ks k a▸h.kd.set k _,h.lf.setOther g3 k _ h4,h.be.setCell h.kd.ge.1 _⟩
theorem XR.mM {w0 w:World}{B s g2 g3 g4 len:Nat}{x:XS}{ls ks:List Int}{fs:List Bool}(h:XR w0 w B s g2 g3 g4 len x ls ks fs)(h2:g4≠s)(h3:g2≠g4)(h4:g3≠g4)(k:Nat)(a:Bool):XR w0 (w.setCell ⟨g4,k,none⟩ (.bool a)) B s g2 g3 g4 len x ls ks (fs.set k a):=by
 obtain⟨v,hst⟩:=h.st;exact⟨⟨v,hst.setOther k _ h2 (h.lf.kind (by decide))⟩,h.lv.setOther g4 k _ h3,h.kd.setOther g4 k _ h4,abE fs k a▸h.lf.set k _,h.be.setCell h.lf.ge.1 _⟩
structure Gs(B s g2 g3 g4:Nat):Prop where
 s:s=B+1
 g2:g2=B+2
 g3:g3=B+3
 g4:g4=B+4
def rJ(cs:List Int)(para:Int)(w0 w:World)(B len:Nat)(x:XS)(k:Nat):Prop:=
 XR w0 w B (B+1) (B+2) (B+3) (B+4) len x (upto (aH cs para) 0 k) (upto (iX cs para) 0 k) (upto (aD cs) false k)
theorem ajT {cs:List Int}{para:Int}{k:Nat}(hk:k<cs.length):(aH cs para)[k]? =some (iJ cs para k).l:=by simp [aH,hk]
theorem ajS {cs:List Int}{para:Int}{k:Nat}(hk:k<cs.length):(iX cs para)[k]? =some (kindOf (cs.getD k 0) (iJ cs para k)):=by simp [iX,hk]
theorem Pq {cs:List Int}{k:Nat}(hk:k<cs.length):(aD cs)[k]? =some (dm (cs.getD k 0)):=by simp [aD,hk]
theorem rJ.stored {cs:List Int}{para:Int}{w0 w:World}{B s g2 g3 g4 len:Nat}{x:XS}{k:Nat}(h:rJ cs para w0 w B len x k)(hgs:Gs B s g2 g3 g4)(hk:k<cs.length)(e:aO)(he:e=iJ cs para k)(o:Obj)(l c:Int)(f:Bool)(hl:l=e.l)(hc:c=kindOf (cs.getD k 0) e)(hf:f=dm (cs.getD k 0)):
  rJ cs para w0 ((((w.alloc o).setCell ⟨g2,k,none⟩ (.int .i64 l)).setCell ⟨g3,k,none⟩ (.int .i64 c)).setCell ⟨g4,k,none⟩ (.bool f)) B len x (k+1):=by
 obtain⟨rfl,rfl,rfl,rfl⟩:=hgs;subst hl hc hf he;unfold rJ;rw [<-Pj _ _ _ _ (ajT hk),<-Pj _ _ _ _ (ajS hk),<-Pj _ _ _ _ (Pq hk)];exact(((XR.alloc h o).Cv (by omega) (by omega) (by omega) k _).aiz (by omega) (by omega) (by omega) k _).mM (by omega) (by omega) (by omega) k _
theorem rJ.start(cs:List Int)(para:Int)(w:World)(len:Nat)(hl:cs.length=len)(hn:len<=100000):
  rJ cs para w (((((w.alloc (.cells #[.int .i64 para,.int .i64 (-1),.bool false] 181)).alloc (.cells #[.slice (some ⟨w.heap.size,0,none⟩) 1 1,.int .i64 0,.int .i64 0,.int .i64 0] 184)).alloc
   (.cells (madeCells #[.int .i64 0] len) 3)).alloc (.cells (madeCells #[.int .i64 0] len) 3)).alloc (.cells (madeCells #[.bool false] len) 4)) w.heap.size len (dZ cs para 0) 0:=by
 have e1:iv (upto (aH cs para) 0 0)=List.replicate len (.int .i64 0):=by rw [Pk];simp [iv,aH,hl]
 have e2:iv (upto (iX cs para) 0 0)=List.replicate len (.int .i64 0):=by rw [Pk];simp [iv,iX,hl]
 have e3:bv (upto (aD cs) false 0)=List.replicate len (.bool false):=by rw [Pk];simp [bv,aD,hl]
 generalize hw1:w.alloc (.cells #[.int .i64 para,.int .i64 (-1),.bool false] 181)=w1;have z1:w1.heap.size=w.heap.size+1:=by rw [<-hw1];simp
 have b1:w1.heap[w.heap.size]? =some (.cells #[.int .i64 para,.int .i64 (-1),.bool false] 181):=by rw [<-hw1];exact heap_alloc_new w _
 generalize hw2:w1.alloc (.cells #[.slice (some ⟨w.heap.size,0,none⟩) 1 1,.int .i64 0,.int .i64 0,.int .i64 0] 184)=w2;have z2:w2.heap.size=w.heap.size+2:=by rw [<-hw2];simp [z1]
 have hst:eX w2 w.heap.size (w.heap.size+1) (.slice (some ⟨w.heap.size,0,none⟩) 1 1) [⟨para, -1,false⟩] 0 0 0:=by
  refine⟨by rw [<-hw2,<-z1];exact heap_alloc_new w1 _,⟨rfl,.inr ⟨w.heap.size,1,#[.int .i64 para,.int .i64 (-1),.bool false],rfl,Nat.le_refl _,?_,Nat.le_refl _,by unfold maxLen;omega,rfl,rfl⟩⟩,by omega⟩;rw [<-hw2,heap_alloc_old w1 _ (by omega)];exact b1
 have be2:Below w.heap.size w w2:=by rw [<-hw2,<-hw1];exact((Below.refl _ _).alloc (Nat.le_refl _) _).alloc (by simp) _
 have m3:=aK.made (w:=w2) (B:=w.heap.size) (n:=len) (e:=3) (z:= .int .i64 0) (by omega) (by omega);generalize hw3:w2.alloc (.cells (madeCells #[.int .i64 0] len) 3)=w3 at m3 ⊢;have z3:w3.heap.size=w.heap.size+3:=by rw [<-hw3];simp [z2]
 have m4:=aK.made (w:=w3) (B:=w.heap.size) (n:=len) (e:=3) (z:= .int .i64 0) (by omega) (by omega);generalize hw4:w3.alloc (.cells (madeCells #[.int .i64 0] len) 3)=w4 at m4 ⊢;have z4:w4.heap.size=w.heap.size+4:=by rw [<-hw4];simp [z3]
 have m5:=aK.made (w:=w4) (B:=w.heap.size) (n:=len) (e:=4) (z:= .bool false) (by omega) (by omega);rw [z2]at m3;rw [z3]at m4;rw [z4]at m5;refine⟨⟨.slice (some ⟨w.heap.size,0,none⟩) 1 1,?_⟩,?_,?_,?_,?_⟩
 .rw [<-hw4,<-hw3];exact((hst.alloc _).alloc _).alloc _
 .rw [e1,<-hw4];exact(m3.alloc _).alloc _
 .rw [e2];exact m4.alloc _
 .rw [e3];exact m5
 .rw [<-hw4,<-hw3];exact((be2.alloc (by omega) _).alloc (by rw [hw3];omega) _).alloc (by rw [hw3,hw4];omega) _
theorem rJ.below {cs:List Int}{para:Int}{w0 w w':World}{B len:Nat}{x:XS}{k:Nat}(h:rJ cs para w0 w B len x k)(hb:Below w.heap.size w w'):rJ cs para w0 w' B len x k:=by
 obtain⟨v,hst⟩:=h.st;exact XR.call h (by omega) (by omega) (by omega) (Fr.of_below (Nat.le_trans hst.low (Nat.le_of_lt hst.lt)) hb) ⟨v,hst.below hb⟩
theorem rJ.ready {cs:List Int}{para:Int}{w0 w:World}{B s g2 g3 g4 len:Nat}{x:XS}{k j:Nat}(h:rJ cs para w0 w B len x j)(hgs:Gs B s g2 g3 g4)(hl:cs.length=len)(hj:j<=len)(hk:k<len)(a0 a1 a2:Value):
  ((∃u,(w.alloc (.cells #[a0,a1,a2] 181)).cell? ⟨g2,k,none⟩=some (.int .i64 u))/\(∃u,(w.alloc (.cells #[a0,a1,a2] 181)).cell? ⟨g3,k,none⟩=some (.int .i64 u))/\(∃u,(w.alloc (.cells #[a0,a1,a2] 181)).cell? ⟨g4,k,none⟩=some (.bool u))/\
   (w.alloc (.cells #[a0,a1,a2] 181)).frozen? ⟨g2,k,none⟩=false/\(w.alloc (.cells #[a0,a1,a2] 181)).frozen? ⟨g3,k,none⟩=false/\(w.alloc (.cells #[a0,a1,a2] 181)).frozen? ⟨g4,k,none⟩=false)/\
  (w.alloc (.cells #[a0,a1,a2] 181)).cell? ⟨w.heap.size,0,none⟩=some a0/\(w.alloc (.cells #[a0,a1,a2] 181)).cell? ⟨w.heap.size,1,none⟩=some a1/\
  (w.heap.size≠g2/\w.heap.size≠g3/\w.heap.size≠g4/\g2≠w.heap.size/\g3≠w.heap.size/\g4≠w.heap.size)/\(g2≠g3/\g2≠g4/\g3≠g2/\g3≠g4/\g4≠g2/\g4≠g3):=by
 obtain⟨rfl,rfl,rfl,rfl⟩:=hgs;have hz:=h.lf.ge.2;have hnew:=heap_alloc_new w (.cells #[a0,a1,a2] 181);have h':rJ cs para w0 (w.alloc (.cells #[a0,a1,a2] 181)) B len x j:=XR.alloc h _;refine⟨⟨?_,?_,?_,h'.lv.frozen k,h'.kd.frozen k,h'.lf.frozen k⟩,au hnew 0,au hnew 1,by omega,by omega⟩
 .rw [h'.lv.cell k hk];refine⟨(upto (aH cs para) 0 j)[k]'(by rw [Ph _ _ _ (by simp [aH];omega)];simp [aH];omega),by simp [iv]⟩
 .rw [h'.kd.cell k hk];refine⟨(upto (iX cs para) 0 j)[k]'(by rw [Ph _ _ _ (by simp [iX];omega)];simp [iX];omega),by simp [iv]⟩
 .rw [h'.lf.cell k hk];refine⟨(upto (aD cs) false j)[k]'(by rw [Ph _ _ _ (by simp [aD];omega)];simp [aD];omega),by simp [bv]⟩
theorem dz.sub {w:World}{b off:Nat}{cs:List Int}(h:dz w b off cs)(m a:Nat)(hm:m<=cs.length):dz w b (off+a) ((cs.take m).drop a):=by
 intro i hi;simp at hi;have:=h (a+i) (by omega);rw [show off+a+i=off+(a+i)by omega,this];simp [List.getD_eq_getElem?_getD,List.getElem?_drop,List.getElem?_take];rw [if_pos (by omega)]
theorem dz.keep {w w':World}{B b off:Nat}{l:List Int}(h:dz w b off l)(hb:Below B w w')(hlt:b<B):dz w' b off l:=fun i hi=>by rw [hb.cell (p:=⟨b,off+i,none⟩) hlt];exact h i hi
theorem aik(lv:List Int)(lf:List Bool):kD lv.length (eZ lv lf):=⟨(Cq lv lf).2.1,fun _ hr _ hp=>(Cn hr hp).1,Y8 lv lf⟩
theorem oL.call {w0 w w':World}{B:Nat}{tv ov rv:Value}{t o r:List Int}(h:oL w0 w B tv ov rv t o r)(hb:Below w.heap.size w w'):oL w0 w' B tv ov rv t o r:=
 ⟨h.below.trans (hb.mono h.base),Nat.le_trans h.base hb.size,own_below h.ht hb,own_below h.ho hb,own_below h.hr hb,h.to',h.tr,h.or'⟩
theorem oL.write {w0 w w':World}{B g n c:Nat}{ov rv:Value}{t t' o r:List Int}(h:oL w0 w B (.slice (some ⟨g,0,none⟩) n c) ov rv t o r)(hr:dx w' B g n c t')(hg:w.grownBy w' (some g)):oL w0 w' B (.slice (some ⟨g,0,none⟩) n c) ov rv t' o r:=by
 have hl:=hr.len;refine⟨h.below.grown hg h.base (fun k hk=>by have:=uB h.ht k;exact this hk),Nat.le_trans h.base hg.size,?_,dJ h.ho hg h.to'.symm.ne,dJ h.hr hg h.tr.symm.ne,h.to',h.tr,h.or'⟩;rw [hl];exact hr
def pE(para:Int)(cs o:List Int)(k:Nat)(prev:Int)(o':List Int):Prop:=(∃pre,pre.length=k/\o'=pre++o.drop k/\l9 para para cs o=pre++l9 para prev (cs.drop k) (o.drop k))/\((k=0/\prev=para)∨(0<k/\prev=o'.getD (k - 1) 0))
theorem pE.start(para:Int)(cs o:List Int):pE para cs o 0 para o:=⟨⟨[],rfl,rfl,rfl⟩,.inl ⟨rfl,rfl⟩⟩
theorem pE.at {para prev:Int}{cs o o':List Int}{k:Nat}(h:pE para cs o k prev o')(j:Nat)(hj:k<=j):o'.getD j 0=o.getD j 0:=by
 obtain⟨⟨pre,h1,h2,_⟩,_⟩:=h;rw [h2,List.getD_eq_getElem?_getD,List.getElem?_append_right (by omega),h1,List.getElem?_drop,show k+(j - k)=j by omega,List.getD_eq_getElem?_getD]
theorem pE.len {para prev:Int}{cs o o':List Int}{k:Nat}(h:pE para cs o k prev o')(hk:k<=o.length):o'.length=o.length:=by
 obtain⟨⟨pre,h1,h2,_⟩,_⟩:=h;rw [h2];simp [h1];omega
theorem pE.step {para prev v:Int}{cs o o':List Int}{k:Nat}(h:pE para cs o k prev o')(hk:k<cs.length)(hl:cs.length=o.length)(hv:v=if xG (cs.getD k 0) (cs.drop (k+1))=true then para else if dm (cs.getD k 0)=false then prev else o.getD k 0):pE para cs o (k+1) v (o'.set k v):=by
 have hlen:=h.len (by omega);obtain⟨⟨pre,h1,h2,h3⟩,_⟩:=h;refine⟨⟨pre++[v],by simp [h1],?_,?_⟩,.inr ⟨by omega,?_⟩⟩
 .rw [h2,drop_at (show k<o.length by omega),List.set_append_right _ _ (by omega),h1,Nat.sub_self];simp
 .rw [h3,drop_at hk,drop_at (show k<o.length by omega),l9,<-hv];simp
 .rw [Nat.add_sub_cancel,tV (by omega)]
theorem pE.same {para prev:Int}{cs o o':List Int}{k:Nat}(h:pE para cs o k prev o')(hk:k<o.length):o'.set k (o.getD k 0)=o':=by
 obtain⟨⟨pre,h1,h2,_⟩,_⟩:=h;rw [h2,drop_at hk,List.set_append_right _ _ (by omega),h1,Nat.sub_self];rfl
theorem pE.stop {para prev:Int}{cs o o':List Int}{k:Nat}(h:pE para cs o k prev o')(hk:cs.length<=k)(hl:cs.length=o.length):o'=l9 para para cs o:=by
 obtain⟨⟨pre,h1,h2,h3⟩,_⟩:=h;rw [List.drop_eq_nil_of_le (by omega)]at h2 h3;rw [h2,h3,List.drop_eq_nil_of_le (by omega)];rfl
theorem Lr(cs:List Int):∀f i,gy cs f i=0∨gy cs f i=1
 |0,_=> .inl rfl
 |f+1,i=>by
  rw [gy];split
  .split
   .exact .inl rfl
   .split
    .exact .inr rfl
    .split
     .exact Lr cs f _
     .exact Lr cs f _
  .exact .inl rfl
theorem ag1(cs:List Int)(d:Int):dO cs d=0∨dO cs d=1:=by
 unfold dO;split
 .assumption
 .exact Lr cs _ _
theorem aK.heap {w:World}{B g n:Nat}{e:TypeId}{xs:List Value}(h:aK w B e g n xs):w.heap[g]? =some (.cells xs.toArray e (0,0)):=by
 obtain⟨h1,h2⟩:=h;rcases h2 with⟨h,_⟩|⟨g',cap',cur,e1,_,h4,_,_,h7,h8⟩
 .cases h
 .cases e1;rw [h4];have:cur=xs.toArray:=by
   rw [<-h8,List.take_of_length_le (by rw [Array.length_toList];omega)]
  rw [this]
theorem aK.NN {w:World}{B g n:Nat}{e:TypeId}{xs:List Value}(h:w.heap[g]? =some (.cells xs.toArray e (0,0)))(hB:B<=g)(hl:xs.length=n)(hn:n<=1000000):aK w B e g n xs:=
 ⟨by omega,.inr ⟨g,n,xs.toArray,rfl,hB,h,Nat.le_refl _,by unfold maxLen;omega,by simp [hl],by simp [<-hl]⟩⟩
theorem aK.ints {w:World}{B g n:Nat}{l:List Int}(h:aK w B 3 g n (iv l)):dz w g 0 l:=fun k hk=>by
 rw [Nat.zero_add];exact jZ h k hk
theorem aK.keep {w w':World}{B B' g n:Nat}{e:TypeId}{xs:List Value}(h:aK w B e g n xs)(hb:Below B' w w')(hg:g<B'):aK w' B e g n xs:=
 kK h fun k o hk ho=>by
  have:g=k:=by simpa [Value.ownBlock]using hk
  subst this;rw [hb.block g hg];exact ho
