import Derived.Test.YtkbinfhclaafhaaGreatDoorZ09
import Derived.Test.YtkbinfhclaafhaaGreatDoorZ08
import Derived.ChangeKeysEq
import Derived.Test.YtkbinfhclaafhaaGreatDoorShelfS
import Derived.Test.YtkbinfhclaafhaaGreatDoorZ03
import Derived.Shelf.SlSortCmp.NoneTotal
import Derived.Shelf.SlicesG.Cmp
import Derived.Test.YtkbinfhclaafhaaGreatDoorZ06
import Derived.Deep.RegionLaw
import Derived.BigQuiet
namespace Go.Proofs.YtkbinfhclaafhaaGreatDoor
open Go.RowKit
open Go.Proofs.Tryz
set_option maxRecDepth 100000
set_option maxHeartbeats 32000000
set_option linter.all false
theorem Tryz.aia:(prog.info? 21).map (fun i=>(i.zero,i.size,i.bytes))=some (some (.int .i32 0),1,4):=by kernel_rfl
theorem Tryz.KZ:prog.cellsOf 21=1:=by kernel_rfl
theorem Tryz.TQ:prog.underlying 303=some (.array 2 21):=by kernel_rfl
theorem Tryz.TR:prog.underlying 285=some (.map 303 305):=by kernel_rfl
theorem Tryz.abn(a b:Int)(w:World):(part 21 #[.int .i32 a,.int .i32 b] 0).run prog w= .ok (.int .i32 a) w/\(part 21 #[.int .i32 a,.int .i32 b] 1).run prog w= .ok (.int .i32 b) w:=⟨by kernel_rfl,by kernel_rfl⟩
theorem Tryz.agz(a b x y:Int)(w:World):(Op.equal 303 (.agg #[.int .i32 a,.int .i32 b]) (.agg #[.int .i32 x,.int .i32 y])).run prog w= .ok (a==x&&b==y) w:=by
 obtain⟨i,hi,_⟩:=gW Tryz.aia;have r:∀(p q:Int)(w:World),(Op.equalIn 9999 21 (.int .i32 p) (.int .i32 q)).run prog w= .ok (p==q) w:=fun p q w=>run_equalIn_int w 9998 21 .i32 .i32 p q underlying21
 have e:List.range 2=[0,1]:=rfl;obtain⟨p1,p2⟩:=Tryz.abn a b w;obtain⟨q1,q2⟩:=Tryz.abn x y w;show(Op.equalIn 10000 _ _ _).run _ _=_;rw [alv w 9999 _ _ Tryz.TQ hi,e,Tryz.KZ];cases h1:(a==x)<;>cases h2:(b==y)<;>simp [Op.eqItems,p1,p2,q1,q2,r,h1,h2]
theorem Tryz.Pk(em:Bool)(a b:Int)(w:World):(Instr.checkKey em 10000 303 (.agg #[.int .i32 a,.int .i32 b])).run prog w= .ok () w:=by kernel_rfl
def LA(k:Nat):Value:= .agg #[.int .i32 (bW.getD (2*k) 0),.int .i32 (bW.getD (2*k+1) 0)]
def oF(k:Nat):List MapEntry:=(List.range k).map fun i=>⟨LA i,.agg #[],i⟩
def zA(w:World)(fb:Nat):Prop:=w.heap[fb]? =some (.map (oF 4).toArray 4)
theorem agR(k:Nat):(oF k).toArray.push ⟨LA k,.agg #[],k⟩=(oF (k+1)).toArray:=by
 simp [oF,GH]
theorem PF(a b:Int)(w:World):∀(l:List Nat)(i:Nat),∃r,(Instr.findAsking 303 (.agg #[.int .i32 a,.int .i32 b]) (l.map fun i=>⟨LA i,.agg #[],i⟩) i).run prog w= .ok r w/\
  ((r=none/\∀j∈l,¬(bW.getD (2*j) 0=a/\bW.getD (2*j+1) 0=b))∨∃q,r=some (q,.agg #[])/\∃j∈l,bW.getD (2*j) 0=a/\bW.getD (2*j+1) 0=b)
 |[],i=>⟨none,alz w _ _ i,.inl ⟨rfl,by simp⟩⟩
 |j::l,i=>by
  obtain⟨r,hr,h⟩:=PF a b w l (i+1);have hq:(Op.equal 303 (.agg #[.int .i32 a,.int .i32 b]) (MapEntry.mk (LA j) (.agg #[]) j).key).run prog w= .ok (a==bW.getD (2*j) 0&&b==bW.getD (2*j+1) 0) w:=Tryz.agz a b (bW.getD (2*j) 0) (bW.getD (2*j+1) 0) w;rw [pX,aly i hq];clear hq;by_cases he:a=bW.getD (2*j) 0/\b=bW.getD (2*j+1) 0
  .rw [aj (by rw [J8,yH,yH];exact he)];exact⟨_,rfl,.inr ⟨i,rfl,j,by simp,he.1.symm,he.2.symm⟩⟩
  .rw [ai (by rw [J8,yH,yH];exact he)];refine⟨r,hr,?_⟩;rcases h with⟨rfl,h2⟩|⟨q,rfl,k,hk,h3⟩
   .refine .inl ⟨rfl,fun k hk=> ?_⟩;rcases jF.1 hk with rfl|hk
    .exact fun h=>he ⟨h.1.symm,h.2.symm⟩
    .exact h2 k hk
   .exact .inr ⟨q,rfl,k,by simp [hk],h3⟩
theorem XI(a b:Int)(w:World)(k:Nat):(Instr.findKey 303 (.agg #[.int .i32 a,.int .i32 b]) (oF k)).run prog w=(Instr.findAsking 303 (.agg #[.int .i32 a,.int .i32 b]) (oF k)).run prog w:=by
 cases k with
 |zero=>simp [Instr.findKey,oF,Cr Tryz.TQ,Instr.findNow,Instr.findAsking]
 |succ k=>
  unfold oF;rw [aem,pX];simp [Instr.findKey,Cr Tryz.TQ,Instr.findNow,Instr.sameNow]
theorem fit_look(a b:Int)(w:World)(fb:Nat)(h:zA w fb):(Instr.lookup 285 (.map (some fb)) (.agg #[.int .i32 a,.int .i32 b]) true).run prog w= .ok (.tuple #[.agg #[],.bool (Ah a b)]) w:=by
 have hf:=XI a b w 4;obtain⟨r,hr,hc⟩:=PF a b w (List.range 4) 0;have hz:(zeroValue 305).run prog w= .ok (.agg #[]) w:=by kernel_rfl
 rcases hc with⟨rfl,h2⟩|⟨q,rfl,j,hj,h3⟩
 .have e:=ab9 true Tryz.TR hz h (fun em=>Tryz.Pk em a b w) (hf.trans hr);rw [e];have e0:=h2 0 (by simp);have e1:=h2 1 (by simp);have e2:=h2 2 (by simp);have e3:=h2 3 (by simp);have:Ah a b=false:=by
   unfold Ah;simp [bW]at e0 e1 e2 e3 ⊢;omega
  rw [this];rfl
 .have e:=acd true Tryz.TR h (fun em=>Tryz.Pk em a b w) (hf.trans hr);rw [e];have:Ah a b=true:=by
   rw [<-h3.1,<-h3.2];have EZ:j<4:=by simpa using hj
   match j,EZ with
   |0,_=>rfl
   |1,_=>rfl
   |2,_=>rfl
   |3,_=>rfl
  rw [this];rfl
theorem aff:∀k,k<4->∀j,j<k->bW.getD (2*j) 0≠bW.getD (2*k) 0:=by decide
theorem fit_store(k:Nat)(hk:k<4)(w:World)(fb:Nat)(h:w.heap[fb]? =some (.map (oF k).toArray k)):(Instr.mapUpdate 285 (.map (some fb)) (.agg #[.int .i32 (bW.getD (2*k) 0),.int .i32 (bW.getD (2*k+1) 0)]) (.agg #[])).run prog w= .ok () (ChangeMaps.setBlock w fb (.map (oF (k+1)).toArray (k+1))):=by
 obtain⟨r,hr,hc⟩:=PF (bW.getD (2*k) 0) (bW.getD (2*k+1) 0) w (List.range k) 0;have hf:=XI (bW.getD (2*k) 0) (bW.getD (2*k+1) 0) w k;rcases hc with⟨rfl,_⟩|⟨q,rfl,j,hj,h3,h4⟩
 .have e:=acf (val:= .agg #[]) Tryz.TR h (Tryz.Pk false _ _ w) (hf.trans hr);rw [e,<-agR];rfl
 .exfalso;have EZ:j<k:=by simpa using hj
  exact aff k hk j EZ h3
theorem We {B fb:Nat}{w W:World}(h:Below B w W)(hb:B<=fb)(o:Obj):Below B w (ChangeMaps.setBlock W fb o):=
 h.trans ⟨rfl,rfl,rfl,by simp [ChangeMaps.setBlock],fun k hk=>by simp [ChangeMaps.setBlock,DZ (show fb≠k by omega)]⟩
theorem acr {W:World}{fb:Nat}{o o':Obj}(h:W.heap[fb]? =some o):(ChangeMaps.setBlock W fb o').heap[fb]? =some o':=by
 have:=(Ni.1 h).1;simp [ChangeMaps.setBlock,this]
theorem afL(w:World)(tt:TypeId)(fr:Nat×Nat)(hsp:w.heap[11]? =some (.cells rz tt fr)):
  Calls prog 242 #[] w fun e w'=>e= .returned (.map (some w.heap.size))/\zA w' w.heap.size/\Below w.heap.size w w':=by
 have HI:=ah Rm;have HH:Hid ((w.alloc (.map #[] 0)).heap[11]? =some (.cells rz tt fr)):=cB ((aA _ _).alloc (ay _) _) hsp;have HZ:=Tryz.Tu;have HM:Hid ((w.alloc (.map #[] 0)).heap[w.heap.size]? =some (.map (oF 0).toArray 0)):=mP;have aG:Hid (Below w.heap.size w (w.alloc (.map #[] 0))):=(aA _ _).alloc (ay _) _;have hmm:=@ace prog;clear hsp;generalize rz=sv at HI HH HZ;go_enter func242,ntmps242;go_wp2_with(refine Ua rfl 304 _ rfl 11 rfl tt _ fr _ HH.out underlying304 rfl HZ ?_);generalize w.alloc (.map #[] 0)=W1 at*;obtain⟨fb,Ao⟩:∃fb,fb=w.heap.size:=⟨_,rfl⟩
 have HF:Hid (w.heap.size<=fb/\fb=w.heap.size):=⟨by omega,Ao⟩
 rw [<-Ao]at HM ⊢;rw [Ao];have UN:Hid (W1.heap[fb]? =some (.map (oF 0).toArray 0)):=HM;clear HM hmm;rw [<-Ao];clear Ao;go_loopg [6] 4 (fun gk iv W=>∃k:Nat,k<=4/\gk=4 - k/\iv= .int .i64 k/\Below w.heap.size w W/\W.heap[fb]? =some (.map (oF k).toArray k));case atStart=>exact⟨0,by omega,rfl,rfl,aG.out,UN.out⟩
 case round=>
  clear aG UN;obtain⟨k,hk,rfl,rfl,hb,hm⟩:=hrel;have hbz:=hb.size;by_cases hlt:k<4
  .have hlt':(k:Int)<4:=by omega
   have L3:=fun wx=>HI.out k hlt wx
   have hup:=fit_store k hlt (wr.alloc (.cells #[.int .i32 (bW.getD (2*k) 0),.int .i32 (bW.getD (2*k+1) 0)] 303)) fb (cB ((aA _ _).alloc (ay _) _) hm);have HB:Hid (Below w.heap.size w (ChangeMaps.setBlock (wr.alloc (.cells #[.int .i32 (bW.getD (2*k) 0),.int .i32 (bW.getD (2*k+1) 0)] 303)) fb (.map (oF (k+1)).toArray (k+1)))):=We (hb.alloc hbz _) HF.out.1 _;have zI:Hid ((ChangeMaps.setBlock (wr.alloc (.cells #[.int .i32 (bW.getD (2*k) 0),.int .i32 (bW.getD (2*k+1) 0)] 303)) fb (.map (oF (k+1)).toArray (k+1))).heap[fb]? =some (.map (oF (k+1)).toArray (k+1))):=acr (cB ((aA _ _).alloc (ay _) _) hm);clear hm hb;generalize bW.getD (2*k+1) 0=b1 at*;generalize bW.getD (2*k) 0=b0 at*;generalize ChangeMaps.setBlock (wr.alloc (.cells #[.int .i32 b0,.int .i32 b1] 303)) fb (.map (oF (k+1)).toArray (k+1))=W2 at*;go_wp2;go_roundg (4 - (k+1));case measure=>omega
   case rel=>exact⟨k+1,by omega,rfl,by go_num,HB.out,zI.out⟩
  .have hlt':¬(k:Int)<4:=by omega
   obtain rfl:k=4:=by omega
   have HB:=ah hb;have zI:=ah hm;clear hm hb;go_wp2;go_ret;exact⟨by rw [HF.out.2];rfl,by rw [<-HF.out.2];exact zI.out,HB.out⟩
theorem fD.below {w w':World}{B s:Nat}{v:Value}{l:List Nat}(h:fD w B s v l)(hb:Below w.heap.size w w'):fD w' B s v l:=⟨cB hb h.cell,eH h.row hb,h.low⟩
theorem bw.after {w W w':World}{s:Nat}{v v':Value}(hb:Below w.heap.size w W)(h:bw W w' s v v'):bw w w' s v v':=
 ⟨h.os.trans hb.os,h.tape.trans hb.tape,h.output.trans hb.output,bU hb.size h.size,fun k hk h1 h2=>(h.block k (ku hk hb.size) h1 h2).trans (hb.block k hk),by
  rcases h.own with h1|h1
  .exact .inl h1
  .exact .inr fun k hk=>bU hb.size (h1 k hk)⟩
theorem zA.below {w w':World}{fb:Nat}(h:zA w fb)(hb:Below w.heap.size w w'):zA w' fb:=cB hb h
def Bp(w:World)(gr n:Nat)(rs:List Int):Prop:=∀k,k<n->w.cell? ⟨gr,k,none⟩=some (.int .i32 (rs.getD k 0))
theorem Bp.below {w w':World}{gr n:Nat}{rs:List Int}(h:Bp w gr n rs)(hb:Below w.heap.size w w'):Bp w' gr n rs:=fun k hk=>by
 rw [hb.cell (p:=⟨gr,k,none⟩) (aes w _ (h k hk))];exact h k hk
theorem afK(w:World)(B sb gc n cc gr cr B' s fb:Nat)(v pv bv:Value)(au aq ax:Int)(t rs:List Int)(st:List Nat)(r:Int)(h:aW w B sb gc n cc pv (.slice (some ⟨gr,0,none⟩) n cr) bv au aq ax t)(hr:Bp w gr n rs)(hS:fD w B' s v st)(hF:zA w fb)(hst:∀a∈st,a<n)(hO:CW rs st)(hc:(brk r).1=2)(hl:st.length<=1000):
  Calls prog 246 #[.pointer (some ⟨sb,0,none⟩),.pointer (some ⟨s,0,none⟩),.map (some fb),.int .i32 r] w fun e w'=>
   (∃m v',kY rs (brk r).2 st st.length=some m/\e= .returned (.tuple #[.int .i64 (st.getD m 0:Nat),.bool true])/\fD w' B' s v' (st.take m)/\bw w w' s v v')∨
   (kY rs (brk r).2 st st.length=none/\e= .returned (.tuple #[.int .i64 0,.bool false])/\Below w.heap.size w w'):=by
 have HL:=ah (RJ w B' s v st hS);have HC:Hid (∀(x:Int)(W:World),Calls prog 266 #[.int .i32 x] W fun e w'=>e= .returned (.int .i32 (kR x))/\w'=W):=fun x W=>Pq x W
 have H1:=ah h;have H2:=ah hr;have H3:=ah hS;have H4:=ah hF;have H5:=ah hst;have H6:=ah hO;have H7:=ah hc;clear h hr hS hF hst hO hc;obtain⟨R,hR⟩:∃R,R=(brk r).2:=⟨_,rfl⟩
 rw [<-hR];have HRR:=ah hR;clear hR;go_enter func246,ntmps246;go_wp2_with fail;refine HL.out.mono ?_;rintro ev wx ⟨rfl,hx⟩;have hx':=hx.symm;subst hx';clear HL;have hlz:(0:Int)<=(st.length:Int):=Ow _;have hl':(st.length:Int)<=1000:=by omega
 go_wp2;go_loopg [10] st.length (fun gk iv W=>∃(m:Nat)(i:Int),m<=st.length/\gk=m/\iv= .int .i64 i/\i=(m:Int) - 1/\Below w.heap.size w W/\kY rs R st m=kY rs R st st.length);case atStart=>exact⟨st.length,_,ay _,rfl,rfl,by go_num,aA _ _,rfl⟩
 case round=>
  clear hlz hl';obtain⟨m,i,hm,Dh,rfl,hi,hb,hsh⟩:=hrel;have HB:=ah hb;cases m with
  |zero=>
   have HN:=ah hsh.symm;obtain rfl:i= -1:=by simpa using hi
   clear hsh hb hi;go_wp2;go_ret2;exact .inr ⟨HN.out,rfl,HB.out⟩
  |succ m=>
   obtain rfl:i=(m:Int):=by omega
   clear hi;have Md:m<st.length:=by omega
   have hp:st.getD m 0<n:=H5.out _ (dm Md);have hbr:(brk (rs.getD (st.getD m 0) 0)).1=1:=H6.out _ (dm Md);have HA:=ah (VZ wr B' s v st m (H3.out.below hb) Md);have hfit:=agS hbr H7.out;rw [<-HRR.out]at hfit;have c1:wr.cell? ⟨sb,1,none⟩=some (.slice (some ⟨gr,0,none⟩) n cr):=az (H1.out.below hb).cell 1;have cr':=(H2.out.below hb) _ hp;have hlk:=fit_look (kR (rs.getD (st.getD m 0) 0)) (kR r) wr fb (H4.out.below hb);rw [EG,EG,hfit]at hlk;rw [kY]at hsh;have hp':((st.getD m 0:Nat):Int)<(n:Int):=by omega
   have hp0:(0:Int)<=((st.getD m 0:Nat):Int):=Ow _;have hm0:(0:Int)<=(m:Int):=Ow _;have qz:(m:Int)<=1000:=by omega
   have CA:Hid (Calls prog 266 #[.int .i32 (rs.getD (st.getD m 0) 0)] wr fun e w'=>e= .returned (.int .i32 (canon (rs.getD (st.getD m 0) 0)))/\w'=wr):=by rw [<-EG];exact HC.out _ wr
   have Kg:Hid (Calls prog 266 #[.int .i32 r] wr fun e w'=>e= .returned (.int .i32 (canon r))/\w'=wr):=by rw [<-EG];exact HC.out _ wr
   have aJ:Hid (Below w.heap.size w (wr.alloc (.cells #[] 305))):=hb.alloc hb.size _;clear hb hbr hfit;generalize hP:st.getD m 0=p at*;generalize rs.getD p 0=x at*;by_cases hq:(brk x).2=R
   .rw [aj hq]at hsh;rw [mX hq]at hlk;have HN:=ah hsh.symm;have zB:Hid (Calls prog 235 #[.pointer (some ⟨s,0,none⟩),.int .i64 m] (wr.alloc (.cells #[] 305)) fun e w'=>e= .returned (.tuple #[])/\∃v',fD w' B' s v' (st.take m)/\bw (wr.alloc (.cells #[] 305)) w' s v v'):=WV _ B' s v st m (H3.out.below aJ.out) Md (by omega);have HPp:=ah hP;clear hsh hq hP;go_wp2_with fail;refine HA.out.mono ?_;rintro ev wx ⟨rfl,hx⟩;have hx':=hx.symm;subst hx';clear HA;go_wp2_with fail;refine CA.out.mono ?_;rintro ev wx ⟨rfl,hx⟩;have hx':=hx.symm;subst hx';clear CA;go_wp2_with fail;refine Kg.out.mono ?_;rintro ev wx ⟨rfl,hx⟩;have hx':=hx.symm;subst hx';clear Kg;go_wp2_with fail;refine zB.out.mono ?_;rintro ev wy ⟨rfl,v',hs',hf'⟩;have qN:=ah hs';have HF':=ah (hf'.after aJ.out);clear hs' hf' zB;go_wp2;go_ret2;exact .inl ⟨m,v',HN.out,by rw [HPp.out];rfl,qN.out,HF'.out⟩
   .rw [ai hq]at hsh;rw [rB hq]at hlk;have HN:=ah hsh;clear hsh hq hP;go_wp2_with fail;refine HA.out.mono ?_;rintro ev wx ⟨rfl,hx⟩;have hx':=hx.symm;subst hx';clear HA;go_wp2_with fail;refine CA.out.mono ?_;rintro ev wx ⟨rfl,hx⟩;have hx':=hx.symm;subst hx';clear CA;go_wp2_with fail;refine Kg.out.mono ?_;rintro ev wx ⟨rfl,hx⟩;have hx':=hx.symm;subst hx';clear Kg;go_wp2;go_roundg m;case measure=>omega
    case rel=>exact⟨m,_,by omega,rfl,rfl,by go_num,aJ.out,HN.out⟩
section
open Go.RowKit Go.Shelf Go.Lib Go.Sort
def Af(x:Nat×Nat):List Value:=[.int .i64 (x.1:Nat),.int .i64 (x.2:Nat)]
def C0(x y:Nat×Nat):Int:=Lib.compareInt (x.1:Nat) (y.1:Nat)
theorem afR(x y:Nat×Nat)(W:World):Calls prog 248 #[.agg #[.int .i64 (x.1:Nat),.int .i64 (x.2:Nat)],.agg #[.int .i64 (y.1:Nat),.int .i64 (y.2:Nat)]] W fun e w'=>e= .returned (.int .i64 (C0 x y))/\∃q os',w'=grow (W.drewN q) os':=by
 have hcon:=fun W'=>AnyG.cmp_Compare_int Tryz.laysCmp (x.1:Nat) (y.1:Nat) W'
 change∀W',Calls prog 249 _ _ _ at hcon;unfold C0;generalize Lib.compareInt (x.1:Nat) (y.1:Nat)=r at hcon ⊢;go_enter func248,ntmps248;go_wp2_with(go_at_call 249;refine(hcon _).mono ?_;rintro e w' ⟨rfl,rfl⟩);go_ret;exact⟨rfl,0,_,by rw [alloc_eq_grow,alloc_eq_grow,grow_grow];rfl⟩
theorem Mw(x y:Nat×Nat):ltOf C0 x y=decide (x.1<y.1):=by
 unfold ltOf C0 Lib.compareInt;by_cases h1:x.1<y.1
 .have:(x.1:Int)<(y.1:Int):=by omega
  simp [h1,this]
 .have:¬(x.1:Int)<(y.1:Int):=by omega
  by_cases h2:(y.1:Int)<(x.1:Int)<;>simp [h1,h2,this]
theorem am0:SWO (ltOf C0) where
 irrefl x:=by rw [Mw];simp
 trans x y z h1 h2:=by rw [Mw]at*;simp at*;omega
 ntrans x y z h1 h2:=by rw [Mw]at*;simp at*;omega
theorem afQ(blk off size:Nat)(w:World):CmpLays prog 248 #[] Af 2 C0 blk off size w:=fun _ _ _ _ x y=>afR x y _
theorem aj9(l:List (Nat×Nat)):∀(j c:Nat),j<l.length->c<2->(fu l)[j*2+c]? =some ((Af (l.getD j (0,0)))[c]!):=by
 induction l with
 |nil=>intro j c h;simp at h
 |cons a r ih=>
  intro j c hj hc;cases j with
  |zero=>
   match c,hc with
   |0,_=>rfl
   |1,_=>rfl
  |succ j=>
   have:=ih j c (by simpa using hj) hc;rw [show(j+1)*2+c=(j*2+c)+2 by omega];simpa [fu]using this
def rZ(w:World)(g:Nat)(ps:List (Nat×Nat)):Prop:=∀j,j<ps.length->w.cell? ⟨g,j*2,none⟩=some (.int .i64 ((ps.getD j (0,0)).1:Nat))/\w.cell? ⟨g,j*2+1,none⟩=some (.int .i64 ((ps.getD j (0,0)).2:Nat))
theorem ahD {w:World}{B g cap:Nat}{e:TypeId}{out:List (Nat×Nat)}(h:w.ownsRow B e 2 (.slice (some ⟨g,0,none⟩) out.length cap) out.length (fu out)):HoldsK Af 2 w g 0 out.toArray:=by
 intro j hj;rw [size_flatK]at hj;have hj':j<out.length*2:=by simpa using hj
 refine⟨?_,by rw [iz];exact Bu h j⟩;rw [iz,dg h j hj',get_flatK _ _ _ _ hj];have hd:j / 2<out.length:=by omega
 have:=aj9 out (j / 2) (j%2) hd (Nat.mod_lt _ (by decide));rw [show j / 2*2+j%2=j by omega]at this;rw [this]
 congr 2
 simp [aO,getElem!_def,aQ hd]
theorem akI {w:World}{g:Nat}{d:Array (Nat×Nat)}(h:HoldsK Af 2 w g 0 d):rZ w g d.toList:=by
 intro j hj;have hj':j<d.size:=by simpa using hj
 have h0:=(h.cell hj' (show 0<2 by decide)).1;have h1:=(h.cell hj' (show 1<2 by decide)).1;have e:d[j]! =d.toList.getD j (0,0):=by
  rw [PV d j hj',aO,aQ (by simpa using hj')];simp
 rw [e]at h0 h1;simp only [iz,qY]at h0 h1;exact⟨h0,h1⟩
theorem ae3 {w:World}{B g n:Nat}{d:Array (Nat×Nat)}{os:Array Obj}(hB:B<=g)(hg:g<w.heap.size):Below B w (sortWorldK Af 2 w g 0 n d os):=by
 refine⟨rfl,rfl,rfl,?_,fun k hk=> ?_⟩
 .unfold sortWorldK;rw [size_grow,size_putRowK];show w.heap.size<=w.heap.size+_;omega
 .show((w.heap.modify g _)++os)[k]? =w.heap[k]?;rw [Array.getElem?_append_left (by simp;omega),Array.getElem?_modify,ai (by omega)]
theorem amO(w:World)(B g cap:Nat)(out:List (Nat×Nat))(h:w.ownsRow B 268 2 (.slice (some ⟨g,0,none⟩) out.length cap) out.length (fu out))(hl:out.length<=1000):
  Calls prog 247 #[.slice (some ⟨g,0,none⟩) out.length cap,.func (.func 248) #[] #[]] w fun e w'=>e= .returned (.tuple #[])/\∃ps:List (Nat×Nat),ps.Perm out/\ps.Pairwise (fun a b=>a.1<=b.1)/\rZ w' g ps/\Below B w w'/\g<w'.heap.size:=by
 have eg:∀args w,(callFunc 248 args).run prog w= .ok (.enter 248 args) w:=enters_of func248 (by kernel_rfl) rfl;obtain⟨hB,hg⟩:=h.lt g rfl;have hH:=ahD h;have hcon:=AnyQ.slices_SortFunc Tryz.laysSort 2 Tryz.isAgg268 Tryz.sizeOf268 Af (fun _=>rfl) (fun x v hv=>by simp [Af]at hv;rcases hv with rfl|rfl<;>rfl) C0 am0 248 #[] g 0 cap out.toArray w eg (afQ g 0 _ w) hH hg (by simp;omega);change Calls prog 247 _ _ _ at hcon;have e1:out.toArray.size=out.length:=by simp
 rw [e1]at hcon;refine hcon.mono ?_;rintro e w' ⟨rfl,d',n,os,hp,hs,rfl⟩;have hsz:d'.size=out.length:=by rw [hp.1];simp
 refine⟨rfl,d'.toList,?_,?_,akI (holdsK_sortWorldK Af 2 w g 0 n out.toArray d' os hg hH (by rw [hsz,e1])),ae3 hB hg,lt_sortWorldK Af 2 w g 0 n d' os hg⟩
 .have:=hp.2.2;rw [show d'.extract 0 out.length=d' by rw [<-hsz];simp,show out.toArray.extract 0 out.length=out.toArray by simp]at this;simpa using this
 .rw [aei];intro i j hi hj hij;have hi':i<d'.size:=by simpa using hi
  have hj':j<d'.size:=by simpa using hj
  have:=hs i j (rY _) hij (by omega);rw [Mw,PV d' i hi',PV d' j hj']at this;simp at this;simpa using this
end
theorem amX {P:Program}{ops:Array Oper}{o:Oper}{a:Act}{w:World}{K:Act->World->Prop}{Q:Exit->Act->World->Prop}{E:Prop}(hgd:o.guard=none)(f:FuncId)(x:Operand)(ty:TypeId)
  (ho:o.op= .call {callee:= .value (.func f),args:=#[x],argTypes:=#[ty]}) (hin:∀args w,(callFunc f args).run P w= .ok (.enter f args) w) (v:Value) (hv:a.eval x=v) (R:Value->World->Prop)
  (hc:Calls P f #[v] w fun e w'=>∃u,e= .returned u/\R u w') (h:∀u w',R u w'->K (a.put o.dst u) w'):if Region.wanted o (yielded ops a.tmps)=true then Oper.wp P o a w K Q else E:=by
 have hw:Region.wanted o (yielded ops a.tmps)=true:=by simp [Region.wanted,hgd]
 rw [aj hw];have hr:(execOp a.eval o).run P w= .ok (.enter f #[v]) w:=by
  simp [execOp,ho,resolve,invoke,hin,Act.eval,go_sem];rw [<-hv];cases x<;>simp [Act.eval]
 unfold Oper.wp;rw [hr,Oper.upon_enter];refine hc.mono ?_;rintro e w' ⟨u,rfl,hR⟩;exact h u w' hR
theorem lF {P:Program}{f:FuncId}{fn:Func}(hf:P.funcs[f]? =some fn)(h1:(fn.name== "runtime.NumGoroutine")=false)(h2:fn.body.isNone=false):∀args w,(callFunc f args).run P w= .ok (.enter f args) w:=fun args w=>by
 simp only [callFunc,GU,run_program,VP,hf,h1,h2];rfl
theorem OY(a b:Value):(#[a]++#[b]:Array Value)=#[a,b]:=rfl
theorem VX(a b c:Value):(#[a,b]++#[c]:Array Value)=#[a,b,c]:=rfl
section
variable(w:World)(B sb gc n cc bx:Nat)(pv rv bv:Value)(au aq ax:Int)(t:List Int)
def J5(a:Nat)(t':List Int)(W:World):Prop:=∃s,aW W B sb gc n cc pv rv bv au aq ax t'/\W.heap[bx]? =some (.cells #[.pointer (some ⟨sb,0,none⟩)] 146 (0,0))/\w.grownBy W (some gc)/\aV f5 g5 none t (min a n) s t'/\iN t' (min a n) s
theorem anK(hn:n<=1000)(hl:t.length=n)(vD:aq=0∨aq=1)(LZ:ax=0∨ax=1)(hbz:bx<w.heap.size):GS n 208 209 #[.pointer (some ⟨bx,0,none⟩)] #[.pointer (some ⟨bx,0,none⟩)] (J5 w B sb gc n cc bx pv rv bv au aq ax t) (fun t' i=>t'.getD i 0==5):=by
 refine⟨?_,?_,?_⟩
 .rintro t' a W i ⟨s,hS,hB,hG,hN,hA⟩ _ hi;rw [OY];refine(ais W B sb gc n cc bx pv rv bv au aq ax t' hS hB i hi).mono ?_;rintro e W' ⟨rfl,rfl⟩;exact⟨rfl,s,hS,hB,hG,hN,hA⟩
 .rintro t' a W ⟨s,hS,hB,hG,hN,hA⟩ ha hq;rw [jd (by omega)]at hN hA;have h5:¬t.getD a 0=5:=by
   rw [<-hN.at a (ay _)];simpa using hq
  obtain⟨h1,h2⟩:=S5 hN (by omega) h5;exact⟨t',some (t.getD a 0),hS,hB,hG,by rw [jd (by omega)];exact h1,by rw [jd (by omega)];exact h2⟩
 .rintro t' a b W ⟨s,hS,hB,hG,hN,hA⟩ hab nS hall hend;rw [jd (by omega)]at hN hA;have hrun:∀q,a<=q->q<b->t.getD q 0=5:=fun q h1 h2=>by
   rw [<-hN.at q h1];simpa using hall q h1 h2
  have dB:b<n->¬t.getD b 0=5:=fun h=>by
   rw [<-hN.at b (by omega)];simpa using hend h
  have hx:(fP aq ax t' ((a:Int) - 1)=3↔s=some 3):=by
   rcases hA with⟨rfl,rfl⟩|⟨h0,rfl⟩
   .rw [show((0:Nat):Int) - 1= -1 from rfl,fP,aj (by decide)];simp;omega
   .rw [fP,ai (by omega),ai (by rw [hS.len];omega),show((a:Int) - 1).toNat=a - 1 by omega];simp
  have hy:(fP aq ax t' (b:Int)=3↔nO (t.drop b)=true):=by
   by_cases hb:b<n
   .rw [fP,ai (by omega),ai (by rw [hS.len];omega),CR,hN.at b (by omega),Xu (by omega) (dB hb)];simp
   .rw [fP,ai (by omega),aj (by rw [hS.len];omega),Xv (by omega)];simp;omega
  rw [VX];refine(ang W B sb gc n cc bx pv rv bv au aq ax t' hS hn hB a b (by omega) nS).mono ?_;rintro e W' ⟨rfl,C8,Ai⟩;have hB':W'.heap[bx]? =some (.cells #[.pointer (some ⟨sb,0,none⟩)] 146 (0,0)):=by
   rw [Ai.block bx (ku hbz hG.size) (fun e=>(hS.boxed hB) (aK e).symm)];exact hB
  have key:∀t2 s2,t2=(if fP aq ax t' ((a:Int) - 1)=3∨fP aq ax t' (b:Int)=3 then bL t' a 3 (b - a)else t')->aV f5 g5 none t b (some s2) t2/\iN t2 b (some s2)->∃x',J5 w B sb gc n cc bx pv rv bv au aq ax t (b+1) x' W':=by
   rintro t2 s2 rfl ⟨h1,h2⟩;by_cases hb:b<n
   .obtain⟨h3,h4⟩:=S5 h1 (by omega) (dB hb);exact⟨_,some (t.getD b 0),C8,hB',hG.trans Ai,by rw [jd (by omega)];exact h3,by rw [jd (by omega)];exact h4⟩
   .have e:min (b+1) n=b:=by omega
    exact⟨_,some s2,C8,hB',hG.trans Ai,by rw [e];exact h1,by rw [e];exact h2⟩
  refine⟨rfl,?_⟩;by_cases hc:s=some 3∨nO (t.drop b)=true
  .have:=JK hN hrun (by omega) hab hc;rw [XA]at this;exact key _ 3 (by rw [aj (by rw [hx,hy];exact hc)]) this
  .have h1:¬s=some 3:=fun h=>hc (.inl h)
   have h2:nO (t.drop b)=false:=by simpa using fun h=>hc (.inr h)
   exact key _ 5 (by rw [ai (by rw [hx,hy];exact hc)]) (JM hN hrun (by omega) hab h1 h2)
end
theorem anL(w:World)(B sb gc n cc:Nat)(pv rv bv:Value)(au aq ax:Int)(t:List Int)(h:aW w B sb gc n cc pv rv bv au aq ax t)(hn:n<=1000)(vD:aq=0∨aq=1)(LZ:ax=0∨ax=1):
  Calls prog 148 #[.pointer (some ⟨sb,0,none⟩)] w fun e w'=>e= .returned (.tuple #[])/\aW w' B sb gc n cc pv rv bv au aq ax (pass f5 g5 none t)/\w.grownBy w' (some gc):=by
 have ID:∀(fn:Fn)(first cap:Array Value)(w:World),(Instr.makeFunc fn first cap).run prog w= .ok (.func fn first cap) w:=fun _ _ _ _=>rfl
 have hb1:Below w.heap.size w (w.alloc (.cells #[.pointer (some ⟨sb,0,none⟩)] 146)):=(aA _ _).alloc (ay _) _;have hS1:=h.below hb1;have c2:=hS1.f2;have hl:=h.len;have HC:Hid (Calls prog 97 #[.int .i64 n,.func (.func 208) #[] #[.pointer (some ⟨w.heap.size,0,none⟩)],.func (.func 209) #[] #[.pointer (some ⟨w.heap.size,0,none⟩)]] (w.alloc (.cells #[.pointer (some ⟨sb,0,none⟩)] 146)) fun e w'=>e= .returned (.tuple #[])/\∃k x,n<=k/\J5 (w.alloc (.cells #[.pointer (some ⟨sb,0,none⟩)] 146)) B sb gc n cc w.heap.size pv rv bv au aq ax t k x w'):=
  Lq n _ _ _ _ _ _ hn (anK _ B sb gc n cc w.heap.size pv rv bv au aq ax t hn hl vD LZ (by simp)) (lF func208 (by kernel_rfl) (by kernel_rfl)) (lF func209 (by kernel_rfl) (by kernel_rfl)) t _
   ⟨none,hS1,mP,jt _ _,by rw [GN];exact aV.start _ _ _ _,by rw [GN];exact iN.start _⟩
 have D4:Hid (w.grownBy (w.alloc (.cells #[.pointer (some ⟨sb,0,none⟩)] 146)) (some gc)):=⟨rfl,rfl,rfl,by simp,fun k hk _=>dM w _ k hk⟩
 have HL:=ah hl;clear h hb1 hS1 hl;go_enter func148,ntmps148;go_wp2_with fail;refine HC.out.mono ?_;rintro ev w2 ⟨rfl,k,t',hk,s,hS,_,hG,hN,_⟩;rw [Et hk]at hN;have e:=hN.stop (by rw [HL.out];omega);have HS:Hid (aW w2 B sb gc n cc pv rv bv au aq ax (pass f5 g5 none t)):=by rw [<-e];exact hS
 have HG:=ah (D4.out.trans hG);clear hS hG hN e HC c2;go_wp2;go_end0;exact⟨rfl,HS.out,HG.out⟩
def nW(l:List Int):List Value:=l.map (.int .i32 ·)
theorem Tryz.aai:(prog.info? 21).map (fun i=>(i.zero,i.size,i.bytes))=some (some (.int .i32 0),1,4):=by kernel_rfl
theorem Tryz.Fb:(prog.info? 108).map (fun i=>(i.zero,i.size,i.bytes))=some (some (.int .i64 0),1,8):=by kernel_rfl
theorem jY {w:World}{B:Nat}{e e':TypeId}{z n b:Nat}{v:Value}{xs:List Value}{cs:Array Value}(h:w.ownsRow B e z v n xs)(hb:w.heap[b]? =some (.cells cs e' (0,0)))(he:e≠e'):v.ownBlock≠some b:=by
 rcases h.2 with⟨rfl,_⟩|⟨g,cp,cur,rfl,_,hh,_⟩
 .simp [Value.ownBlock]
 .simp only [Value.ownBlock];intro e1;obtain rfl:=aK e1;rw [hb]at hh;simp at hh;exact he hh.2.symm
structure NL(W:World)(B lb it:Nat)(s:ByteArray)(p:Nat)(vr vt:Value)(qr qt:List Int):Prop where
 cell:W.heap[lb]? =some (.cells #[vr,vt,.slice none 0 0,.slice none 0 0,.slice none 0 0,.int .i64 0] 141 (0,0))
 rr:W.ownsRow B 21 1 vr qr.length (nW qr)
 rt:W.ownsRow B 108 1 vt qt.length (iv (qt.map cls))
 iter:W.heap[it]? =some (.stringIter s p)
 low:B<=lb
section
variable{W W':World}{B lb it p:Nat}{s:ByteArray}{vr vt v':Value}{qr qt:List Int}
theorem NL.ne(h:NL W B lb it s p vr vt qr qt):lb≠it:=by
 intro e;have:=h.cell;rw [e,h.iter]at this;cases this
theorem NL.below(h:NL W B lb it s p vr vt qr qt)(hb:Below W.heap.size W W'):NL W' B lb it s p vr vt qr qt:=⟨cB hb h.cell,eH h.rr hb,eH h.rt hb,cB hb h.iter,h.low⟩
theorem NL.next(h:NL W B lb it s p vr vt qr qt)(p':Nat):NL (W.iterAt it s p') B lb it s p' vr vt qr qt:=
 ⟨by rw [KF _ _ _ _ _ h.ne];exact h.cell,
  nC h.rr fun k o hk ho=>by rw [KF];exact ho;rintro rfl;exact Cj h.rr h.iter hk,
  nC h.rt fun k o hk ho=>by rw [KF];exact ho;rintro rfl;exact Cj h.rt h.iter hk,
  Vu W _ s p _ h.iter,h.low⟩
theorem NL.JG {y:Int}(h:NL W B lb it s p vr vt qr qt)(hown:W'.ownsRow B 21 1 v' (qr.length+1) (nW qr++[.int .i32 y]))(hg:W.grownBy W' vr.ownBlock):
  NL (W'.setCell ⟨lb,0,none⟩ v') B lb it s p v' vt (qr++[y]) qt/\W'.cell? ⟨lb,0,none⟩=some vr/\W'.frozen? ⟨lb,0,none⟩=false:=by
 have n1:=jY h.rr h.cell (by decide);have hc:W'.heap[lb]? =_:=(hg.block lb (bZ h.cell) (fun e=>n1 e.symm)).trans h.cell;have hi:W'.heap[it]? =_:=(hg.block it (bZ h.iter) (fun e=>Cj h.rr h.iter e.symm)).trans h.iter;have ht:W'.ownsRow B 108 1 vt qt.length (iv (qt.map cls)):=dO h.rt hg (kD h.rt h.rr (by decide));have n2:v'.ownBlock≠some lb:=jY hown hc (by decide);have n3:vt.ownBlock≠some lb:=jY ht hc (by decide);refine⟨⟨by rw [fK hc];rfl,?_,jm ht n3 0 v',by rw [gK _ _ _ _ h.ne.symm];exact hi,h.low⟩,az hc 0,cH hc 0⟩;rw [bP,nW,fO];exact jm hown n2 0 v'
theorem NL.SR {y:Int}(h:NL W B lb it s p vr vt qr qt)(hown:W'.ownsRow B 108 1 v' (qt.length+1) (iv (qt.map cls)++[.int .i64 (cls y)]))(hg:W.grownBy W' vt.ownBlock):
  NL (W'.setCell ⟨lb,1,none⟩ v') B lb it s p vr v' qr (qt++[y])/\W'.cell? ⟨lb,1,none⟩=some vt/\W'.frozen? ⟨lb,1,none⟩=false:=by
 have n1:=jY h.rt h.cell (by decide);have hc:W'.heap[lb]? =_:=(hg.block lb (bZ h.cell) (fun e=>n1 e.symm)).trans h.cell;have hi:W'.heap[it]? =_:=(hg.block it (bZ h.iter) (fun e=>Cj h.rt h.iter e.symm)).trans h.iter;have hr:W'.ownsRow B 21 1 vr qr.length (nW qr):=dO h.rr hg (kD h.rr h.rt (by decide));have n2:v'.ownBlock≠some lb:=jY hown hc (by decide);have n3:vr.ownBlock≠some lb:=jY hr hc (by decide);refine⟨⟨by rw [fK hc];rfl,jm hr n3 1 v',?_,by rw [gK _ _ _ _ h.ne.symm];exact hi,h.low⟩,az hc 1,cH hc 1⟩;rw [bP,fO,iv,fO];exact jm hown n2 1 v'
end
theorem MH {w:World}{base:Nat}{e:TypeId}{size:Nat}{v:Value}{n:Nat}{xs:List Value}(h:w.ownsRow base e size v n xs){K c:Nat}{es:Array MapEntry}(hk:w.heap[K]? =some (.map es c)):v.ownBlock≠some K:=by
 rcases h.2 with⟨rfl,_⟩|⟨g,cap,cur,rfl,h2,h3,h4⟩
 .simp [Value.ownBlock]
 .simp only [Value.ownBlock];intro e;obtain rfl:=aK e;rw [hk]at h3;cases h3
structure PS(W:World)(B s fb:Nat)(v fv:Value)(x:List Nat×List (Nat×Nat)):Prop where
 stk:fD W B s v x.1
 fit:zA W fb
 row:W.ownsRow B 268 2 fv x.2.length (fu x.2)
section
variable{W W':World}{B s fb:Nat}{v fv v' XT:Value}{x:List Nat×List (Nat×Nat)}{st':List Nat}
theorem PS.below(h:PS W B s fb v fv x)(hb:Below W.heap.size W W'):PS W' B s fb v fv x:=⟨h.stk.below hb,h.fit.below hb,eH h.row hb⟩
theorem PS.stack(h:PS W B s fb v fv x)(hs:fD W' B s v' st')(hf:bw W W' s v v'):PS W' B s fb v' fv (st',x.2):=by
 have hfs:fb≠s:=by
  intro e;have:=h.fit;rw [zA,e,h.stk.cell]at this;cases this
 refine⟨hs,(hf.block fb (bZ h.fit) hfs (MH h.stk.row h.fit)).trans h.fit,nC h.row fun k o hk ho=> ?_⟩;rw [hf.block k (bZ ho) ?_ ?_]
 .exact ho
 .rintro rfl;exact jY h.row h.stk.cell (by decide) hk
 .intro e;rcases kD h.row h.stk.row (by decide)with h1|h1
  .rw [h1]at hk;cases hk
  .exact h1 (hk.trans e.symm)
theorem PS.app {a b:Nat}(h:PS W B s fb v fv x)(hown:W'.ownsRow B 268 2 XT (x.2.length+1) (fu x.2++[.int .i64 (a:Nat),.int .i64 (b:Nat)]))(hg:W.grownBy W' fv.ownBlock):PS W' B s fb v XT (x.1,x.2++[(a,b)]):=by
 refine⟨⟨(hg.block s (bZ h.stk.cell) (fun e=>jY h.row h.stk.cell (by decide) e.symm)).trans h.stk.cell,dO h.stk.row hg (kD h.stk.row h.row (by decide)),h.stk.low⟩,(hg.block fb (bZ h.fit) (fun e=>MH h.row h.fit e.symm)).trans h.fit,?_⟩;have e:=abl x.2 (a,b);simp only at e;rw [e]at hown;simpa using hown
end
def VO(w:World)(B:Nat)(v:Value)(ps:List (Nat×Nat)):Prop:=(ps=[]/\∃a cap,v= .slice a 0 cap)∨∃g cap,v= .slice (some ⟨g,0,none⟩) ps.length cap/\B<=g/\g<w.heap.size/\rZ w g ps
theorem Tryz.ah7:(prog.info? 268).map (fun i=>(i.zero,i.size,i.bytes))=some (some (.agg #[.int .i64 0,.int .i64 0]),2,16):=by kernel_rfl
def Br(w:World):Prop:=∃tt fr,w.heap[11]? =some (.cells rz tt fr)
theorem Br.below {w w':World}(h:Br w)(hb:Below w.heap.size w w'):Br w':=by
 obtain⟨tt,fr,h⟩:=h;exact⟨tt,fr,cB hb h⟩
theorem afc(w:World)(B sb gc n cc gr cr:Nat)(pv bv:Value)(au aq ax:Int)(t rs:List Int)(h:aW w B sb gc n cc pv (.slice (some ⟨gr,0,none⟩) n cr) bv au aq ax t)(hr:Bp w gr n rs)(hbr:Br w)(hn:n<=1000):
  Calls prog 211 #[.pointer (some ⟨sb,0,none⟩)] w fun e w'=>∃v ps,e= .returned v/\ko t rs ps/\VO w' w.heap.size v ps/\Below w.heap.size w w':=by
 obtain⟨iP,hiP,Jd,Je,Jf⟩:=gW Tryz.ah7;have H1:Hid (∀W,Below w.heap.size w W->aW W B sb gc n cc pv (.slice (some ⟨gr,0,none⟩) n cr) bv au aq ax t):=fun W hb=>h.below hb
 have H2:Hid (∀W,Below w.heap.size w W->Bp W gr n rs):=fun W hb=>hr.below hb
 have H3:Hid (∀W,Below w.heap.size w W->Br W):=fun W hb=>hbr.below hb
 have FY:Hid (Calls prog 242 #[] w fun e w'=>e= .returned (.map (some w.heap.size))/\zA w' w.heap.size/\Below w.heap.size w w'):=by
  obtain⟨tt,fr,hb⟩:=hbr;exact afL w tt fr hb
 have HT:=ah h.len;clear h hr hbr;go_enter func211,ntmps211;go_wp2_with fail;refine FY.out.mono ?_;rintro ev w1 ⟨rfl,Y8,hb1⟩;clear FY;have Qm:=hb1.size;have hb2:Below w.heap.size w (w1.alloc (.cells #[.slice none 0 0] 257)):=hb1.alloc Qm _;have U2:Hid (PS (w1.alloc (.cells #[.slice none 0 0] 257)) w.heap.size w1.heap.size w.heap.size (.slice none 0 0) (.slice none 0 0) ([],[])):=
  ⟨⟨mP,jw _ _ _ _,Qm⟩,Y8.below ((aA _ _).alloc (ay _) _),jw _ _ _ _⟩
 have aJ:=ah hb2;have c1:(w1.alloc (.cells #[.slice none 0 0] 257)).cell? ⟨sb,1,none⟩=some (.slice (some ⟨gr,0,none⟩) n cr):=az (H1.out _ hb2).cell 1;clear hb1 Y8 hb2;obtain⟨fb,Ao⟩:∃fb,fb=w.heap.size:=⟨_,rfl⟩
 obtain⟨s,hs⟩:∃s,s=w1.heap.size:=⟨_,rfl⟩
 have HP:Hid (PS (w1.alloc (.cells #[.slice none 0 0] 257)) w.heap.size s fb (.slice none 0 0) (.slice none 0 0) ([],[])):=by rw [Ao,hs];exact U2.out
 clear U2;rw [<-Ao];clear Ao;go_wp2;rw [<-hs];clear hs c1 Qm;generalize w1.alloc (.cells #[.slice none 0 0] 257)=W2 at*;go_loopg [5,16] n (fun gk fv iv W=>∃(k:Nat)(v:Value)(x:List Nat×List (Nat×Nat)),k<=n/\gk=n - k/\iv= .int .i64 k/\Below w.heap.size w W/\PS W w.heap.size s fb v fv x/\jP k x/\CW rs x.1/\dF t rs (n - k) k x=dF t rs n 0 ([],[]));case atStart=>exact⟨0,_,([],[]),by omega,rfl,rfl,aJ.out,HP.out,jP.start,fun a ha=>by simp at ha,rfl⟩
 case round=>
  clear aJ HP;obtain⟨k,v,x,hk,rfl,rfl,hb,hP,hO,BN,hF⟩:=hrel;have hbz:=hb.size;obtain⟨fa,fc,rfl⟩:=ey hP.row;by_cases hlt:k<n
  .have hnk:n - k=(n - (k+1))+1:=by omega
   rw [hnk]at hF;have c1:=(H2.out wr hb) k hlt;have c2:=(H1.out wr hb).f2;have c3:=(H1.out wr hb).at k hlt;have hkn:(k:Int)<(n:Int):=by omega
   have HB:=ah hb;have pQ:=ah hP;have dN:=ah hO;have Bg:=ah BN;have ahU:x.1.length<=63:=hO.len;by_cases ht:t.getD k 0=12
   .rw [ht]at c3;by_cases h1:(brk (rs.getD k 0)).1=1
    .have oW:Hid (∀W,Below w.heap.size w W->Calls prog 243 #[.int .i32 (rs.getD k 0)] W fun e w'=>e= .returned (.bool true)/\Below W.heap.size W w'):=fun W hW=>by
      obtain⟨tt,fr,hh⟩:=H3.out W hW;have:=aa8 (rs.getD k 0) W tt fr hh;rw [mX h1]at this;exact this
     by_cases h63:x.1.length=63
     .have HN:Hid (dF t rs n 0 ([],[])=none):=by
       show _=_;rw [<-hF];exact aj0 (by rw [nD,aj ht,aj h1,aj h63])
      clear hF hP hO BN hb h1 ht ahU;have HL:Hid (∀W,Below wr.heap.size wr W->Calls prog 244 #[.pointer (some ⟨s,0,none⟩)] W fun e w'=>e= .returned (.int .i64 ((63:Nat):Int))/\w'=W):=fun W hW=>by
       have:=RJ W w.heap.size s v x.1 (pQ.out.below hW).stk;rw [h63]at this;exact this
      clear h63;generalize rs.getD k 0=r at*;go_wp2_with fail;refine(oW.out wr HB.out).mono ?_;rintro ev w3 ⟨rfl,hb3⟩;have aI:=ah (HB.out.trans (hb3.mono hbz));have l6:=ah hb3;clear hb3;go_wp2_with fail;refine(HL.out w3 l6.out).mono ?_;rintro ev wx ⟨rfl,hx⟩;have hx':=hx.symm;subst hx';clear HL;go_wp2;go_ret;exact⟨_,[],rfl,by unfold ko;rw [HT.out,HN.out],.inl ⟨rfl,_,_,rfl⟩,aI.out⟩
     .have HN:Hid (dF t rs (n - (k+1)) (k+1) (x.1++[k],x.2)=dF t rs n 0 ([],[])):=by
       show _=_;rw [<-hF];exact(JE (by rw [nD,aj ht,aj h1,ai h63])).symm
      have adO:=ah (hO.push h63);have adV:Hid (CW rs (x.1++[k])):=fun a ha=>by
       simp at ha;rcases ha with ha|rfl
       .exact BN a ha
       .exact h1
      clear hF hP hO BN hb h1 ht;have HL:Hid (∀W,Below wr.heap.size wr W->Calls prog 244 #[.pointer (some ⟨s,0,none⟩)] W fun e w'=>e= .returned (.int .i64 x.1.length)/\w'=W):=fun W hW=>RJ W w.heap.size s v x.1 (pQ.out.below hW).stk
      have Gm:Hid (∀W,Below wr.heap.size wr W->Calls prog 197 #[.pointer (some ⟨s,0,none⟩),.int .i64 k] W fun e w'=>e= .returned (.tuple #[])/\∃v',fD w' w.heap.size s v' (x.1++[k])/\bw W w' s v v'):=fun W hW=>abQ W w.heap.size s v x.1 k (pQ.out.below hW).stk (by omega)
      generalize rs.getD k 0=r at*;have h63':((x.1.length:Int)==63)=false:=by simp;omega
      have hxz:(0:Int)<=(x.1.length:Int):=Ow _;generalize(x.1.length:Int)=xl at*;go_wp2_with fail;refine(oW.out wr HB.out).mono ?_;rintro ev w3 ⟨rfl,hb3⟩;have aI:=ah (HB.out.trans (hb3.mono hbz));have l6:=ah hb3;clear hb3;go_wp2_with fail;refine(HL.out w3 l6.out).mono ?_;rintro ev wx ⟨rfl,hx⟩;have hx':=hx.symm;subst hx';clear HL;go_wp2_with fail;refine(oW.out w3 aI.out).mono ?_;rintro ev w4 ⟨rfl,hb4⟩;have fB:=ah (aI.out.trans (hb4.mono aI.out.size));have CM:=ah (l6.out.trans (hb4.mono l6.out.size));clear hb4 l6 oW;go_wp2_with fail;refine(Gm.out w4 CM.out).mono ?_;rintro ev w5 ⟨rfl,v5,hs5,Ir⟩;have dx:=ah (Ir.below (pQ.out.below CM.out).stk fB.out);have NN:=ah ((pQ.out.below CM.out).stack hs5 Ir);clear hs5 Ir Gm;go_wp2;go_roundg (n - (k+1));case measure=>omega
      case rel=>exact⟨k+1,v5,(x.1++[k],x.2),by omega,rfl,by go_num,dx.out,NN.out,adO.out,adV.out,HN.out⟩
    .have oW:Hid (∀W,Below w.heap.size w W->Calls prog 243 #[.int .i32 (rs.getD k 0)] W fun e w'=>e= .returned (.bool false)/\Below W.heap.size W w'):=fun W hW=>by
      obtain⟨tt,fr,hh⟩:=H3.out W hW;have:=aa8 (rs.getD k 0) W tt fr hh;rw [rB h1]at this;exact this
     by_cases h2:(brk (rs.getD k 0)).1=2
     .have oV:Hid (∀W,Below w.heap.size w W->Calls prog 245 #[.int .i32 (rs.getD k 0)] W fun e w'=>e= .returned (.bool true)/\Below W.heap.size W w'):=fun W hW=>by
       obtain⟨tt,fr,hh⟩:=H3.out W hW;have:=WJ (rs.getD k 0) W tt fr hh;rw [mX h2]at this;exact this
      have Vm:=fun W (hW:Below wr.heap.size wr W) (hW2:Below w.heap.size w W)=>afK W B sb gc n cc gr cr w.heap.size s fb v pv bv au aq ax t rs x.1 (rs.getD k 0) (H1.out W hW2) (H2.out W hW2) (pQ.out.below hW).stk (pQ.out.below hW).fit (fun a ha=>Nat.lt_trans (dN.out.st a ha) hlt) Bg.out h2 (by omega)
      have N8:Hid (∀W,Below wr.heap.size wr W->Below w.heap.size w W->Calls prog 246 #[.pointer (some ⟨sb,0,none⟩),.pointer (some ⟨s,0,none⟩),.map (some fb),.int .i32 (rs.getD k 0)] W fun e w'=>
   (∃m v',kY rs (brk (rs.getD k 0)).2 x.1 x.1.length=some m/\e= .returned (.tuple #[.int .i64 (x.1.getD m 0:Nat),.bool true])/\fD w' w.heap.size s v' (x.1.take m)/\bw W w' s v v')∨
   (kY rs (brk (rs.getD k 0)).2 x.1 x.1.length=none/\e= .returned (.tuple #[.int .i64 0,.bool false])/\Below W.heap.size W w')):=Vm
      have mS:Hid (∀m,kY rs (brk (rs.getD k 0)).2 x.1 x.1.length=some m->dF t rs (n - (k+1)) (k+1) (x.1.take m,x.2++[(x.1.getD m 0,k)])=dF t rs n 0 ([],[])/\jP (k+1) (x.1.take m,x.2++[(x.1.getD m 0,k)])/\CW rs (x.1.take m)):=fun m hm=>by
       have e:nD t rs k x=some (x.1.take m,x.2++[(x.1.getD m 0,k)]):=by rw [nD,aj ht,ai h1,aj h2,hm]
       exact⟨by rw [<-hF];exact(JE e).symm,dN.out.step e,Bg.out.step e⟩
      have mV:Hid (kY rs (brk (rs.getD k 0)).2 x.1 x.1.length=none->dF t rs (n - (k+1)) (k+1) x=dF t rs n 0 ([],[])):=fun hm=>by
       have e:nD t rs k x=some x:=by rw [nD,aj ht,ai h1,aj h2,hm]
       rw [<-hF];exact(JE e).symm
      have hx2:x.2.length<=1000:=by have:=hO.few;omega
      clear hF hP hO BN hb h1 h2 ht Vm;generalize rs.getD k 0=r at*;go_wp2_with fail;refine(oW.out wr HB.out).mono ?_;rintro ev w3 ⟨rfl,hb3⟩;have aI:=ah (HB.out.trans (hb3.mono hbz));have l6:=ah hb3;clear hb3;go_wp2_with fail;refine(oW.out w3 aI.out).mono ?_;rintro ev w4 ⟨rfl,hb4⟩;have fB:=ah (aI.out.trans (hb4.mono aI.out.size));have CM:=ah (l6.out.trans (hb4.mono l6.out.size));clear hb4 l6 oW;go_wp2_with fail;refine(oV.out w4 fB.out).mono ?_;rintro ev w5 ⟨rfl,dB⟩;have dx:=ah (fB.out.trans (dB.mono fB.out.size));have oZ:=ah (CM.out.trans (dB.mono CM.out.size));clear dB CM oV;go_wp2_with fail;refine(N8.out w5 oZ.out dx.out).mono ?_;rintro ev w6 (⟨m,v6,hm,rfl,I4,QB⟩|⟨hm,rfl,fR⟩)
      .obtain⟨hN,Yx,YH⟩:=mS.out m hm;have ia:=ah (QB.below (pQ.out.below oZ.out).stk dx.out);have Be:=ah ((pQ.out.below oZ.out).stack I4 QB);have NH:=ah hN;have Gj:=ah Yx;have wL:=ah YH;clear hN Yx YH hm I4 QB N8;have hrow:w6.ownsRow w.heap.size 268 2 (.slice fa x.2.length fc) x.2.length (fu x.2):=Be.out.row;have Al:=ia.out.size;generalize x.1.getD m 0=q at*;go_wp2_with(at_builtin;refine adb _ rfl _ _ 265 rfl w.heap.size 268 iP (.agg #[.int .i64 0,.int .i64 0]) 16 underlying265 hiP Jd Je Jf rfl (by decide) _ _ _ rfl hrow _ _ _ _ rfl (by simp) rfl rfl (by omega) Al ?_);intro v7 w7 Aq gU;have rU:=ah (Be.out.app Aq gU);have oh:Hid (Below w.heap.size w w7):=ia.out.grown gU Al (fun y hy=>(hrow.lt y hy).1);clear Aq gU hrow;go_wp2;go_roundg (n - (k+1));case measure=>omega
       case rel=>exact⟨k+1,v6,(x.1.take m,x.2++[(q,k)]),by omega,rfl,by go_num,oh.out,rU.out,Gj.out,wL.out,NH.out⟩
      .have ia:=ah (dx.out.trans (fR.mono dx.out.size));have Be:=ah ((pQ.out.below oZ.out).below fR);have NH:Hid _:=mV.out hm;have Gj:=ah dN.out.more;clear hm fR N8;go_wp2;go_roundg (n - (k+1));case measure=>omega
       case rel=>exact⟨k+1,v,x,by omega,rfl,by go_num,ia.out,Be.out,Gj.out,Bg.out,NH.out⟩
     .have oV:Hid (∀W,Below w.heap.size w W->Calls prog 245 #[.int .i32 (rs.getD k 0)] W fun e w'=>e= .returned (.bool false)/\Below W.heap.size W w'):=fun W hW=>by
       obtain⟨tt,fr,hh⟩:=H3.out W hW;have:=WJ (rs.getD k 0) W tt fr hh;rw [rB h2]at this;exact this
      have HN:Hid (dF t rs (n - (k+1)) (k+1) x=dF t rs n 0 ([],[])):=by
       show _=_;rw [<-hF];exact(JE (by rw [nD,aj ht,ai h1,ai h2])).symm
      have Gj:=ah hO.more;clear hF hP hO BN hb h1 h2 ht;generalize rs.getD k 0=r at*;go_wp2_with fail;refine(oW.out wr HB.out).mono ?_;rintro ev w3 ⟨rfl,hb3⟩;have aI:=ah (HB.out.trans (hb3.mono hbz));have HP3:=ah (pQ.out.below hb3);clear hb3;go_wp2_with fail;refine(oW.out w3 aI.out).mono ?_;rintro ev w4 ⟨rfl,hb4⟩;have fB:=ah (aI.out.trans (hb4.mono aI.out.size));have NM:=ah (HP3.out.below hb4);clear hb4 oW;go_wp2_with fail;refine(oV.out w4 fB.out).mono ?_;rintro ev w5 ⟨rfl,dB⟩;have dx:=ah (fB.out.trans (dB.mono fB.out.size));have NN:=ah (NM.out.below dB);clear dB oV;go_wp2;go_roundg (n - (k+1));case measure=>omega
      case rel=>exact⟨k+1,v,x,by omega,rfl,by go_num,dx.out,NN.out,Gj.out,Bg.out,HN.out⟩
   .have HN:Hid (dF t rs (n - (k+1)) (k+1) x=dF t rs n 0 ([],[])):=by
     show _=_;rw [<-hF];exact(JE (by rw [nD,ai ht])).symm
    have ht':(t.getD k 0==12)=false:=by simpa using ht
    clear hF hP hO BN hb ht;generalize t.getD k 0=c at*;generalize rs.getD k 0=r at*;go_wp2;go_roundg (n - (k+1));case measure=>omega
    case rel=>exact⟨k+1,v,x,by omega,rfl,by go_num,HB.out,pQ.out,dN.out.more,Bg.out,HN.out⟩
  .obtain rfl:k=n:=by omega
   rw [nK,dF]at hF;have hkn:¬(k:Int)<(k:Int):=by omega
   have HB:=ah hb;have HF:=ah hF.symm;have zO:=ah hP.row;have hx2:x.2.length<=1000:=by have:=hO.few;omega
   clear hF hP hO BN hb;generalize x.2=out at*;by_cases h0:out=[]
   .subst h0;have HS:Hid (∀f,Calls prog 247 #[.slice fa 0 fc,f] wr fun e w'=>e= .returned (.tuple #[])/\w'=wr):=fun f=>AnyF.slices_SortFunc_none Tryz.laysSort fa fc f wr
    clear zO hx2;go_wp2_with fail;refine(HS.out _).mono ?_;rintro ev wx ⟨rfl,hx⟩;have hx':=hx.symm;subst hx';clear HS;go_wp2;go_ret;exact⟨_,[],rfl,by unfold ko;rw [HT.out,HF.out];exact⟨.refl _,.nil⟩,.inl ⟨rfl,_,_,rfl⟩,HB.out⟩
   .obtain⟨g,cp,he,_,_,hgB⟩:=fS zO.out (jc.2 h0);simp only [uY,vN]at he;obtain⟨rfl,rfl⟩:=he;have HS:Hid (Calls prog 247 #[.slice (some ⟨g,0,none⟩) out.length fc,.func (.func 248) #[] #[]] wr fun e w'=>e= .returned (.tuple #[])/\∃ps:List (Nat×Nat),ps.Perm out/\ps.Pairwise (fun a b=>a.1<=b.1)/\rZ w' g ps/\Below w.heap.size wr w'/\g<w'.heap.size):=amO wr w.heap.size g _ out zO.out hx2;clear zO h0;go_wp2_with fail;refine HS.out.mono ?_;rintro ev w3 ⟨rfl,ps,hp,hs,hA,hb3,hg3⟩;have HX:Hid (ps.Perm out/\ps.Pairwise (fun a b=>a.1<=b.1)/\rZ w3 g ps):=⟨hp,hs,hA⟩
    have aI:=ah (HB.out.trans hb3);clear hp hs hA hb3 HS;go_wp2;go_ret;exact⟨_,ps,rfl,by unfold ko;rw [HT.out,HF.out];exact⟨HX.out.1,HX.out.2.1⟩,.inr ⟨g,_,by rw [HX.out.1.length_eq];rfl,hgB,hg3,HX.out.2.2⟩,aI.out⟩
theorem acI {c:Int}:(bC c<0↔bC c= -1):=by
 unfold bC;split
 .omega
 .split<;>omega
theorem amf(w:World)(B sb gc n cc:Nat)(pv rv bv:Value)(au aq ax:Int)(t:List Int)(h:aW w B sb gc n cc pv rv bv au aq ax t)(hn:n<=1000)(f:Nat)(hf:f<n):
  Calls prog 250 #[.pointer (some ⟨sb,0,none⟩),.int .i64 f] w fun e w'=>e= .returned (.int .i64 (jL aq t f))/\w'=w:=by
 have c2:=h.f2;have c5:=h.f5;have HT:Hid (∀k,k<n->w.cell? ⟨gc,k,none⟩=some (.int .i64 (t.getD k 0))):=fun k hk=>h.at k hk
 obtain⟨P,hP⟩:∃P,P=jL aq t f:=⟨_,rfl⟩
 rw [<-hP];have HP:=ah hP.symm;clear h hP;go_enter func250,ntmps250;go_wp2;go_loopg [5] f (fun gh kv W=>∃k:Nat,k<=f/\gh=k/\kv= .int .i64 ((k:Int) - 1)/\W=w/\jL aq t k=P);case atStart=>exact⟨f,ay _,rfl,rfl,rfl,HP.out⟩
 case round=>
  obtain⟨k,hk,rfl,rfl,hW,hp⟩:=hrel;have hW':=hW.symm;subst hW';clear HP;cases gk with
  |zero=>
   have hp0:aq=P:=hp;subst hp0;go_wp2;go_ret;exact⟨rfl,rfl⟩
  |succ k=>
   have hkn:k<n:=by omega
   have b1:=HT.out k hkn;have e1:((k+1:Nat):Int) - 1=(k:Int):=by omega
   rw [e1];rw [jL]at hp;have hk':(k:Int)<(n:Int):=by omega
   have bX:(0:Int)<=(k:Int):=by omega
   generalize t.getD k 0=c at*;have HS:Hid (∀W,Calls prog 217 #[.int .i64 c] W fun e w'=>e= .returned (.int .i64 (bC c))/\w'=W):=fun W=>KX c W
   by_cases hl:bC c<0
   .rw [aj hl]at hp;have HP:=ah hp;have hm:bC c= -1:=acI.1 hl;rw [hm]at HS;clear hp hl hm;go_wp2_with fail;refine(HS.out _).mono ?_;rintro ev wx ⟨rfl,hx⟩;subst hx;go_wp2;go_roundg k;case measure=>omega
    case rel=>exact⟨k,by omega,rfl,by go_num,rfl,HP.out⟩
   .rw [ai hl]at hp;have hm:(bC c != -1)=true:=by
     simp only [bne_iff_ne,ne_eq];intro e;exact hl (acI.2 e)
    generalize bC c=sc at*;subst hp;clear hl;go_wp2_with fail;refine(HS.out _).mono ?_;rintro ev wx ⟨rfl,hx⟩;subst hx;go_wp2;go_ret;exact⟨rfl,rfl⟩
theorem acu(w:World)(B sb gc n cc gb cb:Nat)(pv rv:Value)(au aq ax:Int)(t orig:List Int)(h:aW w B sb gc n cc pv rv (.slice (some ⟨gb,0,none⟩) n cb) au aq ax t)(ho:bG w gb 0 orig)(hl:orig.length=n)(hg:gb≠gc)(hn:n<=1000)(k:Nat)(hk:k<n)(d:Int):
  Calls prog 213 #[.pointer (some ⟨sb,0,none⟩),.int .i64 k,.int .i64 d] w fun e w'=>e= .returned (.tuple #[])/\aW w' B sb gc n cc pv rv (.slice (some ⟨gb,0,none⟩) n cb) au aq ax (nH orig d k t)/\w.grownBy w' (some gc):=by
 have c2:=h.f2;have ck:=h.at k hk;have fk:=h.frozen k;have hk':(k:Int)<(n:Int):=by omega
 have bD:=ah (h.set k d);have kI:=ah (h.grown k d);have HO:Hid (∀W,w.grownBy W (some gc)->∀q,q<n->W.cell? ⟨gb,q,none⟩=some (.int .i64 (orig.getD q 0))):=fun W hG q hq=>by
  have h1:=ho q (by rw [hl];exact hq);rw [iz]at h1;have hlt:gb<w.heap.size:=by
   rcases cK gb w.heap.size with h'|h'
   .exact h'
   .simp [World.cell?,uJ h']at h1
  simp only [World.cell?]at h1 ⊢;rw [hG.block gb hlt (fun e=>hg (aK e))];exact h1
 have HL:=ah hl;generalize t.getD k 0=q0 at*;clear h ho hl;unfold nH;go_enter func213,ntmps213;go_wp2;clear c2 ck fk;go_loopg [6] (n - (k+1)) (fun gk iv wr=>∃m:Nat,k+1+m<=n/\gk=n - (k+1+m)/\iv= .int .i64 ((k+1+m:Nat):Int)/\aW wr B sb gc n cc pv rv (.slice (some ⟨gb,0,none⟩) n cb) au aq ax (bL t k d (1+m))/\w.grownBy wr (some gc)/\pJ (orig.drop (k+1))=m+pJ (orig.drop (k+1+m)));case atStart=>exact⟨0,by omega,rfl,by go_num,bD.out,kI.out,by rw [iz]⟩
 case round=>
  clear bD kI;obtain⟨m,hm,rfl,rfl,hS,hG,hN⟩:=hrel;have c2:=hS.f2;have c3:wr.cell? ⟨sb,3,none⟩=some (.slice (some ⟨gb,0,none⟩) n cb):=az hS.cell 3;have HS:=ah hS;have HG:=ah hG;have ecast:((k+1+m:Nat):Int)=(k:Int)+1+(m:Int):=by omega
  by_cases hlt:k+1+m<n
  .have co:=HO.out wr hG (k+1+m) hlt;have cq:=hS.at (k+1+m) hlt;have fq:=hS.frozen (k+1+m);have h1:(k:Int)+1+(m:Int)<(n:Int):=by omega
   rw [Sd (m:=k+1+m) (by rw [HL.out];exact hlt)]at hN;clear hS hG;generalize(bL t k d (1+m)).getD (k+1+m) 0=q at*;by_cases h8:orig.getD (k+1+m) 0=8
   .rw [aj h8]at hN;rw [h8]at co;have HN:Hid (pJ (orig.drop (k+1))=(m+1)+pJ (orig.drop (k+1+(m+1)))):=by show _=_;rw [hN,<-GJ (k+1)];omega
    have cW:Hid (aW (wr.setCell ⟨gc,k+1+m,none⟩ (.int .i64 d)) B sb gc n cc pv rv (.slice (some ⟨gb,0,none⟩) n cb) au aq ax (bL t k d (1+(m+1)))):=by
     have:=HS.out.set (k+1+m) d;show aW _ _ _ _ _ _ _ _ _ _ _ _ (bL t k d (1+(m+1)));rw [show 1+(m+1)=(1+m)+1 by omega,bL,show k+(1+m)=k+1+m by omega];exact this
    have HG2:Hid (w.grownBy (wr.setCell ⟨gc,k+1+m,none⟩ (.int .i64 d)) (some gc)):=HG.out.trans (HS.out.grown (k+1+m) d);clear hN h8;go_wp2;go_roundg (n - (k+1+(m+1)));case measure=>omega
    case rel=>exact⟨m+1,by omega,rfl,by go_num,cW.out,HG2.out,HN.out⟩
   .rw [ai h8]at hN;have q8:(orig.getD (k+1+m) 0==8)=false:=by simpa using h8
    have HE:Hid (1+pJ (orig.drop (k+1))=1+m):=by show _=_;omega
    clear hN h8;generalize orig.getD (k+1+m) 0=oq at*;go_wp2;go_end0;rw [HE.out];exact⟨rfl,HS.out,HG.out⟩
  .have h1:¬(k:Int)+1+(m:Int)<(n:Int):=by omega
   have h2:decide ((k:Int)+1+(m:Int)<(n:Int))=false:=by simpa using h1
   rw [Sc (m:=k+1+m) (by rw [HL.out];exact hlt)]at hN;have HE:Hid (1+pJ (orig.drop (k+1))=1+m):=by show _=_;omega
   clear hS hG hN;go_wp2;go_end0;rw [HE.out];exact⟨rfl,HS.out,HG.out⟩
