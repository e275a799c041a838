import Derived.Test.YtkbinfhclaafhaaGreatDoorH09
import Derived.BigQuiet
import Derived.Test.YtkbinfhclaafhaaGreatDoorH02
import Derived.Test.YtkbinfhclaafhaaGreatDoorH08
import Derived.ChangeKeysEq
import Derived.Test.YtkbinfhclaafhaaGreatDoorShelfS
import Derived.Shelf.SlSortCmp.NoneTotal
import Derived.Shelf.SlicesG.Cmp
import Derived.Test.YtkbinfhclaafhaaGreatDoorH05
namespace Go.Proofs.YtkbinfhclaafhaaGreatDoor
open Go.RowKit
open Go.Proofs.Tryz
set_option maxRecDepth 100000
set_option maxHeartbeats 32000000
def jG(r:Int):Int:=if r=9001 then 12296 else if r=9002 then 12297 else r
def aY:List Int:=[40,41,91,93,123,125,12296,12297]
def kY:Array Value:=#[.int .i32 40,.int .i32 41,.int .i32 91,.int .i32 93,.int .i32 123,.int .i32 125,.int .i32 12296,.int .i32 12297]
theorem MK:∀(k:Nat)(_:k<4)(w:World),(Instr.index 304 (.agg kY) (.int .i64 k)).run prog w= .ok (.agg #[.int .i32 (aY.getD (2*k) 0),.int .i32 (aY.getD (2*k+1) 0)]) w
 |0,_,w=>by kernel_rfl
 |1,_,w=>by kernel_rfl
 |2,_,w=>by kernel_rfl
 |3,_,w=>by kernel_rfl
 |k+4,h,_=>by omega
theorem Tryz.OQ:(prog.info? 304).map (·.size)=some kY.size:=by kernel_rfl
theorem KP(r:Int)(w:World):Calls prog 266 #[.int .i32 r] w fun e w'=>e= .returned (.int .i32 (jG r))/\w'=w:=by
 unfold jG;by_cases h1:r=9001
 .subst h1;rw [if_pos rfl];go_enter func266,ntmps266;go_wp2;go_ret;exact⟨rfl,rfl⟩
 .rw [if_neg h1];have q1:(r==9001)=false:=by simpa using h1
  by_cases h2:r=9002
  .subst h2;rw [if_pos rfl];go_enter func266,ntmps266;go_wp2;go_ret;exact⟨rfl,rfl⟩
  .rw [if_neg h2];have q2:(r==9002)=false:=by simpa using h2
   go_enter func266,ntmps266;go_wp2;go_ret;exact⟨rfl,rfl⟩
def vB(side:Nat)(r:Int):Bool:=jG r==aY.getD side 0||(jG r==aY.getD (2+side) 0||(jG r==aY.getD (4+side) 0||jG r==aY.getD (6+side) 0))
theorem aeW(r:Int)(w:World)(tt:TypeId)(fr:Nat×Nat)(hsp:w.heap[11]? =some (.cells kY tt fr)):
  Calls prog 265 #[.int .i32 r,.int .i64 0] w fun e w'=>e= .returned (.bool (vB 0 r))/\Below w.heap.size w w':=by
 have HI:Hid (∀(k:Nat)(_:k<4)(w:World),(Instr.index 304 (.agg kY) (.int .i64 k)).run prog w= .ok (.agg #[.int .i32 (aY.getD (2*k) 0),.int .i32 (aY.getD (2*k+1) 0)]) w):=MK;have HH:Hid (w.heap[11]? =some (.cells kY tt fr)):=hsp;have HZ:=Tryz.OQ;clear hsp;generalize kY=sv at HI HH HZ;have HC:Hid (∀W,Calls prog 266 #[.int .i32 r] W fun e w'=>e= .returned (.int .i32 (jG r))/\w'=W):=fun W=>KP r W
 have HP:Hid (vB 0 r=(jG r==aY.getD 0 0||(jG r==aY.getD (2+0) 0||(jG r==aY.getD (4+0) 0||jG r==aY.getD (6+0) 0)))):=rfl;generalize vB 0 r=P at*;generalize jG r=c at*;go_enter func265,ntmps265;go_wp2_with(refine wpList_load_row rfl 304 _ rfl 11 rfl tt _ fr _ HH.out underlying304 rfl HZ ?_);go_loopg [8] 4 (fun gk iv W=>∃k:Nat,k<=4/\gk=4 - k/\iv= .int .i64 k/\Below w.heap.size w W/\∀i,i<k->¬aY.getD (2*i) 0=c);case atStart=>exact⟨0,by omega,rfl,rfl,Below.refl _ _,fun i h=>by omega⟩
 case round=>
  obtain⟨k,hk,rfl,rfl,hb,hno⟩:=hrel;have hbz:=hb.size;by_cases hlt:k<4
  .have hlt':(k:Int)<4:=by omega
   have hix:=fun wx=>HI.out k hlt wx
   have HN:Hid (∀i,i<k->¬aY.getD (2*i) 0=c):=hno;have HB:Hid (Below w.heap.size w wr):=hb;clear hno hb;by_cases he:aY.getD (2*k) 0=c
   .have HQ:Hid (P=true):=by
     show _=_;rw [HP.out,<-he]
     match k,hlt with
     |0,_=>rfl
     |1,_=>rfl
     |2,_=>rfl
     |3,_=>rfl
    have qe:(aY.getD (2*k) 0==c)=true:=by simpa using he
    clear he;generalize aY.getD (2*k+1) 0=b1 at*;generalize aY.getD (2*k) 0=b0 at*;go_wp2_with fail;go_quiet(first|(go_at_call 266;refine Calls.quiet_of_same (HC.out _)));go_wp2;go_ret;exact⟨jO HQ.out.symm,below_drewN (HB.out.alloc hbz _) _⟩
   .have qe:(aY.getD (2*k) 0==c)=false:=by simpa using he
    have nS:Hid (∀i,i<k+1->¬aY.getD (2*i) 0=c):=fun i hi=>by
     rcases Nat.lt_or_ge i k with h|h
     .exact HN.out i h
     .rw [show i=k by omega];exact he
    clear he;generalize aY.getD (2*k+1) 0=b1 at*;generalize aY.getD (2*k) 0=b0 at*;go_wp2_with fail;go_quiet(first|(go_at_call 266;refine Calls.quiet_of_same (HC.out _)));go_wp2;go_roundg (4 - (k+1));case measure=>omega
    case rel=>exact⟨k+1,by omega,rfl,by go_num,below_drewN (HB.out.alloc hbz _) _,nS.out⟩
  .have hlt':¬(k:Int)<4:=by omega
   have HQ:Hid (P=false):=by
    show _=_;have e0:=hno 0 (by omega);have e1:=hno 1 (by omega);have e2:=hno 2 (by omega);have e3:=hno 3 (by omega);rw [HP.out];simp [aY]at e0 e1 e2 e3 ⊢;omega
   have HB:Hid (Below w.heap.size w wr):=hb;clear hno hb;go_wp2;go_ret;exact⟨jO HQ.out.symm,HB.out⟩
theorem aeX(r:Int)(w:World)(tt:TypeId)(fr:Nat×Nat)(hsp:w.heap[11]? =some (.cells kY tt fr)):
  Calls prog 265 #[.int .i32 r,.int .i64 1] w fun e w'=>e= .returned (.bool (vB 1 r))/\Below w.heap.size w w':=by
 have HI:Hid (∀(k:Nat)(_:k<4)(w:World),(Instr.index 304 (.agg kY) (.int .i64 k)).run prog w= .ok (.agg #[.int .i32 (aY.getD (2*k) 0),.int .i32 (aY.getD (2*k+1) 0)]) w):=MK;have HH:Hid (w.heap[11]? =some (.cells kY tt fr)):=hsp;have HZ:=Tryz.OQ;clear hsp;generalize kY=sv at HI HH HZ;have HC:Hid (∀W,Calls prog 266 #[.int .i32 r] W fun e w'=>e= .returned (.int .i32 (jG r))/\w'=W):=fun W=>KP r W
 have HP:Hid (vB 1 r=(jG r==aY.getD 1 0||(jG r==aY.getD (2+1) 0||(jG r==aY.getD (4+1) 0||jG r==aY.getD (6+1) 0)))):=rfl;generalize vB 1 r=P at*;generalize jG r=c at*;go_enter func265,ntmps265;go_wp2_with(refine wpList_load_row rfl 304 _ rfl 11 rfl tt _ fr _ HH.out underlying304 rfl HZ ?_);go_loopg [8] 4 (fun gk iv W=>∃k:Nat,k<=4/\gk=4 - k/\iv= .int .i64 k/\Below w.heap.size w W/\∀i,i<k->¬aY.getD (2*i+1) 0=c);case atStart=>exact⟨0,by omega,rfl,rfl,Below.refl _ _,fun i h=>by omega⟩
 case round=>
  obtain⟨k,hk,rfl,rfl,hb,hno⟩:=hrel;have hbz:=hb.size;by_cases hlt:k<4
  .have hlt':(k:Int)<4:=by omega
   have hix:=fun wx=>HI.out k hlt wx
   have HN:Hid (∀i,i<k->¬aY.getD (2*i+1) 0=c):=hno;have HB:Hid (Below w.heap.size w wr):=hb;clear hno hb;by_cases he:aY.getD (2*k+1) 0=c
   .have HQ:Hid (P=true):=by
     show _=_;rw [HP.out,<-he]
     match k,hlt with
     |0,_=>rfl
     |1,_=>rfl
     |2,_=>rfl
     |3,_=>rfl
    have qe:(aY.getD (2*k+1) 0==c)=true:=by simpa using he
    clear he;generalize aY.getD (2*k+1) 0=b1 at*;generalize aY.getD (2*k) 0=b0 at*;go_wp2_with fail;go_quiet(first|(go_at_call 266;refine Calls.quiet_of_same (HC.out _)));go_wp2;go_ret;exact⟨jO HQ.out.symm,below_drewN (HB.out.alloc hbz _) _⟩
   .have qe:(aY.getD (2*k+1) 0==c)=false:=by simpa using he
    have nS:Hid (∀i,i<k+1->¬aY.getD (2*i+1) 0=c):=fun i hi=>by
     rcases Nat.lt_or_ge i k with h|h
     .exact HN.out i h
     .rw [show i=k by omega];exact he
    clear he;generalize aY.getD (2*k+1) 0=b1 at*;generalize aY.getD (2*k) 0=b0 at*;go_wp2_with fail;go_quiet(first|(go_at_call 266;refine Calls.quiet_of_same (HC.out _)));go_wp2;go_roundg (4 - (k+1));case measure=>omega
    case rel=>exact⟨k+1,by omega,rfl,by go_num,below_drewN (HB.out.alloc hbz _) _,nS.out⟩
  .have hlt':¬(k:Int)<4:=by omega
   have HQ:Hid (P=false):=by
    show _=_;have e0:=hno 0 (by omega);have e1:=hno 1 (by omega);have e2:=hno 2 (by omega);have e3:=hno 3 (by omega);rw [HP.out];simp [aY]at e0 e1 e2 e3 ⊢;omega
   have HB:Hid (Below w.heap.size w wr):=hb;clear hno hb;go_wp2;go_ret;exact⟨jO HQ.out.symm,HB.out⟩
theorem Bu(r:Int):jG r=canon r:=rfl
theorem aeZ(r:Int):vB 0 r=decide ((brk r).1=1):=by
 unfold vB brk;rw [Bu];generalize canon r=c;rw [Bool.eq_iff_iff];simp only [aY,List.getD_cons_zero,List.getD_cons_succ,Bool.or_eq_true,beq_iff_eq,decide_eq_true_eq];by_cases h:c=40∨c=91∨c=123∨c=12296
 .rw [if_pos h];simp;exact h
 .rw [if_neg h];constructor
  .intro h2;exact absurd h2 h
  .intro h2;split at h2
   .cases h2
   .split at h2
    .cases h2
    .split at h2
     .cases h2
     .split at h2<;>cases h2
theorem aeY(r:Int):vB 1 r=decide ((brk r).1=2):=by
 unfold vB brk;rw [Bu];generalize canon r=c;rw [Bool.eq_iff_iff];simp only [aY,List.getD_cons_zero,List.getD_cons_succ,Bool.or_eq_true,beq_iff_eq,decide_eq_true_eq];by_cases h:c=40∨c=91∨c=123∨c=12296
 .rw [if_pos h];simp;omega
 .rw [if_neg h];constructor
  .intro h2;rcases h2 with rfl|rfl|rfl|rfl<;>simp
  .intro h2;split at h2
   .omega
   .split at h2
    .omega
    .split at h2
     .omega
     .split at h2
      .omega
      .cases h2
theorem XO(r:Int)(w:World)(tt:TypeId)(fr:Nat×Nat)(hsp:w.heap[11]? =some (.cells kY tt fr)):
  Calls prog 243 #[.int .i32 r] w fun e w'=>e= .returned (.bool (decide ((brk r).1=1)))/\Below w.heap.size w w':=by
 have HI:Hid (Calls prog 265 #[.int .i32 r,.int .i64 0] w fun e w'=>e= .returned (.bool (decide ((brk r).1=1)))/\Below w.heap.size w w'):=by rw [<-aeZ];exact aeW r w tt fr hsp
 clear hsp;generalize decide ((brk r).1=1)=b at*;go_enter func243,ntmps243;go_wp2_with fail;refine HI.out.mono ?_;rintro ev w2 ⟨rfl,hb⟩;have HB:Hid (Below w.heap.size w w2):=hb;clear hb;go_wp2;go_ret;exact⟨rfl,HB.out⟩
theorem R4(r:Int)(w:World)(tt:TypeId)(fr:Nat×Nat)(hsp:w.heap[11]? =some (.cells kY tt fr)):
  Calls prog 245 #[.int .i32 r] w fun e w'=>e= .returned (.bool (decide ((brk r).1=2)))/\Below w.heap.size w w':=by
 have HI:Hid (Calls prog 265 #[.int .i32 r,.int .i64 1] w fun e w'=>e= .returned (.bool (decide ((brk r).1=2)))/\Below w.heap.size w w'):=by rw [<-aeY];exact aeX r w tt fr hsp
 clear hsp;generalize decide ((brk r).1=2)=b at*;go_enter func245,ntmps245;go_wp2_with fail;refine HI.out.mono ?_;rintro ev w2 ⟨rfl,hb⟩;have HB:Hid (Below w.heap.size w w2):=hb;clear hb;go_wp2;go_ret;exact⟨rfl,HB.out⟩
def wQ(x y:Int):Bool:=(x==40&&y==41)||((x==91&&y==93)||((x==123&&y==125)||(x==12296&&y==12297)))
theorem adl {a r:Int}(ha:(brk a).1=1)(hr:(brk r).1=2):wQ (canon a) (canon r)=decide ((brk a).2=(brk r).2):=by
 unfold brk at*;generalize canon a=x at*;generalize canon r=y at*;by_cases hx:x=40∨x=91∨x=123∨x=12296
 .rw [if_pos hx];by_cases hy:y=40∨y=91∨y=123∨y=12296
  .rw [if_pos hy]at hr;cases hr
  .rw [if_neg hy]at hr ⊢;by_cases y1:y=41
   .subst y1;unfold wQ;rcases hx with rfl|rfl|rfl|rfl<;>decide
   .rw [if_neg y1]at hr ⊢;by_cases y2:y=93
    .subst y2;unfold wQ;rcases hx with rfl|rfl|rfl|rfl<;>decide
    .rw [if_neg y2]at hr ⊢;by_cases y3:y=125
     .subst y3;unfold wQ;rcases hx with rfl|rfl|rfl|rfl<;>decide
     .rw [if_neg y3]at hr ⊢;by_cases y4:y=12297
      .subst y4;unfold wQ;rcases hx with rfl|rfl|rfl|rfl<;>decide
      .rw [if_neg y4]at hr;cases hr
 .rw [if_neg hx]at ha;exfalso;split at ha
  .cases ha
  .split at ha
   .cases ha
   .split at ha
    .cases ha
    .split at ha<;>cases ha
def wF(rs:List Int)(st:List Nat):Prop:=∀a∈st,(brk (rs.getD a 0)).1=1
theorem wF.step {t rs:List Int}{i:Nat}{x y:List Nat×List (Nat×Nat)}(h:wF rs x.1)(hy:oh t rs i x=some y):wF rs y.1:=by
 unfold oh at hy;split at hy
 .split at hy
  .split at hy
   .cases hy
   .obtain rfl:=Option.some.inj hy;intro a ha;simp at ha;rcases ha with ha|rfl
    .exact h a ha
    .assumption
  .split at hy
   .split at hy
    .obtain rfl:=Option.some.inj hy;exact fun a ha=>h a (List.mem_of_mem_take ha)
    .obtain rfl:=Option.some.inj hy;exact h
   .obtain rfl:=Option.some.inj hy;exact h
 .obtain rfl:=Option.some.inj hy;exact h
theorem EJ {t rs:List Int}{n i:Nat}{x y:List Nat×List (Nat×Nat)}(h:oh t rs i x=some y):eO t rs (n+1) i x=eO t rs n (i+1) y:=by
 rw [eO,h]
theorem agU {t rs:List Int}{n i:Nat}{x:List Nat×List (Nat×Nat)}(h:oh t rs i x=none):eO t rs (n+1) i x=none:=by
 rw [eO,h]
theorem Tryz.aeQ:(prog.info? 21).map (fun i=>(i.zero,i.size,i.bytes))=some (some (.int .i32 0),1,4):=by kernel_rfl
theorem Tryz.FT:prog.cellsOf 21=1:=by kernel_rfl
theorem Tryz.Pe:prog.underlying 303=some (.array 2 21):=by kernel_rfl
theorem Tryz.Pf:prog.underlying 285=some (.map 303 305):=by kernel_rfl
theorem Tryz.X7(a b:Int)(w:World):(part 21 #[.int .i32 a,.int .i32 b] 0).run prog w= .ok (.int .i32 a) w/\(part 21 #[.int .i32 a,.int .i32 b] 1).run prog w= .ok (.int .i32 b) w:=⟨by kernel_rfl,by kernel_rfl⟩
theorem Tryz.acW(a b x y:Int)(w:World):(Op.equal 303 (.agg #[.int .i32 a,.int .i32 b]) (.agg #[.int .i32 x,.int .i32 y])).run prog w= .ok (a==x&&b==y) w:=by
 obtain⟨i,hi,_⟩:=info_parts Tryz.aeQ;have r:∀(p q:Int)(w:World),(Op.equalIn 9999 21 (.int .i32 p) (.int .i32 q)).run prog w= .ok (p==q) w:=fun p q w=>run_equalIn_int w 9998 21 .i32 .i32 p q underlying21
 have e:List.range 2=[0,1]:=rfl;obtain⟨p1,p2⟩:=Tryz.X7 a b w;obtain⟨q1,q2⟩:=Tryz.X7 x y w;show(Op.equalIn 10000 _ _ _).run _ _=_;rw [run_equalIn_array w 9999 _ _ Tryz.Pe hi,e,Tryz.FT];cases h1:(a==x)<;>cases h2:(b==y)<;>simp [Op.eqItems,p1,p2,q1,q2,r,h1,h2]
theorem Tryz.KJ(em:Bool)(a b:Int)(w:World):(Instr.checkKey em 10000 303 (.agg #[.int .i32 a,.int .i32 b])).run prog w= .ok () w:=by kernel_rfl
def Gx(k:Nat):Value:= .agg #[.int .i32 (aY.getD (2*k) 0),.int .i32 (aY.getD (2*k+1) 0)]
def mo(k:Nat):List MapEntry:=(List.range k).map fun i=>⟨Gx i,.agg #[],i⟩
def sS(w:World)(fb:Nat):Prop:=w.heap[fb]? =some (.map (mo 4).toArray 4)
theorem adk(k:Nat):(mo k).toArray.push ⟨Gx k,.agg #[],k⟩=(mo (k+1)).toArray:=by
 simp [mo,List.range_succ]
theorem Ll(a b:Int)(w:World):∀(l:List Nat)(i:Nat),∃r,(Instr.findAsking 303 (.agg #[.int .i32 a,.int .i32 b]) (l.map fun i=>⟨Gx i,.agg #[],i⟩) i).run prog w= .ok r w/\
  ((r=none/\∀j∈l,¬(aY.getD (2*j) 0=a/\aY.getD (2*j+1) 0=b))∨∃q,r=some (q,.agg #[])/\∃j∈l,aY.getD (2*j) 0=a/\aY.getD (2*j+1) 0=b)
 |[],i=>⟨none,aic w _ _ i,.inl ⟨rfl,by simp⟩⟩
 |j::l,i=>by
  obtain⟨r,hr,h⟩:=Ll a b w l (i+1);have hq:(Op.equal 303 (.agg #[.int .i32 a,.int .i32 b]) (MapEntry.mk (Gx j) (.agg #[]) j).key).run prog w= .ok (a==aY.getD (2*j) 0&&b==aY.getD (2*j+1) 0) w:=Tryz.acW a b (aY.getD (2*j) 0) (aY.getD (2*j+1) 0) w;rw [List.map_cons,aib i hq];clear hq;by_cases he:a=aY.getD (2*j) 0/\b=aY.getD (2*j+1) 0
  .rw [if_pos (by rw [Bool.and_eq_true,beq_iff_eq,beq_iff_eq];exact he)];exact⟨_,rfl,.inr ⟨i,rfl,j,by simp,he.1.symm,he.2.symm⟩⟩
  .rw [if_neg (by rw [Bool.and_eq_true,beq_iff_eq,beq_iff_eq];exact he)];refine⟨r,hr,?_⟩;rcases h with⟨rfl,h2⟩|⟨q,rfl,k,hk,h3⟩
   .refine .inl ⟨rfl,fun k hk=> ?_⟩;rcases List.mem_cons.1 hk with rfl|hk
    .exact fun h=>he ⟨h.1.symm,h.2.symm⟩
    .exact h2 k hk
   .exact .inr ⟨q,rfl,k,by simp [hk],h3⟩
theorem TD(a b:Int)(w:World)(k:Nat):(Instr.findKey 303 (.agg #[.int .i32 a,.int .i32 b]) (mo k)).run prog w=(Instr.findAsking 303 (.agg #[.int .i32 a,.int .i32 b]) (mo k)).run prog w:=by
 cases k with
 |zero=>simp [Instr.findKey,mo,run_underlying Tryz.Pe,Instr.findNow,Instr.findAsking]
 |succ k=>
  unfold mo;rw [List.range_succ_eq_map,List.map_cons];simp [Instr.findKey,run_underlying Tryz.Pe,Instr.findNow,Instr.sameNow]
theorem fit_look(a b:Int)(w:World)(fb:Nat)(h:sS w fb):(Instr.lookup 285 (.map (some fb)) (.agg #[.int .i32 a,.int .i32 b]) true).run prog w= .ok (.tuple #[.agg #[],.bool (wQ a b)]) w:=by
 have hf:=TD a b w 4;obtain⟨r,hr,hc⟩:=Ll a b w (List.range 4) 0;have hz:(zeroValue 305).run prog w= .ok (.agg #[]) w:=by kernel_rfl
 rcases hc with⟨rfl,h2⟩|⟨q,rfl,j,hj,h3⟩
 .have e:=YZ true Tryz.Pf hz h (fun em=>Tryz.KJ em a b w) (hf.trans hr);rw [e];have e0:=h2 0 (by simp);have e1:=h2 1 (by simp);have e2:=h2 2 (by simp);have e3:=h2 3 (by simp);have:wQ a b=false:=by
   unfold wQ;simp [aY]at e0 e1 e2 e3 ⊢;omega
  rw [this];rfl
 .have e:=Y0 true Tryz.Pf h (fun em=>Tryz.KJ em a b w) (hf.trans hr);rw [e];have:wQ a b=true:=by
   rw [<-h3.1,<-h3.2];have BH:j<4:=by simpa using hj
   match j,BH with
   |0,_=>rfl
   |1,_=>rfl
   |2,_=>rfl
   |3,_=>rfl
  rw [this];rfl
theorem aby:∀k,k<4->∀j,j<k->aY.getD (2*j) 0≠aY.getD (2*k) 0:=by decide
theorem fit_store(k:Nat)(hk:k<4)(w:World)(fb:Nat)(h:w.heap[fb]? =some (.map (mo k).toArray k)):(Instr.mapUpdate 285 (.map (some fb)) (.agg #[.int .i32 (aY.getD (2*k) 0),.int .i32 (aY.getD (2*k+1) 0)]) (.agg #[])).run prog w= .ok () (ChangeMaps.setBlock w fb (.map (mo (k+1)).toArray (k+1))):=by
 obtain⟨r,hr,hc⟩:=Ll (aY.getD (2*k) 0) (aY.getD (2*k+1) 0) w (List.range k) 0;have hf:=TD (aY.getD (2*k) 0) (aY.getD (2*k+1) 0) w k;rcases hc with⟨rfl,_⟩|⟨q,rfl,j,hj,h3,h4⟩
 .have e:=Y1 (val:= .agg #[]) Tryz.Pf h (Tryz.KJ false _ _ w) (hf.trans hr);rw [e,<-adk];rfl
 .exfalso;have BH:j<k:=by simpa using hj
  exact aby k hk j BH h3
theorem Rx {B fb:Nat}{w W:World}(h:Below B w W)(hb:B<=fb)(o:Obj):Below B w (ChangeMaps.setBlock W fb o):=
 h.trans ⟨rfl,rfl,rfl,by simp [ChangeMaps.setBlock],fun k hk=>by simp [ChangeMaps.setBlock,Array.getElem?_setIfInBounds_ne (show fb≠k by omega)]⟩
theorem Ze {W:World}{fb:Nat}{o o':Obj}(h:W.heap[fb]? =some o):(ChangeMaps.setBlock W fb o').heap[fb]? =some o':=by
 have:=(Array.getElem?_eq_some_iff.1 h).1;simp [ChangeMaps.setBlock,this]
theorem abY(w:World)(tt:TypeId)(fr:Nat×Nat)(hsp:w.heap[11]? =some (.cells kY tt fr)):
  Calls prog 242 #[] w fun e w'=>e= .returned (.map (some w.heap.size))/\sS w' w.heap.size/\Below w.heap.size w w':=by
 have HI:Hid (∀(k:Nat)(_:k<4)(w:World),(Instr.index 304 (.agg kY) (.int .i64 k)).run prog w= .ok (.agg #[.int .i32 (aY.getD (2*k) 0),.int .i32 (aY.getD (2*k+1) 0)]) w):=MK;have HH:Hid ((w.alloc (.map #[] 0)).heap[11]? =some (.cells kY tt fr)):=aR ((Below.refl _ _).alloc (Nat.le_refl _) _) hsp;have HZ:=Tryz.OQ;have HM:Hid ((w.alloc (.map #[] 0)).heap[w.heap.size]? =some (.map (mo 0).toArray 0)):=Array.getElem?_push_size;have HB1:Hid (Below w.heap.size w (w.alloc (.map #[] 0))):=(Below.refl _ _).alloc (Nat.le_refl _) _;have hmm:=@run_makeMap prog;clear hsp;generalize kY=sv at HI HH HZ;go_enter func242,ntmps242;go_wp2_with(refine wpList_load_row rfl 304 _ rfl 11 rfl tt _ fr _ HH.out underlying304 rfl HZ ?_);generalize w.alloc (.map #[] 0)=W1 at*;obtain⟨fb,wX⟩:∃fb,fb=w.heap.size:=⟨_,rfl⟩
 have HF:Hid (w.heap.size<=fb/\fb=w.heap.size):=⟨by omega,wX⟩
 rw [<-wX]at HM ⊢;rw [wX];have Qk:Hid (W1.heap[fb]? =some (.map (mo 0).toArray 0)):=HM;clear HM hmm;rw [<-wX];clear wX;go_loopg [6] 4 (fun gk iv W=>∃k:Nat,k<=4/\gk=4 - k/\iv= .int .i64 k/\Below w.heap.size w W/\W.heap[fb]? =some (.map (mo k).toArray k));case atStart=>exact⟨0,by omega,rfl,rfl,HB1.out,Qk.out⟩
 case round=>
  clear HB1 Qk;obtain⟨k,hk,rfl,rfl,hb,hm⟩:=hrel;have hbz:=hb.size;by_cases hlt:k<4
  .have hlt':(k:Int)<4:=by omega
   have hix:=fun wx=>HI.out k hlt wx
   have hup:=fit_store k hlt (wr.alloc (.cells #[.int .i32 (aY.getD (2*k) 0),.int .i32 (aY.getD (2*k+1) 0)] 303)) fb (aR ((Below.refl _ _).alloc (Nat.le_refl _) _) hm);have HB:Hid (Below w.heap.size w (ChangeMaps.setBlock (wr.alloc (.cells #[.int .i32 (aY.getD (2*k) 0),.int .i32 (aY.getD (2*k+1) 0)] 303)) fb (.map (mo (k+1)).toArray (k+1)))):=Rx (hb.alloc hbz _) HF.out.1 _;have Jw:Hid ((ChangeMaps.setBlock (wr.alloc (.cells #[.int .i32 (aY.getD (2*k) 0),.int .i32 (aY.getD (2*k+1) 0)] 303)) fb (.map (mo (k+1)).toArray (k+1))).heap[fb]? =some (.map (mo (k+1)).toArray (k+1))):=Ze (aR ((Below.refl _ _).alloc (Nat.le_refl _) _) hm);clear hm hb;generalize aY.getD (2*k+1) 0=b1 at*;generalize aY.getD (2*k) 0=b0 at*;generalize ChangeMaps.setBlock (wr.alloc (.cells #[.int .i32 b0,.int .i32 b1] 303)) fb (.map (mo (k+1)).toArray (k+1))=W2 at*;go_wp2;go_roundg (4 - (k+1));case measure=>omega
   case rel=>exact⟨k+1,by omega,rfl,by go_num,HB.out,Jw.out⟩
  .have hlt':¬(k:Int)<4:=by omega
   obtain rfl:k=4:=by omega
   have HB:Hid (Below w.heap.size w wr):=hb;have Jw:Hid (sS wr fb):=hm;clear hm hb;go_wp2;go_ret;exact⟨by rw [HF.out.2];rfl,by rw [<-HF.out.2];exact Jw.out,HB.out⟩
theorem dG.below {w w':World}{B s:Nat}{v:Value}{l:List Nat}(h:dG w B s v l)(hb:Below w.heap.size w w'):dG w' B s v l:=⟨aR hb h.cell,own_below h.row hb,h.low⟩
theorem aU.after {w W w':World}{s:Nat}{v v':Value}(hb:Below w.heap.size w W)(h:aU W w' s v v'):aU w w' s v v':=
 ⟨h.os.trans hb.os,h.tape.trans hb.tape,h.output.trans hb.output,Nat.le_trans hb.size h.size,fun k hk h1 h2=>(h.block k (Nat.lt_of_lt_of_le hk hb.size) h1 h2).trans (hb.block k hk),by
  rcases h.own with h1|h1
  .exact .inl h1
  .exact .inr fun k hk=>Nat.le_trans hb.size (h1 k hk)⟩
theorem sS.below {w w':World}{fb:Nat}(h:sS w fb)(hb:Below w.heap.size w w'):sS w' fb:=aR hb h
def wC(w:World)(gr n:Nat)(rs:List Int):Prop:=∀k,k<n->w.cell? ⟨gr,k,none⟩=some (.int .i32 (rs.getD k 0))
theorem wC.below {w w':World}{gr n:Nat}{rs:List Int}(h:wC w gr n rs)(hb:Below w.heap.size w w'):wC w' gr n rs:=fun k hk=>by
 rw [hb.cell (p:=⟨gr,k,none⟩) (World.block_lt_of_cell? w _ (h k hk))];exact h k hk
theorem abX(w:World)(B sb gc n cc gr cr B' s fb:Nat)(v pv bv:Value)(ah aa aj:Int)(t rs:List Int)(st:List Nat)(r:Int)(h:aA w B sb gc n cc pv (.slice (some ⟨gr,0,none⟩) n cr) bv ah aa aj t)(hr:wC w gr n rs)(hS:dG w B' s v st)(hF:sS w fb)(hst:∀a∈st,a<n)(hO:wF rs st)(hc:(brk r).1=2)(hl:st.length<=1000):
  Calls prog 246 #[.pointer (some ⟨sb,0,none⟩),.pointer (some ⟨s,0,none⟩),.map (some fb),.int .i32 r] w fun e w'=>
   (∃m v',lW rs (brk r).2 st st.length=some m/\e= .returned (.tuple #[.int .i64 (st.getD m 0:Nat),.bool true])/\dG w' B' s v' (st.take m)/\aU w w' s v v')∨
   (lW rs (brk r).2 st st.length=none/\e= .returned (.tuple #[.int .i64 0,.bool false])/\Below w.heap.size w w'):=by
 have HL:Hid (Calls prog 244 #[.pointer (some ⟨s,0,none⟩)] w fun e w'=>e= .returned (.int .i64 st.length)/\w'=w):=M8 w B' s v st hS;have HC:Hid (∀(x:Int)(W:World),Calls prog 266 #[.int .i32 x] W fun e w'=>e= .returned (.int .i32 (jG x))/\w'=W):=fun x W=>KP x W
 have H1:Hid (aA w B sb gc n cc pv (.slice (some ⟨gr,0,none⟩) n cr) bv ah aa aj t):=h;have H2:Hid (wC w gr n rs):=hr;have H3:Hid (dG w B' s v st):=hS;have H4:Hid (sS w fb):=hF;have H5:Hid (∀a∈st,a<n):=hst;have H6:Hid (wF rs st):=hO;have H7:Hid ((brk r).1=2):=hc;clear h hr hS hF hst hO hc;obtain⟨R,hR⟩:∃R,R=(brk r).2:=⟨_,rfl⟩
 rw [<-hR];have HRR:Hid (R=(brk r).2):=hR;clear hR;go_enter func246,ntmps246;go_wp2_with fail;refine HL.out.mono ?_;rintro ev wx ⟨rfl,hx⟩;have hx':=hx.symm;subst hx';clear HL;have hlz:(0:Int)<=(st.length:Int):=Int.natCast_nonneg _;have hl':(st.length:Int)<=1000:=by omega
 go_wp2;go_loopg [10] st.length (fun gk iv W=>∃(m:Nat)(i:Int),m<=st.length/\gk=m/\iv= .int .i64 i/\i=(m:Int) - 1/\Below w.heap.size w W/\lW rs R st m=lW rs R st st.length);case atStart=>exact⟨st.length,_,Nat.le_refl _,rfl,rfl,by go_num,Below.refl _ _,rfl⟩
 case round=>
  clear hlz hl';obtain⟨m,i,hm,GY,rfl,hi,hb,hsh⟩:=hrel;have HB:Hid (Below w.heap.size w wr):=hb;cases m with
  |zero=>
   have HN:Hid (lW rs R st st.length=none):=hsh.symm;obtain rfl:i= -1:=by simpa using hi
   clear hsh hb hi;go_wp2;go_ret2;exact .inr ⟨HN.out,rfl,HB.out⟩
  |succ m=>
   obtain rfl:i=(m:Int):=by omega
   clear hi;have G7:m<st.length:=by omega
   have hp:st.getD m 0<n:=H5.out _ (dB G7);have hbr:(brk (rs.getD (st.getD m 0) 0)).1=1:=H6.out _ (dB G7);have HA:Hid (Calls prog 234 #[.pointer (some ⟨s,0,none⟩),.int .i64 m] wr fun e w'=>e= .returned (.tuple #[.int .i64 (st.getD m 0:Nat),.bool true])/\w'=wr):=Rk wr B' s v st m (H3.out.below hb) G7;have hfit:=adl hbr H7.out;rw [<-HRR.out]at hfit;have c1:wr.cell? ⟨sb,1,none⟩=some (.slice (some ⟨gr,0,none⟩) n cr):=au (H1.out.below hb).cell 1;have cr':=(H2.out.below hb) _ hp;have hlk:=fit_look (jG (rs.getD (st.getD m 0) 0)) (jG r) wr fb (H4.out.below hb);rw [Bu,Bu,hfit]at hlk;rw [lW]at hsh;have hp':((st.getD m 0:Nat):Int)<(n:Int):=by omega
   have hp0:(0:Int)<=((st.getD m 0:Nat):Int):=Int.natCast_nonneg _;have hm0:(0:Int)<=(m:Int):=Int.natCast_nonneg _;have hm1:(m:Int)<=1000:=by omega
   have Fp:Hid (Calls prog 266 #[.int .i32 (rs.getD (st.getD m 0) 0)] wr fun e w'=>e= .returned (.int .i32 (canon (rs.getD (st.getD m 0) 0)))/\w'=wr):=by rw [<-Bu];exact HC.out _ wr
   have Fq:Hid (Calls prog 266 #[.int .i32 r] wr fun e w'=>e= .returned (.int .i32 (canon r))/\w'=wr):=by rw [<-Bu];exact HC.out _ wr
   have HB2:Hid (Below w.heap.size w (wr.alloc (.cells #[] 305))):=hb.alloc hb.size _;clear hb hbr hfit;generalize hP:st.getD m 0=p at*;generalize rs.getD p 0=x at*;by_cases hq:(brk x).2=R
   .rw [if_pos hq]at hsh;rw [decide_eq_true hq]at hlk;have HN:Hid (lW rs R st st.length=some m):=hsh.symm;have vY:Hid (Calls prog 235 #[.pointer (some ⟨s,0,none⟩),.int .i64 m] (wr.alloc (.cells #[] 305)) fun e w'=>e= .returned (.tuple #[])/\∃v',dG w' B' s v' (st.take m)/\aU (wr.alloc (.cells #[] 305)) w' s v v'):=Si _ B' s v st m (H3.out.below HB2.out) G7 (by omega);have HPp:Hid (st.getD m 0=p):=hP;clear hsh hq hP;go_wp2_with fail;refine HA.out.mono ?_;rintro ev wx ⟨rfl,hx⟩;have hx':=hx.symm;subst hx';clear HA;go_wp2_with fail;refine Fp.out.mono ?_;rintro ev wx ⟨rfl,hx⟩;have hx':=hx.symm;subst hx';clear Fp;go_wp2_with fail;refine Fq.out.mono ?_;rintro ev wx ⟨rfl,hx⟩;have hx':=hx.symm;subst hx';clear Fq;go_wp2_with fail;refine vY.out.mono ?_;rintro ev wy ⟨rfl,v',hs',hf'⟩;have HS':Hid (dG wy B' s v' (st.take m)):=hs';have HF':Hid (aU w wy s v v'):=hf'.after HB2.out;clear hs' hf' vY;go_wp2;go_ret2;exact .inl ⟨m,v',HN.out,by rw [HPp.out];rfl,HS'.out,HF'.out⟩
   .rw [if_neg hq]at hsh;rw [decide_eq_false hq]at hlk;have HN:Hid (lW rs R st m=lW rs R st st.length):=hsh;clear hsh hq hP;go_wp2_with fail;refine HA.out.mono ?_;rintro ev wx ⟨rfl,hx⟩;have hx':=hx.symm;subst hx';clear HA;go_wp2_with fail;refine Fp.out.mono ?_;rintro ev wx ⟨rfl,hx⟩;have hx':=hx.symm;subst hx';clear Fp;go_wp2_with fail;refine Fq.out.mono ?_;rintro ev wx ⟨rfl,hx⟩;have hx':=hx.symm;subst hx';clear Fq;go_wp2;go_roundg m;case measure=>omega
    case rel=>exact⟨m,_,by omega,rfl,rfl,by go_num,HB2.out,HN.out⟩
section
open Go.RowKit Go.Shelf Go.Lib Go.Sort
def wN(x:Nat×Nat):List Value:=[.int .i64 (x.1:Nat),.int .i64 (x.2:Nat)]
def zK(x y:Nat×Nat):Int:=Lib.compareInt (x.1:Nat) (y.1:Nat)
theorem acj(x y:Nat×Nat)(W:World):Calls prog 248 #[.agg #[.int .i64 (x.1:Nat),.int .i64 (x.2:Nat)],.agg #[.int .i64 (y.1:Nat),.int .i64 (y.2:Nat)]] W fun e w'=>e= .returned (.int .i64 (zK x y))/\∃q os',w'=grow (W.drewN q) os':=by
 have hcon:=fun W'=>AnyG.cmp_Compare_int Tryz.laysCmp (x.1:Nat) (y.1:Nat) W'
 change∀W',Calls prog 249 _ _ _ at hcon;unfold zK;generalize Lib.compareInt (x.1:Nat) (y.1:Nat)=r at hcon ⊢;go_enter func248,ntmps248;go_wp2_with(go_at_call 249;refine(hcon _).mono ?_;rintro e w' ⟨rfl,rfl⟩);go_ret;exact⟨rfl,0,_,by rw [alloc_eq_grow,alloc_eq_grow,grow_grow];rfl⟩
theorem Ib(x y:Nat×Nat):ltOf zK x y=decide (x.1<y.1):=by
 unfold ltOf zK Lib.compareInt;by_cases h1:x.1<y.1
 .have:(x.1:Int)<(y.1:Int):=by omega
  simp [h1,this]
 .have:¬(x.1:Int)<(y.1:Int):=by omega
  by_cases h2:(y.1:Int)<(x.1:Int)<;>simp [h1,h2,this]
theorem ai3:SWO (ltOf zK) where
 irrefl x:=by rw [Ib];simp
 trans x y z h1 h2:=by rw [Ib]at*;simp at*;omega
 ntrans x y z h1 h2:=by rw [Ib]at*;simp at*;omega
theorem aci(blk off size:Nat)(w:World):CmpLays prog 248 #[] wN 2 zK blk off size w:=fun _ _ _ _ x y=>acj x y _
theorem ag0(l:List (Nat×Nat)):∀(j c:Nat),j<l.length->c<2->(qp l)[j*2+c]? =some ((wN (l.getD j (0,0)))[c]!):=by
 induction l with
 |nil=>intro j c h;simp at h
 |cons a r ih=>
  intro j c hj hc;cases j with
  |zero=>
   match c,hc with
   |0,_=>rfl
   |1,_=>rfl
  |succ j=>
   have:=ih j c (by simpa using hj) hc;rw [show(j+1)*2+c=(j*2+c)+2 by omega];simpa [qp]using this
def lI(w:World)(g:Nat)(ps:List (Nat×Nat)):Prop:=∀j,j<ps.length->w.cell? ⟨g,j*2,none⟩=some (.int .i64 ((ps.getD j (0,0)).1:Nat))/\w.cell? ⟨g,j*2+1,none⟩=some (.int .i64 ((ps.getD j (0,0)).2:Nat))
theorem aer {w:World}{B g cap:Nat}{e:TypeId}{out:List (Nat×Nat)}(h:w.ownsRow B e 2 (.slice (some ⟨g,0,none⟩) out.length cap) out.length (qp out)):HoldsK wN 2 w g 0 out.toArray:=by
 intro j hj;rw [size_flatK]at hj;have hj':j<out.length*2:=by simpa using hj
 refine⟨?_,by rw [Nat.zero_add];exact World.ownsRow.frozenAt h j⟩;rw [Nat.zero_add,World.ownsRow.cellAt h j hj',get_flatK _ _ _ _ hj];have hd:j / 2<out.length:=by omega
 have:=ag0 out (j / 2) (j%2) hd (Nat.mod_lt _ (by decide));rw [show j / 2*2+j%2=j by omega]at this;rw [this]
 congr 2
 simp [List.getD_eq_getElem?_getD,getElem!_def,List.getElem?_eq_getElem hd]
theorem ahB {w:World}{g:Nat}{d:Array (Nat×Nat)}(h:HoldsK wN 2 w g 0 d):lI w g d.toList:=by
 intro j hj;have hj':j<d.size:=by simpa using hj
 have h0:=(h.cell hj' (show 0<2 by decide)).1;have h1:=(h.cell hj' (show 1<2 by decide)).1;have e:d[j]! =d.toList.getD j (0,0):=by
  rw [getElem!_pos d j hj',List.getD_eq_getElem?_getD,List.getElem?_eq_getElem (by simpa using hj')];simp
 rw [e]at h0 h1;simp only [Nat.zero_add,Nat.add_zero]at h0 h1;exact⟨h0,h1⟩
theorem abl {w:World}{B g n:Nat}{d:Array (Nat×Nat)}{os:Array Obj}(hB:B<=g)(hg:g<w.heap.size):Below B w (sortWorldK wN 2 w g 0 n d os):=by
 refine⟨rfl,rfl,rfl,?_,fun k hk=> ?_⟩
 .unfold sortWorldK;rw [size_grow,size_putRowK];show w.heap.size<=w.heap.size+_;omega
 .show((w.heap.modify g _)++os)[k]? =w.heap[k]?;rw [Array.getElem?_append_left (by simp;omega),Array.getElem?_modify,if_neg (by omega)]
theorem aiO(w:World)(B g cap:Nat)(out:List (Nat×Nat))(h:w.ownsRow B 268 2 (.slice (some ⟨g,0,none⟩) out.length cap) out.length (qp out))(hl:out.length<=1000):
  Calls prog 247 #[.slice (some ⟨g,0,none⟩) out.length cap,.func (.func 248) #[] #[]] w fun e w'=>e= .returned (.tuple #[])/\∃ps:List (Nat×Nat),ps.Perm out/\ps.Pairwise (fun a b=>a.1<=b.1)/\lI w' g ps/\Below B w w'/\g<w'.heap.size:=by
 have eg:∀args w,(callFunc 248 args).run prog w= .ok (.enter 248 args) w:=enters_of func248 (by kernel_rfl) rfl;obtain⟨hB,hg⟩:=h.lt g rfl;have hH:=aer h;have hcon:=AnyQ.slices_SortFunc Tryz.laysSort 2 Tryz.isAgg268 Tryz.sizeOf268 wN (fun _=>rfl) (fun x v hv=>by simp [wN]at hv;rcases hv with rfl|rfl<;>rfl) zK ai3 248 #[] g 0 cap out.toArray w eg (aci g 0 _ w) hH hg (by simp;omega);change Calls prog 247 _ _ _ at hcon;have e1:out.toArray.size=out.length:=by simp
 rw [e1]at hcon;refine hcon.mono ?_;rintro e w' ⟨rfl,d',n,os,hp,hs,rfl⟩;have hsz:d'.size=out.length:=by rw [hp.1];simp
 refine⟨rfl,d'.toList,?_,?_,ahB (holdsK_sortWorldK wN 2 w g 0 n out.toArray d' os hg hH (by rw [hsz,e1])),abl hB hg,lt_sortWorldK wN 2 w g 0 n d' os hg⟩
 .have:=hp.2.2;rw [show d'.extract 0 out.length=d' by rw [<-hsz];simp,show out.toArray.extract 0 out.length=out.toArray by simp]at this;simpa using this
 .rw [List.pairwise_iff_getElem];intro i j hi hj hij;have hi':i<d'.size:=by simpa using hi
  have hj':j<d'.size:=by simpa using hj
  have:=hs i j (Nat.zero_le _) hij (by omega);rw [Ib,getElem!_pos d' i hi',getElem!_pos d' j hj']at this;simp at this;simpa using this
end
theorem Zx {P:Program}{ops:Array Oper}{o:Oper}{a:Act}{w:World}{K:Act->World->Prop}{Q:Exit->Act->World->Prop}{E:Prop}(hgd:o.guard=none)(f:FuncId)(x:Operand)(ty:TypeId)
  (ho:o.op= .call {callee:= .value (.func f),args:=#[x],argTypes:=#[ty]}) (hin:∀args w,(callFunc f args).run P w= .ok (.enter f args) w) (v:Value) (hv:a.eval x=v) (R:Value->World->Prop)
  (hc:Calls P f #[v] w fun e w'=>∃u,e= .returned u/\R u w') (h:∀u w',R u w'->K (a.put o.dst u) w'):if Region.wanted o (yielded ops a.tmps)=true then Oper.wp P o a w K Q else E:=by
 have hw:Region.wanted o (yielded ops a.tmps)=true:=by simp [Region.wanted,hgd]
 rw [if_pos hw];have hr:(execOp a.eval o).run P w= .ok (.enter f #[v]) w:=by
  simp [execOp,ho,resolve,invoke,hin,Act.eval,go_sem];rw [<-hv];cases x<;>simp [Act.eval]
 unfold Oper.wp;rw [hr,Oper.upon_enter];refine hc.mono ?_;rintro e w' ⟨u,rfl,hR⟩;exact h u w' hR
theorem iB {P:Program}{f:FuncId}{fn:Func}(hf:P.funcs[f]? =some fn)(h1:(fn.name== "runtime.NumGoroutine")=false)(h2:fn.body.isNone=false):∀args w,(callFunc f args).run P w= .ok (.enter f args) w:=fun args w=>by
 simp only [callFunc,Sem.run_bind,run_program,Result.andThen_ok,hf,h1,h2];rfl
theorem app1(a b:Value):(#[a]++#[b]:Array Value)=#[a,b]:=rfl
theorem Re(a b c:Value):(#[a,b]++#[c]:Array Value)=#[a,b,c]:=rfl
section
variable(w:World)(B sb gc n cc bx:Nat)(pv rv bv:Value)(ah aa aj:Int)(t:List Int)
def J5(a:Nat)(t':List Int)(W:World):Prop:=∃s,aA W B sb gc n cc pv rv bv ah aa aj t'/\W.heap[bx]? =some (.cells #[.pointer (some ⟨sb,0,none⟩)] 146 (0,0))/\w.grownBy W (some gc)/\bz f5 g5 none t (min a n) s t'/\Ahead t' (min a n) s
theorem ajG(hn:n<=1000)(hl:t.length=n)(hso:aa=0∨aa=1)(GX:aj=0∨aj=1)(hbz:bx<w.heap.size):Bd n 208 209 #[.pointer (some ⟨bx,0,none⟩)] #[.pointer (some ⟨bx,0,none⟩)] (J5 w B sb gc n cc bx pv rv bv ah aa aj t) (fun t' i=>t'.getD i 0==5):=by
 refine⟨?_,?_,?_⟩
 .rintro t' a W i ⟨s,hS,hB,hG,hN,hA⟩ _ hi;rw [app1];refine(ae4 W B sb gc n cc bx pv rv bv ah aa aj t' hS hB i hi).mono ?_;rintro e W' ⟨rfl,rfl⟩;exact⟨rfl,s,hS,hB,hG,hN,hA⟩
 .rintro t' a W ⟨s,hS,hB,hG,hN,hA⟩ ha hq;rw [Nat.min_eq_left (by omega)]at hN hA;have h5:¬t.getD a 0=5:=by
   rw [<-hN.at a (Nat.le_refl _)];simpa using hq
  obtain⟨h1,h2⟩:=YP hN (by omega) h5;exact⟨t',some (t.getD a 0),hS,hB,hG,by rw [Nat.min_eq_left (by omega)];exact h1,by rw [Nat.min_eq_left (by omega)];exact h2⟩
 .rintro t' a b W ⟨s,hS,hB,hG,hN,hA⟩ hab hbn hall hend;rw [Nat.min_eq_left (by omega)]at hN hA;have hrun:∀q,a<=q->q<b->t.getD q 0=5:=fun q h1 h2=>by
   rw [<-hN.at q h1];simpa using hall q h1 h2
  have hb5:b<n->¬t.getD b 0=5:=fun h=>by
   rw [<-hN.at b (by omega)];simpa using hend h
  have hx:(dS aa aj t' ((a:Int) - 1)=3↔s=some 3):=by
   rcases hA with⟨rfl,rfl⟩|⟨h0,rfl⟩
   .rw [show((0:Nat):Int) - 1= -1 from rfl,dS,if_pos (by decide)];simp;omega
   .rw [dS,if_neg (by omega),if_neg (by rw [hS.len];omega),show((a:Int) - 1).toNat=a - 1 by omega];simp
  have hy:(dS aa aj t' (b:Int)=3↔nD (t.drop b)=true):=by
   by_cases hb:b<n
   .rw [dS,if_neg (by omega),if_neg (by rw [hS.len];omega),Int.toNat_natCast,hN.at b (by omega),ac4 (by omega) (hb5 hb)];simp
   .rw [dS,if_neg (by omega),if_pos (by rw [hS.len];omega),ac5 (by omega)];simp;omega
  rw [Re];refine(ajg W B sb gc n cc bx pv rv bv ah aa aj t' hS hn hB a b (by omega) hbn).mono ?_;rintro e W' ⟨rfl,hS',hG'⟩;have hB':W'.heap[bx]? =some (.cells #[.pointer (some ⟨sb,0,none⟩)] 146 (0,0)):=by
   rw [hG'.block bx (Nat.lt_of_lt_of_le hbz hG.size) (fun e=>(hS.boxed hB) (Option.some.inj e).symm)];exact hB
  have key:∀t2 s2,t2=(if dS aa aj t' ((a:Int) - 1)=3∨dS aa aj t' (b:Int)=3 then dI t' a 3 (b - a)else t')->bz f5 g5 none t b (some s2) t2/\Ahead t2 b (some s2)->∃x',J5 w B sb gc n cc bx pv rv bv ah aa aj t (b+1) x' W':=by
   rintro t2 s2 rfl ⟨h1,h2⟩;by_cases hb:b<n
   .obtain⟨h3,h4⟩:=YP h1 (by omega) (hb5 hb);exact⟨_,some (t.getD b 0),hS',hB',hG.trans hG',by rw [Nat.min_eq_left (by omega)];exact h3,by rw [Nat.min_eq_left (by omega)];exact h4⟩
   .have e:min (b+1) n=b:=by omega
    exact⟨_,some s2,hS',hB',hG.trans hG',by rw [e];exact h1,by rw [e];exact h2⟩
  refine⟨rfl,?_⟩;by_cases hc:s=some 3∨nD (t.drop b)=true
  .have:=ah2 hN hrun (by omega) hab hc;rw [Tv]at this;exact key _ 3 (by rw [if_pos (by rw [hx,hy];exact hc)]) this
  .have h1:¬s=some 3:=fun h=>hc (.inl h)
   have h2:nD (t.drop b)=false:=by simpa using fun h=>hc (.inr h)
   exact key _ 5 (by rw [if_neg (by rw [hx,hy];exact hc)]) (ah3 hN hrun (by omega) hab h1 h2)
end
theorem ajH(w:World)(B sb gc n cc:Nat)(pv rv bv:Value)(ah aa aj:Int)(t:List Int)(h:aA w B sb gc n cc pv rv bv ah aa aj t)(hn:n<=1000)(hso:aa=0∨aa=1)(GX:aj=0∨aj=1):
  Calls prog 148 #[.pointer (some ⟨sb,0,none⟩)] w fun e w'=>e= .returned (.tuple #[])/\aA w' B sb gc n cc pv rv bv ah aa aj (pass f5 g5 none t)/\w.grownBy w' (some gc):=by
 have BI:∀(fn:Fn)(first cap:Array Value)(w:World),(Instr.makeFunc fn first cap).run prog w= .ok (.func fn first cap) w:=fun _ _ _ _=>rfl
 have hb1:Below w.heap.size w (w.alloc (.cells #[.pointer (some ⟨sb,0,none⟩)] 146)):=(Below.refl _ _).alloc (Nat.le_refl _) _;have hS1:=h.below hb1;have c2:=hS1.f2;have hl:=h.len;have HC:Hid (Calls prog 97 #[.int .i64 n,.func (.func 208) #[] #[.pointer (some ⟨w.heap.size,0,none⟩)],.func (.func 209) #[] #[.pointer (some ⟨w.heap.size,0,none⟩)]] (w.alloc (.cells #[.pointer (some ⟨sb,0,none⟩)] 146)) fun e w'=>e= .returned (.tuple #[])/\∃k x,n<=k/\J5 (w.alloc (.cells #[.pointer (some ⟨sb,0,none⟩)] 146)) B sb gc n cc w.heap.size pv rv bv ah aa aj t k x w'):=
  Gd n _ _ _ _ _ _ hn (ajG _ B sb gc n cc w.heap.size pv rv bv ah aa aj t hn hl hso GX (by simp)) (iB func208 (by kernel_rfl) (by kernel_rfl)) (iB func209 (by kernel_rfl) (by kernel_rfl)) t _
   ⟨none,hS1,Array.getElem?_push_size,World.grownBy.refl _ _,by rw [Nat.zero_min];exact bz.start _ _ _ _,by rw [Nat.zero_min];exact Ahead.start _⟩
 have AZ:Hid (w.grownBy (w.alloc (.cells #[.pointer (some ⟨sb,0,none⟩)] 146)) (some gc)):=⟨rfl,rfl,rfl,by simp,fun k hk _=>Below.heap_alloc w _ k hk⟩
 have HL:Hid (t.length=n):=hl;clear h hb1 hS1 hl;go_enter func148,ntmps148;go_wp2_with fail;refine HC.out.mono ?_;rintro ev w2 ⟨rfl,k,t',hk,s,hS,_,hG,hN,_⟩;rw [Nat.min_eq_right hk]at hN;have e:=hN.stop (by rw [HL.out];omega);have HS:Hid (aA w2 B sb gc n cc pv rv bv ah aa aj (pass f5 g5 none t)):=by rw [<-e];exact hS
 have HG:Hid (w.grownBy w2 (some gc)):=AZ.out.trans hG;clear hS hG hN e HC c2;go_wp2;go_end0;exact⟨rfl,HS.out,HG.out⟩
