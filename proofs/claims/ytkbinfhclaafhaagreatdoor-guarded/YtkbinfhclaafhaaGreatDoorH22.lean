import Derived.Test.YtkbinfhclaafhaaGreatDoorH21
import Derived.Test.YtkbinfhclaafhaaGreatDoorH16
import Derived.Test.YtkbinfhclaafhaaGreatDoorH01
import Derived.Lib.SmallJoins
import Derived.BigQuiet
import Derived.Deep.LoopGhost
import Derived.WalkSmall
import Derived.RangeFuncOwn
import Derived.WalkMore
import Derived.Stop.RegionWithIn
import Derived.OwnWalkIn
import Derived.TacticsInMore
namespace Go.Proofs.YtkbinfhclaafhaaGreatDoor
open Go.RowKit
open Go.Proofs.Tryz
set_option maxRecDepth 100000
set_option maxHeartbeats 32000000
theorem OS.set {W w:World}{bx bo g n b off cap:Nat}{lv cur:List Int}(h:OS W w bx bo g n b off cap lv cur)(hbw:b<w.heap.size)(k:Nat)(a:Int):OS (W.setCell ⟨g,k,none⟩ (.int .i64 a)) w bx bo g n b off cap lv (cur.set k a):=h.turn (h.row.set k a) (h.row.grown k a) hbw
theorem aeH(n k:Nat)(hk:k<n):(dM k++List.replicate (n - k) 0).set k (k:Int)=dM (k+1)++List.replicate (n - (k+1)) 0:=by
 rw [aeF,List.set_append_right _ _ (by rw [Ac];exact Nat.le_refl _),Ac,Nat.sub_self,show n - k=(n - (k+1))+1 by omega,List.replicate_succ];simp
def JO(w:World)(bx bo g n b off cap tb:Nat)(lv:List Int)(v:Int)(bs:List Bool)(A:List Int)(a:Nat)(cur:List Int)(W:World):Prop:=
 OS W w bx bo g n b off cap lv cur/\W.heap[tb]? =some (.cells #[.int .i64 v] 3 (0,0))/\nu bs A (min a n) cur
theorem agQ(w:World)(bx bo g n b off cap tb:Nat)(lv:List Int)(v:Int)(A:List Int)(hn:n<=1000)(hbw:b<w.heap.size)(hl:lv.length=n)(hA:A.length=n)(htb:tb≠g):
  Bd n 98 99 #[.pointer (some ⟨bx,0,none⟩),.pointer (some ⟨tb,0,none⟩)] #[.pointer (some ⟨bo,0,none⟩)] (JO w bx bo g n b off cap tb lv v (mask v lv) A) (fun _ i=>decide (v<=lv.getD i 0)) where
 asks x a W i hJ _ hi:=by
  obtain⟨hO,hT,hU⟩:=hJ;refine(agO W w bx bo g n b off cap tb lv x v hO hl (au hT 0) i hi).mono ?_;rintro e W' ⟨rfl,hb⟩;exact⟨rfl,hO.below hb,aR hb hT,hU⟩
 skip x a W hJ ha hb:=by
  obtain⟨hO,hT,hU⟩:=hJ;rw [Nat.min_eq_left (by omega)]at hU;refine⟨x,hO,hT,?_⟩;rw [Nat.min_eq_left (by omega)];exact hU.skip (by rw [vF,hl,hA]) (by omega) (by rw [BX _ _ _ (by omega),hb])
 tell x a c W hJ hac hcn hall hend:=by
  obtain⟨hO,hT,hU⟩:=hJ;rw [Nat.min_eq_left (by omega)]at hU;refine(agP W w bx bo g n b off cap lv x hO hn hbw a c hac hcn).mono ?_;rintro e W' ⟨rfl,hO',hg'⟩;refine⟨rfl,_,hO',(hg'.block tb (bK hT) (fun e=>htb (Option.some.inj e))).trans hT,?_⟩;have h1:=hU.turn (j:=c) (by rw [vF,hl,hA]) (by omega) (by omega) (fun q h1 h2=>by rw [BX _ _ _ (by omega),hall q h1 h2]) (fun h=>by rw [BX _ _ _ (by omega),hend (by omega)]);by_cases hc:c<n
  .rw [Nat.min_eq_left (by omega)];exact h1.skip (by rw [vF,hl,hA]) (by omega) (by rw [BX _ _ _ (by omega),hend hc])
  .rw [Nat.min_eq_right (by omega)];have:c=n:=by omega
   rw [<-this];exact h1
theorem aa8(lv:List Int)(b off cap n:Nat)(w:World)(hl:lv.length=n)(hn:n<=1000)(hbw:b<w.heap.size)(hc:dz w b off lv)(hlv:∀l∈lv,0<=l/\l<=126):
  Calls prog 59 #[.slice (some ⟨b,off,none⟩) n cap] w fun e w'=>∃g,e= .returned (.slice (some ⟨g,0,none⟩) n n)/\aK w' w.heap.size 3 g n (iv (Cf lv))/\Below w.heap.size w w':=by
 obtain⟨R,hR⟩:∃R,R=Cf lv:=⟨_,rfl⟩
 have x8:Hid (R=Cf lv):=hR;rw [<-hR];clear hR;have hmk:=run_make_row' (P:=prog) 31 3 (.int .i64 0) 8 underlying31 Tryz.xh rfl .i64 .i64 n (by omega) (by omega);have BI:∀(fn:Fn)(first cap:Array Value)(w:World),(Instr.makeFunc fn first cap).run prog w= .ok (.func fn first cap) w:=fun _ _ _ _=>rfl
 have hw0:Below w.heap.size w (((w.alloc (.cells #[.slice (some ⟨b,off,none⟩) n cap] 31)).alloc (.cells (madeCells #[.int .i64 0] n) 3)).alloc (.cells #[.slice (some ⟨w.heap.size+1,0,none⟩) n n] 31)):=(((Below.refl _ _).alloc (Nat.le_refl _) _).alloc (by simp) _).alloc (by simp;omega) _;have Qq:Hid (OS (((w.alloc (.cells #[.slice (some ⟨b,off,none⟩) n cap] 31)).alloc (.cells (madeCells #[.int .i64 0] n) 3)).alloc (.cells #[.slice (some ⟨w.heap.size+1,0,none⟩) n n] 31)) w w.heap.size (w.heap.size+1+1) (w.heap.size+1) n b off cap lv (dM 0++List.replicate (n - 0) 0)):=by
  have z1:(w.alloc (.cells #[.slice (some ⟨b,off,none⟩) n cap] 31)).heap.size=w.heap.size+1:=by simp
  have z2:((w.alloc (.cells #[.slice (some ⟨b,off,none⟩) n cap] 31)).alloc (.cells (madeCells #[.int .i64 0] n) 3)).heap.size=w.heap.size+1+1:=by simp
  refine⟨?_,?_,?_,hc.below hw0,hw0⟩
  .have:=aK.made (w:=w.alloc (.cells #[.slice (some ⟨b,off,none⟩) n cap] 31)) (B:=w.heap.size) (n:=n) (e:=3) (z:= .int .i64 0) (by simp) (by omega);rw [z1]at this;have e:iv (dM 0++List.replicate (n - 0) 0)=List.replicate n (.int .i64 0):=by simp [iv,dM]
   show World.ownsRow _ _ _ _ _ _ _;rw [e];exact World.ownsRow.alloc this _
  .refine aR ((Below.refl _ _).alloc (Nat.le_refl _) _) (aR ((Below.refl _ _).alloc (Nat.le_refl _) _) ?_);exact Array.getElem?_push_size
  .rw [<-z2];exact Array.getElem?_push_size
 have HL:Hid (lv.length=n):=hl;have HV:Hid (∀l∈lv,0<=l/\l<=126):=hlv;have rF:Hid (∀(l:Int)(W:World),0<=l->Calls prog 96 #[.int .i64 l] W fun e w'=>e= .returned (.int .i64 (l%2))/\w'=W):=fun l W h=>xJ l W h
 clear hl hlv hw0 hc;obtain⟨bx,hbx⟩:∃bx,bx=w.heap.size:=⟨_,rfl⟩
 obtain⟨g,hg⟩:∃g,g=w.heap.size+1:=⟨_,rfl⟩
 obtain⟨bo,vv⟩:∃bo,bo=w.heap.size+1+1:=⟨_,rfl⟩
 go_enter func59,ntmps59;go_wp2;generalize hW0:(((w.alloc (.cells #[.slice (some ⟨b,off,none⟩) n cap] 31)).alloc (.cells (madeCells #[.int .i64 0] n) 3)).alloc (.cells #[.slice (some ⟨w.heap.size+1,0,none⟩) n n] 31))=W0 at*;have xX:Hid (OS W0 w bx bo g n b off cap lv (dM 0++List.replicate (n - 0) 0)):=by rw [hbx,vv,hg];exact Qq.out
 rw [<-vv,<-hg,<-hbx];have HGx:Hid (w.heap.size<=g):=by show _<=_;omega
 clear hW0 Qq hbx hg vv hmk;go_loopg [4,5,14] n (fun gk hv ov uo W=>∃(k:Nat)(hi lo:Int),k<=n/\gk=n - k/\uo= .int .i64 k/\hv= .int .i64 hi/\ov= .int .i64 lo/\hi=jP (lv.take k)/\lo=kI (lv.take k)/\OS W w bx bo g n b off cap lv (dM k++List.replicate (n - k) 0));case atStart=>exact⟨0,0,127,by omega,rfl,rfl,rfl,rfl,by simp [jP],by simp [kI],xX.out⟩
 case round=>
  clear xX;obtain⟨k,hi,lo,hk,rfl,rfl,rfl,rfl,hhi,hlo,hO⟩:=hrel;by_cases hlt:k<n
  .have hkl:k<lv.length:=by rw [HL.out];exact hlt
   have cx:=hO.cx;have co:=hO.co;have cl:=hO.lv k hkl;have cg:=hO.row.cell k hlt;have fg:=hO.row.frozen k;have ht:=ajl lv k hkl;have hw:=afJ lv k hkl;have hxb:=HV.out _ (dB (d:=0) hkl);rw [<-hhi]at ht;rw [<-hlo]at hw;have hib:=ZO (lv:=lv.take k) (fun l h=>by have:=(HV.out l (List.mem_of_mem_take h)).2;omega);have lob:=WM (lv:=lv.take k) (fun l h=>(HV.out l (List.mem_of_mem_take h)).1);rw [<-hhi]at hib;rw [<-hlo]at lob;obtain⟨x,hx⟩:∃x,x=lv.getD k 0:=⟨_,rfl⟩
   rw [<-hx]at cl ht hw hxb;have iL:Hid (OS (wr.setCell ⟨g,k,none⟩ (.int .i64 (k:Int))) w bx bo g n b off cap lv (dM (k+1)++List.replicate (n - (k+1)) 0)):=by
    have:=hO.set hbw k (k:Int);rw [aeH n k hlt]at this;exact this
   have HT:Hid (jP (lv.take (k+1))=max hi x):=ht;have HW:Hid (kI (lv.take (k+1))=if x%2=1 then min lo x else lo):=hw;have hkn:(k:Int)<(n:Int):=by omega
   obtain⟨x0,x1⟩:=hxb;have JS:Hid (∀W,Calls prog 96 #[.int .i64 x] W fun e w'=>e= .returned (.int .i64 (x%2))/\w'=W):=fun W=>rF.out x W x0
   have h2:x%2=0∨x%2=1:=by omega
   have iM:Hid (x%2=0∨x%2=1):=h2;obtain⟨par,hpar⟩:∃par,par=x%2:=⟨_,rfl⟩
   rw [<-hpar]at JS HW iM;generalize(dM k++List.replicate (n - k) 0).getD k 0=old at*;clear hO ht hw hx hhi hlo hkl h2 hpar;have HM:Hid (max hi x=jP (lv.take (k+1))):=HT.out.symm;rcases iM.out with hp0|hp1
   .have HN:Hid (lo=kI (lv.take (k+1))):=by show lo=_;rw [HW.out,if_neg (by omega)]
    subst hp0;go_wp2_with fail;refine(JS.out _).mono ?_;rintro ev wx ⟨rfl,hwx⟩;have mH:=hwx.symm;subst mH;go_wp2;go_roundg (n - (k+1));case measure=>omega
    case rel=>exact⟨k+1,max hi x,lo,by omega,rfl,by go_num,rfl,rfl,HM.out,HN.out,iL.out⟩
   .have HN:Hid (min lo x=kI (lv.take (k+1))):=by show min lo x=_;rw [HW.out,if_pos hp1]
    subst hp1;go_wp2_with fail;refine(JS.out _).mono ?_;rintro ev wx ⟨rfl,hwx⟩;have mH:=hwx.symm;subst mH;go_wp2;go_roundg (n - (k+1));case measure=>omega
    case rel=>exact⟨k+1,max hi x,min lo x,by omega,rfl,by go_num,rfl,rfl,HM.out,HN.out,iL.out⟩
  .obtain rfl:k=n:=by omega
   have hkn:¬(k:Int)<(k:Int):=by omega
   have e1:lv.take k=lv:=List.take_of_length_le (by rw [HL.out];exact Nat.le_refl _);rw [e1]at hhi hlo;have htb:=ZO (lv:=lv) (fun l h=>by have:=(HV.out l h).2;omega);have hlb:=WM (lv:=lv) (fun l h=>(HV.out l h).1);rw [<-hhi]at htb;rw [<-hlo]at hlb;have iL:Hid (OS wr w bx bo g k b off cap lv (dU lv 0 hi (dM k))):=by
    have:=hO;rw [Nat.sub_self,List.replicate_zero,List.append_nil]at this;exact this
   have HR:Hid (R=dU lv (hi - lo+1).toNat hi (dM k)):=by show _=_;rw [x8.out,Cf,hhi,hlo,HL.out]
   clear hO hhi hlo e1;obtain⟨Fg,MC⟩:∃Fg,Fg=wr.heap.size:=⟨_,rfl⟩
   have pK:Hid (OS (wr.alloc (.cells #[.int .i64 hi] 3)) w bx bo g k b off cap lv (dU lv 0 hi (dM k))/\(wr.alloc (.cells #[.int .i64 hi] 3)).heap[Fg]? =some (.cells #[.int .i64 (hi - (0:Nat))] 3 (0,0))/\Fg≠g):=by
    refine⟨iL.out.below ((Below.refl _ _).alloc (Nat.le_refl _) _),by rw [MC,show hi - ((0:Nat):Int)=hi by omega];exact Array.getElem?_push_size,?_⟩;have:=(iL.out.row.lt g rfl).2;omega
   go_wp2;generalize wr.alloc (.cells #[.int .i64 hi] 3)=W1 at*;rw [<-MC];clear MC iL;go_loopg [8] (hi - lo+1).toNat (fun gk tv W=>∃(m tb:Nat),m<=(hi - lo+1).toNat/\gk=(hi - lo+1).toNat - m/\tv= .pointer (some ⟨tb,0,none⟩)/\OS W w bx bo g k b off cap lv (dU lv m hi (dM k))/\W.heap[tb]? =some (.cells #[.int .i64 (hi - m)] 3 (0,0))/\tb≠g);case atStart=>exact⟨0,Fg,by omega,rfl,rfl,pK.out.1,pK.out.2.1,pK.out.2.2⟩
   case round=>
    clear pK;obtain⟨m,tb,hm,rfl,rfl,hO,hT,htg⟩:=hrel;have ct:=au hT 0;by_cases hlt:m<(hi - lo+1).toNat
    .have hvl:lo<=hi - (m:Int):=by omega
     have hal:(dU lv m hi (dM k)).length=k:=(I4 lv m hi _ (by rw [Ac,HL.out])).trans HL.out;have Jl:Hid (Calls prog 97 #[.int .i64 k,.func (.func 98) #[] #[.pointer (some ⟨bx,0,none⟩),.pointer (some ⟨tb,0,none⟩)],.func (.func 99) #[] #[.pointer (some ⟨bo,0,none⟩)]] wr fun e w'=>e= .returned (.tuple #[])/\∃q cur,k<=q/\JO w bx bo g k b off cap tb lv (hi - m) (mask (hi - m) lv) (dU lv m hi (dM k)) q cur w'):=
      Gd k _ _ _ _ _ _ hn (agQ w bx bo g k b off cap tb lv (hi - m) _ hn hbw HL.out hal htg) (iB func98 (by kernel_rfl) (by kernel_rfl)) (iB func99 (by kernel_rfl) (by kernel_rfl)) _ wr ⟨hO,hT,by rw [Nat.zero_min];exact nu.start _ _⟩
     have cx:=hO.cx;have xO:Hid ((mask (hi - m) lv).length=(dU lv m hi (dM k)).length/\(dU lv m hi (dM k)).length=k):=⟨by rw [vF,HL.out,hal],hal⟩
     have xW:Hid (dU lv (m+1) hi (dM k)=bV (mask (hi - m) lv) (dU lv m hi (dM k)) []):=ZZ _ _ _ _;generalize dU lv m hi (dM k)=A at*;obtain⟨v,hv⟩:∃v,v=hi - (m:Int):=⟨_,rfl⟩
     have HVe:Hid (v=hi - (m:Int)):=hv;have hv0:0<=v:=by omega
     have hv1:v<=1000:=by omega
     rw [<-hv]at ct hvl Jl xO xW;clear hO hT hal hv;go_wp2_with fail;refine Jl.out.mono ?_;rintro ev W2 ⟨rfl,q,cur,hq,hO2,UB,LU⟩;rw [Nat.min_eq_right hq]at LU;have hce:=LU.stop xO.out.1 (by rw [xO.out.2];exact Nat.le_refl _);rw [hce,<-xW.out]at hO2;have Sc:=au UB 0;have iL:Hid (OS W2 w bx bo g k b off cap lv (dU lv (m+1) hi (dM k))):=hO2;have HG2:Hid (g<W2.heap.size):=(hO2.row.lt g rfl).2;clear Jl hO2 UB LU hce cx ct hq;go_wp2;go_roundg ((hi - lo+1).toNat - (m+1));case measure=>omega
     case rel=>exact⟨m+1,W2.heap.size,by omega,rfl,rfl,iL.out.below ((Below.refl _ _).alloc (Nat.le_refl _) _),by rw [show hi - ((m+1:Nat):Int)=v - 1 by have:=HVe.out;omega];exact Array.getElem?_push_size,by have:=HG2.out;omega⟩
    .have hvl:¬lo<=hi - (m:Int):=by omega
     obtain rfl:m=(hi - lo+1).toNat:=by omega
     have co:=hO.co;have HF:Hid (aK wr w.heap.size 3 g k (iv R)/\Below w.heap.size w wr):=⟨by rw [HR.out];exact hO.row,hO.hb⟩
     clear hO hT;generalize hi - (((hi - lo+1).toNat:Nat):Int)=v at*;generalize dU lv (hi - lo+1).toNat hi (dM k)=A at*;go_wp2;go_ret;exact⟨g,rfl,HF.out.1,HF.out.2⟩
def oI(para:Int)(st:List aO):Prop:=∀e∈st,para<=e.l
theorem oI.app {para:Int}{st:List aO}{e:aO}(h:oI para st)(he:para<=e.l):oI para (st++[e]):=fun y hy=>by
 rcases List.mem_append.1 hy with hy|hy
 .exact h y hy
 .rw [List.mem_singleton.1 hy];exact he
theorem oI.sub {para:Int}{st st':List aO}(h:oI para st)(hs:∀e∈st',e∈st):oI para st':=fun e he=>h e (hs e he)
theorem oI.pre {para:Int}{x:XS}(h:oI para x.st)(c:Int):oI para (dK x c).st:=by
 unfold dK;split
 .unfold nC;split
  .exact h
  .split
   .exact h
   .exact h.sub (Od _)
 .exact h
theorem oI.post {para:Int}{x:XS}(h:oI para x.st)(hne:x.st≠[])(cs:List Int)(i:Nat)(c:Int):oI para (gK cs i x c).st:=by
 have ht:para<=(aS x.st).l:=h _ (IZ hne);have hn:∀odd,para<=iD (aS x.st).l odd:=fun odd=>by have:=NA (aS x.st).l odd;omega
 have hb:∀odd,oI para (jT x odd).st:=fun odd=>by
  unfold jT;simp only;split
  .exact h.app (hn _)
  .exact h
 unfold gK;split
 .unfold nW;simp only;generalize(if c=15 then(0:Int)else if c=16 then 1 else -1)=o at*;generalize hq:iD (aS x.st).l _=n;have Mx:para<=n:=by rw [<-hq];exact hn _
  split
  .exact h.app Mx
  .split<;>exact h
 .split
  .exact hb _
  .split
   .exact hb _
   .split
    .exact hb _
    .split
     .unfold uC;split
      .exact h
      .split
       .exact h
       .split
        .exact h.sub fun e he=>List.dropLast_subset _ he
        .exact h
     .exact h
theorem aaq(cs:List Int)(para:Int)(hp:0<=para/\para<=125):∀i,oI para (dZ cs para i).st
 |0=>by intro e he;rw [dZ]at he;rw [List.mem_singleton.1 he];exact Int.le_refl _
 |i+1=>by rw [dZ];exact((aaq cs para hp i).pre _).post ((vT cs para hp i).pre _).ne cs i _
theorem aau(cs:List Int)(para:Int)(hp:0<=para/\para<=125)(i:Nat):para<=(iJ cs para i).l:=
 ((aaq cs para hp i).pre _) _ (IZ ((vT cs para hp i).pre _).ne)
theorem TA {P:Int->Prop}{para:Int}(hp:P para):∀(cs os:List Int)(prev:Int),P prev->(∀o∈os,P o)->∀x∈l9 para prev cs os,P x
 |[],_,_,_,_,x,hx=>by cases hx
 |_::_,[],_,_,_,x,hx=>by cases hx
 |c::cs,o::os,prev,hv,ho,x,hx=>by
  have h1:P (if xG c cs=true then para else if dm c=false then prev else o):=by
   split
   .exact hp
   .split
    .exact hv
    .exact ho o (by simp)
  rw [l9]at hx;rcases List.mem_cons.1 hx with rfl|hx
  .exact h1
  .exact TA hp cs os _ h1 (fun y hy=>ho y (by simp [hy])) x hx
theorem aeI {c l:Int}(h0:0<=l)(h:l<=125):l<=um c l/\um c l<=126:=by
 unfold um;split
 .split
  .omega
  .split<;>omega
 .split<;>omega
theorem afx {cs:List Int}(hcs:∀c∈cs,0<=c/\c<=21)(rs:List Int)(d:Int)(hp:0<=dO cs d/\dO cs d<=125):∀x∈gB rs cs d,dO cs d<=x/\x<=126:=by
 unfold gB;generalize dO cs d=para at*;refine TA (P:=fun x=>para<=x/\x<=126) (by omega) _ _ _ (by omega) ?_;refine OO (P:=fun x=>para<=x/\x<=126) _ _ (fun x hx=> ?_) fun o ho=> ?_
 .obtain⟨s,hs,hx⟩:=List.mem_flatMap.1 hx;obtain⟨_,_,_,_,a5⟩:=EZ hcs hp hs;obtain⟨b1,b2,_⟩:=O3 hx;obtain⟨h1,h2⟩:=a5 _ b1;have h3:(aH cs para).getD x.1 0=(iJ cs para x.1).l:=by rw [aH,sj _ _ _ _ h1]
  have h4:=Jd cs para hp x.1;have h5:=aau cs para hp x.1;have:=aeI (c:=x.2.2) (l:=x.2.1) (by omega) (by omega);omega
 .obtain⟨i,_,rfl⟩:=List.mem_map.1 (show o∈(List.range cs.length).map fun i=>(iJ cs para i).l from ho);have:=Jd cs para hp i;have:=aau cs para hp i;omega
theorem agJ(lv:List Int):(oZ lv).length=lv.length:=I4 _ _ _ _ (Ac _)
theorem agK(lv:List Int):(oZ lv).Perm (dM lv.length):=ZY _ _ _ _ (Ac _)
structure RP where
 line:Nat
 start:Nat
 from_:Nat
 body:Nat
 at_:Nat
def bt(s:ByteArray)(i:Nat):Int:=if i<s.size then((s.get! i).toNat:Int)else 10
theorem uX {s:ByteArray}{i:Nat}(h:i<s.size):bt s i=((s[i]'h).toNat:Int):=by rw [bt,if_pos h,get_eq s i h]
theorem wH {s:ByteArray}{i:Nat}(h:¬i<s.size):bt s i=10:=by rw [bt,if_neg h]
theorem bJ {w:World}{k:Nat}{o:Obj}(h:w.heap[k]? =some o):k<w.heap.size:=(Array.getElem?_eq_some_iff.1 h).1
theorem oN(w:World)(o:Obj)(a:Addr)(h:a.block<w.heap.size):(w.alloc o).cell? a=w.cell? a:=World.cell?_of_block (Below.heap_alloc w o _ h)
theorem kZ(w:World)(r:Option Nat):w.grownBy w r:=⟨rfl,rfl,rfl,Nat.le_refl _,fun _ _ _=>rfl⟩
theorem adJ {a b c:World}{r:Option Nat}(h:a.grownBy b r)(k:b.grownBy c r):a.grownBy c r:=
 ⟨k.os.trans h.os,k.tape.trans h.tape,k.output.trans h.output,Nat.le_trans h.size k.size,fun i hi hne=>(k.block i (Nat.lt_of_lt_of_le hi h.size) hne).trans (h.block i hi hne)⟩
theorem su(W:World)(b i:Nat)(v:Value):W.grownBy (W.setCell ⟨b,i,none⟩ v) (some b):=⟨rfl,rfl,rfl,by simp,fun k _ hne=>Below.heap_setCell _ _ _ _ (fun e=>hne (by rw [e]))⟩
theorem jU {a b:World}{rb i:Nat}{v:Value}(h:a.grownBy b (some rb)):a.grownBy (b.setCell ⟨rb,i,none⟩ v) (some rb):=adJ h (su _ _ _ _)
theorem yC {a b:World}{r:Option Nat}(h:a.grownBy b r){m:Nat}:a.grownBy (b.drewN m) r:=⟨h.os,h.tape,h.output,h.size,h.block⟩
theorem yB {a b:World}{r:Option Nat}(h:a.grownBy b r):a.grownBy b.drew r:=⟨h.os,h.tape,h.output,h.size,h.block⟩
def Rd(w:World)(rb:Nat)(s:ByteArray)(tv:Value)(p:RP)(st:Bool):Prop:=
 w.heap[rb]? =some (.cells #[.string s,tv,.int .i64 p.line,.int .i64 p.start,.int .i64 p.from_,.int .i64 p.body,.int .i64 p.at_,.bool st] 244 (0,0))
section
variable{w w':World}{rb:Nat}{s:ByteArray}{tv:Value}{p:RP}{st:Bool}
theorem Rd.c0(h:Rd w rb s tv p st):w.cell? ⟨rb,0,none⟩=some (.string s):=au h 0
theorem Rd.c1(h:Rd w rb s tv p st):w.cell? ⟨rb,1,none⟩=some tv:=au h 1
theorem Rd.c2(h:Rd w rb s tv p st):w.cell? ⟨rb,2,none⟩=some (.int .i64 p.line):=au h 2
theorem Rd.c3(h:Rd w rb s tv p st):w.cell? ⟨rb,3,none⟩=some (.int .i64 p.start):=au h 3
theorem Rd.c4(h:Rd w rb s tv p st):w.cell? ⟨rb,4,none⟩=some (.int .i64 p.from_):=au h 4
theorem Rd.c5(h:Rd w rb s tv p st):w.cell? ⟨rb,5,none⟩=some (.int .i64 p.body):=au h 5
theorem Rd.c6(h:Rd w rb s tv p st):w.cell? ⟨rb,6,none⟩=some (.int .i64 p.at_):=au h 6
theorem Rd.c7(h:Rd w rb s tv p st):w.cell? ⟨rb,7,none⟩=some (.bool st):=au h 7
theorem Rd.fz(h:Rd w rb s tv p st)(j:Nat):w.frozen? ⟨rb,j,none⟩=false:=bX h j
theorem Rd.lt(h:Rd w rb s tv p st):rb<w.heap.size:=bJ h
theorem Rd.set(p':RP)(st':Bool)(hh:w'.heap[rb]? =some (.cells #[.string s,tv,.int .i64 p'.line,.int .i64 p'.start,.int .i64 p'.from_,.int .i64 p'.body,.int .i64 p'.at_,.bool st'] 244 (0,0))):Rd w' rb s tv p' st':=hh
theorem Rd.other(h:Rd w rb s tv p st){r:Option Nat}(hg:w.grownBy w' r)(hne:some rb≠r):Rd w' rb s tv p st:=(hg.block rb h.lt hne).trans h
theorem Rd.s2(h:Rd w rb s tv p st)(v:Nat):Rd (w.setCell ⟨rb,2,none⟩ (.int .i64 v)) rb s tv ⟨v,p.start,p.from_,p.body,p.at_⟩ st:=by unfold Rd;rw [Joins.block_setCell h];rfl
theorem Rd.s3(h:Rd w rb s tv p st)(v:Nat):Rd (w.setCell ⟨rb,3,none⟩ (.int .i64 v)) rb s tv ⟨p.line,v,p.from_,p.body,p.at_⟩ st:=by unfold Rd;rw [Joins.block_setCell h];rfl
theorem Rd.s4(h:Rd w rb s tv p st)(v:Nat):Rd (w.setCell ⟨rb,4,none⟩ (.int .i64 v)) rb s tv ⟨p.line,p.start,v,p.body,p.at_⟩ st:=by unfold Rd;rw [Joins.block_setCell h];rfl
theorem Rd.s5(h:Rd w rb s tv p st)(v:Nat):Rd (w.setCell ⟨rb,5,none⟩ (.int .i64 v)) rb s tv ⟨p.line,p.start,p.from_,v,p.at_⟩ st:=by unfold Rd;rw [Joins.block_setCell h];rfl
theorem Rd.s6(h:Rd w rb s tv p st)(v:Nat):Rd (w.setCell ⟨rb,6,none⟩ (.int .i64 v)) rb s tv ⟨p.line,p.start,p.from_,p.body,v⟩ st:=by unfold Rd;rw [Joins.block_setCell h];rfl
theorem Rd.s7(h:Rd w rb s tv p st)(v:Bool):Rd (w.setCell ⟨rb,7,none⟩ (.bool v)) rb s tv p v:=by unfold Rd;rw [Joins.block_setCell h];rfl
theorem Rd.drewN(h:Rd w rb s tv p st)(m:Nat):Rd (w.drewN m) rb s tv p st:=h
end
theorem YJ {a b:Bool}(h:a=b):Ending.returned (.bool a)= .returned (.bool b):=by rw [h]
def jN(s:ByteArray)(p:RP)(st:Bool):Bool:=st||decide (p.at_=s.size)
def rW(s:ByteArray)(p:RP)(st:Bool):Bool:=jN s p st||decide (bt s p.at_=10)
theorem XW(w:World)(rb:Nat)(s:ByteArray)(tv:Value)(p:RP)(st:Bool)(h:Rd w rb s tv p st):
  Calls prog 177 #[.pointer (some ⟨rb,0,none⟩)] w fun e w'=>e= .returned (.bool (jN s p st))/\∃m,w'=w.drewN m:=by
 have c0:=h.c0;have c6:=h.c6;have c7:=h.c7;clear h;obtain⟨ln,sa,fr,bo,at'⟩:=p;unfold jN;simp only at c6 ⊢;cases st with
 |true=>
  go_enter func177,ntmps177;go_wp2_with fail;go_quiet(fail);go_wp2;go_ret;exact⟨rfl,_,rfl⟩
 |false=>
  go_enter func177,ntmps177;go_wp2_with fail;go_quiet(fail);go_wp2;go_ret;exact⟨YJ (by rw [Bool.false_or,Bool.eq_iff_iff];simp;omega),_,rfl⟩
theorem Ww(w:World)(rb:Nat)(s:ByteArray)(tv:Value)(p:RP)(st:Bool)(h:Rd w rb s tv p st)(hle:p.at_<=s.size):
  Calls prog 182 #[.pointer (some ⟨rb,0,none⟩)] w fun e w'=>e= .returned (.bool (rW s p st))/\∃m,w'=w.drewN m:=by
 have HO:Hid (∀m,Calls prog 177 #[.pointer (some ⟨rb,0,none⟩)] (w.drewN m) fun e w'=>e= .returned (.bool (jN s p st))/\∃k,w'=(w.drewN m).drewN k):=fun m=>XW _ rb s tv p st (h.drewN m)
 have c0:=h.c0;have c6:=h.c6;clear h;unfold rW;by_cases ho:jN s p st=true
 .rw [ho]at HO ⊢;clear ho hle;go_enter func182,ntmps182;go_wp2_with fail;go_quiet(first|(go_at_call 177;refine Calls.quiet_of (HO.out _)));go_wp2;go_ret;exact⟨rfl,_,rfl⟩
 .have ho:jN s p st=false:=by simpa using ho
  have hlt:p.at_<s.size:=by
   unfold jN at ho;simp only [Bool.or_eq_false_iff,decide_eq_false_iff_not]at ho;omega
  rw [ho]at HO ⊢;rw [uX hlt];clear ho hle;obtain⟨ln,sa,fr,bo,at'⟩:=p;simp only at hlt c6 ⊢;have hl':(at':Int)<(s.size:Int):=by omega
  obtain⟨c,hc⟩:∃c,s[at']'hlt=c:=⟨_,rfl⟩
  rw [hc];go_enter func182,ntmps182;go_wp2_with fail;go_quiet(first|(go_at_call 177;refine Calls.quiet_of (HO.out _)));go_wp2;go_ret;exact⟨YJ (by rw [Bool.false_or,Bool.eq_iff_iff];simp),_,rfl⟩
def jq(p:RP):RP:=⟨p.line+1,p.at_+1,p.at_+1,p.at_+1,p.at_+1⟩
theorem adg(w:World)(rb:Nat)(s:ByteArray)(tv:Value)(p:RP)(st:Bool)(h:Rd w rb s tv p st)(hle:p.at_<=100000)(hl:p.line<=100000):
  Calls prog 180 #[.pointer (some ⟨rb,0,none⟩)] w fun e w'=>(∃v,e= .returned v)/\Rd w' rb s tv (jq p) st/\w.grownBy w' (some rb):=by
 obtain⟨ln,sa,fr,bo,at'⟩:=p;simp only at hle hl;unfold jq;simp only;obtain⟨aM,ha1⟩:∃aM,at'+1=aM:=⟨_,rfl⟩
 rw [ha1];have HA:Hid (at'+1=aM):=ha1;clear ha1;have HH:Hid (Rd w rb s tv ⟨ln,sa,fr,bo,at'⟩ st):=h;have c2:=h.c2;have c6:=h.c6;have f2:=h.fz 2;have f3:=h.fz 3;have f4:=h.fz 4;have f5:=h.fz 5;have f6:=h.fz 6;have c3:=h.c3;have c4:=h.c4;have c5:=h.c5;clear h;simp only at c2 c3 c4 c5 c6;go_enter func180,ntmps180;go_wp2;have e6:((at':Int)+1)=(aM:Int):=by have:=HA.out;omega
 have e2:((ln:Int)+1)=((ln+1:Nat):Int):=by omega
 rw [e6,e2];clear e6 e2 c2 c3 c4 c5 c6 f2 f3 f4 f5 f6;have h1:=(HH.out.s6 aM).s2 (ln+1);have g1:w.grownBy ((w.setCell ⟨rb,6,none⟩ (.int .i64 (aM:Int))).setCell ⟨rb,2,none⟩ (.int .i64 ((ln+1:Nat):Int))) (some rb):=jU (jU (kZ _ _));generalize(w.setCell ⟨rb,6,none⟩ (.int .i64 (aM:Int))).setCell ⟨rb,2,none⟩ (.int .i64 ((ln+1:Nat):Int))=W at*;have c6:=h1.c6;have c3:=h1.c3;have c4:=h1.c4;have c5:=h1.c5;have f3:=h1.fz 3;have f4:=h1.fz 4;have f5:=h1.fz 5;simp only at c3 c4 c5 c6;have H1:Hid (Rd W rb s tv ⟨ln+1,sa,fr,bo,aM⟩ st):=h1;have G1:Hid (w.grownBy W (some rb)):=g1;clear h1 g1 HH;go_region;all_goals
  go_wp2;go_end0;refine⟨⟨_,rfl⟩,?_,?_⟩
  .first
    |exact((H1.out.s3 aM).s4 aM).s5 aM
    |exact((H1.out.s3 aM).s5 aM).s4 aM
    |exact((H1.out.s4 aM).s3 aM).s5 aM
    |exact((H1.out.s4 aM).s5 aM).s3 aM
    |exact((H1.out.s5 aM).s3 aM).s4 aM
    |exact((H1.out.s5 aM).s4 aM).s3 aM
  .exact yC (jU (jU (jU G1.out)))
theorem aiG(w:World)(rb:Nat)(s:ByteArray)(tv:Value)(p:RP)(st:Bool)(h:Rd w rb s tv p st)(hlt:p.at_<s.size)(hz:s.size<=100000):
  Calls prog 178 #[.pointer (some ⟨rb,0,none⟩)] w fun e w'=>e= .returned (.agg #[.int .u8 (bt s p.at_),.int .u8 (bt s (p.at_+1))])/\Below w.heap.size w w':=by
 have c0:=h.c0;have c6:=h.c6;have HR:Hid (rb<w.heap.size):=h.lt;clear h;rw [uX hlt];obtain⟨ln,sa,fr,bo,at'⟩:=p;simp only at hlt c6 ⊢;have hl':(at':Int)<(s.size:Int):=by omega
 obtain⟨c,hc⟩:∃c,s[at']'hlt=c:=⟨_,rfl⟩
 rw [hc];have x0:(w.alloc (.cells #[.int .u8 0,.int .u8 0] 246)).cell? ⟨rb,0,none⟩=some (.string s):=(oN _ _ _ HR.out).trans c0;have x6:(w.alloc (.cells #[.int .u8 0,.int .u8 0] 246)).cell? ⟨rb,6,none⟩=some (.int .i64 at'):=(oN _ _ _ HR.out).trans c6;have y0:((w.alloc (.cells #[.int .u8 0,.int .u8 0] 246)).alloc (.cells #[.int .u8 0,.int .u8 0] 246)).cell? ⟨rb,0,none⟩=some (.string s):=(oN _ _ _ (by simp;have:=HR.out;omega)).trans x0;have y6:((w.alloc (.cells #[.int .u8 0,.int .u8 0] 246)).alloc (.cells #[.int .u8 0,.int .u8 0] 246)).cell? ⟨rb,6,none⟩=some (.int .i64 at'):=(oN _ _ _ (by simp;have:=HR.out;omega)).trans x6;by_cases h2:at'+1<s.size
 .rw [uX h2];obtain⟨d,hd⟩:∃d,s[at'+1]'h2=d:=⟨_,rfl⟩
  rw [hd];have h2':(at':Int)+1<(s.size:Int):=by omega
  go_enter func178,ntmps178;go_wp2;go_region;all_goals
   have z0:((w.alloc (.cells #[.int .u8 0,.int .u8 0] 246)).alloc (.cells #[.int .u8 c.toNat,.int .u8 10] 246)).cell? ⟨rb,0,none⟩=some (.string s):=(oN _ _ _ (by simp;have:=HR.out;omega)).trans x0;have z6:((w.alloc (.cells #[.int .u8 0,.int .u8 0] 246)).alloc (.cells #[.int .u8 c.toNat,.int .u8 10] 246)).cell? ⟨rb,6,none⟩=some (.int .i64 at'):=(oN _ _ _ (by simp;have:=HR.out;omega)).trans x6;go_wp2;go_region;go_wp2;go_region;all_goals
    go_wp2;exact bodyPost_ret (v:= .agg #[.int .u8 c.toNat,.int .u8 d.toNat]) (by simp [results,results178,Tryz.isAgg246,Tryz.sizeOf246,go_sem]) rfl ⟨rfl,(((((Below.refl _ _).alloc (Nat.le_refl _) _).alloc (by simp) _).drew).drew).drew⟩
 .rw [wH h2];have h2':¬(at':Int)+1<(s.size:Int):=by omega
  go_enter func178,ntmps178;go_wp2;go_region;all_goals
   have z0:((w.alloc (.cells #[.int .u8 0,.int .u8 0] 246)).alloc (.cells #[.int .u8 c.toNat,.int .u8 10] 246)).cell? ⟨rb,0,none⟩=some (.string s):=(oN _ _ _ (by simp;have:=HR.out;omega)).trans x0;have z6:((w.alloc (.cells #[.int .u8 0,.int .u8 0] 246)).alloc (.cells #[.int .u8 c.toNat,.int .u8 10] 246)).cell? ⟨rb,6,none⟩=some (.int .i64 at'):=(oN _ _ _ (by simp;have:=HR.out;omega)).trans x6;go_wp2;go_region;go_wp2;exact bodyPost_ret (v:= .agg #[.int .u8 c.toNat,.int .u8 10]) (by simp [results,results178,Tryz.isAgg246,Tryz.sizeOf246,go_sem]) rfl ⟨rfl,((((Below.refl _ _).alloc (Nat.le_refl _) _).alloc (by simp) _).drew).drew⟩
def bf(s:ByteArray)(i:Nat):Nat:=if i<s.size/\bt s i≠10 then bf s (i+1)else i
termination_by s.size - i
theorem Hy {s:ByteArray}{i:Nat}(h:i<=s.size):bf s i<=s.size:=by
 fun_induction bf s i with
 |case1 i h1 ih=>exact ih (by omega)
 |case2 i h1=>exact h
theorem Ae(s:ByteArray)(i:Nat):i<=bf s i:=by
 fun_induction bf s i with
 |case1 i h1 ih=>omega
 |case2 i h1=>omega
theorem aiL(w:World)(rb:Nat)(s:ByteArray)(tv:Value)(p:RP)(st:Bool)(h:Rd w rb s tv p st)(hle:p.at_<=s.size)(hz:s.size<=100000):
  Calls prog 183 #[.pointer (some ⟨rb,0,none⟩)] w fun e w'=>(∃v,e= .returned v)/\Rd w' rb s tv {p with at_:=if st then p.at_ else bf s p.at_} st/\w.grownBy w' (some rb):=by
 obtain⟨ln,sa,fr,bo,ja⟩:=p;simp only at hle ⊢;obtain⟨E,hE⟩:∃E,(if st then ja else bf s ja)=E:=⟨_,rfl⟩
 rw [hE];have HE:Hid ((if st then ja else bf s ja)=E):=hE;clear hE;go_enter func183,ntmps183;go_wp2;go_loopg [] (s.size - ja) (fun gh W=>∃a,a<=s.size/\gh=s.size - a/\Rd W rb s tv ⟨ln,sa,fr,bo,a⟩ st/\w.grownBy W (some rb)/\(if st then a else bf s a)=E);case atStart=>exact⟨ja,hle,rfl,h,kZ _ _,HE.out⟩
 case round=>
  obtain⟨a,ha,rfl,hR,hG,hEa⟩:=hrel;have HR:Hid (Rd wr rb s tv ⟨ln,sa,fr,bo,a⟩ st):=hR;have HG:Hid (w.grownBy wr (some rb)):=hG;have HL:Hid (∀_x:Nat,Calls prog 182 #[.pointer (some ⟨rb,0,none⟩)] wr fun e w'=>e= .returned (.bool (rW s ⟨ln,sa,fr,bo,a⟩ st))/\∃m,w'=wr.drewN m):=fun _=>Ww wr rb s tv ⟨ln,sa,fr,bo,a⟩ st hR ha
  have Fs:Hid ((if st then a else bf s a)=E):=hEa;by_cases hb:rW s ⟨ln,sa,fr,bo,a⟩ st=true
  .rw [hb]at HL;have HX:Hid (a=E):=by
    show _=_;unfold rW jN at hb;simp only [Bool.or_eq_true,decide_eq_true_eq]at hb;cases st with
    |true=>exact hEa
    |false=>
     rw [if_neg (by decide),bf,if_neg]at hEa
     .exact hEa
     .rintro⟨h1,h2⟩;rcases hb with(h3|h3)|h3
      .cases h3
      .omega
      .exact h2 h3
   clear hb hR hG hEa;go_wp2_with(go_at_call 182;refine(HL.out 0).mono ?_;rintro ev wx ⟨rfl,m,rfl⟩);go_end0;refine⟨⟨_,rfl⟩,?_,yC HG.out⟩;rw [<-HX.out];exact HR.out.drewN _
  .have hb:rW s ⟨ln,sa,fr,bo,a⟩ st=false:=by simpa using hb
   rw [hb]at HL;unfold rW jN at hb;simp only [Bool.or_eq_false_iff,decide_eq_false_iff_not]at hb;obtain⟨⟨rfl,h2⟩,h3⟩:=hb;have HX:Hid ((if false then a+1 else bf s (a+1))=E):=by
    show(if false=true then _ else _)=_;rw [if_neg (by decide)]at hEa ⊢;rw [bf,if_pos ⟨by omega,h3⟩]at hEa;exact hEa
   have c6:=hR.c6;have f6:=hR.fz 6;simp only at c6;have ha1:a<s.size:=by omega
   clear hR hG hEa h2 h3;go_wp2_with(go_at_call 182;refine(HL.out 0).mono ?_;rintro ev wx ⟨rfl,m,rfl⟩);go_roundg (s.size - (a+1));case measure=>omega
   case rel=>exact⟨a+1,by omega,rfl,(HR.out.drewN _).s6 (a+1),jU (yC HG.out),HX.out⟩
def Same(A B:World):Prop:=∀(k:Nat)(o:Obj),A.heap[k]? =some o->o.isCells=false->B.heap[k]? =some o
def ahz {α:Type}(Kp:World->World->Prop)(I:List α->World->Prop)(Ix:Code->List α->World->Prop)(xs:List α)(W:World):Exit->Act->World->Prop
 | .normal,_,W'=>Same W W'/\Kp W W'/\I xs W'
 | .ret,_,W'=>Same W W'/\Kp W W'/\Ix .ret xs W'
 | .exit id,_,W'=>Same W W'/\Kp W W'/\Ix (.exit id) xs W'
 | .goto t,_,W'=>Same W W'/\Kp W W'/\Ix (.goto t) xs W'
 | .panic _,_,_=>False
 | .outgrown,_,_=>False
theorem fC {W:World}{l k:Nat}{o:Obj}(h:k≠l):(W.putObj l o).heap[k]? =W.heap[k]? :=World.putObj_heap_other h
structure PR where
 line:Nat
 kind:Nat
 from_:Nat
 di:Nat
 body:Nat
 end_:Nat
def Dy(x:PR):Array Value:=#[.int .i64 x.line,.agg #[.int .i64 x.kind,.int .i64 x.from_,.int .i64 x.di,.int .i64 x.body,.int .i64 x.end_]]
structure iY(A B:World):Prop where
 os:B.os=A.os
 tape:B.tape=A.tape
 output:B.output=A.output
 size:A.heap.size<=B.heap.size
 block:∀(k:Nat)(o:Obj),A.heap[k]? =some o->(∀c fr,o=Obj.cells c 244 fr->¬(c.size=8/\∃t,c[0]? =some (.string t)))->B.heap[k]? =some o
structure tq(n₀:Nat)(A B:World):Prop where
 below:Below n₀ A B
 rd:∀(k:Nat)(c:Array Value)(fr:Nat×Nat),A.heap[k]? =some (Obj.cells c 244 fr)->B.heap[k]? =some (Obj.cells c 244 fr)
theorem iY.Aj {A B:World}{rb:Nat}{c:Array Value}{fr:Nat×Nat}(h:A.heap[rb]? =some (.cells c 244 fr))(hg:A.grownBy B (some rb))(hc:c.size=8/\∃t,c[0]? =some (.string t):=by exact⟨rfl,_,rfl⟩):iY A B where
 os:=hg.os
 tape:=hg.tape
 output:=hg.output
 size:=hg.size
 block k o hk hne:=by
  rw [hg.block k (bJ hk)]
  .exact hk
  .intro e;obtain rfl:=Option.some.inj e;rw [h]at hk;exact hne _ _ (Option.some.inj hk).symm hc
structure Tl(l n₀:Nat)(J Jx:List PR->World->Prop)(X:List PR):Prop where
 hJ:∀pre A B,J pre A->iY A B->J pre B
 hJx:∀pre A B,Jx pre A->iY A B->Jx pre B
 hY:∀pre x W1,J pre W1->(pre++[x])<+:X->YieldAt Fence.wide 0 prog l (Dy x) W1 fun e W'=>(e= .returned (.bool true)/\J (pre++[x]) W'/\tq n₀ W1 W')∨(e= .returned (.bool false)/\Jx (pre++[x]) W'/\tq n₀ W1 W')
structure Rs(w:World)(rb:Nat)(s:ByteArray)(l:Nat)(J Jx:List PR->World->Prop)(X:List PR)(p:RP)(st:Bool)(pre:List PR):Prop where
 rd:Rd w rb s (.func (.yield l) #[] #[]) p st
 go:st=false->J pre w
 no:st=true->∃q,q<+:X/\Jx q w
def aW(k t:Nat)(p:RP):List PR:=if p.from_=p.at_+t then []else [⟨p.line,k,p.from_ - p.start,p.at_+t - p.start,if k=0 then 0 else p.body - p.start,if k=0 then 0 else p.at_ - p.start⟩]
def bq(t:Nat)(p:RP):RP:=if p.from_=p.at_+t then⟨p.line,p.start,p.from_,p.body,p.at_+t⟩else⟨p.line,p.start,p.at_+t,p.at_+t,p.at_+t⟩
def dX(t:Nat)(p:RP)(st:Bool):RP:=if st then⟨p.line,p.start,p.from_,p.body,p.at_+t⟩else bq t p
section
variable{w w':World}{rb:Nat}{s:ByteArray}{l n₀:Nat}{J Jx:List PR->World->Prop}{X:List PR}{p p':RP}{st st':Bool}{pre:List PR}
theorem Rs.jS(h:Rs w rb s l J Jx X p st pre)(T:Tl l n₀ J Jx X)(ha:iY w w')(hr:Rd w' rb s (.func (.yield l) #[] #[]) p' st):Rs w' rb s l J Jx X p' st pre:=
 ⟨hr,fun e=>T.hJ _ _ _ (h.go e) ha,fun e=>by obtain⟨q,hq,hx⟩:=h.no e;exact⟨q,hq,T.hJx _ _ _ hx ha⟩⟩
theorem Rs.grown(h:Rs w rb s l J Jx X p st pre)(T:Tl l n₀ J Jx X)(hg:w.grownBy w' (some rb))(hr:Rd w' rb s (.func (.yield l) #[] #[]) p' st):Rs w' rb s l J Jx X p' st pre:=
 h.jS T (iY.Aj h.rd hg) hr
end
theorem TY {a b:World}{r:Option Nat}(h:a.grownBy b r)(o:Obj):a.grownBy (b.alloc o) r:=⟨h.os,h.tape,h.output,by have:=h.size;simp;omega,fun k hk hne=>(Below.heap_alloc _ _ _ (by have:=h.size;omega)).trans (h.block k hk hne)⟩
theorem Below.yT {n₀:Nat}{a b:World}{rb:Nat}(h:a.grownBy b (some rb))(h1:n₀<=rb)(h2:n₀<=a.heap.size):Below n₀ a b:=(Below.refl n₀ a).grown h h2 (fun k e=>by obtain rfl:=Option.some.inj e;exact h1)
def yz(n:Nat):Code->Option Code
 | .region id ops d=>if id=n then some (.region id ops d)else none
 |.seq a b=>match yz n a with
  |some c=>some c
  |none=>yz n b
 | .block _ c=>yz n c
 | .scope c=>yz n c
 | .loop c=>yz n c
 |.cond _ a b=>match yz n a with
  |some c=>some c
  |none=>yz n b
 |_=>none
noncomputable def acu:Code:=((Tryz.f179.body.bind (yz 6)).getD .skip)
theorem Sd(w:World)(rb pb:Nat)(s:ByteArray)(l n₀:Nat)(J Jx:List PR->World->Prop)(X:List PR)(T:Tl l n₀ J Jx X)(hn:n₀<=rb)(p:RP)(pre:List PR)(ki F G B D:Nat)(W3:World)
  (hP:W3.heap[pb]? =some (.cells #[.int .i64 ki,.int .i64 F,.int .i64 G,.int .i64 B,.int .i64 D] 75 (0,0))) (hB3:Below n₀ w W3) (rU:Rs W3 rb s l J Jx X p false pre) (hX:(pre++[(⟨p.line,ki,F,G,B,D⟩:PR)])<+:X)
  (K:Act->World->Prop) (R0:Ending->World->Prop) (u1 u2 u3 u4 u5 u6 u8 u9 qA qB qD qE qF qG u16 qH qI qJ u20 u21 u22 u23 u24 u25 u26 u27 u28 u29 u30 u31 u32 u33 u34 u35 u36 u37 u38 qK u40 qL u42 qM u44 u45 u46 qN u48 u49 qO u51 qP u53 qV u55 qW qX u58 u59 u60 qY qZ u63 u64 q9 u66 rq u68 u69 u70 ry u72 u73 sD u75 sF sG sH sI sJ sK sM sN sO sP sQ u87 u88 u89 u90 u91 u92 u93 u94 u95 u96 u97 u98 u99 aab aac:Value)
  (hK:∀(b:Bool)(W5:World)(v74 v75 v76 v77 v78 v79 v80 v81 v82 v83 v84 v85 v86 v87:Value),Below n₀ w W5->Rd W5 rb s (.func (.yield l) #[] #[]) p (!b)->(b=true->J (pre++[⟨p.line,ki,F,G,B,D⟩]) W5)->(b=false->Jx (pre++[⟨p.line,ki,F,G,B,D⟩]) W5)->K {tmps:=#[.pointer (some ⟨rb,0,none⟩),u1,u2,u3,u4,u5,u6,.pointer (some ⟨pb,0,none⟩),u8,u9,qA,qB,qD,qE,qF,qG,u16,qH,qI,qJ,u20,u21,u22,u23,u24,u25,u26,u27,u28,u29,u30,u31,u32,u33,u34,u35,u36,u37,u38,qK,u40,qL,u42,qM,u44,u45,u46,qN,u48,u49,qO,u51,qP,u53,qV,u55,qW,qX,u58,u59,u60,qY,qZ,u63,u64,q9,u66,rq,u68,u69,u70,ry,u72,u73,v74,v75,v76,v77,v78,v79,v80,v81,v82,v83,v84,v85,v86,v87,u88,u89,u90,u91,u92,u93,u94,u95,u96,u97,u98,u99,aab,aac],defers:=[]} W5):
  Code.wp prog acu (Exit.then K (bodyPost prog Tryz.f179 R0)) {tmps:=#[.pointer (some ⟨rb,0,none⟩),u1,u2,u3,u4,u5,u6,.pointer (some ⟨pb,0,none⟩),u8,u9,qA,qB,qD,qE,qF,qG,u16,qH,qI,qJ,u20,u21,u22,u23,u24,u25,u26,u27,u28,u29,u30,u31,u32,u33,u34,u35,u36,u37,u38,qK,u40,qL,u42,qM,u44,u45,u46,qN,u48,u49,qO,u51,qP,u53,qV,u55,qW,qX,u58,u59,u60,qY,qZ,u63,u64,q9,u66,rq,u68,u69,u70,ry,u72,u73,sD,u75,sF,sG,sH,sI,sJ,sK,sM,sN,sO,sP,sQ,u87,u88,u89,u90,u91,u92,u93,u94,u95,u96,u97,u98,u99,aab,aac],defers:=[]} W3:=by
 conv=>arg 2;whnf
 have HK:Hid _:=hK;have HP:Hid _:=hP;have rA:Hid (Below n₀ w W3/\Rs W3 rb s l J Jx X p false pre):=⟨hB3,rU⟩
 have HX:Hid _:=hX;clear hK hB3 hX;obtain⟨ln,sa,fr,bo,aM⟩:=p;simp only at HX;have c1:=rU.rd.c1;have c2:=rU.rd.c2;simp only at c2;have q0:W3.cell? ⟨pb,0,none⟩=some (.int .i64 ki):=au hP 0;have q1:W3.cell? ⟨pb,1,none⟩=some (.int .i64 F):=au hP 1;have q2:W3.cell? ⟨pb,2,none⟩=some (.int .i64 G):=au hP 2;have q3:W3.cell? ⟨pb,3,none⟩=some (.int .i64 B):=au hP 3;have q4:W3.cell? ⟨pb,4,none⟩=some (.int .i64 D):=au hP 4;clear hP rU;obtain⟨fn,tmps,assign,body,hy,hR⟩:=T.hY pre ⟨ln,ki,F,G,B,D⟩ W3.drew (T.hJ _ _ _ (rA.out.2.go rfl) (iY.Aj rA.out.2.rd (yB (kZ _ _)))) HX.out;have hR':RoundIn Fence.wide 0 prog l fn tmps assign body W3.drew fun e W'=>∃b,e= .returned (.bool b)/\W'.cell? ⟨rb,7,none⟩=some (.bool false)/\W'.frozen? ⟨rb,7,none⟩=false/\Hid (Below n₀ w W'/\Rd W' rb s (.func (.yield l) #[] #[]) ⟨ln,sa,fr,bo,aM⟩ false/\(b=true->J (pre++[⟨ln,ki,F,G,B,D⟩]) W')/\(b=false->Jx (pre++[⟨ln,ki,F,G,B,D⟩]) W')):=by
  refine hR.mono ?_;have hB3:=rA.out.1;have rU:=rA.out.2.rd;rintro e W' (⟨rfl,hj,hkp⟩|⟨rfl,hj,hkp⟩)
  .have hrd:Rd W' rb s (.func (.yield l) #[] #[]) ⟨ln,sa,fr,bo,aM⟩ false:=hkp.rd _ _ _ rU;exact⟨true,rfl,hrd.c7,hrd.fz 7,hB3.drew.trans hkp.below,hrd,fun _=>hj,fun e=>by cases e⟩
  .have hrd:Rd W' rb s (.func (.yield l) #[] #[]) ⟨ln,sa,fr,bo,aM⟩ false:=hkp.rd _ _ _ rU;exact⟨false,rfl,hrd.c7,hrd.fz 7,hB3.drew.trans hkp.below,hrd,(fun e=>by cases e),fun _=>hj⟩
 have hy':(Instr.yield l #[.int .i64 ln,.agg #[.int .i64 ki,.int .i64 F,.int .i64 G,.int .i64 B,.int .i64 D]]).run prog W3.drew= .ok (.round l fn tmps assign body) W3.drew:=hy;clear hR hy;have hdp:Fence.wide.depth=none:=rfl;refine(wpIn_wide (n:=0)).1 ?_
 gi_region_with (first|((first|refine hR'.mono ?_|refine⟨rfl,hR'.mono ?_⟩);rintro ev W4 ⟨b,rfl,v7,g7,H4⟩))
 all_goals
  obtain⟨k1,k2,k3,k4⟩:=H4.out;have ka:iY W4 (W4.setCell ⟨rb,7,none⟩ (.bool (!b))):=iY.Aj k2 (jU (kZ _ _));exact HK.out b _ _ _ _ _ _ _ _ _ _ _ _ _ _ _ (k1.setCell (p:=⟨rb,7,none⟩) hn _) (k2.s7 _) (fun e=>T.hJ _ _ _ (k3 e) ka) (fun e=>T.hJx _ _ _ (k4 e) ka)
