import Derived.Test.YtkbinfhclaafhaaGreatDoorZ17
import Derived.Test.YtkbinfhclaafhaaGreatDoorShelf
import Derived.Test.YtkbinfhclaafhaaGreatDoorZ01
import Derived.Lib.IndexAny
import Derived.LaidEql
import Derived.Stop.Asserts
import Derived.RowKitTokens
import Derived.Lib.OthersKept
import Derived.Test.YtkbinfhclaafhaaGreatDoorZ19
import Derived.Test.YtkbinfhclaafhaaGreatDoorZ06
namespace Go.Proofs.YtkbinfhclaafhaaGreatDoor
open Go.RowKit
open Go.Proofs.Tryz
set_option maxRecDepth 100000
set_option maxHeartbeats 32000000
set_option linter.all false
def lX:List (Int×Int×Int):=[(1488,1514,1),(8207,8207,1),(1575,1610,2),(1564,1564,2),(48,57,3),(43,43,4),(45,45,4),(35,37,5),(8364,8364,5),(1632,1641,6),(44,44,7),(46,47,7),(58,58,7),(768,879,8),(1611,1618,8),(173,173,9),(8203,8203,9),(9,9,10),(32,32,11),(8195,8195,11),(33,34,12),(38,42,12),(59,64,12),(91,96,12),(123,126,12),(9001,9002,12),(12296,12297,12),(8234,8234,13),(8235,8235,14),(8237,8237,15),(8238,8238,16),(8236,8236,17),(8294,8294,18),(8295,8295,19),(8296,8296,20),(8297,8297,21)]
def AX:Array Value:=#[.int .i32 1488,.int .i32 1514,.int .i64 1,.int .i32 8207,.int .i32 8207,.int .i64 1,.int .i32 1575,.int .i32 1610,.int .i64 2,.int .i32 1564,.int .i32 1564,.int .i64 2,.int .i32 48,.int .i32 57,.int .i64 3,.int .i32 43,.int .i32 43,.int .i64 4,.int .i32 45,.int .i32 45,.int .i64 4,.int .i32 35,.int .i32 37,.int .i64 5,.int .i32 8364,.int .i32 8364,.int .i64 5,.int .i32 1632,.int .i32 1641,.int .i64 6,.int .i32 44,.int .i32 44,.int .i64 7,.int .i32 46,.int .i32 47,.int .i64 7,.int .i32 58,.int .i32 58,.int .i64 7,.int .i32 768,.int .i32 879,.int .i64 8,.int .i32 1611,.int .i32 1618,.int .i64 8,.int .i32 173,.int .i32 173,.int .i64 9,.int .i32 8203,.int .i32 8203,.int .i64 9,.int .i32 9,.int .i32 9,.int .i64 10,.int .i32 32,.int .i32 32,.int .i64 11,.int .i32 8195,.int .i32 8195,.int .i64 11,.int .i32 33,.int .i32 34,.int .i64 12,.int .i32 38,.int .i32 42,.int .i64 12,.int .i32 59,.int .i32 64,.int .i64 12,.int .i32 91,.int .i32 96,.int .i64 12,.int .i32 123,.int .i32 126,.int .i64 12,.int .i32 9001,.int .i32 9002,.int .i64 12,.int .i32 12296,.int .i32 12297,.int .i64 12,.int .i32 8234,.int .i32 8234,.int .i64 13,.int .i32 8235,.int .i32 8235,.int .i64 14,.int .i32 8237,.int .i32 8237,.int .i64 15,.int .i32 8238,.int .i32 8238,.int .i64 16,.int .i32 8236,.int .i32 8236,.int .i64 17,.int .i32 8294,.int .i32 8294,.int .i64 18,.int .i32 8295,.int .i32 8295,.int .i64 19,.int .i32 8296,.int .i32 8296,.int .i64 20,.int .i32 8297,.int .i32 8297,.int .i64 21]
theorem ah0:∀(k:Nat)(_hk:k<36)(w:World),(Instr.index 176 (.agg AX) (.int .i64 k)).run prog w= .ok (.agg #[.int .i32 (lX.getD k (0,0,0)).1,.int .i32 (lX.getD k (0,0,0)).2.1,.int .i64 (lX.getD k (0,0,0)).2.2]) w
 |0,_,_=>by kernel_rfl
 |1,_,_=>by kernel_rfl
 |2,_,_=>by kernel_rfl
 |3,_,_=>by kernel_rfl
 |4,_,_=>by kernel_rfl
 |5,_,_=>by kernel_rfl
 |6,_,_=>by kernel_rfl
 |7,_,_=>by kernel_rfl
 |8,_,_=>by kernel_rfl
 |9,_,_=>by kernel_rfl
 |10,_,_=>by kernel_rfl
 |11,_,_=>by kernel_rfl
 |12,_,_=>by kernel_rfl
 |13,_,_=>by kernel_rfl
 |14,_,_=>by kernel_rfl
 |15,_,_=>by kernel_rfl
 |16,_,_=>by kernel_rfl
 |17,_,_=>by kernel_rfl
 |18,_,_=>by kernel_rfl
 |19,_,_=>by kernel_rfl
 |20,_,_=>by kernel_rfl
 |21,_,_=>by kernel_rfl
 |22,_,_=>by kernel_rfl
 |23,_,_=>by kernel_rfl
 |24,_,_=>by kernel_rfl
 |25,_,_=>by kernel_rfl
 |26,_,_=>by kernel_rfl
 |27,_,_=>by kernel_rfl
 |28,_,_=>by kernel_rfl
 |29,_,_=>by kernel_rfl
 |30,_,_=>by kernel_rfl
 |31,_,_=>by kernel_rfl
 |32,_,_=>by kernel_rfl
 |33,_,_=>by kernel_rfl
 |34,_,_=>by kernel_rfl
 |35,_,_=>by kernel_rfl
 |n+36,h,_=>absurd h (by omega)
theorem ajI:wX {data:=#[33,34,38,39,40,41,42,59,60,61,62,63,64,91,92,93,94,95,96,123,124,125,126]}=[33,34,38,39,40,41,42,59,60,61,62,63,64,91,92,93,94,95,96,123,124,125,126]:=by decide
theorem afO(r:Int)(k:Nat)(hk:k<36)(h1:(lX.getD k (0,0,0)).1<=r)(h2:r<=(lX.getD k (0,0,0)).2.1):cls r=(lX.getD k (0,0,0)).2.2:=by
 match k,hk,h1,h2 with
 |0,_,h1,h2=>
  have h1:(1488:Int)<=r:=h1;have h2:r<=1514:=h2;show cls r=1;exact K8 (by omega)
 |1,_,h1,h2=>
  have h1:(8207:Int)<=r:=h1;have h2:r<=8207:=h2;show cls r=1;exact K8 (by omega)
 |2,_,h1,h2=>
  have h1:(1575:Int)<=r:=h1;have h2:r<=1610:=h2;show cls r=2;exact K9 (by omega)
 |3,_,h1,h2=>
  have h1:(1564:Int)<=r:=h1;have h2:r<=1564:=h2;show cls r=2;exact K9 (by omega)
 |4,_,h1,h2=>
  have h1:(48:Int)<=r:=h1;have h2:r<=57:=h2;show cls r=3;exact WK (by omega)
 |5,_,h1,h2=>
  have h1:(43:Int)<=r:=h1;have h2:r<=43:=h2;show cls r=4;exact La (by omega)
 |6,_,h1,h2=>
  have h1:(45:Int)<=r:=h1;have h2:r<=45:=h2;show cls r=4;exact La (by omega)
 |7,_,h1,h2=>
  have h1:(35:Int)<=r:=h1;have h2:r<=37:=h2;show cls r=5;have h:r=35∨r=36∨r=37:=by omega
  rcases h with rfl|rfl|rfl<;>decide
 |8,_,h1,h2=>
  have h1:(8364:Int)<=r:=h1;have h2:r<=8364:=h2;show cls r=5;have h:r=8364:=by omega
  subst h;decide
 |9,_,h1,h2=>
  have h1:(1632:Int)<=r:=h1;have h2:r<=1641:=h2;show cls r=6;exact WL (by omega)
 |10,_,h1,h2=>
  have h1:(44:Int)<=r:=h1;have h2:r<=44:=h2;show cls r=7;have h:r=44:=by omega
  subst h;decide
 |11,_,h1,h2=>
  have h1:(46:Int)<=r:=h1;have h2:r<=47:=h2;show cls r=7;have h:r=46∨r=47:=by omega
  rcases h with rfl|rfl<;>decide
 |12,_,h1,h2=>
  have h1:(58:Int)<=r:=h1;have h2:r<=58:=h2;show cls r=7;have h:r=58:=by omega
  subst h;decide
 |13,_,h1,h2=>
  have h1:(768:Int)<=r:=h1;have h2:r<=879:=h2;show cls r=8;exact Lb (by omega)
 |14,_,h1,h2=>
  have h1:(1611:Int)<=r:=h1;have h2:r<=1618:=h2;show cls r=8;exact Lb (by omega)
 |15,_,h1,h2=>
  have h1:(173:Int)<=r:=h1;have h2:r<=173:=h2;show cls r=9;exact Lc (by omega)
 |16,_,h1,h2=>
  have h1:(8203:Int)<=r:=h1;have h2:r<=8203:=h2;show cls r=9;exact Lc (by omega)
 |17,_,h1,h2=>
  have h1:(9:Int)<=r:=h1;have h2:r<=9:=h2;show cls r=10;exact WM (by omega)
 |18,_,h1,h2=>
  have h1:(32:Int)<=r:=h1;have h2:r<=32:=h2;show cls r=11;exact Ld (by omega)
 |19,_,h1,h2=>
  have h1:(8195:Int)<=r:=h1;have h2:r<=8195:=h2;show cls r=11;exact Ld (by omega)
 |20,_,h1,h2=>
  have h1:(33:Int)<=r:=h1;have h2:r<=34:=h2;show cls r=12;have h:r=33∨r=34:=by omega
  rcases h with rfl|rfl<;>decide
 |21,_,h1,h2=>
  have h1:(38:Int)<=r:=h1;have h2:r<=42:=h2;show cls r=12;have h:r=38∨r=39∨r=40∨r=41∨r=42:=by omega
  rcases h with rfl|rfl|rfl|rfl|rfl<;>decide
 |22,_,h1,h2=>
  have h1:(59:Int)<=r:=h1;have h2:r<=64:=h2;show cls r=12;have h:r=59∨r=60∨r=61∨r=62∨r=63∨r=64:=by omega
  rcases h with rfl|rfl|rfl|rfl|rfl|rfl<;>decide
 |23,_,h1,h2=>
  have h1:(91:Int)<=r:=h1;have h2:r<=96:=h2;show cls r=12;have h:r=91∨r=92∨r=93∨r=94∨r=95∨r=96:=by omega
  rcases h with rfl|rfl|rfl|rfl|rfl|rfl<;>decide
 |24,_,h1,h2=>
  have h1:(123:Int)<=r:=h1;have h2:r<=126:=h2;show cls r=12;have h:r=123∨r=124∨r=125∨r=126:=by omega
  rcases h with rfl|rfl|rfl|rfl<;>decide
 |25,_,h1,h2=>
  have h1:(9001:Int)<=r:=h1;have h2:r<=9002:=h2;show cls r=12;have h:r=9001∨r=9002:=by omega
  rcases h with rfl|rfl<;>decide
 |26,_,h1,h2=>
  have h1:(12296:Int)<=r:=h1;have h2:r<=12297:=h2;show cls r=12;have h:r=12296∨r=12297:=by omega
  rcases h with rfl|rfl<;>decide
 |27,_,h1,h2=>
  have h1:(8234:Int)<=r:=h1;have h2:r<=8234:=h2;show cls r=13;have h:r=8234:=by omega
  subst h;decide
 |28,_,h1,h2=>
  have h1:(8235:Int)<=r:=h1;have h2:r<=8235:=h2;show cls r=14;have h:r=8235:=by omega
  subst h;decide
 |29,_,h1,h2=>
  have h1:(8237:Int)<=r:=h1;have h2:r<=8237:=h2;show cls r=15;have h:r=8237:=by omega
  subst h;decide
 |30,_,h1,h2=>
  have h1:(8238:Int)<=r:=h1;have h2:r<=8238:=h2;show cls r=16;have h:r=8238:=by omega
  subst h;decide
 |31,_,h1,h2=>
  have h1:(8236:Int)<=r:=h1;have h2:r<=8236:=h2;show cls r=17;have h:r=8236:=by omega
  subst h;decide
 |32,_,h1,h2=>
  have h1:(8294:Int)<=r:=h1;have h2:r<=8294:=h2;show cls r=18;exact(G8 (by omega)).trans (by omega)
 |33,_,h1,h2=>
  have h1:(8295:Int)<=r:=h1;have h2:r<=8295:=h2;show cls r=19;exact(G8 (by omega)).trans (by omega)
 |34,_,h1,h2=>
  have h1:(8296:Int)<=r:=h1;have h2:r<=8296:=h2;show cls r=20;exact(G8 (by omega)).trans (by omega)
 |35,_,h1,h2=>
  have h1:(8297:Int)<=r:=h1;have h2:r<=8297:=h2;show cls r=21;exact(G8 (by omega)).trans (by omega)
 |n+36,h,_,_=>exact absurd h (by omega)
theorem KS {r:Int}{l:List Int}(h:∀x∈l,r≠x):je r l=false:=by
 unfold je;rw [Vy,BA];exact fun hm=>h r hm rfl
theorem afP(r:Int)(h:∀k,k<36->¬((lX.getD k (0,0,0)).1<=r/\r<=(lX.getD k (0,0,0)).2.1)):cls r=0:=by
 have g0:¬((1488:Int)<=r/\r<=1514):=h 0 (by decide);have g1:¬((8207:Int)<=r/\r<=8207):=h 1 (by decide);have g2:¬((1575:Int)<=r/\r<=1610):=h 2 (by decide);have g3:¬((1564:Int)<=r/\r<=1564):=h 3 (by decide);have g4:¬((48:Int)<=r/\r<=57):=h 4 (by decide);have g5:¬((43:Int)<=r/\r<=43):=h 5 (by decide);have g6:¬((45:Int)<=r/\r<=45):=h 6 (by decide);have g7:¬((35:Int)<=r/\r<=37):=h 7 (by decide);have g8:¬((8364:Int)<=r/\r<=8364):=h 8 (by decide);have g9:¬((1632:Int)<=r/\r<=1641):=h 9 (by decide);have g10:¬((44:Int)<=r/\r<=44):=h 10 (by decide);have g11:¬((46:Int)<=r/\r<=47):=h 11 (by decide);have g12:¬((58:Int)<=r/\r<=58):=h 12 (by decide);have g13:¬((768:Int)<=r/\r<=879):=h 13 (by decide);have g14:¬((1611:Int)<=r/\r<=1618):=h 14 (by decide);have g15:¬((173:Int)<=r/\r<=173):=h 15 (by decide);have g16:¬((8203:Int)<=r/\r<=8203):=h 16 (by decide);have g17:¬((9:Int)<=r/\r<=9):=h 17 (by decide);have g18:¬((32:Int)<=r/\r<=32):=h 18 (by decide);have g19:¬((8195:Int)<=r/\r<=8195):=h 19 (by decide);have g20:¬((33:Int)<=r/\r<=34):=h 20 (by decide);have g21:¬((38:Int)<=r/\r<=42):=h 21 (by decide);have g22:¬((59:Int)<=r/\r<=64):=h 22 (by decide);have g23:¬((91:Int)<=r/\r<=96):=h 23 (by decide);have g24:¬((123:Int)<=r/\r<=126):=h 24 (by decide);have g25:¬((9001:Int)<=r/\r<=9002):=h 25 (by decide);have g26:¬((12296:Int)<=r/\r<=12297):=h 26 (by decide);have g27:¬((8234:Int)<=r/\r<=8234):=h 27 (by decide);have g28:¬((8235:Int)<=r/\r<=8235):=h 28 (by decide);have g29:¬((8237:Int)<=r/\r<=8237):=h 29 (by decide);have g30:¬((8238:Int)<=r/\r<=8238):=h 30 (by decide);have g31:¬((8236:Int)<=r/\r<=8236):=h 31 (by decide);have g32:¬((8294:Int)<=r/\r<=8294):=h 32 (by decide);have g33:¬((8295:Int)<=r/\r<=8295):=h 33 (by decide);have g34:¬((8296:Int)<=r/\r<=8296):=h 34 (by decide);have g35:¬((8297:Int)<=r/\r<=8297):=h 35 (by decide);clear h;have hB:nZ r:=by unfold nZ;omega
 rw [WN hB,ajI];have a1:je r [35,36,37,8364]=false:=KS (by simp only [jF,OP,MD,PM,PL];omega);have a2:je r [44,46,47,58]=false:=KS (by simp only [jF,OP,MD,PM,PL];omega);have a3:je r [33,34,38,39,40,41,42,59,60,61,62,63,64,91,92,93,94,95,96,123,124,125,126]=false:=KS (by simp only [jF,OP,MD,PM,PL];omega);have a4:je r [9001,9002,12296,12297]=false:=KS (by simp only [jF,OP,MD,PM,PL];omega);rw [a1,a2,a3,a4,ai (by decide),ai (by decide),ai (by decide),ai (by omega),ai (by omega),ai (by omega),ai (by omega),ai (by omega)]
structure Env(w:World)(aL aT aC:Addr):Prop where
 long:w.cell? ⟨0,0,none⟩=some (.iface 354 (.pointer (some aL)))
 text:w.cell? ⟨1,0,none⟩=some (.iface 354 (.pointer (some aT)))
 code:w.cell? ⟨2,0,none⟩=some (.iface 354 (.pointer (some aC)))
 Lu:w.cell? ⟨3,0,none⟩=some (.iface 223 (.agg #[.pointer (some ⟨16,53,none⟩)]))
 tabs:Lib.Utf8Tabs (Tryz.lays196_ren.g 3) (Tryz.lays196_ren.g 4) w
 MX:∃t fr,w.heap[4]? =some (.cells AX t fr)
 Fm:aL≠aT
 Fp:aT≠aC
 Fl:aL≠aC
 yJ:∃c t,w.heap[aL.block]? =some (.cells c t (0,0))
 yK:∃c t,w.heap[aT.block]? =some (.cells c t (0,0))
 yI:∃c t,w.heap[aC.block]? =some (.cells c t (0,0))
theorem Env.below {w w':World}{aL aT aC:Addr}(h:Env w aL aT aC)(hb:Below w.heap.size w w'):Env w' aL aT aC where
 long:=jf hb h.long
 text:=jf hb h.text
 code:=jf hb h.code
 Lu:=jf hb h.Lu
 tabs:=Utf8Tabs_below h.tabs hb
 MX:=by obtain⟨t,fr,h⟩:=h.MX;exact⟨t,fr,cB hb h⟩
 Fm:=h.Fm
 Fp:=h.Fp
 Fl:=h.Fl
 yJ:=by obtain⟨c,t,h⟩:=h.yJ;exact⟨c,t,cB hb h⟩
 yK:=by obtain⟨c,t,h⟩:=h.yK;exact⟨c,t,cB hb h⟩
 yI:=by obtain⟨c,t,h⟩:=h.yI;exact⟨c,t,cB hb h⟩
theorem Tryz.amj:(prog.info? 176).map (·.size)=some AX.size:=by kernel_rfl
theorem WE(r:Int)(w:World)(t:TypeId)(fr:Nat×Nat)(hsp:w.heap[4]? =some (.cells AX t fr)):
  Calls prog 66 #[.int .i32 r] w fun e w'=>e= .returned (.int .i64 (cls r))/\Below w.heap.size w w':=by
 have hnd:∀(k:Nat)(_:k<36)(wx:World),(Instr.index 176 (.agg AX) (.int .i64 k)).run prog wx= .ok (.agg #[.int .i32 (lX.getD k (0,0,0)).1,.int .i32 (lX.getD k (0,0,0)).2.1,.int .i64 (lX.getD k (0,0,0)).2.2]) wx:=ah0;have HI:=ah hnd;have HH:=ah hsp;have HZ:=Tryz.amj;clear hnd hsp;generalize AX=sv at HI HH HZ;go_enter func66,ntmps66;go_wp2_with(refine Ua rfl 176 _ rfl 4 rfl t _ fr _ HH.out underlying176 rfl HZ ?_);go_loopw [6] (fun i wr=>∃k:Nat,k<=36/\i= .int .i64 k/\(∀j,j<k->¬((lX.getD j (0,0,0)).1<=r/\r<=(lX.getD j (0,0,0)).2.1))/\Below w.heap.size w wr) (fun i _=>36 - (intOf i).toNat);case atStart=>exact⟨0,rY _,rfl,fun j h=>absurd h (by omega),aA _ _⟩
 case round=>
  obtain⟨k,hk,rfl,hno,hb⟩:=hrel;have HN:=ah hno;have hbz:=hb.size;clear hno;by_cases hlt:k<36
  .have hlt':(k:Int)<36:=by omega
   have L3:=fun wx=>HI.out k hlt wx
   have HC:Hid _:=afO r k hlt;obtain⟨a,b,c,Qj⟩:∃a b c,lX.getD k (0,0,0)=(a,b,c):=⟨_,_,_,rfl⟩
   simp only [Qj]at L3;have HA:=ah Qj;clear Qj;by_cases h1:a<=r
   .by_cases h2:r<=b
    .go_wp2;go_ret;refine⟨bI ?_,hb.alloc hbz _⟩;have:=HC.out;rw [HA.out]at this;exact(this h1 h2).symm
    .have h2':decide (r<=b)=false:=by simpa using h2
     go_wp2;go_roundw;case rel=>
      refine⟨k+1,by omega,by go_num,fun j hj=> ?_,hb.alloc hbz _⟩;by_cases hjk:j<k
      .exact HN.out j hjk
      .obtain rfl:j=k:=by omega
       rw [HA.out];show¬(a<=r/\r<=b);omega
     case measure=>simp [intOf];omega
   .have h1':decide (a<=r)=false:=by simpa using h1
    go_wp2;go_roundw;case rel=>
     refine⟨k+1,by omega,by go_num,fun j hj=> ?_,hb.alloc hbz _⟩;by_cases hjk:j<k
     .exact HN.out j hjk
     .obtain rfl:j=k:=by omega
      rw [HA.out];show¬(a<=r/\r<=b);omega
    case measure=>simp [intOf];omega
  .go_wp2;go_ret;exact⟨bI (afP r fun j hj=>HN.out j (by omega)).symm,hb⟩
def Hr(e:Int)(aL aT aC:Addr):Value:=if e=0 then .nilIface else if e=1 then .iface 354 (.pointer (some aL))else if e=2 then .iface 354 (.pointer (some aT))else .iface 354 (.pointer (some aC))
theorem afV(s:ByteArray)(w:World)(hs:s.size<9223372036854775807):
  Calls prog 83 #[.string s] w fun e w'=>e= .returned (.int .i64 (Lib.runeCount s))/\Below w.heap.size w w':=
 (Any.utf8_RuneCountInString Tryz.lays195 s w hs).mono fun e w' ⟨he,pos,hw⟩=>⟨he,by subst hw;exact(aA _ _).alloc (ay _) _⟩
section
open Go.RowKit Go.Extern.Stop Go.Stop Go.Extern
theorem Tryz.ac6(t:Addr)(w:World):(ReflectliteValue.unpack (.iface 94 (.pointer (some t)))).run prog w
  = .ok (.agg #[.pointer (some ⟨16,94,none⟩),.pointer (some ⟨w.heap.size,0,none⟩),.int .u64 150]) (w.alloc (.cells #[.pointer (some t)] 94)):=by kernel_rfl
theorem Tryz.ac1(a:Addr)(w:World):(ReflectliteValue.methodAny (ReflectliteValue.valueError "reflectlite.Value.Type" 0) (fun t _ _ _=>ReflectliteType.toType t) #[.agg #[.pointer (some ⟨16,94,none⟩),.pointer (some a),.int .u64 150]]).run prog w
  = .ok (.iface 223 (.agg #[.pointer (some ⟨16,94,none⟩)])) w:=by kernel_rfl
theorem Tryz.aau(w:World):((ReflectliteType.abiMethod fun t=>(fun a:Nat=>Value.int IntKind.u8 (a:Int))<$>Rtype.kind t) #[.pointer (some ⟨16,94,none⟩)]).run prog w= .ok (.int .u8 22) w:=by kernel_rfl
theorem Tryz.aat(w:World):((ReflectliteType.abiMethod fun t=>(fun a:Nat=>Value.int IntKind.u8 (a:Int))<$>Rtype.kind t) #[.pointer (some ⟨16,92,none⟩)]).run prog w= .ok (.int .u8 22) w:=by kernel_rfl
theorem rlm(z:Sem Value)(f:TypeId->Addr->Nat->Nat->Sem Value)(v:Value):
  ReflectliteValue.method z f #[v]=(do match<-ReflectliteValue.parts v with|none=>z|some (t,a,fl)=>f t a fl (fl%32)):=rfl
theorem Tryz.abq(a:Addr)(w:World):(ReflectliteValue.parts (.agg #[.pointer (some ⟨16,94,none⟩),.pointer (some a),.int .u64 150])).run prog w= .ok (some (94,a,150)) w:=by kernel_rfl
theorem Tryz.aak(a p:Addr)(W:World)(ha:W.cell? a=some (.pointer (some p))):
  (ReflectliteValue.method (ReflectliteValue.valueError "reflectlite.Value.IsNil" 0) ReflectliteValue.isNil #[.agg #[.pointer (some ⟨16,94,none⟩),.pointer (some a),.int .u64 150]]).run prog W= .ok (.bool false) W:=by
 rw [rlm];simp only [GU,Tryz.abq,Result.andThen];simp [ReflectliteValue.isNil,loadVar,isAgg,underlying,underlying94,ha,Result.andThen]
theorem Tryz.Xe(w:World):(ReflectliteType.method ReflectliteType.elem #[.agg #[.pointer (some ⟨16,94,none⟩)]]).run prog w= .ok (.iface 223 (.agg #[.pointer (some ⟨16,92,none⟩)])) w:=by kernel_rfl
theorem Tryz.aae(w:World):(ReflectliteType.relation "Implements" ReflectliteType.implements_ #[.agg #[.pointer (some ⟨16,92,none⟩)],.iface 223 (.agg #[.pointer (some ⟨16,53,none⟩)])]).run prog w= .ok (.bool true) w:=by kernel_rfl
theorem Tryz.TP(v:Value)(w:World):(ReflectliteType.typeOf #[.iface 354 v]).run prog w= .ok (.iface 223 (.agg #[.pointer (some ⟨16,354,none⟩)])) w:=by kernel_rfl
theorem Tryz.aeK(w:World):(ReflectliteType.relation "AssignableTo" ReflectliteType.assignableTo #[.agg #[.pointer (some ⟨16,354,none⟩)],.iface 223 (.agg #[.pointer (some ⟨16,92,none⟩)])]).run prog w= .ok (.bool false) w:=by kernel_rfl
theorem Tryz.aaM(h:Value)(w:World):(Go.method 483 223 (.agg #[h]) "Kind").run prog w= .ok (323,h) w:=by kernel_rfl
theorem Tryz.aaK(h:Value)(w:World):(Go.method 483 223 (.agg #[h]) "Elem").run prog w= .ok (334,.agg #[h]) w:=by kernel_rfl
theorem Tryz.aaL(h:Value)(w:World):(Go.method 483 223 (.agg #[h]) "Implements").run prog w= .ok (335,.agg #[h]) w:=by kernel_rfl
theorem Tryz.aaI(h:Value)(w:World):(Go.method 483 223 (.agg #[h]) "AssignableTo").run prog w= .ok (332,.agg #[h]) w:=by kernel_rfl
theorem Tryz.aaJ(h:Value)(w:World):(Go.method 483 223 (.agg #[h]) "Comparable").run prog w= .ok (333,.agg #[h]) w:=by kernel_rfl
theorem Tryz.ajw(v:Value)(xT:TypeId)(w:World):(Instr.typeAssert (.iface 354 v) xT 227 true).run prog w= .ok (.tuple #[.nilIface,.bool false]) w:=run_typeAssert_lacksB underlying227 (by kernel_rfl) (by kernel_rfl) v xT w
theorem Tryz.aaZ(v:Value)(xT:TypeId)(w:World):(Instr.typeAssert (.iface 354 v) xT 233 true).run prog w= .ok (.tuple #[.nilIface,.bool false]) w:=run_typeAssert_lacksB underlying233 (by kernel_rfl) (by kernel_rfl) v xT w
theorem Tryz.Sa(v:Value)(xT:TypeId)(w:World):(Instr.typeAssert (.iface 354 v) xT 230 true).run prog w= .ok (.tuple #[.nilIface,.bool false]) w:=run_typeAssert_lacksB underlying230 (by kernel_rfl) (by kernel_rfl) v xT w
theorem Tryz.Sb(v:Value)(xT:TypeId)(w:World):(Instr.typeAssert (.iface 354 v) xT 231 true).run prog w= .ok (.tuple #[.nilIface,.bool false]) w:=run_typeAssert_lacksB underlying231 (by kernel_rfl) (by kernel_rfl) v xT w
end
section
open Go.RowKit Go.Extern.Stop Go.Stop Go.Extern
theorem aeH(e t:Addr)(w:World)(hg:w.cell? ⟨3,0,none⟩=some (.iface 223 (.agg #[.pointer (some ⟨16,53,none⟩)]))):
  Calls prog 56 #[.iface 354 (.pointer (some e)),.iface 94 (.pointer (some t))] w fun ev w'=>ev= .returned (.bool false)/\Below w.heap.size w w':=by
 have h6:=@lV prog 90 _ (fun args=>ReflectliteValue.unpack (args.getD 0 (.tuple #[]))) func90 (by kernel_rfl) (by kernel_rfl) (by kernel_rfl) (by kernel_rfl);have h7:=@lV prog 91 _ (ReflectliteValue.methodAny (ReflectliteValue.valueError "reflectlite.Value.Type" 0) (fun t _ _ _=>ReflectliteType.toType t)) func91 (by kernel_rfl) (by kernel_rfl) (by kernel_rfl) (by kernel_rfl);have h8:=@lV prog 92 _ (ReflectliteValue.method (ReflectliteValue.valueError "reflectlite.Value.IsNil" 0) ReflectliteValue.isNil) func92 (by kernel_rfl) (by kernel_rfl) (by kernel_rfl) (by kernel_rfl);have h27:=@lV prog 323 _ (ReflectliteType.abiMethod fun t=>do pure (.int .u8 (<-Rtype.kind t))) func323 (by kernel_rfl) (by kernel_rfl) (by kernel_rfl) (by kernel_rfl);have h37:=@lV prog 334 _ (ReflectliteType.method ReflectliteType.elem) func334 (by kernel_rfl) (by kernel_rfl) (by kernel_rfl) (by kernel_rfl);have h38:=@lV prog 335 _ (ReflectliteType.relation "Implements" ReflectliteType.implements_) func335 (by kernel_rfl) (by kernel_rfl) (by kernel_rfl) (by kernel_rfl);have h10:=@lV prog 94 _ ReflectliteType.typeOf func94 (by kernel_rfl) (by kernel_rfl) (by kernel_rfl) (by kernel_rfl);have X7:=@lV prog 332 _ (ReflectliteType.relation "AssignableTo" ReflectliteType.assignableTo) func332 (by kernel_rfl) (by kernel_rfl) (by kernel_rfl) (by kernel_rfl);have tO:=Tryz.TP;have a25:=Tryz.aeK;have f6:=Tryz.ac6;have q1:=Tryz.ajw;have q2:=Tryz.Sa;have q3:=Tryz.Sb;have mK:=Tryz.aaM;have mE:=Tryz.aaK;have mI:=Tryz.aaL;have mA:=Tryz.aaI;have f7:=Tryz.ac1;have k27:=Tryz.aau;have k25:=Tryz.aat;have e27:=Tryz.Xe;have i25:=Tryz.aae;have n8:=Tryz.aak ⟨w.heap.size,0,none⟩ t ((w.alloc (.cells #[.pointer (some t)] 94)).alloc (.cells #[.pointer (some ⟨16,94,none⟩),.pointer (some ⟨w.heap.size,0,none⟩),.int .u64 150] 152)) (by simp);have hlt:3<w.heap.size:=by
  rcases cK 3 w.heap.size with h|h
  .exact h
  .simp [World.cell?,uJ h]at hg
 have hg2:((w.alloc (.cells #[.pointer (some t)] 94)).alloc (.cells #[.pointer (some ⟨16,94,none⟩),.pointer (some ⟨w.heap.size,0,none⟩),.int .u64 150] 152)).cell? ⟨3,0,none⟩=some (.iface 223 (.agg #[.pointer (some ⟨16,53,none⟩)])):=by
  rw [jQ _ _ ⟨3,0,none⟩ (by simp;omega),jQ _ _ ⟨3,0,none⟩ hlt];exact hg
 go_enter func56,ntmps56;go_wp2;refine dw 1 ?_;rw [aY];go_wp2;go_ret;exact⟨rfl,(((aA _ _).alloc (ay _) _).alloc (by simp) _).alloc (by simp;omega) _⟩
end
section
open Go.RowKit Go.Extern.Stop Go.Stop Go.Extern
theorem Tryz.G9:(prog.info? 354).map (·.comparable)=some true:=by kernel_rfl
theorem Tryz.JU:(prog.info? 372).map (·.size)=some 1:=by kernel_rfl
theorem Tryz.WO(w:World):(ReflectliteType.method (fun t=>do Rtype.noPackHeld "Comparable" t;(fun a:TypeInfo=>Value.bool a.comparable)<$>typeInfo t) #[.agg #[.pointer (some ⟨16,354,none⟩)]]).run prog w= .ok (.bool true) w:=by kernel_rfl
theorem aal(a b:Addr)(q:Bool)(w:World)
  (he:(binOp .eql 53 (.iface 354 (.pointer (some a))) (.iface 354 (.pointer (some b)))).run prog w= .ok (.bool q) w):
  Calls prog 58 #[.iface 354 (.pointer (some a)),.iface 354 (.pointer (some b))] w fun ev w'=>ev= .returned (.bool q)/\w'=w:=by
 have h10:=@lV prog 94 _ ReflectliteType.typeOf func94 (by kernel_rfl) (by kernel_rfl) (by kernel_rfl) (by kernel_rfl);have h11:=@lV prog 333 _ (ReflectliteType.method fun t=>do Rtype.noPackHeld "Comparable" t;pure (.bool (<-typeInfo t).comparable)) func333 (by kernel_rfl) (by kernel_rfl) (by kernel_rfl) (by kernel_rfl);have tO:=Tryz.TP;have mC:=Tryz.aaJ;have cS:=Tryz.WO;have q1:=Tryz.aaZ;have q2:=Tryz.Sa;have q3:=Tryz.Sb;cases q
 .go_enter func58,ntmps58;go_wp2;refine dw 1 ?_;rw [aY];go_wp2;go_ret;exact⟨rfl,rfl⟩
 .go_enter func58,ntmps58;go_wp2;refine dw 1 ?_;rw [aY];go_wp2;go_ret;exact⟨rfl,rfl⟩
theorem Ru(a:Addr)(w:World):
  Calls prog 58 #[.iface 354 (.pointer (some a)),.iface 354 (.pointer (some a))] w fun ev w'=>ev= .returned (.bool true)/\w'=w:=by
 obtain⟨i,hi,hcmp⟩:=wT.1 Tryz.G9;obtain⟨j,hj,_⟩:=wT.1 Tryz.JU;exact aal a a true w (alu w a underlying53 underlying354 hi hcmp hj)
theorem Ff(a b:Addr)(w:World)(hne:a≠b)(ha:∃c t,w.heap[a.block]? =some (.cells c t (0,0)))(hb:∃c t,w.heap[b.block]? =some (.cells c t (0,0))):
  Calls prog 58 #[.iface 354 (.pointer (some a)),.iface 354 (.pointer (some b))] w fun ev w'=>ev= .returned (.bool false)/\w'=w:=by
 obtain⟨i,hi,hcmp⟩:=wT.1 Tryz.G9;obtain⟨j,hj,hjs⟩:=wT.1 Tryz.JU;obtain⟨_,_,ha⟩:=ha;obtain⟨_,_,hb⟩:=hb;exact aal a b false w (als w underlying53 underlying354 hi hcmp hj (by rw [hjs];decide) hne ha hb)
end
theorem agM(w:World):Calls prog 36 #[.nilIface] w fun e w'=>e= .returned (PD 0)/\Below w.heap.size w w':=by
 go_enter func36,ntmps36;go_wp2;exact cG (v:= .agg #[.int .i64 0,.int .i64 0,.int .i64 0]) (by simp [results,results36,go_sem]) rfl ⟨rfl,(aA _ _).alloc (ay _) _⟩
theorem PE(w:World)(aL aT aC aX:Addr)(n:Int)(hX:aL=aX/\n=1∨aT=aX/\n=2∨aC=aX/\n=3)(hE:Env w aL aT aC):Calls prog 36 #[.iface 354 (.pointer (some aX))] w fun e w'=>e= .returned (PD n)/\Below w.heap.size w w':=by
 have HX:=ah hX;have HE:=ah hE;clear hE hX;go_enter func36,ntmps36;go_wp2_with fail;refine(aeH _ _ _ ?_).mono ?_
 .exact(HE.out.below ((((aA _ _).alloc (ay _) _).alloc (by simp) _).alloc (by simp;omega) _)).Lu
 rintro e w1 ⟨rfl,hb⟩;have pz:Below w.heap.size w w1:=((((aA _ _).alloc (ay _) _).alloc (by simp) _).alloc (by simp;omega) _).trans (hb.mono (by simp;omega));have aG:=ah pz;have hz:w.heap.size+3<=w1.heap.size:=by have:=hb.size;simp at this;omega
 have mR:=ah (HE.out.below pz);have hl:=mR.out.long;have ht:=mR.out.text;have EY:=mR.out.code;have r0:w1.cell? ⟨w.heap.size,0,none⟩=some (.int .i64 0):=by rw [hb.cell (p:=⟨w.heap.size,0,none⟩) (by simp<;>omega)];go_simp
 have s0:w1.frozen? ⟨w.heap.size,0,none⟩=false:=by rw [hb.frozen (p:=⟨w.heap.size,0,none⟩) (by simp<;>omega)];go_simp
 have f0:w1.cell? ⟨w.heap.size+1,0,none⟩=some (.int .i64 4):=by rw [hb.cell (p:=⟨w.heap.size+1,0,none⟩) (by simp<;>omega)];go_simp
 have r1:w1.cell? ⟨w.heap.size,1,none⟩=some (.int .i64 0):=by rw [hb.cell (p:=⟨w.heap.size,1,none⟩) (by simp<;>omega)];go_simp
 have s1:w1.frozen? ⟨w.heap.size,1,none⟩=false:=by rw [hb.frozen (p:=⟨w.heap.size,1,none⟩) (by simp<;>omega)];go_simp
 have f1:w1.cell? ⟨w.heap.size+1,1,none⟩=some (.int .i64 (-1)):=by rw [hb.cell (p:=⟨w.heap.size+1,1,none⟩) (by simp<;>omega)];go_simp
 have r2:w1.cell? ⟨w.heap.size,2,none⟩=some (.int .i64 0):=by rw [hb.cell (p:=⟨w.heap.size,2,none⟩) (by simp<;>omega)];go_simp
 have s2:w1.frozen? ⟨w.heap.size,2,none⟩=false:=by rw [hb.frozen (p:=⟨w.heap.size,2,none⟩) (by simp<;>omega)];go_simp
 have f2:w1.cell? ⟨w.heap.size+1,2,none⟩=some (.int .i64 (-1)):=by rw [hb.cell (p:=⟨w.heap.size+1,2,none⟩) (by simp<;>omega)];go_simp
 have g0:w1.frozen? ⟨w.heap.size+1,0,none⟩=false:=by rw [hb.frozen (p:=⟨w.heap.size+1,0,none⟩) (by simp<;>omega)];go_simp
 have h0:w.heap.size<w1.heap.size:=by omega
 have h1:w.heap.size+1<w1.heap.size:=by omega
 clear pz hb hz;go_wp2;refine dw 4 ?_;rcases HX.out with⟨rfl,rfl⟩|⟨rfl,rfl⟩|⟨rfl,rfl⟩
 .rw [aY];go_wp2_with fail;refine(Ru aL _).mono ?_;rintro e w2 ⟨rfl,rfl⟩;go_wp2;rw [aY];go_wp2_with fail;refine(Ff aL aT _ HE.out.Fm ?_ ?_).mono ?_
  .exact(HE.out.below ((aG.out.setCell (kM _) _).alloc (by simp;omega) _)).yJ
  .exact(HE.out.below ((aG.out.setCell (kM _) _).alloc (by simp;omega) _)).yK
  rintro e w3 ⟨rfl,rfl⟩;go_wp2;rw [aY];go_wp2_with fail;refine(Ff aL aC _ HE.out.Fl ?_ ?_).mono ?_
  .exact(HE.out.below ((aG.out.setCell (kM _) _).alloc (by simp;omega) _)).yJ
  .exact(HE.out.below ((aG.out.setCell (kM _) _).alloc (by simp;omega) _)).yI
  rintro e w4 ⟨rfl,rfl⟩;go_wp2;rw [aY];go_wp2;refine cG (v:= .agg #[.int .i64 1,.int .i64 (-1),.int .i64 (-1)]) (by simp [results,results36,go_sem,r0,r1,r2,h0]) rfl ⟨rfl,?_⟩;exact((((aG.out.setCell (kM _) _).setCell (ay _) _).setCell (ay _) _).setCell (ay _) _).alloc (by simp;omega) _
 .rw [aY];go_wp2_with fail;refine(Ff aT aL _ HE.out.Fm.symm ?_ ?_).mono ?_
  .exact(HE.out.below (aG.out.alloc (by omega) _)).yK
  .exact(HE.out.below (aG.out.alloc (by omega) _)).yJ
  rintro e w2 ⟨rfl,rfl⟩;go_wp2;rw [aY];go_wp2_with fail;refine(Ru aT _).mono ?_;rintro e w3 ⟨rfl,rfl⟩;go_wp2;rw [aY];go_wp2_with fail;refine(Ff aT aC _ HE.out.Fp ?_ ?_).mono ?_
  .exact(HE.out.below ((aG.out.setCell (kM _) _).alloc (by simp;omega) _)).yK
  .exact(HE.out.below ((aG.out.setCell (kM _) _).alloc (by simp;omega) _)).yI
  rintro e w4 ⟨rfl,rfl⟩;go_wp2;rw [aY];go_wp2;refine cG (v:= .agg #[.int .i64 2,.int .i64 (-1),.int .i64 (-1)]) (by simp [results,results36,go_sem,r0,r1,r2,h0]) rfl ⟨rfl,?_⟩;exact((((aG.out.setCell (kM _) _).setCell (ay _) _).setCell (ay _) _).setCell (ay _) _).alloc (by simp;omega) _
 .rw [aY];go_wp2_with fail;refine(Ff aC aL _ HE.out.Fl.symm ?_ ?_).mono ?_
  .exact(HE.out.below (aG.out.alloc (by omega) _)).yI
  .exact(HE.out.below (aG.out.alloc (by omega) _)).yJ
  rintro e w2 ⟨rfl,rfl⟩;go_wp2;rw [aY];go_wp2_with fail;refine(Ff aC aT _ HE.out.Fp.symm ?_ ?_).mono ?_
  .exact(HE.out.below (aG.out.alloc (by omega) _)).yI
  .exact(HE.out.below (aG.out.alloc (by omega) _)).yK
  rintro e w3 ⟨rfl,rfl⟩;go_wp2;rw [aY];go_wp2_with fail;refine(Ru aC _).mono ?_;rintro e w4 ⟨rfl,rfl⟩;go_wp2;rw [aY];go_wp2;refine cG (v:= .agg #[.int .i64 3,.int .i64 (-1),.int .i64 (-1)]) (by simp [results,results36,go_sem,r0,r1,r2,h0]) rfl ⟨rfl,?_⟩;exact((((aG.out.setCell (kM _) _).setCell (ay _) _).setCell (ay _) _).setCell (ay _) _).alloc (by simp;omega) _
theorem Xz(er:Int)(h:er=0∨er=1∨er=2∨er=3)(w:World)(aL aT aC:Addr)(hE:Env w aL aT aC):
  Calls prog 36 #[Hr er aL aT aC] w fun e w'=>e= .returned (PD er)/\Below w.heap.size w w':=by
 rcases h with rfl|rfl|rfl|rfl
 .exact agM w
 .exact PE w aL aT aC aL 1 (.inl ⟨rfl,rfl⟩) hE
 .exact PE w aL aT aC aT 2 (.inr (.inl ⟨rfl,rfl⟩)) hE
 .exact PE w aL aT aC aC 3 (.inr (.inr ⟨rfl,rfl⟩)) hE
theorem aix {p:Prop} [Decidable p] {a b:Int}(ha:p->0<=a/\a<=21)(hb:0<=b/\b<=21):0<=(if p then a else b)/\(if p then a else b)<=21:=by
 by_cases h:p
 .rw [aj h];exact ha h
 .rw [ai h];exact hb
theorem Le(r:Int):0<=cls r/\cls r<=21:=by
 unfold cls
 repeat (refine aix (fun h=>by omega) ?_)
 omega
theorem acg {s:ByteArray}{l:List Int}(hr:fH s=some l)(h:0<s.size):l≠[]:=by
 unfold fH at hr;obtain⟨n,hn⟩:∃n,s.size=n+1:=⟨s.size - 1,by omega⟩
 rw [hn,runesFrom,aj h]at hr;split at hr
 .cases hr
 .cases hx:runesFrom s n (0+bu s 0)with
  |none=>rw [hx]at hr;cases hr
  |some q=>rw [hx]at hr;rintro rfl;simp at hr
theorem ach {s:ByteArray}{l:List Int}(hr:fH s=some l)(h:s.size=0):l=[]:=by
 unfold fH at hr;rw [h,runesFrom]at hr;exact(aK hr).symm
theorem aeP(s:ByteArray)(l:List Int)(d:Int)(w:World)(aL aT aC:Addr)(hs:s.size<=600)(hr:fH s=some l)(hl:l.length<=300)(hE:Env w aL aT aC)(hB:Br w):
  Calls prog 55 #[.string s,.int .i64 d] w fun e w'=>∃g,e= .returned (.slice (some ⟨g,0,none⟩) l.length l.length)/\bh w' w.heap.size 3 g l.length (iv (gu l (l.map cls) d))/\Below w.heap.size w w':=by
 by_cases h0:s.size=0
 .obtain rfl:=ach hr h0;exact aeQ s d w h0
 .refine aeR afm s l d w hs hr (acg hr (by omega)) (by omega) hB (fun c hc=> ?_) (fun r W hW=> ?_)
  .obtain⟨r,_,rfl⟩:=jr.1 hc;exact Le r
  .obtain⟨tt,fr,hsp⟩:=(hE.below hW).MX;exact WE r W tt fr hsp
theorem XH(para:Int):∀(cs os:List Int)(prev:Int),cs.length=os.length->(lG para prev cs os).length=cs.length
 |[],_,_,_=>rfl
 |_::_,[],_,h=>by simp at h
 |c::cs,o::os,prev,h=>by rw [lG,eW,eW,XH para cs os _ (by simpa using h)]
theorem acv:∀(xs:List (Nat×Int×Int))(l:List Int),(xs.foldl jZ l).length=l.length
 |[],_=>rfl
 |x::xs,l=>by rw [o6,acv xs];simp [jZ]
theorem aiU(rs cs:List Int)(d:Int):(gu rs cs d).length=cs.length:=by
 unfold gu;exact XH _ _ _ _ (by rw [acv,Ud])
section
variable{α β:Type}
def dV:List Bool->List α->List α->List α
 |[],_,acc=>acc
 |_::_,[],acc=>acc
 |true::bs,x::xs,acc=>dV bs xs (x::acc)
 |false::bs,x::xs,acc=>acc++x::dV bs xs []
theorem TH:∀(bs:List Bool)(xs acc:List α),bs.length=xs.length->(dV bs xs acc).length=acc.length+xs.length
 |[],[],acc,_=>rfl
 |[],_::_,_,h=>by simp at h
 |_::_,[],_,h=>by simp at h
 |true::bs,x::xs,acc,h=>by
  rw [dV,TH bs xs _ (by simpa using h)];simp;omega
 |false::bs,x::xs,acc,h=>by
  rw [dV,bP,eW,TH bs xs _ (by simpa using h)];simp
theorem TJ:∀(bs:List Bool)(xs acc:List α),bs.length=xs.length->(dV bs xs acc).Perm (acc++xs)
 |[],[],acc,_=>by rw [dV,lu]
 |[],_::_,_,h=>by simp at h
 |_::_,[],_,h=>by simp at h
 |true::bs,x::xs,acc,h=>by
  rw [dV];refine(TJ bs xs _ (by simpa using h)).trans ?_;exact(aek (l₁:=acc) (a:=x) (l₂:=xs)).symm
 |false::bs,x::xs,acc,h=>by
  rw [dV];exact(((TJ bs xs [] (by simpa using h)).cons x)).append_left acc
theorem TI(f:α->β):∀(bs:List Bool)(xs acc:List α),(dV bs xs acc).map f=dV bs (xs.map f) (acc.map f)
 |[],_,acc=>rfl
 |_::_,[],acc=>rfl
 |true::bs,x::xs,acc=>by rw [dV,pX,dV,TI f bs xs];rfl
 |false::bs,x::xs,acc=>by rw [dV,pX,dV,fO,pX,TI f bs xs];rfl
theorem M8(bs:List Bool)(xs:List α):∀(ys acc:List α),dV (List.replicate ys.length true++bs) (ys++xs) acc=dV bs xs (ys.reverse++acc)
 |[],acc=>by simp
 |y::ys,acc=>by
  rw [eW,Er,Gy,Gy,dV,M8 bs xs ys];simp
theorem anx:∀(bs:List Bool)(xs acc:List α),(bs=[]/\xs=[])∨(∃bs',bs=false::bs')->dV bs xs acc=acc++dV bs xs []
 |_,_,acc,.inl ⟨h1,h2⟩=>by subst h1;subst h2;simp [dV]
 |_,[],acc,.inr ⟨bs',h⟩=>by subst h;simp [dV]
 |_,x::xs,acc,.inr ⟨bs',h⟩=>by subst h;simp [dV]
theorem TL:∀(bs:List Bool)(xs acc:List α),bs.length=xs.length->dV (List.replicate acc.length true++bs) (dV bs xs acc) []=acc.reverse++xs
 |[],[],acc,_=>by
  have:=M8 [] [] acc [];simp only [lu]at this ⊢;rw [dV,this];simp [dV]
 |[],_::_,_,h=>by simp at h
 |_::_,[],_,h=>by simp at h
 |true::bs,x::xs,acc,h=>by
  have ih:=TL bs xs (x::acc) (by simpa using h);rw [dV];rw [eW,KP,eV]at ih;simpa using ih
 |false::bs,x::xs,acc,h=>by
  have ih:=TL bs xs [] (by simpa using h);rw [dV,M8,dV];simp only [kq,GI,yx,aen]at ih;rw [ih];simp
theorem TK:∀(bs cs:List Bool)(k:Nat),bs.length=cs.length->(∀j:Nat,bs[j]? =some true->cs[j]? =some true)->dV bs cs (List.replicate k true)=List.replicate k true++cs
 |[],[],k,_,_=>by simp [dV]
 |[],_::_,_,h,_=>by simp at h
 |_::_,[],_,h,_=>by simp at h
 |true::bs,c::cs,k,h,hs=>by
  have hc:c=true:=by have:=hs 0 rfl;simpa using this
  subst hc;rw [dV];have:=TK bs cs (k+1) (by simpa using h) (fun j hj=>hs (j+1) hj);rw [Er]at this;rw [this,<-Er,KP];simp
 |false::bs,c::cs,k,h,hs=>by
  rw [dV];have:=TK bs cs 0 (by simpa using h) (fun j hj=>hs (j+1) hj);simp only [GI,yx]at this;rw [this]
def mo(bs:List Bool)(a:List α)(i:Nat)(cur:List α):Prop:=∃pre,pre.length=i/\cur=pre++a.drop i/\dV bs a []=pre++dV (bs.drop i) (a.drop i) []
variable{bs:List Bool}{a cur:List α}{i j:Nat}
theorem mo.start(bs:List Bool)(a:List α):mo bs a 0 a:=⟨[],rfl,by simp,by simp⟩
theorem mo.stop(h:mo bs a i cur)(hl:bs.length=a.length)(hi:a.length<=i):cur=dV bs a []:=by
 obtain⟨pre,_,h2,h3⟩:=h;rw [h3,h2,jD hi,jD (by omega)];simp [dV]
theorem Lm {γ:Type}{l:List γ}{i:Nat}(h:i<l.length):∃x,l.drop i=x::l.drop (i+1)/\l[i]? =some x:=⟨l[i],l9 h,aQ h⟩
theorem mo.skip(h:mo bs a i cur)(hl:bs.length=a.length)(hi:i<a.length)(hb:bs[i]? =some false):mo bs a (i+1) cur:=by
 obtain⟨pre,h1,h2,h3⟩:=h;obtain⟨x,e1,_⟩:=Lm hi;obtain⟨b,e2,e3⟩:=Lm (l:=bs) (i:=i) (by omega);rw [hb]at e3;obtain rfl:false=b:=aK e3;refine⟨pre++[x],by simp [h1],?_,?_⟩
 .rw [h2,e1];simp
 .rw [h3,e1,e2,dV];simp
theorem Xd {bs:List Bool}:∀(m i:Nat),i+m<=bs.length->(∀q,i<=q->q<i+m->bs[q]? =some true)->bs.drop i=List.replicate m true++bs.drop (i+m)
 |0,i,_,_=>by simp
 |m+1,i,h,hr=>by
  obtain⟨b,e2,e3⟩:=Lm (l:=bs) (i:=i) (by omega);rw [hr i (ay _) (by omega)]at e3;obtain rfl:true=b:=aK e3;rw [e2,Xd m (i+1) (by omega) (fun q h1 h2=>hr q (by omega) (by omega)),show i+1+m=i+(m+1)by omega,Er];rfl
def kX(l:List α)(i j:Nat):List α:=l.take i++((l.take j).drop i).reverse++l.drop j
theorem mo.turn(h:mo bs a i cur)(hl:bs.length=a.length)(hij:i<=j)(hj:j<=a.length)(hr:∀q,i<=q->q<j->bs[q]? =some true)(he:j<a.length->bs[j]? =some false):mo bs a j (kX cur i j):=by
 obtain⟨pre,h1,h2,h3⟩:=h;have ed:=Xd (j - i) i (by omega) (fun q h1 h2=>hr q h1 (by omega));rw [show i+(j - i)=j by omega]at ed;have ea:a.drop i=(a.drop i).take (j - i)++a.drop j:=by
  conv=>lhs;rw [<-aeq (j - i) (a.drop i)]
  rw [OD,show i+(j - i)=j by omega]
 have Xf:((a.drop i).take (j - i)).length=j - i:=by rw [rW,KJ];omega
 refine⟨pre++((a.drop i).take (j - i)).reverse,by rw [bP,OL,Xf];omega,?_,?_⟩
 .have e1:cur.take i=pre:=by rw [h2,<-h1,List.take_left]
  have e2:(cur.take j).drop i=(a.drop i).take (j - i):=by
   rw [h2,List.drop_take,ad3 (by omega),<-h1,ad4];simp
  have e3:cur.drop j=a.drop j:=by
   rw [h2,List.drop_append,OD,jD (by omega),h1,show i+(j - i)=j by omega];rfl
  unfold kX;rw [e1,e2,e3]
 .have e4:=M8 (bs.drop j) (a.drop j) ((a.drop i).take (j - i)) [];rw [Xf,<-ed,<-ea,lu]at e4;rw [h3,e4,anx]
  .rw [eV]
  .rcases cK j a.length with hlt|hge
   .right;obtain⟨b,e2,e3⟩:=Lm (l:=bs) (i:=j) (by omega);rw [he hlt]at e3;obtain rfl:false=b:=aK e3;exact⟨_,e2⟩
   .exact .inl ⟨jD (by omega),jD hge⟩
theorem mo.length(h:mo bs a i cur)(hi:i<=a.length):cur.length=a.length:=by
 obtain⟨pre,h1,h2,_⟩:=h;rw [h2,bP,KJ];omega
theorem SY(l:List α)(i j k:Nat)(hij:i<=j)(hj:j<=l.length):(kX l i j)[k]? =if i<=k/\k<j then l[i+j - 1 - k]? else l[k]? :=by
 unfold kX;have l1:(l.take i).length=i:=by rw [rW];omega
 have l2:((l.take j).drop i).length=j - i:=by rw [KJ,rW];omega
 rcases cK k i with h|h
 .rw [ai (by omega),eV,qV (by omega),KH h]
 .rcases cK k j with h'|h'
  .rw [aj ⟨h,h'⟩,eV,pT (by omega),l1,qV (by rw [OL];omega),List.getElem?_reverse (by omega),l2,yu,KH (by omega)]
   congr 1
   omega
  .rw [ai (by omega),pT (by rw [bP,OL];omega),bP,OL,l1,l2,yu]
   congr 1
   omega
theorem S0(l:List α)(i j:Nat)(hij:i<=j)(hj:j<=l.length)(h:j<=i+1):kX l i j=l:=by
 apply Gz;intro k;rw [SY l i j k hij hj];split
 .congr 1;omega
 .rfl
def AZ(l:List α)(a b:Nat)(d:α):List α:=(l.set a (l.getD b d)).set b (l.getD a d)
theorem abY(l:List α)(i j:Nat)(d:α)(hij:i+1<j)(hj:j<=l.length):kX (AZ l i (j - 1) d) (i+1) (j - 1)=kX l i j:=by
 apply Gz;intro k;have hlen:(AZ l i (j - 1) d).length=l.length:=by simp [AZ]
 have hg:∀q,(AZ l i (j - 1) d)[q]? =if q=j - 1 then l[i]? else if q=i then l[j - 1]? else l[q]? :=fun q=>by
  unfold AZ;rw [KG,KG,List.length_set];have e1:l.getD i d=l[i]'(by omega):=by rw [aO,aQ (by omega)];rfl
  have e2:l.getD (j - 1) d=l[j - 1]'(by omega):=by rw [aO,aQ (by omega)];rfl
  by_cases h1:j - 1=q
  .rw [aj h1,aj (by omega),aj h1.symm,e1,aQ (by omega)]
  .rw [ai h1,ai (show¬q=j - 1 from fun e=>h1 e.symm)];by_cases h2:i=q
   .rw [aj h2,aj (by omega),aj h2.symm,e2,aQ (by omega)]
   .rw [ai h2,ai (show¬q=i from fun e=>h2 e.symm)]
 rw [SY _ _ _ _ (by omega) (by rw [hlen];omega),SY _ _ _ _ (by omega) hj];by_cases h1:i+1<=k/\k<j - 1
 .rw [aj h1,aj (by omega),hg,ai (by omega),ai (by omega)]
  congr 1;omega
 .rw [ai h1,hg];by_cases h2:k=j - 1
  .rw [aj h2,aj (by omega)];congr 1;omega
  .rw [ai h2];by_cases h3:k=i
   .rw [aj h3,aj (by omega)];congr 1;omega
   .rw [ai h3,ai (by omega)]
end
def mask(v:Int)(lv:List Int):List Bool:=lv.map fun l=>decide (v<=l)
theorem xG(v:Int)(lv:List Int):(mask v lv).length=lv.length:=by simp [mask]
theorem DA(v:Int)(lv:List Int)(j:Nat)(hj:j<lv.length):(mask v lv)[j]? =some (decide (v<=lv.getD j 0)):=by
 simp [mask,aO,aQ hj]
def eU(lv:List Int):Nat->Int->List Int->List Int
 |0,_,a=>a
 |n+1,v,a=>eU lv n (v - 1) (dV (mask v lv) a [])
theorem M9(lv:List Int):∀(n:Nat)(v:Int)(a:List Int),eU lv (n+1) v a=dV (mask (v - n) lv) (eU lv n v a) []
 |0,v,a=>by simp [eU]
 |n+1,v,a=>by
  rw [eU,M9 lv n (v - 1),eU,show v - 1 - (n:Int)=v - ((n+1:Nat):Int)by omega]
theorem acX(lv:List Int):∀(m n:Nat)(v:Int)(a:List Int),eU lv (m+n) v a=eU lv n (v - m) (eU lv m v a)
 |0,n,v,a=>by simp [eU]
 |m+1,n,v,a=>by
  rw [show m+1+n=(m+n)+1 by omega,eU,acX lv m n (v - 1),eU,show v - 1 - (m:Int)=v - ((m+1:Nat):Int)by omega]
theorem FM(lv:List Int):∀(n:Nat)(v:Int)(a:List Int),a.length=lv.length->(eU lv n v a).length=lv.length
 |0,_,_,h=>h
 |n+1,v,a,h=>by
  rw [eU];exact FM lv n _ _ (by rw [TH _ _ _ (by rw [xG,h])];simpa using h)
theorem TN(lv:List Int):∀(n:Nat)(v:Int)(a:List Int),a.length=lv.length->(eU lv n v a).Perm a
 |0,_,_,_=>OC _
 |n+1,v,a,h=>by
  rw [eU];have h1:=TJ (mask v lv) a [] (by rw [xG,h]);rw [yx]at h1;exact(TN lv n _ _ (by rw [h1.length_eq];exact h)).trans h1
theorem TM(lv:List Int):∀(m:Nat)(a:List Int),a.length=lv.length->(∀l∈lv,l%2=1->2*(m:Int)<l)->eU lv (2*m) (2*m) a=a
 |0,_,_,_=>rfl
 |m+1,a,h,hl=>by
  have e:mask (2*((m+1:Nat):Int) - 1) lv=mask (2*((m+1:Nat):Int)) lv:=by
   unfold mask;refine GD fun l hm=> ?_
   have:=hl l hm;simp only [decide_eq_decide];omega
  rw [show 2*(m+1)=(2*m+1)+1 by omega,eU,eU,e];have h2:=TL (mask (2*((m+1:Nat):Int)) lv) a [] (by rw [xG,h]);simp only [kq,GI,yx,aen]at h2;rw [h2,show 2*((m+1:Nat):Int) - 1 - 1=2*(m:Int)by omega];exact TM lv m a h (fun l hm ho=>by have:=hl l hm ho;omega)
def dK(n:Nat):List Int:=(List.range n).map fun(i:Nat)=>(i:Int)
theorem xC(n:Nat):(dK n).length=n:=by simp [dK]
def jM(lv:List Int):Int:=lv.foldl max 0
theorem PK:∀(lv:List Int)(x:Int),x<=lv.foldl max x/\(∀l∈lv,l<=lv.foldl max x)/\(lv.foldl max x=x∨lv.foldl max x∈lv)
 |[],x=>⟨KE _,by simp,.inl rfl⟩
 |a::lv,x=>by
  obtain⟨h1,h2,h3⟩:=PK lv (max x a);rw [o6];refine⟨by omega,fun l hl=> ?_,?_⟩
  .rcases jF.1 hl with rfl|hl
   .omega
   .exact h2 l hl
  .rcases h3 with h3|h3
   .rcases Int.le_total x a with h|h
    .right;rw [h3,Int.max_eq_right h];simp
    .left;rw [h3,Int.max_eq_left h]
   .right;simp [h3]
def nA(lv:List Int):Int:=lv.foldl (fun x l=>if l%2=1 then min x l else x) 127
theorem PJ:∀(lv:List Int)(x:Int),lv.foldl (fun x l=>if l%2=1 then min x l else x) x<=x/\(∀l∈lv,l%2=1->lv.foldl (fun x l=>if l%2=1 then min x l else x) x<=l)/\(lv.foldl (fun x l=>if l%2=1 then min x l else x) x=x∨(lv.foldl (fun x l=>if l%2=1 then min x l else x) x∈lv/\(lv.foldl (fun x l=>if l%2=1 then min x l else x) x)%2=1))
 |[],x=>⟨KE _,by simp,.inl rfl⟩
 |a::lv,x=>by
  obtain⟨h1,h2,h3⟩:=PJ lv (if a%2=1 then min x a else x);rw [o6];by_cases ha:a%2=1
  .rw [aj ha]at h1 h2 h3 ⊢;refine⟨by omega,fun l hl ho=> ?_,?_⟩
   .rcases jF.1 hl with rfl|hl
    .omega
    .exact h2 l hl ho
   .rcases h3 with h3|h3
    .rcases Int.le_total x a with h|h
     .left;rw [h3,Int.min_eq_left h]
     .right;rw [h3,Int.min_eq_right h];exact⟨by simp,ha⟩
    .right;exact⟨by simp [h3.1],h3.2⟩
  .rw [ai ha]at h1 h2 h3 ⊢;refine⟨h1,fun l hl ho=> ?_,?_⟩
   .rcases jF.1 hl with rfl|hl
    .exact absurd ho ha
    .exact h2 l hl ho
   .rcases h3 with h3|h3
    .exact .inl h3
    .right;exact⟨by simp [h3.1],h3.2⟩
def lT(lv:List Int):List Int:=eU lv (jM lv).toNat (jM lv) (dK lv.length)
def JC(lv:List Int):List Int:=eU lv (jM lv - nA lv+1).toNat (jM lv) (dK lv.length)
theorem ajQ {lv:List Int}(h:∀l∈lv,0<=l/\l<=126):JC lv=lT lv:=by
 unfold JC lT;obtain⟨t1,t2,t3⟩:=PK lv 0;obtain⟨o1,o2,o3⟩:=PJ lv 127;change 0<=jM lv at t1;change∀l∈lv,l<=jM lv at t2;change jM lv=0∨jM lv∈lv at t3;change nA lv<=127 at o1;change∀l∈lv,l%2=1->nA lv<=l at o2;change nA lv=127∨(nA lv∈lv/\nA lv%2=1)at o3;have htop:jM lv<=126:=by
  rcases t3 with e|e
  .omega
  .exact(h _ e).2
 have hev:jM lv%2=1->jM lv∈lv:=fun ho=>by
  rcases t3 with e|e
  .omega
  .exact e
 generalize jM lv=T at*;have hO:nA lv%2=1/\0<=nA lv:=by
  rcases o3 with e|e
  .omega
  .exact⟨e.2,(h _ e.1).1⟩
 generalize nA lv=O at*;by_cases hle:O<=T
 .obtain⟨m,hm⟩:∃m:Nat,O=2*(m:Int)+1:=⟨(O / 2).toNat,by omega⟩
  have e1:T.toNat=(T - O+1).toNat+2*m:=by omega
  rw [e1,acX,show T - ((T - O+1).toNat:Int)=2*(m:Int)by omega];exact(TM lv m _ (FM _ _ _ _ (xC _)) (fun l hl ho=>by have:=o2 l hl ho;omega)).symm
 .rw [show(T - O+1).toNat=0 by omega];have hT:T%2=0:=by
   rcases Int.emod_two_eq T with e|e
   .exact e
   .exact absurd (o2 T (hev e) e) hle
  obtain⟨m,hm⟩:∃m:Nat,T=2*(m:Int):=⟨(T / 2).toNat,by omega⟩
  rw [show T.toNat=2*m by omega,hm];exact(TM lv m _ (xC _) (fun l hl ho=>by have:=o2 l hl ho;have:=t2 l hl;omega)).symm
def EA(lv a:List Int)(v:Int):List Bool:=a.map fun p=>decide (v<=lv.getD p.toNat 0)
def rX(lv a:List Int)(v:Int):Prop:=∀u,u<=v->EA lv a u=mask u lv
theorem rX.start(lv:List Int)(v:Int):rX lv (dK lv.length) v:=fun u _=>by
 unfold EA dK mask;rw [KM];apply Gz;intro k;rw [jO,jO];rcases cK k lv.length with hk|hk
 .rw [GC hk,aQ hk];simp [aQ hk]
 .rw [pU (by simpa using hk),pU hk];rfl
theorem rX.turn {lv a:List Int}{v:Int}(h:rX lv a v)(_hl:a.length=lv.length):rX lv (dV (mask v lv) a []) v:=fun u hu=>by
 unfold EA;rw [TI];have e:=h u hu;unfold EA at e;rw [e];have:=TK (mask v lv) (mask u lv) 0 (by rw [xG,xG]) (fun j hj=>by
  have hlt:j<lv.length:=by have:=(qW.1 hj).1;rwa [xG]at this
  rw [DA _ _ _ hlt]at hj ⊢;have:=aK hj;simp at this ⊢;omega)
 simpa using this
theorem rX.mono {lv a:List Int}{v v':Int}(h:rX lv a v)(hv:v'<=v):rX lv a v':=fun u hu=>h u (by omega)
theorem rX.at {lv a:List Int}{v:Int}(h:rX lv a v)(hl:a.length=lv.length)(j:Nat)(hj:j<lv.length):decide (v<=lv.getD (a.getD j 0).toNat 0)=decide (v<=lv.getD j 0):=by
 have e:=h v (KE _);have e1:(EA lv a v)[j]? =some (decide (v<=lv.getD (a.getD j 0).toNat 0)):=by
  rw [EA,jO,aQ (by omega),aO (l:=a),aQ (by omega)];rfl
 rw [e,DA _ _ _ hj]at e1;exact(aK e1).symm
theorem aac(k:Nat):dK (k+1)=dK k++[(k:Int)]:=by simp [dK,GH]
theorem acP(lv:List Int)(k:Nat)(hk:k<lv.length):jM (lv.take (k+1))=max (jM (lv.take k)) (lv.getD k 0):=by
 unfold jM;rw [zX,aQ hk,CT,aO,aQ hk];rfl
theorem ai5(lv:List Int)(k:Nat)(hk:k<lv.length):nA (lv.take (k+1))=if lv.getD k 0%2=1 then min (nA (lv.take k)) (lv.getD k 0)else nA (lv.take k):=by
 unfold nA;rw [zX,aQ hk,CT,aO,aQ hk];rfl
theorem M6 {lv:List Int}(h:∀l∈lv,l<=1000):0<=jM lv/\jM lv<=1000:=by
 obtain⟨t1,_,t3⟩:=PK lv 0;refine⟨t1,?_⟩;rcases t3 with e|e
 .show lv.foldl max 0<=1000;omega
 .exact h _ e
theorem aaG {lv:List Int}(h:∀l∈lv,0<=l):0<=nA lv/\nA lv<=127:=by
 obtain⟨t1,_,t3⟩:=PJ lv 127;refine⟨?_,t1⟩;rcases t3 with e|e
 .show 0<=lv.foldl _ 127;rw [e];decide
 .exact h _ e.1
theorem abA {a:List Int}{n:Nat}(h:a.Perm (dK n))(j:Nat)(hj:j<n):∃p:Nat,p<n/\a.getD j 0=(p:Int):=by
 have hl:a.length=n:=by rw [h.length_eq,xC]
 have hm:a.getD j 0∈dK n:=h.mem_iff.1 (dm (by omega));unfold dK at hm;obtain⟨p,hp,e⟩:=jr.1 hm;exact⟨p,GG.1 hp,e.symm⟩
theorem mo.at {bs:List Bool}{a cur:List Int}{i:Nat}(h:mo bs a i cur)(q:Nat)(hq:i<=q):cur.getD q 0=a.getD q 0:=by
 obtain⟨pre,h1,h2,_⟩:=h;rw [h2,aO,pT (by omega),h1,yu,show i+(q - i)=q by omega,aO]
theorem acY {lv:List Int}{T:Int}:∀(m:Nat),rX lv (eU lv m T (dK lv.length)) (T - m)
 |0=>(rX.start lv T).mono (by omega)
 |m+1=>by
  rw [M9];exact((acY m).turn (FM _ _ _ _ (xC _))).mono (by omega)
