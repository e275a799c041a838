import Derived.Test.YtkbinfhclaafhaaGreatDoorProg
import Derived.WalkKit
import Derived.WalkSpells
import Derived.WalkLawsBesides
import Derived.Deep.QuietTactic
import Derived.BigQuiet
import Derived.WalkSmall
import Derived.Lib.OthersKept
import Derived.RegionTactic
import Derived.BigRegion
import Derived.Lib.SmallJoins
import Derived.Deep.LoopGhost
import Derived.OwnWalk
import Derived.Laws.OwnMore
import Derived.Deep.OwnRows
import Derived.Maps.AppendAt
namespace Go.Proofs.YtkbinfhclaafhaaGreatDoor
open Go.RowKit
open Go.Proofs.Tryz
set_option maxRecDepth 100000
set_option maxHeartbeats 32000000
def aG(c:Int):Bool:=c==18||(c==19||c==20)
def bU:List Int->Int->Option Nat
 |[],_=>none
 |c::r,n=>if c=21 then(if n - 1=0 then some 0 else(bU r (n - 1)).map (·+1))else(bU r (if aG c=true then n+1 else n)).map (·+1)
def mt(cs:List Int)(i:Nat):Nat:=match bU (cs.drop i) 0 with
 |some d=>i+d
 |none=>cs.length
theorem MS:aG 21=false:=by decide
def l6(cs:List Int)(i k:Nat)(n:Int):Prop:=i<=k/\k<=cs.length/\bU (cs.drop i) 0=(bU (cs.drop k) n).map (·+(k - i))
theorem l6.start(cs:List Int)(i:Nat)(h:i<=cs.length):l6 cs i i 0:=⟨Nat.le_refl _,h,by simp⟩
theorem l6.stop {cs:List Int}{i k:Nat}{n:Int}(h:l6 cs i k n)(hk:¬k<cs.length):mt cs i=cs.length:=by
 obtain⟨_,h2,h3⟩:=h;unfold mt;rw [h3,List.drop_eq_nil_of_le (by omega)];rfl
theorem drop_at {cs:List Int}{k:Nat}(hk:k<cs.length):cs.drop k=cs.getD k 0::cs.drop (k+1):=by
 rw [List.drop_eq_getElem_cons hk];simp [List.getD_eq_getElem?_getD,List.getElem?_eq_getElem hk]
theorem l6.plain {cs:List Int}{i k:Nat}{n:Int}(h:l6 cs i k n)(hk:k<cs.length)(hc:cs.getD k 0≠21):l6 cs i (k+1) (if aG (cs.getD k 0)=true then n+1 else n):=by
 obtain⟨h1,h2,h3⟩:=h;refine⟨by omega,hk,?_⟩;rw [h3,drop_at hk,bU,if_neg hc,Option.map_map]
 congr 1
 funext d
 simp only [Function.comp];omega
theorem l6.Ap {cs:List Int}{i k:Nat}{n:Int}(h:l6 cs i k n)(hk:k<cs.length)(hc:cs.getD k 0=21)(hn:n - 1≠0):l6 cs i (k+1) (n - 1):=by
 obtain⟨h1,h2,h3⟩:=h;refine⟨by omega,hk,?_⟩;rw [h3,drop_at hk,hc,bU,if_pos rfl,if_neg hn,Option.map_map]
 congr 1
 funext d
 simp only [Function.comp];omega
theorem l6.hit {cs:List Int}{i k:Nat}{n:Int}(h:l6 cs i k n)(hk:k<cs.length)(hc:cs.getD k 0=21)(hn:n - 1=0):mt cs i=k:=by
 obtain⟨h1,h2,h3⟩:=h;unfold mt;rw [h3,drop_at hk,hc,bU,if_pos rfl,if_pos hn];simp;omega
theorem Nv:∀(l:List Int)(n:Int)(d:Nat),bU l n=some d->d<l.length
 |[],_,_,h=>by simp [bU]at h
 |c::r,n,d,h=>by
  rw [bU]at h;split at h
  .split at h
   .simp at h;subst h;simp
   .cases hr:bU r (n - 1)with
    |none=>rw [hr]at h;simp at h
    |some d'=>rw [hr]at h;simp at h;subst h;have:=Nv r _ d' hr;simp;omega
  .cases hr:bU r (if aG c=true then n+1 else n)with
   |none=>rw [hr]at h;simp at h
   |some d'=>rw [hr]at h;simp at h;subst h;have:=Nv r _ d' hr;simp;omega
theorem vG(cs:List Int)(i:Nat)(h:i<=cs.length):i<=mt cs i/\mt cs i<=cs.length:=by
 unfold mt;split
 .rename_i d hd;have:=Nv _ _ _ hd;simp at this;omega
 .omega
def gy(cs:List Int):Nat->Nat->Int
 |0,_=>0
 |f+1,i=>if i<cs.length then(if cs.getD i 0=0 then 0 else if cs.getD i 0=1∨cs.getD i 0=2 then 1 else if aG (cs.getD i 0)=true then gy cs f (mt cs i+1)else gy cs f (i+1))else 0
def found(cs:List Int):Int:=gy cs cs.length 0
theorem GD(cs:List Int):∀f i,cs.length<=i+f->gy cs f i=gy cs (f+1) i
 |0,i,h=>by rw [gy,gy,if_neg (by omega)]
 |f+1,i,h=>by
  rw [gy,gy];by_cases hi:i<cs.length
  .rw [if_pos hi,if_pos hi];have hm:=vG cs i (by omega);rw [GD cs f (mt cs i+1) (by omega),GD cs f (i+1) (by omega)]
  .rw [if_neg hi,if_neg hi]
theorem Ls(cs:List Int)(f g i:Nat)(hf:cs.length<=i+f)(hg:cs.length<=i+g):gy cs f i=gy cs g i:=by
 have key:∀d f i,cs.length<=i+f->gy cs f i=gy cs (f+d) i:=by
  intro d
  induction d with
  |zero=>intro f i _;rfl
  |succ d ih=>intro f i h;rw [ih f i h,GD cs (f+d) i (by omega)];rfl
 rcases Nat.le_total f g with h|h
 .rw [key (g - f) f i hf];congr 1;omega
 .rw [key (f - g) g i hg];congr 1;omega
def bC(c:Int):Int:=if c=0 then 0 else if c=1∨c=3∨c=6 then 1 else -1
def mO(a b:Int):Int:=if(if a<b then b else a)%2=1 then 1 else 0
def um(c l:Int):Int:=if l%2=0 then(if c=1 then l+1 else if c=6∨c=3 then l+2 else l)else(if c=1 then l else l+1)
def nL(c:Int):Bool:=c==11||(c==9||decide (13<=c))
def canon(r:Int):Int:=if r=9001 then 12296 else if r=9002 then 12297 else r
def brk(r:Int):Int×Int:=
 if canon r=40∨canon r=91∨canon r=123∨canon r=12296 then(1,canon r)
 else if canon r=41 then(2,40)else if canon r=93 then(2,91)else if canon r=125 then(2,123)else if canon r=12297 then(2,12296)else(0,0)
def dz(w:World)(b off:Nat)(l:List Int):Prop:=∀i,i<l.length->w.cell? ⟨b,off+i,none⟩=some (.int .i64 (l.getD i 0))
def tH(w:World)(v:Value)(l:List Int):Prop:=(v= .slice none 0 0/\l=[])∨∃b off cap,v= .slice (some ⟨b,off,none⟩) l.length cap/\dz w b off l
theorem kM {k:IntKind}{a b:Int}(h:a=b):Ending.returned (.int k a)= .returned (.int k b):=by rw [h]
theorem jO {a b:Bool}(h:a=b):Ending.returned (.bool a)= .returned (.bool b):=by rw [h]
def oM(r:Int)(l:List Int):Bool:=l.contains r
theorem Below.chain {a b b' c:World}(h1:Below a.heap.size a b)(h:Below b.heap.size b b')(h2:Below b'.heap.size b' c):Below a.heap.size a c:=
 h1.trans ((h.mono h1.size).trans (h2.mono (Nat.le_trans h1.size h.size)))
theorem Ro {W w1:World}(hb:Below W.heap.size W w1):(∀b o,b<W.heap.size->w1.cell? ⟨b,o,none⟩=W.cell? ⟨b,o,none⟩)/\(∀b o,b<W.heap.size->w1.frozen? ⟨b,o,none⟩=W.frozen? ⟨b,o,none⟩):=
 ⟨fun b o h=>hb.cell (p:=⟨b,o,none⟩) h,fun b o h=>hb.frozen (p:=⟨b,o,none⟩) h⟩
theorem dz.below {W w1:World}{b off:Nat}{l:List Int}(h:dz W b off l)(hb:Below W.heap.size W w1):dz w1 b off l:=by
 intro i hi;have:=h i hi;rw [<-this];refine hb.cell ?_;rcases Nat.lt_or_ge b W.heap.size with h'|h'
 .exact h'
 .simp [World.cell?,Array.getElem?_eq_none h']at this
theorem tH.below {W w1:World}{v:Value}{l:List Int}(h:tH W v l)(hb:Below W.heap.size W w1):tH w1 v l:=by
 rcases h with h|⟨b,off,cap,rfl,hc⟩
 .exact .inl h
 .exact .inr ⟨b,off,cap,rfl,hc.below hb⟩
theorem tH.agA {w:World}{base:Nat}{e:TypeId}{v:Value}{n:Nat}{l:List Int}(h:w.ownsRow base e 1 v n (l.map (Value.int .i64))):tH w v l:=by
 have hn:l.length=n:=by have:=h.1;simpa using this
 rcases h.2 with⟨rfl,h0⟩|⟨g,cap,cur,rfl,_⟩
 .exact .inl ⟨rfl,List.length_eq_zero_iff.1 (by omega)⟩
 .refine .inr ⟨g,0,cap,by rw [hn],fun i hi=> ?_⟩;have:=h.cellAt i (by omega);rw [Nat.zero_add,this,List.getElem?_map,List.getElem?_eq_getElem hi];simp [List.getD_eq_getElem?_getD,List.getElem?_eq_getElem hi]
theorem Tryz.VT:(prog.info? 3).map (fun i=>(i.zero,i.size,i.bytes))=some (some (.int .i64 0),1,8):=by kernel_rfl
def Kz(s:ByteArray):List Int:=s.data.toList.map fun b=>(b.toNat:Int)
def cls(r:Int):Int:=
 if(1488<=r/\r<=1514)∨r=8207 then 1
 else if(1575<=r/\r<=1610)∨r=1564 then 2
 else if 48<=r/\r<=57 then 3
 else if r=43∨r=45 then 4
 else if 1632<=r/\r<=1641 then 6
 else if(768<=r/\r<=879)∨(1611<=r/\r<=1618)then 8
 else if r=173∨r=8203 then 9
 else if r=9 then 10
 else if r=32∨r=8195 then 11
 else if 8294<=r/\r<=8297 then 18+r - 8294
 else if oM r [35,36,37,8364]=true then 5
 else if oM r [44,46,47,58]=true then 7
 else if oM r (Kz {data:=#[33,34,38,39,40,41,42,59,60,61,62,63,64,91,92,93,94,95,96,123,124,125,126]})=true∨oM r [9001,9002,12296,12297]=true then 12
 else if r=8234 then 13
 else if r=8235 then 14
 else if r=8237 then 15
 else if r=8238 then 16
 else if r=8236 then 17
 else 0
theorem abZ {r:Int}(h:(1488<=r/\r<=1514)∨r=8207):cls r=1:=by
 unfold cls;rw [if_pos h]
theorem ab0 {r:Int}(h:(1575<=r/\r<=1610)∨r=1564):cls r=2:=by
 unfold cls;rw [if_neg (by omega)];rw [if_pos h]
theorem ab1 {r:Int}(h:48<=r/\r<=57):cls r=3:=by
 unfold cls;rw [if_neg (by omega)];rw [if_neg (by omega)];rw [if_pos h]
theorem ab2 {r:Int}(h:r=43∨r=45):cls r=4:=by
 unfold cls;rw [if_neg (by omega)];rw [if_neg (by omega)];rw [if_neg (by omega)];rw [if_pos h]
theorem ab3 {r:Int}(h:1632<=r/\r<=1641):cls r=6:=by
 unfold cls;rw [if_neg (by omega)];rw [if_neg (by omega)];rw [if_neg (by omega)];rw [if_neg (by omega)];rw [if_pos h]
theorem ab4 {r:Int}(h:(768<=r/\r<=879)∨(1611<=r/\r<=1618)):cls r=8:=by
 unfold cls;rw [if_neg (by omega)];rw [if_neg (by omega)];rw [if_neg (by omega)];rw [if_neg (by omega)];rw [if_neg (by omega)];rw [if_pos h]
theorem ab5 {r:Int}(h:r=173∨r=8203):cls r=9:=by
 unfold cls;rw [if_neg (by omega)];rw [if_neg (by omega)];rw [if_neg (by omega)];rw [if_neg (by omega)];rw [if_neg (by omega)];rw [if_neg (by omega)];rw [if_pos h]
theorem ab6 {r:Int}(h:r=9):cls r=10:=by
 unfold cls;rw [if_neg (by omega)];rw [if_neg (by omega)];rw [if_neg (by omega)];rw [if_neg (by omega)];rw [if_neg (by omega)];rw [if_neg (by omega)];rw [if_neg (by omega)];rw [if_pos h]
theorem ab7 {r:Int}(h:r=32∨r=8195):cls r=11:=by
 unfold cls;rw [if_neg (by omega)];rw [if_neg (by omega)];rw [if_neg (by omega)];rw [if_neg (by omega)];rw [if_neg (by omega)];rw [if_neg (by omega)];rw [if_neg (by omega)];rw [if_neg (by omega)];rw [if_pos h]
theorem ab8 {r:Int}(h:8294<=r/\r<=8297):cls r=18+r - 8294:=by
 unfold cls;rw [if_neg (by omega)];rw [if_neg (by omega)];rw [if_neg (by omega)];rw [if_neg (by omega)];rw [if_neg (by omega)];rw [if_neg (by omega)];rw [if_neg (by omega)];rw [if_neg (by omega)];rw [if_neg (by omega)];rw [if_pos h]
def Between(r:Int):Prop:=¬((1488<=r/\r<=1514)∨r=8207)/\¬((1575<=r/\r<=1610)∨r=1564)/\¬(48<=r/\r<=57)/\¬(r=43∨r=45)/\¬(1632<=r/\r<=1641)/\¬((768<=r/\r<=879)∨(1611<=r/\r<=1618))/\¬(r=173∨r=8203)/\¬r=9/\¬(r=32∨r=8195)/\¬(8294<=r/\r<=8297)
theorem ace {r:Int}(h:Between r):cls r=if oM r [35,36,37,8364]=true then 5
 else if oM r [44,46,47,58]=true then 7
 else if oM r (Kz {data:=#[33,34,38,39,40,41,42,59,60,61,62,63,64,91,92,93,94,95,96,123,124,125,126]})=true∨oM r [9001,9002,12296,12297]=true then 12
 else if r=8234 then 13
 else if r=8235 then 14
 else if r=8237 then 15
 else if r=8238 then 16
 else if r=8236 then 17
 else 0:=by
 obtain⟨h1,h2,h3,h4,h5,h6,h7,h8,h9,h10⟩:=h;unfold cls;rw [if_neg h1,if_neg h2,if_neg h3,if_neg h4,if_neg h5,if_neg h6,if_neg h7,if_neg h8,if_neg h9,if_neg h10]
def mW(cs:List Int)(k:Nat):Prop:=∃f,cs.length<=k+f/\found cs=gy cs f k
theorem mW.start(cs:List Int):mW cs 0:=⟨cs.length,by omega,rfl⟩
theorem mW.open {cs:List Int}{k:Nat}(h:mW cs k)(hk:k<cs.length):found cs=(if cs.getD k 0=0 then 0 else if cs.getD k 0=1∨cs.getD k 0=2 then 1 else if aG (cs.getD k 0)=true then gy cs cs.length (mt cs k+1)else gy cs cs.length (k+1)):=by
 obtain⟨f,hf,e⟩:=h;cases f with
 |zero=>omega
 |succ f=>
  rw [e,gy,if_pos hk];have hm:=vG cs k (by omega);rw [Ls cs f cs.length (mt cs k+1) (by omega) (by omega),Ls cs f cs.length (k+1) (by omega) (by omega)]
theorem mW.stop {cs:List Int}{k:Nat}(h:mW cs k)(hk:¬k<cs.length):found cs=0:=by
 obtain⟨f,hf,e⟩:=h;rw [e];cases f with
 |zero=>rfl
 |succ f=>rw [gy,if_neg hk]
theorem mW.zero {cs:List Int}{k:Nat}(h:mW cs k)(hk:k<cs.length)(hc:cs.getD k 0=0):found cs=0:=by rw [h.open hk,if_pos hc]
theorem mW.one {cs:List Int}{k:Nat}(h:mW cs k)(hk:k<cs.length)(hc:cs.getD k 0=1∨cs.getD k 0=2):found cs=1:=by rw [h.open hk,if_neg (by omega),if_pos hc]
theorem mW.qg {cs:List Int}{k:Nat}(h:mW cs k)(hk:k<cs.length)(h0:¬cs.getD k 0=0)(h1:¬(cs.getD k 0=1∨cs.getD k 0=2))(hi:aG (cs.getD k 0)=true):mW cs (mt cs k+1):=
 ⟨cs.length,by omega,by rw [h.open hk,if_neg h0,if_neg h1,if_pos hi]⟩
theorem mW.next {cs:List Int}{k:Nat}(h:mW cs k)(hk:k<cs.length)(h0:¬cs.getD k 0=0)(h1:¬(cs.getD k 0=1∨cs.getD k 0=2))(hi:aG (cs.getD k 0)=false):mW cs (k+1):=
 ⟨cs.length,by omega,by rw [h.open hk,if_neg h0,if_neg h1,if_neg (by rw [hi];decide)]⟩
def Ak(cs:List Int)(i:Nat):Nat->Int
 |0=> -1
 |n+1=>if aG (cs.getD (i - (n+1)) 0)=true/\mt cs (i - (n+1))=i then((i - (n+1):Nat):Int)else Ak cs i n
def opener(cs:List Int)(i:Nat):Int:=Ak cs i i
structure aO where
 l:Int
 o:Int
 i:Bool
def aO.cells(e:aO):List Value:=[.int .i64 e.l,.int .i64 e.o,.bool e.i]
def je(st:List aO):List Value:=st.flatMap aO.cells
theorem Tc(st:List aO):(je st).length=st.length*3:=by
 induction st with
 |nil=>rfl
 |cons e r ih=>simp only [je,List.flatMap_cons,List.length_append]at ih ⊢;rw [ih];simp [aO.cells];omega
theorem Td(st:List aO)(e:aO):je (st++[e])=je st++e.cells:=by simp [je]
structure eX(w:World)(B s:Nat)(v:Value)(st:List aO)(bu bN valid:Int):Prop where
 cell:w.heap[s]? =some (.cells #[v,.int .i64 bu,.int .i64 bN,.int .i64 valid] 184 (0,0))
 row:w.ownsRow B 181 3 v st.length (je st)
 low:B<=s
theorem au {w:World}{s:Nat}{cs:Array Value}{t:TypeId}{fr:Nat×Nat}(h:w.heap[s]? =some (.cells cs t fr))(j:Nat):w.cell? ⟨s,j,none⟩=cs[j]? :=by simp [World.cell?,h]
theorem bX {w:World}{s:Nat}{cs:Array Value}{t:TypeId}(h:w.heap[s]? =some (.cells cs t (0,0)))(j:Nat):w.frozen? ⟨s,j,none⟩=false:=by simp [World.frozen?,h]
structure XS where
 st:List aO
 bu:Int
 bN:Int
 valid:Int
def iD(l odd:Int):Int:=if(l+1)%2=odd then l+1 else l+2
def aS(st:List aO):aO:=st.getLastD ⟨0, -1,false⟩
def lJ(x:XS)(n:Int):Bool:=decide (n<=125)&&(x.bu==0&&x.bN==0)
theorem eX.below {w w':World}{B s:Nat}{v:Value}{st:List aO}{a b c:Int}(h:eX w B s v st a b c)(hb:Below w.heap.size w w'):eX w' B s v st a b c:=
 ⟨by rw [hb.block s];exact h.cell;rcases Nat.lt_or_ge s w.heap.size with h'|h';exact h';(have:=h.cell;rw [Array.getElem?_eq_none h']at this;cases this),
  h.row.kept ⟨hb.os,hb.tape,hb.output,hb.size,fun j hj _=>hb.block j hj⟩ (row:=none) (by rcases h.row.2 with⟨rfl,_⟩|⟨g,cp,cur,rfl,_⟩<;>simp [Value.ownBlock]),h.low⟩
theorem aR {w w':World}(hb:Below w.heap.size w w'){k:Nat}{o:Obj}(h:w.heap[k]? =some o):w'.heap[k]? =some o:=by
 rw [hb.block k ?_]
 .exact h
 .rcases Nat.lt_or_ge k w.heap.size with h'|h'
  .exact h'
  .simp [Array.getElem?_eq_none h']at h
theorem cO {w w':World}(hb:Below w.heap.size w w'){a:Addr}{v:Value}(h:w.cell? a=some v):w'.cell? a=some v:=by
 rw [<-h];refine hb.cell ?_;rcases Nat.lt_or_ge a.block w.heap.size with h'|h'
 .exact h'
 .simp [World.cell?,Array.getElem?_eq_none h']at h
theorem zf {P:Program}(w:World){ops:Array Oper}{rest:List Oper}{o:Oper}{a:Act}{Q:Exit->Act->World->Prop}(hgd:o.guard=none)(s x:Operand)(t:TypeId)
  (ho:o.op= .call {callee:= .builtin .append,args:=#[s,x],argTypes:=#[t,t]})
  (base:Nat) (e:TypeId) (i:TypeInfo) (z:Value) (bytes:Nat) (ht:P.underlying t=some (.slice e)) (hi:P.info? e=some i) (hz:i.zero=some z)
  (hsize:i.size=1) (hby:i.bytes=bytes) (hzs:z.cells.size=1) (wU:bytes<=64)
  (v:Value) (n:Nat) (xs:List Value) (hs:a.eval s=v) (hown:w.ownsRow base e 1 v n xs)
  (y:Value) (e':TypeId) (hx:a.eval x= .slice (some ⟨w.heap.size,0,none⟩) 1 1) (h1:y.oneCell'=true) (hn:n<=1000000) (hbase:base<=w.heap.size)
  (h:∀v' w',w'.ownsRow base e 1 v' (n+1) (xs++[y])->w.grownBy w' v.ownBlock->wpList P ops Q rest (a.put o.dst v') w'):wpList P ops Q (o::rest) a (w.alloc (.cells #[y] e')):=by
 refine wpList_append_own _ hgd s x t ho base e i z 1 bytes ht hi hz hsize hby hzs (by decide) v n xs hs (hown.alloc _) ⟨w.heap.size,0,none⟩ 1 1 [y] hx rfl ?_ ?_ ?_ ?_ ?_ ?_
 .intro j u hj
  match j,hj with
  |0,hj=>simp at hj;subst hj;simp [Addr.add]
 .intro u hu;simp at hu;subst hu;exact h1
 .unfold maxLen;omega
 .have:(n+1)*bytes<=1000001*64:=Nat.mul_le_mul (by omega) wU;omega
 .simp;omega
 .intro v' w' h2 h3 _;refine h v' w' h2 ⟨h3.os,h3.tape,h3.output,?_,fun k hk hne=> ?_⟩
  .have:=h3.size;simp at this;omega
  .rw [h3.block k (by simp;omega) hne];exact Below.heap_alloc w _ k hk
theorem kK {w w':World}{base:Nat}{e:TypeId}{size:Nat}{v:Value}{n:Nat}{xs:List Value}(h:w.ownsRow base e size v n xs)(hb:∀k o,v.ownBlock=some k->w.heap[k]? =some o->w'.heap[k]? =some o):w'.ownsRow base e size v n xs:=by
 refine⟨h.1,?_⟩;rcases h.2 with h|⟨g,cap,cur,rfl,h2,h3,h4⟩
 .exact .inl h
 .exact .inr ⟨g,cap,cur,rfl,h2,hb g _ rfl h3,h4⟩
theorem own_ne_iter {w:World}{base:Nat}{e:TypeId}{size:Nat}{v:Value}{n:Nat}{xs:List Value}(h:w.ownsRow base e size v n xs){K:Nat}{s:ByteArray}{p:Nat}(hk:w.heap[K]? =some (.stringIter s p)):v.ownBlock≠some K:=by
 rcases h.2 with⟨rfl,_⟩|⟨g,cap,cur,rfl,h2,h3,h4⟩
 .simp [Value.ownBlock]
 .simp only [Value.ownBlock];intro e;obtain rfl:=Option.some.inj e;rw [hk]at h3;cases h3
structure Fr(B s:Nat)(w w':World):Prop where
 below:Below B w w'
 uA:Lib.OthersKept 181 (some s) w w'
theorem Fr.refl(B s:Nat)(w:World):Fr B s w w:=⟨Below.refl _ _,Lib.OthersKept.refl _ _ _⟩
theorem Fr.trans {B s:Nat}{a b c:World}(h:Fr B s a b)(k:Fr B s b c):Fr B s a c:=⟨h.below.trans k.below,h.uA.trans k.uA⟩
theorem Fr.of_below {B s:Nat}{w w':World}(hB:B<=w.heap.size)(hb:Below w.heap.size w w'):Fr B s w w':=⟨hb.mono hB,fun _ _ h _ _=>aR hb h⟩
theorem Fr.set {B s:Nat}{w:World}(hB:B<=s)(j:Nat)(u:Value):Fr B s w (w.setCell ⟨s,j,none⟩ u):=
 ⟨(Below.refl _ _).setCell hB u,(Lib.OthersKept.refl _ _ _).setCell ⟨s,j,none⟩ rfl u⟩
theorem eX.lt {w:World}{B s:Nat}{v:Value}{st:List aO}{a b c:Int}(h:eX w B s v st a b c):s<w.heap.size:=by
 rcases Nat.lt_or_ge s w.heap.size with h'|h'
 .exact h'
 .have:=h.cell;rw [Array.getElem?_eq_none h']at this;cases this
theorem eX.ne {w:World}{B s:Nat}{v:Value}{st:List aO}{a b c:Int}(h:eX w B s v st a b c):v.ownBlock≠some s:=by
 rcases h.row.2 with⟨rfl,_⟩|⟨g,cp,cur,rfl,_,hh,_⟩
 .simp [Value.ownBlock]
 .simp only [Value.ownBlock];intro e;obtain rfl:=Option.some.inj e;rw [h.cell]at hh;simp at hh
theorem iG {w:World}{B s:Nat}{v:Value}{e:TypeId}{z n:Nat}{xs:List Value}(h:w.ownsRow B e z v n xs)(hne:v.ownBlock≠some s)(j:Nat)(u:Value):(w.setCell ⟨s,j,none⟩ u).ownsRow B e z v n xs:=
 kK h fun k o hk ho=>by
  rw [Below.heap_setCell]
  .exact ho
  .rintro rfl;exact hne hk
theorem eX.OL {w:World}{B s:Nat}{v:Value}{st:List aO}{a b c:Int}(h:eX w B s v st a b c)(z:Int):eX (w.setCell ⟨s,1,none⟩ (.int .i64 z)) B s v st z b c:=
 ⟨by rw [Joins.block_setCell h.cell];rfl,iG h.row h.ne _ _,h.low⟩
theorem eX.IQ {w:World}{B s:Nat}{v:Value}{st:List aO}{a b c:Int}(h:eX w B s v st a b c)(z:Int):eX (w.setCell ⟨s,2,none⟩ (.int .i64 z)) B s v st a z c:=
 ⟨by rw [Joins.block_setCell h.cell];rfl,iG h.row h.ne _ _,h.low⟩
theorem eX.OM {w:World}{B s:Nat}{v:Value}{st:List aO}{a b c:Int}(h:eX w B s v st a b c)(z:Int):eX (w.setCell ⟨s,3,none⟩ (.int .i64 z)) B s v st a b z:=
 ⟨by rw [Joins.block_setCell h.cell];rfl,iG h.row h.ne _ _,h.low⟩
theorem eX.push {w w5:World}{B s:Nat}{v v':Value}{st:List aO}{a b c:Int}{e:aO}(h:eX w B s v st a b c)(hown:w5.ownsRow B 181 3 v' (st.length+1) (je st++[.int .i64 e.l,.int .i64 e.o,.bool e.i]))(hg:w.grownBy w5 v.ownBlock):
  eX (w5.setCell ⟨s,0,none⟩ v') B s v' (st++[e]) a b c/\Fr B s w (w5.setCell ⟨s,0,none⟩ v')/\w5.cell? ⟨s,0,none⟩=some v/\w5.frozen? ⟨s,0,none⟩=false:=by
 have gV:w5.heap[s]? =some (.cells #[v,.int .i64 a,.int .i64 b,.int .i64 c] 184 (0,0)):=by
  rw [hg.block s h.lt h.ne.symm];exact h.cell
 have hne:v'.ownBlock≠some s:=by
  rcases hown.2 with⟨rfl,_⟩|⟨g,cp,cur,rfl,_,hh,_⟩
  .simp [Value.ownBlock]
  .simp only [Value.ownBlock];intro e;obtain rfl:=Option.some.inj e;rw [gV]at hh;simp at hh
 refine⟨⟨by rw [Joins.block_setCell gV];rfl,?_,h.low⟩,⟨?_,?_⟩,au gV 0,bX gV 0⟩
 .have:=iG hown hne 0 v';rw [Td];simpa [aO.cells]using this
 .exact((Below.refl B w).grown hg (Nat.le_trans h.low (Nat.le_of_lt h.lt)) fun k hk=>(h.row.lt k hk).1).setCell h.low _
 .refine((Lib.OthersKept.refl _ _ _).grown hg fun g hgg=> ?_).setCell ⟨s,0,none⟩ rfl _;rcases h.row.2 with⟨rfl,_⟩|⟨g',cp,cur,rfl,_,hh,_⟩
  .simp [Value.ownBlock]at hgg
  .simp only [Value.ownBlock,Option.some.injEq]at hgg;subst hgg;exact⟨cur,_,hh⟩
def nW(x:XS)(c:Int):XS:=
 let n:=iD (aS x.st).l (if c=14∨c=16 then 1 else 0)
 if lJ x n=true then{x with st:=x.st++[⟨n,if c=15 then 0 else if c=16 then 1 else -1,false⟩]}
 else if x.bu=0 then{x with bN:=x.bN+1}else x
def jT(x:XS)(odd:Int):XS:=
 let n:=iD (aS x.st).l odd
 if lJ x n=true then{x with st:=x.st++[⟨n, -1,true⟩],valid:=x.valid+1}else{x with bu:=x.bu+1}
theorem ajj(st:List aO)(e:aO):aS (st++[e])=e:=by simp [aS]
theorem eX.drew {w:World}{B s:Nat}{v:Value}{st:List aO}{a b c:Int}(h:eX w B s v st a b c):eX w.drew B s v st a b c:=⟨h.cell,h.row,h.low⟩
theorem Fr.drew {B s:Nat}{a w:World}(h:Fr B s a w):Fr B s a w.drew:=⟨h.below.drew,h.uA⟩
theorem eX.shape {w:World}{B s:Nat}{v:Value}{st:List aO}{e:aO}{a b c:Int}(h:eX w B s v (st++[e]) a b c):∃g cap,v= .slice (some ⟨g,0,none⟩) (st.length+1) cap/\st.length+1<=cap:=by
 rcases h.row.2 with⟨_,h0⟩|⟨g,cp,cur,rfl,_,_,hc,_⟩
 .simp at h0
 .exact⟨g,cp,by simp,by simpa using hc⟩
def gI(st:List aO):List aO:=((st.reverse.dropWhile fun e=> !e.i).drop 1).reverse
theorem Oc(st:List aO)(e:aO)(h:e.i=true):gI (st++[e])=st:=by simp [gI,h]
theorem Oe(st:List aO)(e:aO)(h:e.i=false):gI (st++[e])=gI st:=by simp [gI,h]
def nC(x:XS):XS:=
 if 0<x.bu then{x with bu:=x.bu - 1}
 else if x.valid=0 then x
 else{x with bN:=0,st:=gI x.st,valid:=x.valid - 1}
def uC(x:XS):XS:=
 if 0<x.bu then x
 else if 0<x.bN then{x with bN:=x.bN - 1}
 else if(aS x.st).i=false/\1<x.st.length then{x with st:=x.st.dropLast}else x
def dm(c:Int):Bool:=c !=9&&(decide (c<13)||decide (17<c))
def dK(x:XS)(c:Int):XS:=if c=21 then nC x else x
def nH(cs:List Int)(i:Nat):Int:=found ((cs.take (mt cs i)).drop (i+1))
def gK(cs:List Int)(i:Nat)(x:XS)(c:Int):XS:=
 if c=13∨c=14∨c=15∨c=16 then nW x c else if c=18 then jT x 0 else if c=19 then jT x 1
 else if c=20 then jT x (nH cs i)else if c=17 then uC x else x
def dZ(cs:List Int)(para:Int):Nat->XS
 |0=>⟨[⟨para, -1,false⟩],0,0,0⟩
 |i+1=>gK cs i (dK (dZ cs para i) (cs.getD i 0)) (cs.getD i 0)
def iJ(cs:List Int)(para:Int)(i:Nat):aO:=aS (dK (dZ cs para i) (cs.getD i 0)).st
def aH(cs:List Int)(para:Int):List Int:=(List.range cs.length).map fun i=>(iJ cs para i).l
def kindOf(c:Int)(e:aO):Int:=if dm c=true/\0<=e.o then e.o else c
def iX(cs:List Int)(para:Int):List Int:=(List.range cs.length).map fun i=>kindOf (cs.getD i 0) (iJ cs para i)
def aD(cs:List Int):List Bool:=cs.map dm
structure dH(m:Int)(x:XS):Prop where
 ne:x.st≠[]
 ah:∀(j:Nat)(e:aO),x.st[j]? =some e->(j:Int)<=e.l/\e.l<=125
 hd:∀e,x.st[0]? =some e->e.i=false
 cnt:x.valid=(x.st.filter (·.i)).length
 bu:0<=x.bu/\x.bu<=m
 bN:0<=x.bN/\x.bN<=m
theorem dH.len {m:Int}{x:XS}(h:dH m x):x.st.length<=126:=by
 have hne:=h.ne;have h1:x.st.length - 1<x.st.length:=by have:=List.length_pos_iff.2 hne;omega
 have:=h.ah (x.st.length - 1) _ (List.getElem?_eq_getElem h1);omega
theorem dH.top {m:Int}{x:XS}(h:dH m x):((x.st.length:Int) - 1<=(aS x.st).l)/\0<=(aS x.st).l/\(aS x.st).l<=125:=by
 have hne:=h.ne;have h0:=List.length_pos_iff.2 hne;have h1:x.st.length - 1<x.st.length:=by omega
 have hl:=h.ah (x.st.length - 1) _ (List.getElem?_eq_getElem h1);have e:aS x.st=x.st[x.st.length - 1]:=by
  unfold aS;rw [List.getLastD_eq_getLast?,List.getLast?_eq_getElem?,List.getElem?_eq_getElem h1];rfl
 rw [e];omega
theorem dH.Tm {m:Int}{x:XS}(h:dH m x)(hv:1<=x.valid):∃e∈x.st,e.i=true:=by
 have h3:=h.cnt;have:0<(x.st.filter (·.i)).length:=by omega
 obtain⟨e,he⟩:=List.exists_mem_of_length_pos this;exact⟨e,(List.mem_filter.1 he).1,(List.mem_filter.1 he).2⟩
theorem dH.start(para:Int)(h:0<=para/\para<=125):dH 0 ⟨[⟨para, -1,false⟩],0,0,0⟩:=
 ⟨by simp,fun j e he=>by
  match j,he with
  |0,he=>simp at he;subst he;exact⟨by simp;omega,h.2⟩,fun e he=>by simp at he;subst he;rfl,by simp,by simp,by simp⟩
theorem dH.mono {m m':Int}{x:XS}(h:dH m x)(hm:m<=m'):dH m' x:=
 ⟨h.ne,h.ah,h.hd,h.cnt,⟨h.bu.1,by have:=h.bu.2;omega⟩,⟨h.bN.1,by have:=h.bN.2;omega⟩⟩
theorem dH.push {m:Int}{x:XS}(h:dH m x)(e:aO)(hl:(aS x.st).l<e.l)(h5:e.l<=125):dH m ⟨x.st++[e],x.bu,x.bN,x.valid+(if e.i=true then 1 else 0)⟩:=by
 refine⟨by simp,fun j e' he=> ?_,fun e' he=> ?_,?_,h.bu,h.bN⟩
 .simp only at he;rcases Nat.lt_or_ge j x.st.length with hj|hj
  .rw [List.getElem?_append_left hj]at he;exact h.ah j e' he
  .rw [List.getElem?_append_right hj]at he;have:j - x.st.length=0:=by
    rcases Nat.eq_zero_or_pos (j - x.st.length)with h'|h'
    .exact h'
    .rw [List.getElem?_eq_none (by simp;omega)]at he;cases he
   rw [this]at he;simp at he;subst he;have:=h.top.1;omega
 .simp only at he;rw [List.getElem?_append_left (List.length_pos_iff.2 h.ne)]at he;exact h.hd e' he
 .simp only [List.filter_append,List.length_append];have:=h.cnt;rw [List.filter_cons,List.filter_nil];cases e.i<;>simp<;>omega
theorem NA(l odd:Int):l<iD l odd:=by unfold iD;split<;>omega
theorem dH.K8 {m:Int}{x:XS}(h:dH m x)(c:Int):dH (m+1) (nW x c):=by
 unfold nW;simp only;generalize(if c=15 then(0:Int)else if c=16 then 1 else -1)=o;generalize hn:iD (aS x.st).l _=n;have hlt:(aS x.st).l<n:=by rw [<-hn];exact NA _ _
 split
 .rename_i hf;unfold lJ at hf;simp at hf;have:=(h.push ⟨n,o,false⟩ hlt (by simp;omega)).mono (m':=m+1) (by omega);simpa using this
 .split
  .exact⟨h.ne,h.ah,h.hd,h.cnt,⟨h.bu.1,by have:=h.bu.2;simp only;omega⟩,⟨by have:=h.bN.1;simp only;omega,by have:=h.bN.2;simp only;omega⟩⟩
  .exact h.mono (by omega)
theorem dH.begin {m:Int}{x:XS}(h:dH m x)(odd:Int):dH (m+1) (jT x odd):=by
 unfold jT;simp only;generalize hn:iD (aS x.st).l _=n;have hlt:(aS x.st).l<n:=by rw [<-hn];exact NA _ _
 split
 .rename_i hf;unfold lJ at hf;simp at hf;have:=(h.push ⟨n, -1,true⟩ hlt (by simp;omega)).mono (m':=m+1) (by omega);simpa using this
 .exact⟨h.ne,h.ah,h.hd,h.cnt,⟨by have:=h.bu.1;simp only;omega,by have:=h.bu.2;simp only;omega⟩,⟨h.bN.1,by have:=h.bN.2;simp only;omega⟩⟩
theorem dH.pop {m:Int}{x:XS}(h:dH m x):dH m (uC x):=by
 unfold uC;split
 .exact h
 .split
  .exact⟨h.ne,h.ah,h.hd,h.cnt,h.bu,⟨by simp only;omega,by have:=h.bN.2;simp only;omega⟩⟩
  .split
   .rename_i hc;obtain⟨hi,hl⟩:=hc;obtain⟨st,bu,bN,valid⟩:=x;obtain⟨st0,e,rfl⟩:∃st0 e,st=st0++[e]:=⟨st.dropLast,st.getLast h.ne,(List.dropLast_concat_getLast h.ne).symm⟩
    simp only [ajj,List.length_append,List.length_cons,List.length_nil]at hi hl;have hne:st0≠[]:=by rintro rfl;simp at hl
    refine⟨by simpa using hne,fun j e' he=> ?_,fun e' he=> ?_,?_,h.bu,h.bN⟩
    .simp only [List.dropLast_concat]at he;refine h.ah j e' ?_;have hj:j<st0.length:=(List.getElem?_eq_some_iff.1 he).1;simp only;rw [List.getElem?_append_left hj];exact he
    .simp only [List.dropLast_concat]at he;refine h.hd e' ?_;simp only;rw [List.getElem?_append_left (List.length_pos_iff.2 hne)];exact he
    .have:=h.cnt;simp only [List.filter_append,List.length_append,List.dropLast_concat]at this ⊢;simpa [hi]using this
   .exact h
theorem Yy:∀(r:List aO),(∃e∈r,e.i=true)->∃a e b,r=a++e::b/\e.i=true/\(∀y∈a,y.i=false)/\(r.dropWhile fun e=> !e.i)=e::b
 |[],h=>by simp at h
 |e::r,h=>by
  cases hi:e.i with
  |true=>exact⟨[],e,r,rfl,hi,by simp,by simp [hi]⟩
  |false=>
   have:∃y∈r,y.i=true:=by
    obtain⟨y,hy,hyi⟩:=h;rcases List.mem_cons.1 hy with rfl|hy
    .rw [hi]at hyi;cases hyi
    .exact⟨y,hy,hyi⟩
   obtain⟨a,e',b,h1,h2,h3,h4⟩:=Yy r this;refine⟨e::a,e',b,by rw [h1];rfl,h2,?_,?_⟩
   .intro y hy;rcases List.mem_cons.1 hy with rfl|hy
    .exact hi
    .exact h3 y hy
   .rw [List.dropWhile_cons,hi];simpa using h4
theorem ahw(st:List aO)(h:∃e∈st,e.i=true):∃e a,st=gI st++e::a/\e.i=true/\∀y∈a,y.i=false:=by
 obtain⟨a,e,b,h1,h2,h3,h4⟩:=Yy st.reverse (by simpa using h);refine⟨e,a.reverse,?_,h2,by simpa using h3⟩;have hp:gI st=b.reverse:=by unfold gI;rw [h4];rfl
 have:st=(a++e::b).reverse:=by rw [<-h1,List.reverse_reverse]
 rw [hp];rw [this];simp
theorem dH.end {m:Int}{x:XS}(h:dH m x):dH m (nC x):=by
 unfold nC;split
 .exact⟨h.ne,h.ah,h.hd,h.cnt,⟨by simp only;omega,by have:=h.bu.2;simp only;omega⟩,h.bN⟩
 .split
  .exact h
  .rename_i h0 hv;have hv1:1<=x.valid:=by have:=h.cnt;omega
   obtain⟨e,a,h1,h2,h3⟩:=ahw x.st (h.Tm hv1);have hne:gI x.st≠[]:=by
    intro hn;rw [hn]at h1;have:=h.hd e (by rw [h1];rfl);rw [h2]at this;cases this
   have hlen:=List.length_pos_iff.2 hne;have hget:∀(j:Nat)(e':aO),(gI x.st)[j]? =some e'->x.st[j]? =some e':=by
    intro j e' he;have hj:j<(gI x.st).length:=(List.getElem?_eq_some_iff.1 he).1;rw [h1,List.getElem?_append_left hj];exact he
   refine⟨hne,fun j e' he=>h.ah j e' (hget j e' he),fun e' he=>h.hd e' (hget 0 e' he),?_,h.bu,⟨by simp,by have:=h.bN;simp only;omega⟩⟩;have hc:=h.cnt;have hf:(x.st.filter (·.i)).length=((gI x.st).filter (·.i)).length+1:=by
    have ha:a.filter (·.i)=[]:=List.filter_eq_nil_iff.2 (by intro y hy;simp [h3 y hy])
    conv=>lhs;rw [h1]
    rw [List.filter_append,List.length_append,List.filter_cons,if_pos h2,ha];rfl
   simp only;omega
theorem dH.pre {m:Int}{x:XS}(h:dH m x)(c:Int):dH m (dK x c):=by unfold dK;split;exact h.end;exact h
theorem dH.post {m:Int}{x:XS}(h:dH m x)(cs:List Int)(i:Nat)(c:Int):dH (m+1) (gK cs i x c):=by
 unfold gK;split
 .exact h.K8 c
 .split
  .exact h.begin 0
  .split
   .exact h.begin 1
   .split
    .exact h.begin _
    .split
     .exact h.pop.mono (by omega)
     .exact h.mono (by omega)
theorem vT(cs:List Int)(para:Int)(h:0<=para/\para<=125):∀i:Nat,dH i (dZ cs para i)
 |0=>dH.start para h
 |i+1=>by
  have:=((vT cs para h i).pre (cs.getD i 0)).post cs i (cs.getD i 0);exact this
def iv(l:List Int):List Value:=l.map (.int .i64 ·)
def bv(l:List Bool):List Value:=l.map .bool
theorem BR(l:List Int)(k:Nat)(a:Int):(iv l).set k (.int .i64 a)=iv (l.set k a):=by simp [iv,List.map_set]
theorem abE(l:List Bool)(k:Nat)(a:Bool):(bv l).set k (.bool a)=bv (l.set k a):=by simp [bv,List.map_set]
def upto {α:Type}(l:List α)(z:α)(k:Nat):List α:=l.take k++List.replicate (l.length - k) z
theorem Pk {α:Type}(l:List α)(z:α):upto l z 0=List.replicate l.length z:=by simp [upto]
theorem Ph {α:Type}(l:List α)(z:α)(k:Nat)(h:k<=l.length):(upto l z k).length=l.length:=by simp [upto];omega
theorem Pj {α:Type}(l:List α)(z a:α)(k:Nat)(h:l[k]? =some a):(upto l z k).set k a=upto l z (k+1):=by
 obtain⟨hk,rfl⟩:=List.getElem?_eq_some_iff.1 h;clear h;unfold upto;rw [List.set_append_right _ _ (by simp;omega)];simp only [List.length_take,Nat.min_eq_left (Nat.le_of_lt hk),Nat.sub_self];rw [show l.length - k=(l.length - (k+1))+1 by omega,List.replicate_succ,List.set_cons_zero,List.take_succ_eq_append_getElem hk,List.append_assoc];rfl
theorem Ov {w w':World}{B s n:Nat}{v:Value}{e:TypeId}{xs:List Value}(h:w.ownsRow B e 1 v n xs)(ho:Lib.OthersKept 181 (some s) w w')(he:e≠181)(hs:v.ownBlock≠some s):w'.ownsRow B e 1 v n xs:=by
 rcases h.2 with⟨rfl,h0⟩|⟨g,cp,cur,rfl,h1,h2,h3⟩
 .exact⟨h.1,.inl ⟨rfl,h0⟩⟩
 .refine⟨h.1,.inr ⟨g,cp,cur,rfl,h1,ho g _ h2 (by simpa [Value.ownBlock]using hs) ?_,h3⟩⟩;intro c fz hc;injection hc with _ h' _
  exact he h'
theorem Tryz.xh:(prog.info? 3).map (fun i=>(i.zero,i.size,i.bytes))=some (some (.int .i64 0),1,8):=by kernel_rfl
theorem Tryz.aeN:(prog.info? 4).map (fun i=>(i.zero,i.size,i.bytes))=some (some (.bool false),1,1):=by kernel_rfl
def aK(w:World)(B:Nat)(e:TypeId)(g n:Nat)(xs:List Value):Prop:=w.ownsRow B e 1 (.slice (some ⟨g,0,none⟩) n n) n xs
theorem aK.set {w:World}{B g n:Nat}{e:TypeId}{xs:List Value}(h:aK w B e g n xs)(k:Nat)(u:Value):aK (w.setCell ⟨g,k,none⟩ u) B e g n (xs.set k u):=(h.stored k u).1
theorem aK.setOther {w:World}{B g n:Nat}{e:TypeId}{xs:List Value}(h:aK w B e g n xs)(g' k:Nat)(u:Value)(hne:g≠g'):aK (w.setCell ⟨g',k,none⟩ u) B e g n xs:=iG h (by simp [Value.ownBlock,hne]) k u
theorem aK.alloc {w:World}{B g n:Nat}{e:TypeId}{xs:List Value}(h:aK w B e g n xs)(o:Obj):aK (w.alloc o) B e g n xs:=World.ownsRow.alloc h o
theorem aK.frozen {w:World}{B g n:Nat}{e:TypeId}{xs:List Value}(h:aK w B e g n xs)(k:Nat):w.frozen? ⟨g,k,none⟩=false:=World.ownsRow.frozenAt h k
theorem aK.cell {w:World}{B g n:Nat}{e:TypeId}{xs:List Value}(h:aK w B e g n xs)(k:Nat)(hk:k<n):w.cell? ⟨g,k,none⟩=xs[k]? :=World.ownsRow.cellAt h k (by omega)
theorem aK.ge {w:World}{B g n:Nat}{e:TypeId}{xs:List Value}(h:aK w B e g n xs):B<=g/\g<w.heap.size:=World.ownsRow.lt h g rfl
theorem aK.made {w:World}{B n:Nat}{e:TypeId}{z:Value}(hB:B<=w.heap.size)(hn:n<=1000000):aK (w.alloc (.cells (madeCells #[z] n) e)) B e w.heap.size n (List.replicate n z):=by
 refine⟨by simp,.inr ⟨w.heap.size,n,madeCells #[z] n,rfl,hB,?_,Nat.le_refl _,by unfold maxLen;omega,by simp [size_madeCells],?_⟩⟩
 .exact heap_alloc_new w _
 .rw [toList_madeCells_one];simp
def dx(w:World)(B g n cap:Nat)(t:List Int):Prop:=w.ownsRow B 3 1 (.slice (some ⟨g,0,none⟩) n cap) n (iv t)
theorem dx.len {w:World}{B g n cap:Nat}{t:List Int}(h:dx w B g n cap t):t.length=n:=by have:=h.1;simpa [iv]using this
theorem dx.set {w:World}{B g n cap:Nat}{t:List Int}(h:dx w B g n cap t)(k:Nat)(a:Int):dx (w.setCell ⟨g,k,none⟩ (.int .i64 a)) B g n cap (t.set k a):=by
 have:=(World.ownsRow.stored h k (.int .i64 a)).1;rw [BR]at this;exact this
theorem dx.grown {w:World}{B g n cap:Nat}{t:List Int}(h:dx w B g n cap t)(k:Nat)(a:Int):w.grownBy (w.setCell ⟨g,k,none⟩ (.int .i64 a)) (some g):=(World.ownsRow.stored h k (.int .i64 a)).2
theorem dx.frozen {w:World}{B g n cap:Nat}{t:List Int}(h:dx w B g n cap t)(k:Nat):w.frozen? ⟨g,k,none⟩=false:=World.ownsRow.frozenAt h k
theorem dx.cell {w:World}{B g n cap:Nat}{t:List Int}(h:dx w B g n cap t)(k:Nat)(hk:k<n):w.cell? ⟨g,k,none⟩=some (.int .i64 (t.getD k 0)):=by
 rw [World.ownsRow.cellAt h k (by omega)];have hl:=h.len;simp [iv,List.getD_eq_getElem?_getD,List.getElem?_eq_getElem (show k<t.length by omega)]
def jA(strong tt:Int):Int->List Int->List Int
 |_,[]=>[]
 |last,c::r=>(if c=3/\(if c=0∨c=1∨c=2 then c else last)=strong then tt else c)::jA strong tt (if c=0∨c=1∨c=2 then c else last) r
def tC(strong tt aa:Int)(t:List Int)(k:Nat)(last:Int)(t':List Int):Prop:=∃pre,pre.length=k/\t'=pre++t.drop k/\jA strong tt aa t=pre++jA strong tt last (t.drop k)
theorem tC.start(strong tt aa:Int)(t:List Int):tC strong tt aa t 0 aa t:=⟨[],rfl,by simp,by simp⟩
theorem tC.stop {strong tt aa last:Int}{t t':List Int}{k:Nat}(h:tC strong tt aa t k last t')(hk:¬k<t.length):t'=jA strong tt aa t:=by
 obtain⟨pre,_,h2,h3⟩:=h;rw [List.drop_eq_nil_of_le (by omega)]at h2 h3;rw [h2,h3];rfl
theorem tC.at {strong tt aa last:Int}{t t':List Int}{k:Nat}(h:tC strong tt aa t k last t')(hk:k<t.length):t'.getD k 0=t.getD k 0:=by
 obtain⟨pre,h1,h2,_⟩:=h;rw [h2,List.getD_eq_getElem?_getD,List.getElem?_append_right (by omega),h1,Nat.sub_self,drop_at hk];rfl
theorem tC.step {strong tt aa last:Int}{t t':List Int}{k:Nat}(h:tC strong tt aa t k last t')(hk:k<t.length)(last' v:Int)(hl:last'=if t.getD k 0=0∨t.getD k 0=1∨t.getD k 0=2 then t.getD k 0 else last)(hv:v=if t.getD k 0=3/\last'=strong then tt else t.getD k 0):tC strong tt aa t (k+1) last' (t'.set k v):=by
 obtain⟨pre,h1,h2,h3⟩:=h;refine⟨pre++[v],by simp [h1],?_,?_⟩
 .rw [h2,drop_at hk,List.set_append_right _ _ (by omega),h1,Nat.sub_self];simp
 .rw [h3,drop_at hk,jA,<-hl,<-hv];simp
theorem tC.same {strong tt aa last:Int}{t t':List Int}{k:Nat}(h:tC strong tt aa t k last t')(hk:k<t.length):t'.set k (t.getD k 0)=t':=by
 obtain⟨pre,h1,h2,_⟩:=h;rw [h2,drop_at hk,List.set_append_right _ _ (by omega),h1,Nat.sub_self];rfl
