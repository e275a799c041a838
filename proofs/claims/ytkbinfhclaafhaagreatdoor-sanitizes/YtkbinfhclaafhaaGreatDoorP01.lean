import Derived.Test.YtkbinfhclaafhaaGreatDoorProg
import Derived.WalkSpells
import Derived.WalkLawsBesides
import Derived.BigQuiet
import Derived.Lib.SmallJoins
namespace Go.Proofs.YtkbinfhclaafhaaGreatDoor
open Go.RowKit
open Go.Proofs.Tryz
set_option maxRecDepth 100000
set_option maxHeartbeats 32000000
set_option linter.all false
def ac {b:Type}(a:b):∃c,c=a:=⟨_,rfl⟩
def ae {c:Type}[DecidableEq c]{a b:c}(h:¬a=b):(a==b)=false:=by simpa using h
def an {c:Type}[DecidableEq c]{a b:c}(h:a=b):(a==b)=true:=by simpa using h
def ar {b:Bool}(h:¬b=true):b=false:=by simpa using h
def ai:=@if_neg
def aj:=@if_pos
def au:=@Nat.le_refl
def aA:=@Below.refl
def aJ:=@Option.some.inj
def aM:=@List.getElem?_eq_getElem
def aO:=@List.getD_eq_getElem?_getD
def bH:=@List.length_append
def bN:=@rounds_succ
def bP:=@Nat.le_trans
def cI:=@bodyPost_ret
def cP:=@Nat.lt_or_ge
def di:=@World.ownsRow.cellAt
def dw:=@Below.heap_alloc
def dO:=@List.append_assoc
def eJ:=@List.length_cons
def eW:=@Joins.block_setCell
def fB:=@List.map_append
def fV:=@wp_loop_rounds
def fW:=@List.mem_cons
def fZ:=@Nat.zero_add
def gu:=@info_parts
def gF:=@Nat.le_of_lt
def gH:=@below_drewN
def gQ:=@World.ownsRow_nil
def iF:=@Below.heap_setCell
def ja:=@List.length_map
def jq:=@List.getElem?_map
def jK:=@List.length_pos_iff
def jL:=@List.mem_append
def jM:=@List.mem_map
def jN:=@Nat.min_eq_left
def jO:=@World.grownBy.refl
def jZ:=@List.length_nil
def kr:=@List.drop_eq_nil_of_le
def ku:=@List.take_of_length_le
def kO:=@List.drop_eq_getElem_cons
def kQ:=@Nat.lt_of_lt_of_le
def kS:=@World.cell?_alloc_lt
def kT:=@World.ownsRow.alloc
def lI:=@List.getElem?_toArray
def lJ:=@Nat.add_sub_cancel
def l5:=@List.append_nil
def l6:=@List.getElem?_cons_zero
def l8:=@Nat.le_succ
def mz:=@decide_eq_true
def mM:=@Calls.mono
def mP:=@List.map_cons
def mQ:=@Nat.zero_le
def nG:=@run_callFunc_extern
def oC:=@true_and
def oD:=@Array.getElem?_push_size
def oK:=@Nat.sub_self
def pF:=@List.getElem_mem
def pG:=@List.take_succ_eq_append_getElem
def pH:=@Nat.add_assoc
def pJ:=@Value.slice.injEq
def p8:=@List.getElem?_cons_succ
def p9:=@Nat.add_zero
def qu:=@frozen_of_row
def qW:=@List.foldl_cons
def qX:=@List.mem_singleton
def qZ:=@Nat.mod_lt
def rB:=@decide_eq_false
def rV:=@List.drop_of_length_le
def rW:=@List.filter_append
def rX:=@List.filter_cons
def rY:=@List.getElem?_append_right
def rZ:=@List.getElem?_eq_none
def r7:=@List.getElem?_eq_some_iff
def r8:=@List.getLastD_eq_getLast?
def r9:=@List.length_take
def si:=@List.nil_append
def tD:=@Array.getElem?_eq_none
def tP:=@List.getElem?_append_left
def tQ:=@List.mem_filter
def tW:=@Option.getD_some
def uL:=@List.cons_append
def uM:=@List.take_add_one
def vD:=@ownsRow_setCell_below
def xP:=@List.flatMap_cons
def xQ:=@List.mem_cons_of_mem
def xR:=@List.set_append_right
def zg:=@Int.ofNat_sub
def zi:=@List.eq_nil_or_concat
def zj:=@List.getElem?_drop
def zl:=@Nat.mul_le_mul
def zn:=@Option.map_eq_some_iff
def zx:=@beq_iff_eq
def zP:=@if_true
def Ak:=@ByteArray.size_extract
def Ax:=@List.flatten_cons
def Ay:=@List.length_filter_le
def AJ:=@World.ownsRow.lt
def Bu:=@results_none
def Bv:=@run_underlying
def BG:=@Array.getElem?_setIfInBounds_ne
def BH:=@Calls.quiet_of_same
def BI:=@DataW.trod_int
def Cg:=@Int.toNat_natCast
def Ch:=@List.concat_eq_append
def Ci:=@List.foldl_append
def Cj:=@Option.some.injEq
def Ck:=@World.ownsRow.stored
def Cm:=@decide_eq_false_iff_not
def C6:=@Bool.eq_iff_iff
def C7:=@Bool.false_or
def C8:=@ByteArray.size_append
def Dq:=@List.map_nil
def Dr:=@List.nodup_cons
def Ds:=@List.pairwise_cons
def Dt:=@Oper.semAt_some
def Dx:=@World.ownsRow.frozenAt
def DD:=@decide_eq_true_eq
def ED:=@Bool.and_eq_true
def E6:=@List.dropLast_concat_getLast
def F4:=@or_false
def Gm:=@Bool.or_eq_false_iff
def Gn:=@Bool.or_eq_true
def GI:=@Int.natCast_nonneg
def GJ:=@Lib.iterAt_other
def GK:=@Lib.run_next_end_at
def GL:=@List.dropLast_concat
def GM:=@List.filter_nil
def GN:=@List.getLast?_eq_getElem?
def GP:=@List.getLast?_eq_some_getLast
def GQ:=@List.mem_flatMap
def GR:=@List.nodup_append
def GS:=@List.replicate_succ
def GU:=@Nat.eq_zero_or_pos
def GV:=@Nat.min_eq_right
def GX:=@Option.map_some
def GY:=@Sem.run_bind
def GZ:=@World.iter_heap
def G0:=@World.ownsRow.drew
def G3:=@World.var?_cell
def Jb:=@wpList_append_own
def Je:=@wp_goto
def JZ:=@List.eq_nil_of_length_eq_zero
def J0:=@List.ext_getElem?
def J1:=@List.flatMap_def
def J2:=@List.getElem?_range
def J3:=@List.map_congr_left
def J4:=@List.mem_range
def J6:=@List.not_mem_nil
def J7:=@List.range_succ
def J8:=@List.replicate_zero
def J9:=@Nat.lt_succ_of_lt
def Ka:=@Nat.mul_one
def Kc:=@Nat.succ_ne_zero
def Kf:=@Nat.zero_min
def Kk:=@beq_eq_false_iff_ne
def Kr:=@callsIn_wide
def Lf:=@heap_setCell_same
def Mw:=@of_decide_eq_true
def MV:=@step_scope
def M0:=@Array.getElem?_eq_getElem
def M3:=@Array.getElem?_eq_some_iff
def M4:=@Bool.false_and
def M5:=@Bool.false_eq_true
def Nw:=@Int.le_refl
def Ny:=@IntWalk.i64_in
def Nz:=@List.any_cons
def NA:=@List.getD_cons_succ
def NB:=@List.getElem?_set
def NC:=@List.getElem?_take
def ND:=@List.getElem?_take_of_lt
def NF:=@List.getLast?_append
def NG:=@List.length_drop
def NH:=@List.length_range
def NI:=@List.map_map
def NJ:=@List.mem_cons_self
def NK:=@List.mem_of_getElem?
def NM:=@List.mem_of_mem_take
def NN:=@List.replicate_succ'
def NP:=@List.sum_cons
def NQ:=@List.take_length
def NR:=@Ne.symm
def NT:=@Prod.mk.injEq
def Qz:=@wpIn_wide
def QE:=@DataW.trod_array
def Sb:=@Lib.below_iterAt
def Sc:=@Lib.iterAt_heap
def Sd:=@Lib.run_next_any_at
def Sh:=@List.Perm.refl
def Si:=@List.drop_drop
def Sj:=@List.filter_eq_nil_iff
def Sk:=@List.flatMap_append
def Sl:=@List.foldl_nil
def Sm:=@List.getElem?_replicate
def Sn:=@List.length_eq_zero_iff
def Sr:=@List.length_reverse
def Ss:=@List.length_zip
def Su:=@List.mem_flatten
def Sv:=@List.prefix_append
def Sw:=@List.set_set
def Sy:=@List.take_append_drop
def Sz:=@List.take_succ_cons
def SA:=@Option.bind_some
def SD:=@Result.andThen_ok
def SG:=@UInt8.toNat_lt
def TK:=@forall_eq
def TL:=@forall_eq_or_imp
def TR:=@getElem!_pos
def UA:=@heap_alloc_new
def X7:=@wpList_load_row
def Yb:=@Addr.add_lit
def Yc:=@Array.getD_eq_getD_getElem?
def Yd:=@Array.getElem?_setIfInBounds_self_of_lt
def Ye:=@Array.length_toList
def Yf:=@Below.size
def Yg:=@Below.trans
def Yh:=@Bool.and_false
def Yi:=@ByteArray.getElem_extract
def ZE:=@Lib.OthersKept.refl
def ZF:=@Lib.cell_of_heap
def ZG:=@List.Pairwise.filter
def ZH:=@List.contains_eq_mem
def ZI:=@List.dropLast_subset
def ZJ:=@List.getD_cons_zero
def ZK:=@List.getElem?_of_mem
def ZL:=@List.getElem?_set_self
def ZM:=@List.getElem_of_mem
def ZN:=@List.length_set
def ZO:=@List.length_singleton
def ZP:=@List.map_take
def ZQ:=@List.map_toArray
def ZR:=@List.prefix_refl
def ZT:=@List.sublist_flatten_of_mem
def ZU:=@List.take_zero
def ZV:=@MapKept.run_getObj_map
def ZW:=@Nat.lt_succ_self
def ZX:=@Nat.mod_eq_of_lt
def ZY:=@Oper.upon_enter
def Z0:=@Sem.run_pure
def gB:=@errorString_of_trod
def gP:=@ownsRow_pop
def gT:=@run_append_own_at
def iG:=@run_copy_none
def iH:=@run_makeMap
def jb:=@toList_madeCells_one
def iM:=@wpList_append_own_at
def ahf:=@Array.getElem?_toList
def ahg:=@Array.getElem_mem_toList
def ahh:=@Array.replicate_succ
def ahi:=@Array.replicate_zero
def ahj:=@Bool.and_eq_false_iff
def ahk:=@Bool.not_eq_true'
def ahl:=@ByteArray.extract_extract
def ahm:=@Classical.byContradiction
def ahn:=@Decidable.byContradiction
def ahO:=@IntWalk.wrap64_in
def ahP:=@Lib.run_clear_slice
def ahQ:=@List.Nodup.not_mem_erase
def ahR:=@List.Perm.nodup_iff
def ahS:=@List.Sublist.refl
def ahT:=@List.append_toArray
def ahU:=@List.count_pos_iff
def ahV:=@List.drop_append_of_le_length
def ahW:=@List.drop_length
def ahX:=@List.erase_of_not_mem
def ahY:=@List.getElem?_set_ne
def ahZ:=@List.getLast?_singleton
def ah0:=@List.getLast_mem
def ah1:=@List.length_erase_of_mem
def ah2:=@List.length_replicate
def ah3:=@List.mem_of_mem_erase
def ah4:=@List.mem_reverse
def ah5:=@List.nodup_range
def ah6:=@List.pairwise_append
def ah7:=@List.pairwise_iff_getElem
def ah8:=@List.perm_append_comm
def ah9:=@List.perm_middle
def aia:=@List.push_toArray
def aib:=@List.range_succ_eq_map
def aic:=@List.reverse_nil
def aid:=@List.set_cons_succ
def aie:=@List.set_cons_zero
def aif:=@List.size_toArray
def aih:=@List.take_sublist
def aii:=@Nat.le_add_right
def aij:=@Nat.mul_le_mul_right
def aik:=@World.block_lt_of_cell?
def ail:=@World.size_setCell
def ai2:=@bne_eq_false_iff_eq
def ap2:=@run_convert_bytes_back
def ap4:=@run_eql_iface_ptr_other
def ap5:=@run_eql_iface_ptr_same
def ap6:=@run_equalIn_array
def ap7:=@run_equalIn_iface_ptr_same
def ah {p:Prop}(h:p):Hid p:=h
def aU(c:Int):Bool:=c==18||(c==19||c==20)
def cV:List Int->Int->Option Nat
 |[],_=>none
 |c::r,n=>if c=21 then(if n - 1=0 then some 0 else(cV r<|n - 1).map (·+1))else(cV r (if aU c=true then n+1 else n)).map (·+1)
def mt(a:List Int)(i:Nat):Nat:=match cV (a.drop i) 0 with
 |some d=>i+d
 |none=>a.length
def Me:aU 21=false:=by decide
def l7(a:List Int)(i k:Nat)(n:Int):Prop:=i<=k/\k<=a.length/\cV (a.drop i) 0=(cV (a.drop k) n).map (·+(k - i))
def l7.start(a:List Int)(i:Nat)(h:i<=a.length):l7 a i i 0:=⟨au _,h,by simp⟩
def l7.stop {a:List Int}{i k:Nat}{n:Int}(h:l7 a i k n)(d:¬k<a.length):mt a i=a.length:=by
 obtain⟨_,c,b⟩:=h;unfold mt;rw[b,kr<|by omega];rfl
def drop_at {a:List Int}{k:Nat}(b:k<a.length):a.drop k=a.getD k 0::a.drop (k+1):=by
 rw[kO b];simp[aO,aM b]
def l7.plain {a:List Int}{i k:Nat}{n:Int}(h:l7 a i k n)(b:k<a.length)(e:a.getD k 0≠21):l7 a i (k+1) (if aU (a.getD k 0)=true then n+1 else n):=by
 obtain⟨f,g,c⟩:=h;refine⟨by omega,b,?_⟩;rw[c,drop_at b,cV,ai e,Option.map_map];congr 1
 funext d
 simp only[Function.comp];omega
def l7.En {a:List Int}{i k:Nat}{n:Int}(h:l7 a i k n)(b:k<a.length)(e:a.getD k 0=21)(f:n - 1≠0):l7 a i (k+1) (n - 1):=by
 obtain⟨g,j,c⟩:=h;refine⟨by omega,b,?_⟩;rw[c,drop_at b,e,cV,aj rfl,ai f,Option.map_map];congr 1
 funext d
 simp only[Function.comp];omega
def l7.hit {a:List Int}{i k:Nat}{n:Int}(h:l7 a i k n)(d:k<a.length)(c:a.getD k 0=21)(e:n - 1=0):mt a i=k:=by
 obtain⟨f,g,b⟩:=h;unfold mt;rw[b,drop_at d,c,cV,aj rfl,aj e];simp;omega
def VV:∀(l:List Int)(n:Int)(d:Nat),cV l n=some d->d<l.length
 |[],_,_,h=>by simp[cV]at h
 |c::r,n,d,h=>by
  rw[cV]at h;split at h
  .split at h
   .simp at h;subst h;simp
   .cases hr:cV r (n - 1)with
    |none=>rw[hr]at h;simp at h
    |some a=>rw[hr]at h;simp at h;subst h;have:=VV r _ a hr;simp;omega
  .cases hr:cV r (if aU c=true then n+1 else n)with
   |none=>rw[hr]at h;simp at h
   |some a=>rw[hr]at h;simp at h;subst h;have:=VV r _ a hr;simp;omega
def um(a:List Int)(i:Nat)(h:i<=a.length):i<=mt a i/\mt a i<=a.length:=by
 unfold mt;split
 .rename_i d b;have:=VV _ _ _ b;simp at this;omega
 .omega
def kC(a:List Int):Nat->Nat->Int
 |0,_=>0
 |f+1,i=>if i<a.length then(if a.getD i 0=0 then 0 else if a.getD i 0=1∨a.getD i 0=2 then 1 else if aU (a.getD i 0)=true then kC a f (mt a i+1)else kC a f (i+1))else 0
def found(a:List Int):Int:=kC a a.length 0
def OJ(a:List Int):∀f i,a.length<=i+f->kC a f i=kC a (f+1) i
 |0,i,h=>by rw[kC,kC,ai<|by omega]
 |f+1,i,h=>by
  rw[kC,kC];by_cases b:i<a.length
  .rw[aj b,aj b];have c:=um a i (by omega);rw[OJ a f (mt a i+1)<|by omega,OJ a f (i+1)<|by omega]
  .rw[ai b,ai b]
def TN(a:List Int)(f g i:Nat)(b:a.length<=i+f)(c:a.length<=i+g):kC a f i=kC a g i:=by
 have key:∀d f i,a.length<=i+f->kC a f i=kC a (f+d) i:=by
  intro d
  induction d with
  |zero=>intro f i _;rfl
  |succ d ih=>intro f i h;rw[ih f i h,OJ a (f+d) i<|by omega];rfl
 rcases Nat.le_total f g with h|h
 .rw[key (g - f) f i b];congr 1;omega
 .rw[key (f - g) g i c];congr 1;omega
def bD(c:Int):Int:=if c=0 then 0 else if c=1∨c=3∨c=6 then 1 else -1
def i6(a b:Int):Int:=if(if a<b then b else a)%2=1 then 1 else 0
def nX(c l:Int):Int:=if l%2=0 then(if c=1 then l+1 else if c=6∨c=3 then l+2 else l)else(if c=1 then l else l+1)
def lA(c:Int):Bool:=c==11||(c==9||decide (13<=c))
def canon(r:Int):Int:=if r=9001 then 12296 else if r=9002 then 12297 else r
def dV(r:Int):Int×Int:=
 if canon r=40∨canon r=91∨canon r=123∨canon r=12296 then(1,canon r)
 else if canon r=41 then(2,40)else if canon r=93 then(2,91)else if canon r=125 then(2,123)else if canon r=12297 then(2,12296)else(0,0)
def bI(w:World)(b a:Nat)(l:List Int):Prop:=∀i,i<l.length->w.cell? ⟨b,a+i,none⟩=some (.int .i64<|l.getD i 0)
def jB(w:World)(v:Value)(l:List Int):Prop:=(v= .slice none 0 0/\l=[])∨∃b a c,v= .slice (some ⟨b,a,none⟩) l.length c/\bI w b a l
def dM {k:IntKind}{a b:Int}(h:a=b):Ending.returned (.int k a)= .returned (.int k b):=by rw[h]
def gY {a b:Bool}(h:a=b):Ending.returned (.bool a)= .returned (.bool b):=by rw[h]
def jP(r:Int)(l:List Int):Bool:=l.contains r
def aiu(l:List Int)(r:Int)(k:Nat)(h:k<l.length)(b:jP r (l.take k)=false)(a:(l.getD k 0==r)=false):jP r (l.take<|k+1)=false:=by
 unfold jP at b ⊢;rw[aO,aM h]at a;simp only[tW,Kk]at a;rw[pG h,ZH,Cm,jL];rw[ZH,Cm]at b;rintro(e|e)
 .exact b e
 .exact a (qX.1 e).symm
def ais(l:List Int)(r:Int)(k:Nat)(h:k<l.length)(a:(l.getD k 0==r)=true):jP r l=true:=by
 unfold jP;rw[aO,aM h]at a;simp at a;simp;exact a▸pF h
def NW(r:Int)(l:List Int)(b d h n:Nat)(w:World)(q:l.length=n)(j:n<=1000000)(p:bI w b d l):
  Calls prog 68 #[.int .i64 r,.slice (some ⟨b,d,none⟩) n h] w λe t=>e= .returned (.bool<|jP r l)/\t=w:=by
 have s:=ah p;have f:=ah q;clear p q;go_enter func68,ntmps68;go_wp2;go_loop [5] (λi=>∃k:Nat,k<=n/\i= .int .i64 k/\jP r (l.take k)=false) (λi=>n - (intOf i).toNat);case atStart=>exact⟨0,mQ _,rfl,by simp[jP]⟩
 case round=>
  obtain⟨k,u,rfl,j⟩:=hrel;have m:=ah j;clear j;by_cases c:k<n
  .have a:=s.out k (by rw[f.out];exact c);obtain⟨x,hx⟩:=ac<|l.getD k 0;rw[<-hx]at a;have o:=ah hx;clear hx;by_cases g:(x==r)=true
   .go_wp2;go_ret;exact⟨gY (ais l r k (by rw[f.out];exact c)<|o.out▸g).symm,rfl⟩
   .have g:(x==r)=false:=(by simpa using g);go_wp2;go_round;case rel=>exact⟨k+1,by omega,by go_num,aiu l r k (by rw[f.out];exact c) m.out<|o.out▸g⟩
    case measure=>simp[intOf];omega
  .go_wp2;go_ret;refine⟨gY ?_,rfl⟩;have:=m.out;rw[ku<|by rw[f.out];omega]at this;exact this.symm
def ait(r:Int)(w:World):
  Calls prog 68 #[.int .i64 r,.slice none 0 0] w λe a=>e= .returned (.bool false)/\a=w:=by
 go_enter func68,ntmps68;go_wp2;refine fV 1 ?_;rw[bN];go_wp2;go_ret;exact⟨rfl,rfl⟩
def air(r:Int)(l:List Int)(v:Value)(w:World)(f:l.length<=1000000)(g:jB w v l):
  Calls prog 68 #[.int .i64 r,v] w λe h=>e= .returned (.bool<|jP r l)/\h=w:=by
 rcases g with⟨rfl,rfl⟩|⟨b,c,a,rfl,d⟩
 .exact ait r w
 .exact NW r l b c a l.length w rfl f d
def arN(x y z:Int)(w:World):
  Calls prog 47 #[.agg #[.int .i64 x,.int .i64 y,.int .i64 z],.agg #[.int .i64 x,.int .i64 y,.int .i64 z]] w λe a=>e= .returned (.bool true)/\Below w.heap.size w a:=by
 go_enter func47,ntmps47;go_wp2;go_ret;exact⟨rfl,by repeat (first|exact aA _ _|refine Below.alloc ?_ (by simp<;>omega) _)⟩
def Below.chain {a b d c:World}(e:Below a.heap.size a b)(h:Below b.heap.size b d)(f:Below d.heap.size d c):Below a.heap.size a c:=
 e.trans ((h.mono e.size).trans (f.mono<|bP e.size h.size))
def yf {W a:World}(c:Below W.heap.size W a):(∀b o,b<W.heap.size->a.cell? ⟨b,o,none⟩=W.cell? ⟨b,o,none⟩)/\(∀b o,b<W.heap.size->a.frozen? ⟨b,o,none⟩=W.frozen? ⟨b,o,none⟩):=
 ⟨λb o h=>c.cell (p:=⟨b,o,none⟩) h,λb o h=>c.frozen (p:=⟨b,o,none⟩) h⟩
def bI.below {W d:World}{b a:Nat}{l:List Int}(h:bI W b a l)(e:Below W.heap.size W d):bI d b a l:=by
 intro i f;have:=h i f;rw[<-this];refine e.cell ?_;rcases cP b W.heap.size with c|c
 .exact c
 .simp[World.cell?,tD c]at this
def jB.below {W d:World}{v:Value}{l:List Int}(h:jB W v l)(e:Below W.heap.size W d):jB d v l:=by
 rcases h with h|⟨b,c,a,rfl,f⟩
 .exact .inl h
 .exact .inr ⟨b,c,a,rfl,f.below e⟩
def Jd {P:Program}(w:World){g:Array Oper}{rest:List Oper}{o:Oper}{a:Act}{Q:Exit->Act->World->Prop}(r:o.guard=none)(s x:Operand)(t:TypeId)
  (J:o.op= .call {callee:= .builtin .append,args:=#[s,x],argTypes:=#[t,t]})
  (b:Nat) (e:TypeId) (i:TypeInfo) (z:Value) (bytes:Nat) (L:P.underlying t=some (.slice e)) (H:P.info? e=some i) (M:i.zero=some z)
  (f:i.size=1) (q:i.bytes=bytes) (A:z.cells.size=1) (N:bytes<=64)
  (v:Value) (n:Nat) (B:List Value) (K:a.eval s=v) (c:w.ownsRow b e 1 v n B)
  (y:Value) (D:TypeId) (hx:a.eval x= .slice (some ⟨w.heap.size,0,none⟩) 1 1) (E:y.oneCell'=true) (O:n<=1000000) (d:b<=w.heap.size)
  (h:∀p l,l.ownsRow b e 1 p (n+1) (B++[y])->Below b w l->wpList P g Q rest (a.put o.dst p) l):wpList P g Q (o::rest) a (w.alloc (.cells #[y] D)):=by
 refine Jb _ r s x t J b e i z 1 bytes L H M f q A (by decide) v n B K (c.alloc _) ⟨w.heap.size,0,none⟩ 1 1 [y] hx rfl ?_ ?_ ?_ ?_ ?_ ?_
 .intro j u m
  match j,m with
  |0,m=>simp at m;subst m;simp[Addr.add]
 .intro u C;simp at C;subst C;exact E
 .unfold maxLen;omega
 .have:(n+1)*bytes<=1000001*64:=zl (by omega) N;omega
 .simp;omega
 .intro p l F G _;exact h p l F<|((aA b w).alloc d _).grown G (by simp;omega) λk I=>(c.lt k I).1
def jB.Mx {w:World}{a:Nat}{e:TypeId}{v:Value}{n:Nat}{l:List Int}(h:w.ownsRow a e 1 v n<|l.map<|Value.int .i64):jB w v l:=by
 have f:l.length=n:=by have:=h.1;simpa using this
 rcases h.2 with⟨rfl,j⟩|⟨g,b,d,rfl,_⟩
 .exact .inl ⟨rfl,Sn.1<|by omega⟩
 .refine .inr ⟨g,0,b,by rw[f],λi c=> ?_⟩;have:=h.cellAt i (by omega);rw[fZ,this,jq,aM c];simp[aO,aM c]
def amM(w:World)(l:List Int)(t:TypeId):bI (w.alloc (.cells (l.map<|Value.int .i64).toArray t)) w.heap.size 0 l:=by
 intro i a;rw[World.cell?_alloc_at _ _ _ _ rfl];simp[aO,aM a]
def Vr(w:World)(n:Nat)(l:List Int)(b:Array Value)(t:TypeId)(c:n=w.heap.size)(a:b=(l.map<|Value.int .i64).toArray):bI (w.alloc (.cells b t)) n 0 l:=by
 subst c;subst a;exact amM w l t
def asx(b:UInt8):wrap64 (b.toNat:Int)=(b.toNat:Int):=by have:=b.toNat_lt;exact ahO _ (by omega)
def Tryz.FR:(prog.info? 3).map (λi=>(i.zero,i.size,i.bytes))=some (some (.int .i64 0),1,8):=by kernel_rfl
def zy(s:ByteArray):List Int:=s.data.toList.map λb=>(b.toNat:Int)
def zI(s:ByteArray):(zy s).length=s.size:=by simp only[zy,ja,Ye];rfl
def ajj(s:ByteArray)(k:Nat)(h:k<s.size):(zy s).take (k+1)=(zy s).take k++[(s[k].toNat:Int)]:=by
 rw[pG<|by rw[zI];exact h];congr 1;simp[zy];rfl
def aqV(s:ByteArray)(w:World)(r:s.size<=10000):
  Calls prog 113 #[.string s] w λe l=>∃v,e= .returned v/\l.ownsRow w.heap.size 3 1 v s.size ((zy s).map (Value.int .i64))/\Below w.heap.size w l:=by
 obtain⟨p,o,g,h,j⟩:=gu Tryz.FR;go_enter func113,ntmps113;go_wp2;go_loopw [3,4] (λv i wr=>∃k:Nat,k<=s.size/\i= .int .i64 k/\wr.ownsRow w.heap.size 3 1 v k (((zy s).take k).map (Value.int .i64))/\Below w.heap.size w wr) (λ_ i _=>s.size - (intOf i).toNat);case atStart=>exact⟨0,mQ _,rfl,by simpa using gQ _ _ _ _,aA _ _⟩
 case round=>
  obtain⟨k,q,rfl,a,c⟩:=hrel;by_cases f:k<s.size
  .have m:=ah<|ajj s k f;have n:=c.size;go_wp2_with(at_builtin;refine Jd _ rfl _ _ 31 rfl w.heap.size 3 p (.int .i64 0) 8 underlying31 o g h j rfl (by decide) _ _ _ rfl a _ _ rfl rfl (by omega) (by omega) ?_);intro t u b d;clear a;go_wp2;go_roundw;case rel=>exact⟨k+1,by omega,by go_num,by rw[m.out];rw[asx]at b;simpa using b,c.trans d⟩
   case measure=>simp[intOf];omega
  .go_wp2;go_ret;refine⟨_,rfl,?_,c⟩;have e:k=s.size:=(by omega);subst e;rwa [ku<|by rw[zI];omega]at a
def cls(r:Int):Int:=
 if(1488<=r/\r<=1514)∨r=8207 then 1
 else if(1575<=r/\r<=1610)∨r=1564 then 2
 else if 48<=r/\r<=57 then 3
 else if r=43∨r=45 then 4
 else if 1632<=r/\r<=1641 then 6
 else if(768<=r/\r<=879)∨(1611<=r/\r<=1618)then 8
 else if r=173∨r=8203 then 9
 else if r=9 then 10
 else if r=32∨r=8195 then 11
 else if 8294<=r/\r<=8297 then 18+r - 8294
 else if jP r [35,36,37,8364]=true then 5
 else if jP r [44,46,47,58]=true then 7
 else if jP r (zy {data:=#[33,34,38,39,40,41,42,59,60,61,62,63,64,91,92,93,94,95,96,123,124,125,126]})=true∨jP r [9001,9002,12296,12297]=true then 12
 else if r=8234 then 13
 else if r=8235 then 14
 else if r=8237 then 15
 else if r=8238 then 16
 else if r=8236 then 17
 else 0
def sD {r:Int}(h:(1488<=r/\r<=1514)∨r=8207):cls r=1:=by
 unfold cls;rw[aj h]
def sO {r:Int}(h:(1575<=r/\r<=1610)∨r=1564):cls r=2:=by
 unfold cls;rw[ai<|by omega];rw[aj h]
def td {r:Int}(h:48<=r/\r<=57):cls r=3:=by
 unfold cls;rw[ai<|by omega];rw[ai<|by omega];rw[aj h]
def tB {r:Int}(h:r=43∨r=45):cls r=4:=by
 unfold cls;rw[ai<|by omega];rw[ai<|by omega];rw[ai<|by omega];rw[aj h]
def tE {r:Int}(h:1632<=r/\r<=1641):cls r=6:=by
 unfold cls;rw[ai<|by omega];rw[ai<|by omega];rw[ai<|by omega];rw[ai<|by omega];rw[aj h]
def tI {r:Int}(h:(768<=r/\r<=879)∨(1611<=r/\r<=1618)):cls r=8:=by
 unfold cls;rw[ai<|by omega];rw[ai<|by omega];rw[ai<|by omega];rw[ai<|by omega];rw[ai<|by omega];rw[aj h]
def tO {r:Int}(h:r=173∨r=8203):cls r=9:=by
 unfold cls;rw[ai<|by omega];rw[ai<|by omega];rw[ai<|by omega];rw[ai<|by omega];rw[ai<|by omega];rw[ai<|by omega];rw[aj h]
def tT {r:Int}(h:r=9):cls r=10:=by
 unfold cls;rw[ai<|by omega];rw[ai<|by omega];rw[ai<|by omega];rw[ai<|by omega];rw[ai<|by omega];rw[ai<|by omega];rw[ai<|by omega];rw[aj h]
def uh {r:Int}(h:r=32∨r=8195):cls r=11:=by
 unfold cls;rw[ai<|by omega];rw[ai<|by omega];rw[ai<|by omega];rw[ai<|by omega];rw[ai<|by omega];rw[ai<|by omega];rw[ai<|by omega];rw[ai<|by omega];rw[aj h]
def uk {r:Int}(h:8294<=r/\r<=8297):cls r=18+r - 8294:=by
 unfold cls;rw[ai<|by omega];rw[ai<|by omega];rw[ai<|by omega];rw[ai<|by omega];rw[ai<|by omega];rw[ai<|by omega];rw[ai<|by omega];rw[ai<|by omega];rw[ai<|by omega];rw[aj h]
def pW(r:Int):Prop:=¬((1488<=r/\r<=1514)∨r=8207)/\¬((1575<=r/\r<=1610)∨r=1564)/\¬(48<=r/\r<=57)/\¬(r=43∨r=45)/\¬(1632<=r/\r<=1641)/\¬((768<=r/\r<=879)∨(1611<=r/\r<=1618))/\¬(r=173∨r=8203)/\¬r=9/\¬(r=32∨r=8195)/\¬(8294<=r/\r<=8297)
def kV {r:Int}(h:pW r):cls r=if jP r [35,36,37,8364]=true then 5
 else if jP r [44,46,47,58]=true then 7
 else if jP r (zy {data:=#[33,34,38,39,40,41,42,59,60,61,62,63,64,91,92,93,94,95,96,123,124,125,126]})=true∨jP r [9001,9002,12296,12297]=true then 12
 else if r=8234 then 13
 else if r=8235 then 14
 else if r=8237 then 15
 else if r=8238 then 16
 else if r=8236 then 17
 else 0:=by
 obtain⟨b,c,d,e,f,g,i,j,k,a⟩:=h;unfold cls;rw[ai b,ai c,ai d,ai e,ai f,ai g,ai i,ai j,ai k,ai a]
def CK(c:Int)(w:World):Calls prog 114 #[.int .i64 c] w λe g=>e= .returned (.bool<|aU c)/\g=w:=by
 obtain⟨q,f⟩:=ac<|aU c;rw[<-f];have d:=ah f;clear f;by_cases a:(c==18)=true
 .go_enter func114,ntmps114;go_wp2;go_ret;exact⟨gY<|by rw[d.out,aU,a];rfl,rfl⟩
 have a:=ar a;by_cases b:(c==19)=true
 .go_enter func114,ntmps114;go_wp2;go_ret;exact⟨gY<|by rw[d.out,aU,a,b];rfl,rfl⟩
 have b:=ar b;go_enter func114,ntmps114;go_wp2;go_ret;exact⟨gY<|by rw[d.out,aU,a,b];rfl,rfl⟩
def Mp(f:List Int)(i b p y a:Nat)(w:World)(G:f.length=a)(N:a<=1000000)(J:i<=a)(F:bI w b p f):
  Calls prog 115 #[.slice (some ⟨b,p,none⟩) a y,.int .i64 i] w λe l=>e= .returned (.int .i64<|mt f i)/\l=w:=by
 have H:=ah F;have q:=ah G;have D:Hid (l7 f i i 0):=l7.start f i (by omega);clear F G;go_enter func115,ntmps115;go_wp2;go_loop [5,6] (λn k=>∃(m:Nat)(z:Int),m<=a/\k= .int .i64 m/\n= .int .i64 z/\ -(m:Int)<=z/\z<=m/\l7 f i m z) (λ_ k=>a - (intOf k).toNat);case atStart=>exact⟨i,0,J,rfl,rfl,by omega,by omega,D.out⟩
 case round=>
  obtain⟨m,z,M,rfl,rfl,K,L,E⟩:=hrel;have s:=ah E;clear E D;by_cases j:m<a
  .have h:=H.out m (by rw[q.out];exact j);obtain⟨c,hx⟩:=ac<|f.getD m 0;rw[<-hx]at h;have t:=ah hx;have u:Hid (m<f.length):=(by show m<f.length;rw[q.out];exact j);clear hx;by_cases d:c=21
   .have C:Hid (Calls prog 114 #[.int .i64 c] w λe l=>e= .returned (.bool false)/\l=w):=by
     have:=CK c w;rw[d,Me]at this;rw[d];exact this
    have B:=ah d;have x:=an d;clear d;by_cases g:z - 1=0
    .have o:(z - 1==0)=true:=(by simpa using g);have v:=ah g;clear g;go_wp2_with fail;refine C.out.mono ?_;rintro e l ⟨rfl,rfl⟩;go_wp2;go_ret;refine⟨dM ?_,rfl⟩;rw[s.out.hit u.out (by rw[<-t.out];exact B.out) v.out]
    .have o:(z - 1==0)=false:=(by simpa using g);have v:=ah g;clear g;go_wp2_with fail;refine C.out.mono ?_;rintro e l ⟨rfl,rfl⟩;go_wp2;go_round;case rel=>exact⟨m+1,z - 1,by omega,by go_num,rfl,by omega,by omega,s.out.En u.out (by rw[<-t.out];exact B.out) v.out⟩
     case measure=>simp[intOf];omega
   .have r:Hid (l7 f i (m+1) (if aU c=true then z+1 else z)):=by
     have:=s.out.plain u.out (by rw[<-t.out];exact d);rw[<-t.out]at this;exact this
    have x:=ae d;clear d;go_wp2_with fail;refine(CK c w).mono ?_;rintro e l ⟨rfl,rfl⟩;cases hq:aU c
    .have A:Hid (l7 f i (m+1) z):=(by have:=r.out;rw[hq]at this;exact this);clear hq r;go_wp2;go_round;case rel=>exact⟨m+1,z,by omega,by go_num,rfl,by omega,by omega,A.out⟩
     case measure=>simp[intOf];omega
    .have A:Hid (l7 f i (m+1)<|z+1):=(by have:=r.out;rw[hq]at this;exact this);clear hq r;go_wp2;go_round;case rel=>exact⟨m+1,z+1,by omega,by go_num,rfl,by omega,by omega,A.out⟩
     case measure=>simp[intOf];omega
  .have I:Hid (mt f i=a):=(by show mt f i=a;rw[<-q.out];exact s.out.stop<|by rw[q.out];exact j);go_wp2;go_ret;exact⟨dM<|by rw[I.out],rfl⟩
def nM(a:List Int)(k:Nat):Prop:=∃f,a.length<=k+f/\found a=kC a f k
def nM.start(a:List Int):nM a 0:=⟨a.length,by omega,rfl⟩
def nM.open {a:List Int}{k:Nat}(h:nM a k)(b:k<a.length):found a=(if a.getD k 0=0 then 0 else if a.getD k 0=1∨a.getD k 0=2 then 1 else if aU (a.getD k 0)=true then kC a a.length (mt a k+1)else kC a a.length (k+1)):=by
 obtain⟨f,c,e⟩:=h;cases f with
 |zero=>omega
 |succ f=>
  rw[e,kC,aj b];have d:=um a k (by omega);rw[TN a f a.length (mt a k+1) (by omega)<|by omega,TN a f a.length (k+1) (by omega)<|by omega]
def nM.stop {a:List Int}{k:Nat}(h:nM a k)(b:¬k<a.length):found a=0:=by
 obtain⟨f,c,e⟩:=h;rw[e];cases f with
 |zero=>rfl
 |succ f=>rw[kC,ai b]
def nM.zero {a:List Int}{k:Nat}(h:nM a k)(c:k<a.length)(b:a.getD k 0=0):found a=0:=by rw[h.open c,aj b]
def nM.one {a:List Int}{k:Nat}(h:nM a k)(c:k<a.length)(b:a.getD k 0=1∨a.getD k 0=2):found a=1:=by rw[h.open c,ai<|by omega,aj b]
def nM.D9 {a:List Int}{k:Nat}(h:nM a k)(e:k<a.length)(b:¬a.getD k 0=0)(c:¬(a.getD k 0=1∨a.getD k 0=2))(d:aU (a.getD k 0)=true):nM a (mt a k+1):=
 ⟨a.length,by omega,by rw[h.open e,ai b,ai c,aj d]⟩
def nM.next {a:List Int}{k:Nat}(h:nM a k)(e:k<a.length)(b:¬a.getD k 0=0)(c:¬(a.getD k 0=1∨a.getD k 0=2))(d:aU (a.getD k 0)=false):nM a (k+1):=
 ⟨a.length,by omega,by rw[h.open e,ai b,ai c,ai<|by rw[d];decide]⟩
def TP(a:List Int)(b f l d:Nat)(w:World)(F:a.length=d)(K:d<=1000000)(E:bI w b f a):
  Calls prog 70 #[.slice (some ⟨b,f,none⟩) d l] w λe u=>e= .returned (.int .i64<|found a)/\u=w:=by
 have C:=ah E;have s:=ah F;clear E F;go_enter func70,ntmps70;go_wp2;go_loop [3] (λi=>∃k:Nat,k<=d+1/\i= .int .i64 k/\nM a k) (λi=>d+1 - (intOf i).toNat);case atStart=>exact⟨0,by omega,rfl,nM.start a⟩
 case round=>
  obtain⟨k,L,rfl,D⟩:=hrel;have p:=ah D;clear D;by_cases n:k<d
  .have m:=C.out k (by rw[s.out];exact n);obtain⟨c,hx⟩:=ac<|a.getD k 0;rw[<-hx]at m;have j:=ah hx;have o:Hid (k<a.length):=(by show k<a.length;rw[s.out];exact n);clear hx;by_cases g:c=0
   .have h:Hid (found a=0):=p.out.zero o.out (by rw[<-j.out];exact g);have y:=an g;clear g;go_wp2;go_ret;exact⟨dM<|by rw[h.out],rfl⟩
   have y:=ae g;by_cases r:c=1
   .have h:Hid (found a=1):=p.out.one o.out (by rw[<-j.out];exact .inl r);have z:=an r;clear g r;go_wp2;go_ret;exact⟨dM<|by rw[h.out],rfl⟩
   have z:=ae r;by_cases t:c=2
   .have h:Hid (found a=1):=p.out.one o.out (by rw[<-j.out];exact .inr t);have A:=an t;clear g r t;go_wp2;go_ret;exact⟨dM<|by rw[h.out],rfl⟩
   have A:=ae t;have B:Hid (¬a.getD k 0=0):=(by show¬_;rw[<-j.out];exact g);have G:Hid (¬(a.getD k 0=1∨a.getD k 0=2)):=(by show¬_;rw[<-j.out];omega);clear g r t;go_wp2_with fail;refine(CK c w).mono ?_;rintro e u ⟨rfl,rfl⟩;cases v:aU c
   .have x:Hid (nM a<|k+1):=p.out.next o.out B.out G.out (by rw[<-j.out];exact v);clear v;go_wp2;go_round;case rel=>exact⟨k+1,by omega,by go_num,x.out⟩
    case measure=>simp[intOf];omega
   .have x:Hid (nM a<|mt a k+1):=p.out.D9 o.out B.out G.out (by rw[<-j.out];exact v);have J:=um a k<|gF o.out;have I:Hid (Calls prog 115 #[.slice (some ⟨b,f,none⟩) d l,.int .i64 k] u λe H=>e= .returned (.int .i64<|mt a k)/\H=u):=
     Mp a k b f l d u s.out K (by omega) C.out
    rw[s.out]at J;generalize mt a k=q at*;clear v;go_wp2_with fail;refine I.out.mono ?_;rintro e H ⟨rfl,rfl⟩;go_wp2;go_round;case rel=>exact⟨q+1,by omega,by go_num,x.out⟩
    case measure=>simp[intOf];omega
  .have h:Hid (found a=0):=p.out.stop (by rw[s.out];exact n);go_wp2;go_ret;exact⟨dM<|by rw[h.out],rfl⟩
def uA(c:Int)(w:World):Calls prog 192 #[.int .i64 c] w λe p=>e= .returned (.int .i64<|bD c)/\p=w:=by
 obtain⟨q,n⟩:=ac<|bD c;rw[<-n];have h:=ah n;clear n;by_cases a:c=0
 .have b:=ah a;have j:=an a;clear a;go_enter func192,ntmps192;go_wp2;go_ret;exact⟨dM<|by rw[h.out,bD,aj b.out],rfl⟩
 have j:=ae a;by_cases f:c=1
 .have b:=ah f;have d:=ah a;have k:=an f;clear a f;go_enter func192,ntmps192;go_wp2;go_ret;exact⟨dM<|by rw[h.out,bD,ai d.out,aj<|by have:=b.out;omega],rfl⟩
 have k:=ae f;by_cases g:c=3
 .have b:=ah g;have d:=ah a;have l:=an g;clear a f g;go_enter func192,ntmps192;go_wp2;go_ret;exact⟨dM<|by rw[h.out,bD,ai d.out,aj<|by have:=b.out;omega],rfl⟩
 have l:=ae g;by_cases i:c=6
 .have b:=ah i;have d:=ah a;have m:=an i;clear a f g i;go_enter func192,ntmps192;go_wp2;go_ret;exact⟨dM<|by rw[h.out,bD,ai d.out,aj<|by have:=b.out;omega],rfl⟩
 have m:=ae i;have d:=ah a;have o:Hid (¬(c=1∨c=3∨c=6)):=by show¬_;omega
 clear a f g i;go_enter func192,ntmps192;go_wp2;go_ret;exact⟨dM<|by rw[h.out,bD,ai d.out,ai o.out],rfl⟩
def I0(a b:Int)(w:World)(m:0<=a)(j:a<=1000)(n:0<=b)(k:b<=1000):Calls prog 189 #[.int .i64 a,.int .i64 b] w λe l=>e= .returned (.int .i64<|i6 a b)/\l=w:=by
 obtain⟨q,i⟩:=ac<|i6 a b;rw[<-i];have g:=ah i;clear i;by_cases h:a<b
 .by_cases c:b%2=1
  .have f:(b%2==1)=true:=(by simpa using c);have d:=ah c;clear c;go_enter func189,ntmps189;go_wp2;go_ret;exact⟨dM<|by rw[g.out,i6,aj h,aj d.out],rfl⟩
  .have f:(b%2==1)=false:=(by simpa using c);have d:=ah c;clear c;go_enter func189,ntmps189;go_wp2;go_ret;exact⟨dM<|by rw[g.out,i6,aj h,ai d.out],rfl⟩
 .by_cases c:a%2=1
  .have f:(a%2==1)=true:=(by simpa using c);have d:=ah c;clear c;go_enter func189,ntmps189;go_wp2;go_ret;exact⟨dM<|by rw[g.out,i6,ai (by omega:¬a<b),aj d.out],rfl⟩
  .have f:(a%2==1)=false:=(by simpa using c);have d:=ah c;clear c;go_enter func189,ntmps189;go_wp2;go_ret;exact⟨dM<|by rw[g.out,i6,ai (by omega:¬a<b),ai d.out],rfl⟩
def amy(c l:Int)(w:World)(u:0<=l)(s:l<=1000):Calls prog 128 #[.int .i64 c,.int .i64 l] w λe t=>e= .returned (.int .i64<|nX c l)/\t=w:=by
 obtain⟨q,o⟩:=ac<|nX c l;rw[<-o];have g:=ah o;clear o;by_cases h:l%2=0
 .have r:(l%2==0)=true:=by simpa using h
  have d:=ah h;clear h;by_cases a:c=1
  .have f:=an a;have b:=ah a;clear a;go_enter func128,ntmps128;go_wp2;go_ret;exact⟨dM<|by rw[g.out,nX,aj d.out,aj b.out],rfl⟩
  have f:=ae a;by_cases i:c=6
  .have n:=an i;have b:=ah i;have j:=ah a;clear a i;go_enter func128,ntmps128;go_wp2;go_ret;exact⟨dM<|by rw[g.out,nX,aj d.out,ai j.out,aj<|by have:=b.out;omega],rfl⟩
  have n:=ae i;by_cases k:c=3
  .have m:=an k;have b:=ah k;have j:=ah a;clear a i k;go_enter func128,ntmps128;go_wp2;go_ret;exact⟨dM<|by rw[g.out,nX,aj d.out,ai j.out,aj<|by have:=b.out;omega],rfl⟩
  have m:=ae k;have j:=ah a;have p:Hid (¬(c=6∨c=3)):=by show¬_;omega
  clear a i k;go_enter func128,ntmps128;go_wp2;go_ret;exact⟨dM<|by rw[g.out,nX,aj d.out,ai j.out,ai p.out],rfl⟩
 .have r:(l%2==0)=false:=by simpa using h
  have d:=ah h;clear h;by_cases a:c=1
  .have f:=an a;have b:=ah a;clear a;go_enter func128,ntmps128;go_wp2;go_ret;exact⟨dM<|by rw[g.out,nX,ai d.out,aj b.out],rfl⟩
  .have f:=ae a;have b:=ah a;clear a;go_enter func128,ntmps128;go_wp2;go_ret;exact⟨dM<|by rw[g.out,nX,ai d.out,ai b.out],rfl⟩
def PJ(c:Int)(w:World):Calls prog 129 #[.int .i64 c] w λe g=>e= .returned (.bool<|lA c)/\g=w:=by
 obtain⟨q,f⟩:=ac<|lA c;rw[<-f];have d:=ah f;clear f;by_cases a:(c==11)=true
 .go_enter func129,ntmps129;go_wp2;go_ret;exact⟨gY<|by rw[d.out,lA,a];rfl,rfl⟩
 have a:=ar a;by_cases b:(c==9)=true
 .go_enter func129,ntmps129;go_wp2;go_ret;exact⟨gY<|by rw[d.out,lA,a,b];rfl,rfl⟩
 have b:=ar b;go_enter func129,ntmps129;go_wp2;go_ret;exact⟨gY<|by rw[d.out,lA,a,b];rfl,rfl⟩
def zT(a:List Int)(i:Nat):Nat->Int
 |0=> -1
 |n+1=>if aU (a.getD (i - (n+1)) 0)=true/\mt a (i - (n+1))=i then((i - (n+1):Nat):Int)else zT a i n
def opener(a:List Int)(i:Nat):Int:=zT a i i
def aon(a:List Int)(i b f h d:Nat)(w:World)(D:a.length=d)(I:d<=1000000)(J:i<=d)(C:bI w b f a):
  Calls prog 122 #[.slice (some ⟨b,f,none⟩) d h,.int .i64 i] w λe o=>e= .returned (.int .i64<|opener a i)/\o=w:=by
 have x:=ah C;have s:=ah D;clear C D;obtain⟨q,g⟩:=ac<|opener a i;rw[<-g];have A:=ah g;clear g;go_enter func122,ntmps122;go_wp2;go_loop [5] (λk=>∃m:Nat,m<=i/\k= .int .i64 m/\q=zT a i (i - m)) (λk=>i - (intOf k).toNat);case atStart=>exact⟨0,by omega,rfl,A.out⟩
 case round=>
  obtain⟨m,K,rfl,B⟩:=hrel;have t:=ah B;clear B A;by_cases F:m<i
  .have j:=x.out m (by rw[s.out];omega);obtain⟨c,hx⟩:=ac<|a.getD m 0;rw[<-hx]at j;have p:Hid (q=if aU c=true/\mt a m=i then(m:Int)else zT a i (i - (m+1))):=by
    have:=t.out;rw[show i - m=(i - (m+1))+1 by omega,zT,show i - (i - (m+1)+1)=m by omega,<-hx]at this;exact this
   clear hx t;have G:(m:Int)<(d:Int):=(by omega);go_wp2_with fail;refine(CK c w).mono ?_;rintro e o ⟨rfl,rfl⟩;cases g:aU c
   .have E:Hid (q=zT a i (i - (m+1))):=(by have:=p.out;rw[g,ai<|by simp]at this;exact this);clear g p;go_wp2;go_round;case rel=>exact⟨m+1,by omega,by go_num,E.out⟩
    case measure=>simp[intOf];omega
   .have y:Hid (Calls prog 115 #[.slice (some ⟨b,f,none⟩) d h,.int .i64 m] o λe v=>e= .returned (.int .i64<|mt a m)/\v=o):=
     Mp a m b f h d o s.out I (by omega) x.out
    have H:=um a m (by rw[s.out];omega);have r:Hid (q=if mt a m=i then(m:Int)else zT a i (i - (m+1))):=by
     have:=p.out;rw[g]at this;show q=_;simpa using this
    generalize mt a m=z at*;clear g p;by_cases n:z=i
    .have l:Hid (q=(m:Int)):=(by have:=r.out;rw[aj n]at this;exact this);have u:((z:Int)==(i:Int))=true:=(by simp[n]);clear n r;go_wp2_with fail;refine y.out.mono ?_;rintro e v ⟨rfl,rfl⟩;go_wp2;go_ret;exact⟨dM<|by rw[l.out],rfl⟩
    .have l:Hid (q=zT a i (i - (m+1))):=(by have:=r.out;rw[ai n]at this;exact this);have u:((z:Int)==(i:Int))=false:=(by simp;omega);clear n r;go_wp2_with fail;refine y.out.mono ?_;rintro e v ⟨rfl,rfl⟩;go_wp2;go_round;case rel=>exact⟨m+1,by omega,by go_num,l.out⟩
     case measure=>simp[intOf];omega
  .have l:Hid (q= -1):=(by have:=t.out;rw[show i - m=0 by omega]at this;exact this);go_wp2;go_ret;exact⟨dM<|by rw[l.out],rfl⟩
structure aV where
 l:Int
 o:Int
 i:Bool
def aV.cells(e:aV):List Value:=[.int .i64 e.l,.int .i64 e.o,.bool e.i]
def jS(a:List aV):List Value:=a.flatMap aV.cells
def KF(a:List aV):(jS a).length=a.length*3:=by
 induction a with
 |nil=>rfl
 |cons e r ih=>simp only[jS,xP,bH]at ih ⊢;rw[ih];simp[aV.cells];omega
def Oz(a:List aV)(e:aV):jS (a++[e])=jS a++e.cells:=by simp[jS]
def Tw(a:List aV)(e:aV)(j:Nat)(b:j<3):(jS<|a++[e])[a.length*3+j]? =e.cells[j]? :=by
 rw[Oz,rY<|by rw[KF];omega,KF];congr 1;omega
structure dh(w:World)(B s:Nat)(v:Value)(st:List aV)(aK aN valid:Int):Prop where
 cell:w.heap[s]? =some (.cells #[v,.int .i64 aK,.int .i64 aN,.int .i64 valid] 184 (0,0))
 row:w.ownsRow B 181 3 v st.length<|jS st
 low:B<=s
def az {w:World}{s:Nat}{a:Array Value}{t:TypeId}{b:Nat×Nat}(h:w.heap[s]? =some (.cells a t b))(j:Nat):w.cell? ⟨s,j,none⟩=a[j]? :=by simp[World.cell?,h]
def cB {w:World}{s:Nat}{a:Array Value}{t:TypeId}(h:w.heap[s]? =some (.cells a t (0,0)))(j:Nat):w.frozen? ⟨s,j,none⟩=false:=by simp[World.frozen?,h]
def Tryz.akx(l o:Int)(i:Bool)(w:World):(Instr.field 181 (.agg #[.int .i64 l,.int .i64 o,.bool i]) 0).run prog w= .ok (.int .i64 l) w:=by kernel_rfl
def Tryz.GG(l o:Int)(i:Bool)(w:World):(Instr.field 181 (.agg #[.int .i64 l,.int .i64 o,.bool i]) 2).run prog w= .ok (.bool i) w:=by kernel_rfl
def Qs(w:World)(B s:Nat)(v:Value)(b:List aV)(e:aV)(q r d:Int)(h:dh w B s v (b++[e]) q r d)(A:b.length<=1000000):
  Calls prog 117 #[.pointer<|some ⟨s,0,none⟩] w λz D=>z= .returned (.agg #[.int .i64 e.l,.int .i64 e.o,.bool e.i])/\Below w.heap.size w D:=by
 have k:=az h.cell;have j:w.cell? ⟨s,0,none⟩=some v:=k 0;have F:s<w.heap.size:=by
  rcases cP s w.heap.size with i|i
  .exact i
  .have:=h.cell;rw[tD i]at this;cases this
 obtain⟨g,c,C,l,u,x,y⟩:∃g c,v= .slice (some ⟨g,0,none⟩) (b.length+1) c/\g<w.heap.size/\w.cell? ⟨g,b.length*3,none⟩=some (.int .i64 e.l)/\w.cell? ⟨g,b.length*3+1,none⟩=some (.int .i64 e.o)/\w.cell? ⟨g,b.length*3+2,none⟩=some (.bool e.i):=by
  have a:=h.row;rcases a.2 with⟨_,j⟩|⟨g,c,t,rfl,_,E,_⟩
  .simp at j
  .have l:=(a.lt g rfl).2;have m:=a.cellAt (b.length*3) (by simp<;>omega);have o:=a.cellAt (b.length*3+1) (by simp<;>omega);have p:=a.cellAt (b.length*3+2) (by simp<;>omega);rw[show b.length*3=b.length*3+0 from rfl,Tw b e 0<|by omega]at m;rw[Tw b e 1<|by omega]at o;rw[Tw b e 2<|by omega]at p;exact⟨g,c,by simp,l,m,o,p⟩
 subst C;obtain⟨n,f⟩:=ac b.length;rw[<-f]at j u x y A;clear k h f;go_enter func117,ntmps117;go_wp2;go_region;go_wp2;exact cI (v:= .agg #[.int .i64 e.l,.int .i64 e.o,.bool e.i]) (by simp[results,results117,go_sem]) rfl ⟨rfl,((aA _ _).alloc (au _) _).drew⟩
structure XS where
 st:List aV
 aK:Int
 aN:Int
 valid:Int
def gz(l a:Int):Int:=if(l+1)%2=a then l+1 else l+2
def aS(a:List aV):aV:=a.getLastD ⟨0, -1,false⟩
def kf(x:XS)(n:Int):Bool:=decide (n<=125)&&(x.aK==0&&x.aN==0)
def dh.below {w i:World}{B s:Nat}{v:Value}{f:List aV}{a b c:Int}(h:dh w B s v f a b c)(d:Below w.heap.size w i):dh i B s v f a b c:=
 ⟨by rw[d.block s];exact h.cell;rcases cP s w.heap.size with e|e;exact e;(have:=h.cell;rw[tD e]at this;cases this),
  h.row.kept ⟨d.os,d.tape,d.output,d.size,λj l _=>d.block j l⟩ (row:=none) (by rcases h.row.2 with⟨rfl,_⟩|⟨g,m,k,rfl,_⟩<;>simp[Value.ownBlock]),h.low⟩
def aey(w:World)(B s:Nat)(v:Value)(n:List aV)(e:aV)(r t a b:Int)(h:dh w B s v (n++[e]) r t a)(y:n.length<=1000000)(x:0<=e.l)(j:e.l<=1000):
  Calls prog 187 #[.pointer<|some ⟨s,0,none⟩,.int .i64 b] w λu z=>u= .returned (.int .i64<|gz e.l b)/\Below w.heap.size w z:=by
 have f:=ah<|Qs w B s v n e r t a h y;obtain⟨l,o,i⟩:=e;simp only at x j f ⊢;obtain⟨q,m⟩:=ac<|gz l b;rw[<-m];have p:=ah m;have C:=Tryz.akx;clear h m;by_cases c:(l+1)%2=b
 .have d:=ah c;have k:((l+1)%2 !=b)=false:=by simpa using c
  clear c;go_enter func187,ntmps187;go_wp2_with fail;refine f.out.mono ?_;rintro e A ⟨rfl,g⟩;go_wp2;go_ret;exact⟨dM<|by rw[p.out,gz,aj d.out],g⟩
 .have d:=ah c;have k:((l+1)%2 !=b)=true:=by simpa using c
  clear c;go_enter func187,ntmps187;go_wp2_with fail;refine f.out.mono ?_;rintro e A ⟨rfl,g⟩;go_wp2;go_ret;exact⟨dM<|by rw[p.out,gz,ai d.out];omega,g⟩
def Ca(w:World)(s:Nat)(v:Value)(b c a n:Int)(j:List aV)(h:w.heap[s]? =some (.cells #[v,.int .i64 b,.int .i64 c,.int .i64 a] 184 (0,0))):
  Calls prog 188 #[.pointer<|some ⟨s,0,none⟩,.int .i64 n] w λk l=>k= .returned (.bool<|kf ⟨j,b,c,a⟩ n)/\l=w:=by
 have m:w.cell? ⟨s,1,none⟩=some (.int .i64 b):=az h 1;have o:w.cell? ⟨s,2,none⟩=some (.int .i64 c):=az h 2;obtain⟨q,i⟩:=ac<|kf ⟨j,b,c,a⟩ n;rw[<-i];have e:Hid (q=(decide (n<=125)&&(b==0&&c==0))):=i;clear h i;by_cases f:n<=125
 .by_cases d:(b==0)=true
  .go_enter func188,ntmps188;go_wp2;go_ret;exact⟨gY<|by rw[e.out,d,mz f];rfl,rfl⟩
  .have d:=ar d;go_enter func188,ntmps188;go_wp2;go_ret;exact⟨gY<|by rw[e.out,d,mz f];rfl,rfl⟩
 .have g:decide (n<=125)=false:=by simpa using f
  go_enter func188,ntmps188;go_wp2;go_ret;exact⟨gY<|by rw[e.out,g];rfl,rfl⟩
def bq {w b:World}(c:Below w.heap.size w b){k:Nat}{o:Obj}(h:w.heap[k]? =some o):b.heap[k]? =some o:=by
 rw[c.block k ?_]
 .exact h
 .rcases cP k w.heap.size with a|a
  .exact a
  .simp[tD a]at h
def eu {w c:World}(d:Below w.heap.size w c){a:Addr}{v:Value}(h:w.cell? a=some v):c.cell? a=some v:=by
 rw[<-h];refine d.cell ?_;rcases cP a.block w.heap.size with b|b
 .exact b
 .simp[World.cell?,tD b]at h
def qK {P:Program}(w:World){g:Array Oper}{rest:List Oper}{o:Oper}{a:Act}{Q:Exit->Act->World->Prop}(A:o.guard=none)(s x:Operand)(t:TypeId)
  (K:o.op= .call {callee:= .builtin .append,args:=#[s,x],argTypes:=#[t,t]})
  (b:Nat) (e:TypeId) (i:TypeInfo) (z:Value) (bytes:Nat) (M:P.underlying t=some (.slice e)) (I:P.info? e=some i) (N:i.zero=some z)
  (c:i.size=1) (r:i.bytes=bytes) (C:z.cells.size=1) (O:bytes<=64)
  (v:Value) (n:Nat) (D:List Value) (L:a.eval s=v) (f:w.ownsRow b e 1 v n D)
  (y:Value) (F:TypeId) (hx:a.eval x= .slice (some ⟨w.heap.size,0,none⟩) 1 1) (G:y.oneCell'=true) (R:n<=1000000) (q:b<=w.heap.size)
  (h:∀p l,l.ownsRow b e 1 p (n+1) (D++[y])->w.grownBy l v.ownBlock->wpList P g Q rest (a.put o.dst p) l):wpList P g Q (o::rest) a (w.alloc (.cells #[y] F)):=by
 refine Jb _ A s x t K b e i z 1 bytes M I N c r C (by decide) v n D L (f.alloc _) ⟨w.heap.size,0,none⟩ 1 1 [y] hx rfl ?_ ?_ ?_ ?_ ?_ ?_
 .intro j u m
  match j,m with
  |0,m=>simp at m;subst m;simp[Addr.add]
 .intro u E;simp at E;subst E;exact G
 .unfold maxLen;omega
 .have:(n+1)*bytes<=1000001*64:=zl (by omega) O;omega
 .simp;omega
 .intro p l H d _;refine h p l H ⟨d.os,d.tape,d.output,?_,λk J B=> ?_⟩
  .have:=d.size;simp at this;omega
  .rw[d.block k (by simp;omega) B];exact dw w _ k J
def nB {w d:World}{a:Nat}{e:TypeId}{size:Nat}{v:Value}{n:Nat}{f:List Value}(h:w.ownsRow a e size v n f)(m:∀k o,v.ownBlock=some k->w.heap[k]? =some o->d.heap[k]? =some o):d.ownsRow a e size v n f:=by
 refine⟨h.1,?_⟩;rcases h.2 with h|⟨g,b,c,rfl,i,j,l⟩
 .exact .inl h
 .exact .inr ⟨g,b,c,rfl,i,m g _ rfl j,l⟩
def Bp {w:World}{a:Nat}{e:TypeId}{size:Nat}{v:Value}{n:Nat}{i:List Value}(h:w.ownsRow a e size v n i){K:Nat}{s:ByteArray}{p:Nat}(f:w.heap[K]? =some (.stringIter s p)):v.ownBlock≠some K:=by
 rcases h.2 with⟨rfl,_⟩|⟨g,c,d,rfl,j,b,k⟩
 .simp[Value.ownBlock]
 .simp only[Value.ownBlock];intro e;obtain rfl:=aJ e;rw[f]at b;cases b
structure Fr(B s:Nat)(w w':World):Prop where
 below:Below B w w'
 zV:Lib.OthersKept 181 (some s) w w'
def Fr.refl(B s:Nat)(w:World):Fr B s w w:=⟨aA _ _,ZE _ _ _⟩
def Fr.trans {B s:Nat}{a b c:World}(h:Fr B s a b)(k:Fr B s b c):Fr B s a c:=⟨h.below.trans k.below,h.zV.trans k.zV⟩
def Fr.of_below {B s:Nat}{w b:World}(c:B<=w.heap.size)(a:Below w.heap.size w b):Fr B s w b:=⟨a.mono c,λ_ _ h _ _=>bq a h⟩
def Fr.set {B s:Nat}{w:World}(a:B<=s)(j:Nat)(u:Value):Fr B s w (w.setCell ⟨s,j,none⟩ u):=
 ⟨(aA _ _).setCell a u,(ZE _ _ _).setCell ⟨s,j,none⟩ rfl u⟩
def dh.lt {w:World}{B s:Nat}{v:Value}{e:List aV}{a b c:Int}(h:dh w B s v e a b c):s<w.heap.size:=by
 rcases cP s w.heap.size with d|d
 .exact d
 .have:=h.cell;rw[tD d]at this;cases this
def dh.ne {w:World}{B s:Nat}{v:Value}{i:List aV}{a b c:Int}(h:dh w B s v i a b c):v.ownBlock≠some s:=by
 rcases h.row.2 with⟨rfl,_⟩|⟨g,j,f,rfl,_,d,_⟩
 .simp[Value.ownBlock]
 .simp only[Value.ownBlock];intro e;obtain rfl:=aJ e;rw[h.cell]at d;simp at d
def jW {w:World}{B s:Nat}{v:Value}{e:TypeId}{z n:Nat}{b:List Value}(h:w.ownsRow B e z v n b)(a:v.ownBlock≠some s)(j:Nat)(u:Value):(w.setCell ⟨s,j,none⟩ u).ownsRow B e z v n b:=
 nB h λk o c d=>by
  rw[iF]
  .exact d
  .rintro rfl;exact a c
def dh.MN {w:World}{B s:Nat}{v:Value}{d:List aV}{a b c:Int}(h:dh w B s v d a b c)(z:Int):dh (w.setCell ⟨s,1,none⟩ (.int .i64 z)) B s v d z b c:=
 ⟨by rw[eW h.cell];rfl,jW h.row h.ne _ _,h.low⟩
def dh.Bz {w:World}{B s:Nat}{v:Value}{d:List aV}{a b c:Int}(h:dh w B s v d a b c)(z:Int):dh (w.setCell ⟨s,2,none⟩ (.int .i64 z)) B s v d a z c:=
 ⟨by rw[eW h.cell];rfl,jW h.row h.ne _ _,h.low⟩
def dh.MO {w:World}{B s:Nat}{v:Value}{d:List aV}{a b c:Int}(h:dh w B s v d a b c)(z:Int):dh (w.setCell ⟨s,3,none⟩ (.int .i64 z)) B s v d a b z:=
 ⟨by rw[eW h.cell];rfl,jW h.row h.ne _ _,h.low⟩
def Tryz.NU:(prog.info? 181).map (λi=>(i.zero,i.size,i.bytes))=some (some (.agg #[.int .i64 0,.int .i64 0,.bool false]),3,24):=by kernel_rfl
def agX {P:Program}(w:World){l:Array Oper}{rest:List Oper}{o:Oper}{a:Act}{Q:Exit->Act->World->Prop}(D:o.guard=none)(s x:Operand)(t:TypeId)
  (N:o.op= .call {callee:= .builtin .append,args:=#[s,x],argTypes:=#[t,t]})
  (b:Nat) (e:TypeId) (i:TypeInfo) (z:Value) (bytes:Nat) (R:P.underlying t=some (.slice e)) (M:P.info? e=some i) (S:i.zero=some z)
  (d:i.size=3) (C:i.bytes=bytes) (G:z.cells.size=3) (T:bytes<=64)
  (v:Value) (n:Nat) (H:List Value) (O:a.eval s=v) (g:w.ownsRow b e 3 v n H)
  (q r y:Value) (J:TypeId) (k:Nat) (hx:a.eval x= .slice (some ⟨k,0,none⟩) 1 1) (E:k=w.heap.size) (K:q.oneCell'=true) (L:r.oneCell'=true) (A:y.oneCell'=true) (U:n<=1000000) (B:b<=w.heap.size)
  (h:∀p m,m.ownsRow b e 3 p (n+1) (H++[q,r,y])->w.grownBy m v.ownBlock->wpList P l Q rest (a.put o.dst p) m):wpList P l Q (o::rest) a (w.alloc (.cells #[q,r,y] J)):=by
 subst E;refine Jb _ D s x t N b e i z 3 bytes R M S d C G (by decide) v n H O (g.alloc _) ⟨w.heap.size,0,none⟩ 1 1 [q,r,y] hx rfl ?_ ?_ ?_ ?_ ?_ ?_
 .intro j u c
  match j,c with
  |0,c=>simp at c;subst c;simp[Addr.add]
  |1,c=>simp at c;subst c;simp[Addr.add]
  |2,c=>simp at c;subst c;simp[Addr.add]
 .intro u I;simp at I;rcases I with rfl|rfl|rfl
  .exact K
  .exact L
  .exact A
 .unfold maxLen;omega
 .have:(n+1)*bytes<=1000001*64:=zl (by omega) T;omega
 .simp;omega
 .intro p m A f _;refine h p m A ⟨f.os,f.tape,f.output,?_,λk E F=> ?_⟩
  .have:=f.size;simp at this;omega
  .rw[f.block k (by simp;omega) F];exact dw w _ k E
def aeS {w:World}{B:Nat}{e:TypeId}{z k:Nat}{v:Value}{f:List Value}(h:w.ownsRow B e z v (k+1) f):∃g a,v= .slice (some ⟨g,0,none⟩) (k+1) a:=by
 rcases h.2 with⟨_,d⟩|⟨g,b,c,rfl,_⟩
 .cases d
 .exact⟨g,b,rfl⟩
def dh.push {w i:World}{B s:Nat}{v j:Value}{o:List aV}{a b c:Int}{e:aV}(h:dh w B s v o a b c)(d:i.ownsRow B 181 3 j (o.length+1)<|jS o++[.int .i64 e.l,.int .i64 e.o,.bool e.i])(p:w.grownBy i v.ownBlock):
  dh (i.setCell ⟨s,0,none⟩ j) B s j (o++[e]) a b c/\Fr B s w (i.setCell ⟨s,0,none⟩ j)/\i.cell? ⟨s,0,none⟩=some v/\i.frozen? ⟨s,0,none⟩=false:=by
 have n:i.heap[s]? =some (.cells #[v,.int .i64 a,.int .i64 b,.int .i64 c] 184 (0,0)):=by
  rw[p.block s h.lt h.ne.symm];exact h.cell
 have q:j.ownBlock≠some s:=by
  rcases d.2 with⟨rfl,_⟩|⟨g,r,l,rfl,_,m,_⟩
  .simp[Value.ownBlock]
  .simp only[Value.ownBlock];intro e;obtain rfl:=aJ e;rw[n]at m;simp at m
 refine⟨⟨by rw[eW n];rfl,?_,h.low⟩,⟨?_,?_⟩,az n 0,cB n 0⟩
 .have:=jW d q 0 j;rw[Oz];simpa [aV.cells]using this
 .exact((aA B w).grown p (bP h.low<|gF h.lt) λk t=>(h.row.lt k t).1).setCell h.low _
 .refine((ZE _ _ _).grown p λg f=> ?_).setCell ⟨s,0,none⟩ rfl _;rcases h.row.2 with⟨rfl,_⟩|⟨u,r,l,rfl,_,m,_⟩
  .simp[Value.ownBlock]at f
  .simp only[Value.ownBlock,Cj]at f;subst f;exact⟨l,_,m⟩
def jF(x:XS)(c:Int):XS:=
 let n:=gz (aS x.st).l (if c=14∨c=16 then 1 else 0)
 if kf x n=true then{x with st:=x.st++[⟨n,if c=15 then 0 else if c=16 then 1 else -1,false⟩]}
 else if x.aK=0 then{x with aN:=x.aN+1}else x
def jr(x:XS)(a:Int):XS:=
 let n:=gz (aS x.st).l a
 if kf x n=true then{x with st:=x.st++[⟨n, -1,true⟩],valid:=x.valid+1}else{x with aK:=x.aK+1}
def Gi(a:List aV)(e:aV):aS (a++[e])=e:=by simp[aS]
def aiQ(w:World)(B s:Nat)(v:Value)(x:XS)(d:Int)(h:dh w B s v x.st x.aK x.aN x.valid)(o:x.st≠[])(M:x.st.length<=1000)(r:0<=(aS x.st).l)(k:(aS x.st).l<=1000)
  (U:0<=x.aK/\x.aK<=100000) (V:0<=x.valid/\x.valid<=100000):
  Calls prog 119 #[.pointer<|some ⟨s,0,none⟩,.int .i64 d] w λp t=>p= .returned (.tuple #[])/\Fr B s w t/\∃P,dh t B s P (jr x d).st (jr x d).aK (jr x d).aN (jr x d).valid:=by
 obtain⟨W,C,E,F,G⟩:=gu Tryz.NU;obtain⟨I,f,i,a⟩:=x;simp only at h o M r k U V;obtain⟨b,e,rfl⟩:∃b e,I=b++[e]:=⟨I.dropLast,I.getLast o,(E6 o).symm⟩
 rw[Gi]at r k;simp only[bH,eJ,jZ]at M;have J:Hid (Calls prog 187 #[.pointer<|some ⟨s,0,none⟩,.int .i64 d] w λp t=>p= .returned (.int .i64<|gz e.l d)/\Below w.heap.size w t):=aey w B s v b e f i a d h (by omega) r k;obtain⟨y,D⟩:=ac<|jr ⟨b++[e],f,i,a⟩ d;rw[<-D];have q:Hid (y=if kf ⟨b++[e],f,i,a⟩ (gz e.l d)=true then⟨(b++[e])++[⟨gz e.l d, -1,true⟩],f,i,a+1⟩else⟨b++[e],f+1,i,a⟩):=by
  have:=D;unfold jr at this;simp only[Gi]at this;exact this
 have u:=ah h;clear h D r k;generalize gz e.l d=n at*;go_enter func119,ntmps119;go_wp2_with fail;refine J.out.mono ?_;rintro p Q ⟨rfl,m⟩;have c:=ah<|u.out.below m;have O:Hid (Fr B s w Q):=Fr.of_below (bP u.out.low<|gF u.out.lt) m;clear m J;go_wp2_with fail;refine(Ca Q s v f i a n (b++[e]) c.out.cell).mono ?_;rintro p j ⟨rfl,rfl⟩;have Z:j.cell? ⟨s,0,none⟩=some v:=az c.out.cell 0;have c1:j.cell? ⟨s,1,none⟩=some (.int .i64 f):=az c.out.cell 1;have c3:j.cell? ⟨s,3,none⟩=some (.int .i64 a):=az c.out.cell 3;have f0:j.frozen? ⟨s,0,none⟩=false:=cB c.out.cell 0;have f1:j.frozen? ⟨s,1,none⟩=false:=cB c.out.cell 1;have f3:j.frozen? ⟨s,3,none⟩=false:=cB c.out.cell 3;cases hq:kf ⟨b++[e],f,i,a⟩ n
 .have H:Hid (y=⟨b++[e],f+1,i,a⟩):=by have:=q.out;rw[hq,ai<|by decide]at this;exact this
  clear hq q;go_wp2;go_end0;rw[H.out];exact⟨rfl,O.out.trans<|Fr.set c.out.low _ _,v,c.out.MN _⟩
 .have H:Hid (y=⟨(b++[e])++[⟨n, -1,true⟩],f,i,a+1⟩):=by have:=q.out;rw[hq,aj rfl]at this;exact this
  clear hq q;have z:Hid (dh (j.setCell ⟨s,3,none⟩ (.int .i64<|a+1)) B s v (b++[e]) f i<|a+1):=c.out.MO _;have T:B<=j.heap.size:=bP c.out.low<|gF c.out.lt;have N:s<j.heap.size:=c.out.lt;have d0:(j.setCell ⟨s,3,none⟩ (.int .i64<|a+1)).cell? ⟨s,0,none⟩=some v:=az z.out.cell 0;have g:=z.out.row;simp only[bH,eJ,jZ]at g;go_wp2_with(at_builtin;refine agX _ rfl _ _ 182 rfl B 181 W (.agg #[.int .i64 0,.int .i64 0,.bool false]) 24 underlying182 C E F G rfl (by decide) _ _ _ rfl g _ _ _ _ _ rfl (by simp) rfl rfl rfl (by omega) (by simp;omega) ?_);intro P X A K;obtain⟨gg,cc,rfl⟩:=aeS A;obtain⟨L,hF,je,Y⟩:=z.out.push (e:=⟨n, -1,true⟩) (by simpa using A) K;have S:=ah L;have R:Hid (Fr B s w<|X.setCell ⟨s,0,none⟩ _):=(O.out.trans<|Fr.set c.out.low _ _).trans hF;clear L hF A K g d0;go_wp2;go_end0;rw[H.out];exact⟨rfl,R.out,_,S.out⟩
def dh.apk {w d:World}{B s:Nat}{v j:Value}{g:List aV}{a b c l o:Int}{i:Bool}{m:Nat}(h:dh w B s v g a b c)(n:m=g.length+1)(f:d.ownsRow B 181 3 j m<|jS g++[.int .i64 l,.int .i64 o,.bool i])(k:w.grownBy d v.ownBlock):
  dh (d.setCell ⟨s,0,none⟩ j) B s j (g++[⟨l,o,i⟩]) a b c/\Fr B s w (d.setCell ⟨s,0,none⟩ j)/\d.cell? ⟨s,0,none⟩=some v/\d.frozen? ⟨s,0,none⟩=false:=by
 subst n;exact h.push (e:=⟨l,o,i⟩) f k
def akp(w:World)(B s:Nat)(v:Value)(x:XS)(c:Int)(h:dh w B s v x.st x.aK x.aN x.valid)(q:x.st≠[])(T:x.st.length<=1000)(A:0<=(aS x.st).l)(j:(aS x.st).l<=1000)
  (hi:0<=x.aN/\x.aN<=100000) (H:c=13∨c=14∨c=15∨c=16):
  Calls prog 118 #[.pointer<|some ⟨s,0,none⟩,.int .i64 c] w λu C=>u= .returned (.tuple #[])/\Fr B s w C/\∃V,dh C B s V (jF x c).st (jF x c).aK (jF x c).aN (jF x c).valid:=by
 obtain⟨i0,I,L,M,N⟩:=gu Tryz.NU;obtain⟨P,d,g,a⟩:=x;simp only at h q T A j hi;obtain⟨b,e,rfl⟩:∃b e,P=b++[e]:=⟨P.dropLast,P.getLast q,(E6 q).symm⟩
 rw[Gi]at A j;simp only[bH,eJ,jZ]at T;have D:=ah h;have key:∀(o i:Int),(if c=14∨c=16 then(1:Int)else 0)=o->(if c=15 then(0:Int)else if c=16 then 1 else -1)=i->
   Hid (Calls prog 187 #[.pointer<|some ⟨s,0,none⟩,.int .i64 o] w λu C=>u= .returned (.int .i64<|gz e.l o)/\Below w.heap.size w C)/\
   Hid (jF ⟨b++[e],d,g,a⟩ c=if kf ⟨b++[e],d,g,a⟩ (gz e.l o)=true then⟨(b++[e])++[⟨gz e.l o,i,false⟩],d,g,a⟩else if d=0 then⟨b++[e],d,g+1,a⟩else⟨b++[e],d,g,a⟩):=by
  intro o i Z h2;refine⟨aey w B s v b e d g a o h (by omega) A j,?_⟩;show jF _ c=_;unfold jF;simp only[Gi,Z,h2]
 obtain⟨y,J⟩:=ac<|jF ⟨b++[e],d,g,a⟩ c;rw[<-J];rw[<-J]at key;clear h J A j;rcases H with rfl|rfl|rfl|rfl
 all_goals
  obtain⟨E,m⟩:=key _ _ rfl rfl;simp only[Int.reduceEq,F4,or_true,or_self,zP,if_false]at E m;clear key;generalize gz e.l _=n at*;go_enter func118,ntmps118;go_wp2_with fail;refine E.out.mono ?_;rintro u W ⟨rfl,p⟩;have f:=ah<|D.out.below p;have O:Hid (Fr B s w W):=Fr.of_below (bP D.out.low<|gF D.out.lt) p;clear p E;go_wp2_with fail;refine(Ca W s v d g a n (b++[e]) f.out.cell).mono ?_;rintro u r ⟨rfl,rfl⟩;have c0:r.cell? ⟨s,0,none⟩=some v:=az f.out.cell 0;have c1:r.cell? ⟨s,1,none⟩=some (.int .i64 d):=az f.out.cell 1;have c2:r.cell? ⟨s,2,none⟩=some (.int .i64 g):=az f.out.cell 2;have f0:r.frozen? ⟨s,0,none⟩=false:=cB f.out.cell 0;have f2:r.frozen? ⟨s,2,none⟩=false:=cB f.out.cell 2;cases hq:kf ⟨b++[e],d,g,a⟩ n
  .by_cases t:d=0
   .have z:Hid (y=⟨b++[e],d,g+1,a⟩):=(by have:=m.out;rw[hq,ai<|by decide,aj t]at this;exact this);have K:=an t;clear hq m t;go_wp2;go_end0;rw[z.out];exact⟨rfl,O.out.trans<|Fr.set f.out.low _ _,v,f.out.Bz _⟩
   .have z:Hid (y=⟨b++[e],d,g,a⟩):=(by have:=m.out;rw[hq,ai<|by decide,ai t]at this;exact this);have K:=ae t;clear hq m t;go_wp2;go_end0;rw[z.out];exact⟨rfl,O.out,v,f.out⟩
  .have F:=m.out;rw[hq,aj rfl]at F;have z:Hid (y=_):=F;have S:(b++[e]).length<=1001:=(by simp;omega);have aa:B<=r.heap.size:=bP f.out.low<|gF f.out.lt;have U:s<r.heap.size:=f.out.lt;have k:=f.out.row;clear hq F m;go_wp2_with(at_builtin;refine agX _ rfl _ _ 182 rfl B 181 i0 (.agg #[.int .i64 0,.int .i64 0,.bool false]) 24 underlying182 I L M N rfl (by decide) _ _ _ rfl k _ _ _ _ _ rfl rfl rfl rfl rfl (by omega) (by omega) ?_);intro V w5 G Q;obtain⟨gg,cc,rfl⟩:=aeS G;obtain⟨R,hF,je,Lg⟩:=f.out.apk (by simp) G Q;have Y:=ah R;have X:=ah<|O.out.trans hF;clear R hF G Q k;go_wp2;go_end0;rw[z.out];exact⟨rfl,X.out,_,Y⟩
