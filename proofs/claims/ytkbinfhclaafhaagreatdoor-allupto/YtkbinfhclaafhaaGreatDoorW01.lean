import Derived.Test.YtkbinfhclaafhaaGreatDoorProg
import Derived.WalkSpells
import Derived.WalkLawsBesides
import Derived.BigQuiet
import Derived.Lib.SmallJoins
import Derived.Deep.LoopGhost
import Derived.Deep.OwnRows
namespace Go.Proofs.YtkbinfhclaafhaaGreatDoor
open Go.RowKit
open Go.Proofs.Tryz
set_option maxRecDepth 100000
set_option maxHeartbeats 32000000
set_option linter.all false
open Go.Value renaming int->Y,slice->R,string->cd,bool->ce,tuple->de,agg->df
open Go.IntKind renaming i64->Z
open Option renaming none->U,some->V
open Go.Addr renaming mk->S
open Go.Obj renaming cells->bi
open Go.Ending renaming returned->bj
open Go renaming World->cw,Value->cJ,Calls->cP
open Go.RowKit renaming Below->cD,Hid->dd
open Bool renaming false->da,true->db
abbrev aw:=List Int
abbrev ba:=List Nat
abbrev bc:=ByteArray
def ac {b:Type}(a:b):∃c,c=a:=⟨_,rfl⟩
def ae {c:Type}[DecidableEq c]{a b:c}(h:¬a=b):(a==b)=da:=by simpa using h
def an {c:Type}[DecidableEq c]{a b:c}(h:a=b):(a==b)=db:=by simpa using h
def ar {b:Bool}(h:¬b=db):b=da:=by simpa using h
def ai:=@if_neg
def aj:=@if_pos
def au:=@Nat.le_refl
def aA:=@Below.refl
def aI:=@Option.some.inj
def aK:=@List.getElem?_eq_getElem
def aN:=@List.getD_eq_getElem?_getD
def bB:=@rounds_succ
def bG:=@List.length_append
def bM:=@Nat.le_trans
def bU:=@bodyPost_ret
def cT:=@World.ownsRow.cellAt
def dc:=@Nat.lt_or_ge
def dh:=@Below.heap_alloc
def dN:=@wp_loop_rounds
def dY:=@List.append_assoc
def eU:=@List.length_cons
def fe:=@Joins.block_setCell
def fh:=@World.ownsRow_nil
def fP:=@info_parts
def fV:=@Nat.zero_add
def gu:=@List.map_append
def gA:=@ownsRow_setCell_below
def gI:=@List.mem_cons
def gV:=@Nat.le_of_lt
def gW:=@World.cell?_alloc_lt
def gY:=@below_drewN
def iX:=@Below.heap_setCell
def jh:=@List.length_map
def ji:=@List.mem_append
def jC:=@List.getElem?_map
def jV:=@Calls.mono
def jW:=@List.getElem?_toArray
def jX:=@List.mem_map
def jY:=@List.take_of_length_le
def kE:=@List.getElem?_cons_zero
def kF:=@List.length_pos_iff
def kG:=@Nat.min_eq_left
def kI:=@World.grownBy.refl
def kW:=@List.length_nil
def lq:=@true_and
def lu:=@List.drop_eq_nil_of_le
def lB:=@Nat.zero_le
def lV:=@List.drop_eq_getElem_cons
def lW:=@Nat.lt_of_lt_of_le
def lY:=@Value.slice.injEq
def lZ:=@World.ownsRow.alloc
def mH:=@List.append_nil
def mM:=@frozen_of_row
def mZ:=@List.getElem?_cons_succ
def ni:=@List.map_cons
def nk:=@Nat.le_succ
def nB:=@decide_eq_true
def nP:=@List.getElem_mem
def oH:=@run_callFunc_extern
def oZ:=@Nat.add_assoc
def pM:=@Array.getElem?_push_size
def pR:=@List.take_succ_eq_append_getElem
def pS:=@Nat.add_sub_cancel
def pT:=@Nat.sub_self
def qE:=@Nat.add_zero
def rZ:=@List.foldl_cons
def r7:=@List.mem_singleton
def r8:=@List.nil_append
def si:=@Nat.mod_lt
def sB:=@decide_eq_false
def sV:=@Array.getElem?_eq_none
def tC:=@List.drop_of_length_le
def tD:=@List.filter_append
def tG:=@List.filter_cons
def tH:=@List.getElem?_append_right
def tI:=@List.getElem?_eq_none
def tJ:=@List.getElem?_eq_some_iff
def tK:=@List.getLastD_eq_getLast?
def tM:=@List.length_take
def uL:=@List.cons_append
def uM:=@List.getElem?_append_left
def uN:=@List.mem_filter
def uO:=@List.take_add_one
def uV:=@Option.getD_some
def vS:=@beq_iff_eq
def yF:=@List.flatMap_cons
def yG:=@List.mem_cons_of_mem
def yH:=@List.set_append_right
def yI:=@Option.map_eq_some_iff
def zH:=@DataW.trod_int
def zQ:=@Int.ofNat_sub
def zS:=@List.getElem?_drop
def zT:=@Nat.mul_le_mul
def Aq:=@if_true
def A4:=@ByteArray.size_extract
def Bg:=@Int.toNat_natCast
def Bh:=@List.eq_nil_or_concat
def Bj:=@List.flatten_cons
def Bk:=@List.length_filter_le
def Bu:=@World.ownsRow.lt
def Cg:=@results_none
def Ch:=@run_underlying
def Cu:=@Array.getElem?_setIfInBounds_ne
def Cv:=@Bool.eq_iff_iff
def Cx:=@Calls.quiet_of_same
def CX:=@List.concat_eq_append
def CY:=@List.foldl_append
def CZ:=@Option.some.injEq
def C0:=@World.ownsRow.stored
def C2:=@decide_eq_false_iff_not
def DM:=@Bool.false_or
def DN:=@ByteArray.size_append
def Eb:=@List.map_nil
def Ec:=@List.nodup_cons
def Ef:=@List.pairwise_cons
def Eg:=@Ne.symm
def Eh:=@Oper.semAt_some
def Em:=@World.ownsRow.frozenAt
def Es:=@decide_eq_true_eq
def Fx:=@Bool.and_eq_true
def Fy:=@Bool.or_eq_false_iff
def Fz:=@Bool.or_eq_true
def FW:=@Int.natCast_nonneg
def FX:=@Lib.iterAt_other
def FY:=@Lib.run_next_end_at
def F4:=@List.dropLast_concat_getLast
def F7:=@World.iter_heap
def Hg:=@or_false
def Ib:=@Bool.false_eq_true
def Iz:=@List.dropLast_concat
def IA:=@List.filter_nil
def IB:=@List.getElem?_range
def IC:=@List.getLast?_eq_getElem?
def ID:=@List.getLast?_eq_some_getLast
def IE:=@List.mem_flatMap
def IG:=@List.mem_range
def II:=@List.nodup_append
def IJ:=@List.range_succ
def IK:=@List.replicate_succ
def IL:=@Nat.eq_zero_or_pos
def IM:=@Nat.min_eq_right
def IP:=@Option.map_some
def IQ:=@Prod.mk.injEq
def IU:=@Sem.run_bind
def IW:=@World.ownsRow.drew
def IX:=@World.var?_cell
def Ja:=@callsIn_wide
def J3:=@of_decide_eq_true
def Kt:=@wpList_append_own
def Kv:=@wp_goto
def Lq:=@List.eq_nil_of_length_eq_zero
def Lr:=@List.ext_getElem?
def Ls:=@List.flatMap_def
def Lt:=@List.map_congr_left
def Lu:=@List.mem_of_mem_take
def Lv:=@List.not_mem_nil
def Lx:=@List.replicate_zero
def Lz:=@List.sum_cons
def LA:=@Nat.lt_succ_of_lt
def LC:=@Nat.mul_one
def LD:=@Nat.succ_ne_zero
def LF:=@Nat.zero_min
def LN:=@beq_eq_false_iff_ne
def Mk:=@getElem!_pos
def MK:=@heap_setCell_same
def Oh:=@step_scope
def Oo:=@wpIn_wide
def Ot:=@Array.getElem?_eq_getElem
def Ou:=@Array.getElem?_eq_some_iff
def Ov:=@Array.length_toList
def Ow:=@Below.size
def Ox:=@Below.trans
def Oy:=@Bool.false_and
def O6:=@Int.le_refl
def O7:=@IntWalk.i64_in
def O8:=@Lib.below_iterAt
def O9:=@Lib.cell_of_heap
def Pb:=@Lib.iterAt_heap
def Pc:=@Lib.run_next_any_at
def Pd:=@List.any_cons
def Pe:=@List.drop_drop
def Pf:=@List.getD_cons_succ
def Pg:=@List.getElem?_set
def Ph:=@List.getElem?_take
def Pj:=@List.getElem?_take_of_lt
def Pk:=@List.getLast?_append
def Pm:=@List.length_drop
def Pn:=@List.length_range
def Po:=@List.map_map
def Pp:=@List.mem_cons_self
def Pq:=@List.mem_of_getElem?
def Pr:=@List.replicate_succ'
def Pt:=@List.take_length
def QN:=@heap_alloc_new
def Sr:=@DataW.trod_array
def T5:=@List.Perm.refl
def T6:=@List.filter_eq_nil_iff
def T7:=@List.flatMap_append
def T8:=@List.foldl_nil
def T9:=@List.getElem?_replicate
def Ua:=@List.length_eq_zero_iff
def Ub:=@List.length_reverse
def Uc:=@List.length_zip
def Ud:=@List.mem_flatten
def Ue:=@List.prefix_append
def Uf:=@List.set_set
def Ug:=@List.take_append_drop
def Uh:=@List.take_succ_cons
def Ui:=@Option.bind_some
def Uk:=@Result.andThen_ok
def Ul:=@UInt8.toNat_lt
def Um:=@World.block_lt_of_cell?
def Vm:=@forall_eq
def Vn:=@forall_eq_or_imp
def ZO:=@wpList_load_row
def ZT:=@Addr.add_lit
def ZU:=@Array.getD_eq_getD_getElem?
def ZV:=@Array.getElem?_setIfInBounds_self_of_lt
def ZW:=@Array.replicate_succ
def ZX:=@Array.replicate_zero
def ZY:=@Bool.and_false
def ZZ:=@ByteArray.getElem_extract
def j6:=@Lib.OthersKept.refl
def ki:=@List.Pairwise.filter
def lJ:=@List.append_toArray
def l6:=@List.contains_eq_mem
def mg:=@List.dropLast_subset
def mz:=@List.getD_cons_zero
def mA:=@List.getElem?_of_mem
def mB:=@List.getElem?_set_self
def mC:=@List.getElem_of_mem
def mE:=@List.length_set
def fL:=@List.length_singleton
def fU:=@List.map_take
def fZ:=@List.map_toArray
def gv:=@List.prefix_refl
def gU:=@List.push_toArray
def iw:=@List.size_toArray
def iY:=@List.sublist_flatten_of_mem
def iZ:=@List.take_zero
def jb:=@MapKept.run_getObj_map
def jd:=@Nat.lt_succ_self
def jK:=@Nat.mod_eq_of_lt
def j3:=@Oper.upon_enter
def j4:=@Sem.run_pure
def j5:=@UInt8.toNat_inj
def mI:=@cell_one_new
def mK:=@errorString_of_trod
def mU:=@ownsRow_pop
def nD:=@run_append_own_at
def nX:=@run_copy_none
def mV:=@run_makeMap
def oV:=@toList_madeCells_one
def nY:=@wpList_append_own_at
def ait:=@Array.getElem?_toList
def aiu:=@Array.getElem_mem_toList
def aiv:=@Bool.and_eq_false_iff
def aiw:=@Bool.not_eq_true'
def aix:=@ByteArray.extract_extract
def aiy:=@Classical.byContradiction
def aiz:=@DataW.trod_string
def aiA:=@Decidable.byContradiction
def ai1:=@IntWalk.wrap64_in
def ai2:=@Lib.run_clear_slice
def ai3:=@List.Nodup.not_mem_erase
def ai4:=@List.Perm.nodup_iff
def ai5:=@List.Sublist.refl
def ai6:=@List.contains_nil
def ai7:=@List.count_pos_iff
def ai8:=@List.drop_append_of_le_length
def ai9:=@List.drop_eq_nil_iff
def aja:=@List.drop_length
def ajb:=@List.erase_of_not_mem
def ajc:=@List.getElem?_set_ne
def ajd:=@List.getElem_append_left
def aje:=@List.getElem_append_right
def ajf:=@List.getLast?_singleton
def ajg:=@List.getLast_mem
def ajh:=@List.length_erase_of_mem
def aji:=@List.length_replicate
def ajj:=@List.mem_of_mem_erase
def ajk:=@List.mem_reverse
def ajl:=@List.nodup_range
def ajm:=@List.pairwise_append
def ajn:=@List.pairwise_iff_getElem
def ajo:=@List.perm_append_comm
def ajp:=@List.perm_middle
def ajq:=@List.range_succ_eq_map
def ajr:=@List.reverse_nil
def ajs:=@List.set_cons_succ
def ajt:=@List.set_cons_zero
def aju:=@List.take_sublist
def ajv:=@Nat.le_add_right
def ajw:=@Nat.mul_le_mul_right
def ajx:=@World.cell?_spot
def ajy:=@World.cells?_some
def ajz:=@World.size_setCell
def akA:=@bne_eq_false_iff_eq
def arW:=@run_convert_bytes_back
def arY:=@run_eql_iface_ptr_other
def arZ:=@run_eql_iface_ptr_same
def ar0:=@run_equalIn_array
def ar1:=@run_equalIn_iface_ptr_same
def ah {p:Prop}(h:p):dd p:=h
def aU(c:Int):Bool:=c==18||(c==19||c==20)
def dx:aw->Int->Option Nat
 |[],_=>U
 |c::r,n=>if c=21 then(if n - 1=0 then V 0 else(dx r<|n - 1).map (·+1))else(dx r (if aU c=db then n+1 else n)).map (·+1)
def mt(a:aw)(i:Nat):Nat:=match dx (a.drop i) 0 with
 |some d=>i+d
 |none=>a.length
def NB:aU 21=da:=by decide
def nj(a:aw)(i k:Nat)(n:Int):Prop:=i<=k/\k<=a.length/\dx (a.drop i) 0=(dx (a.drop k) n).map (·+(k - i))
def nj.start(a:aw)(i:Nat)(h:i<=a.length):nj a i i 0:=⟨au _,h,by simp⟩
def nj.stop {a:aw}{i k:Nat}{n:Int}(h:nj a i k n)(d:¬k<a.length):mt a i=a.length:=by obtain⟨_,c,b⟩:=h;unfold mt;rw[b,lu<|by omega];rfl
def drop_at {a:aw}{k:Nat}(b:k<a.length):a.drop k=a.getD k 0::a.drop (k+1):=by rw[lV b];simp[aN,aK b]
def nj.plain {a:aw}{i k:Nat}{n:Int}(h:nj a i k n)(b:k<a.length)(e:a.getD k 0≠21):nj a i (k+1) (if aU (a.getD k 0)=db then n+1 else n):=by
 obtain⟨f,g,c⟩:=h;refine⟨by omega,b,?_⟩;rw[c,drop_at b,dx,ai e,Option.map_map];congr 1
 funext d
 simp only[Function.comp];omega
def nj.Fi {a:aw}{i k:Nat}{n:Int}(h:nj a i k n)(b:k<a.length)(e:a.getD k 0=21)(f:n - 1≠0):nj a i (k+1) (n - 1):=by
 obtain⟨g,j,c⟩:=h;refine⟨by omega,b,?_⟩;rw[c,drop_at b,e,dx,aj rfl,ai f,Option.map_map];congr 1
 funext d
 simp only[Function.comp];omega
def nj.hit {a:aw}{i k:Nat}{n:Int}(h:nj a i k n)(d:k<a.length)(c:a.getD k 0=21)(e:n - 1=0):mt a i=k:=by obtain⟨f,g,b⟩:=h;unfold mt;rw[b,drop_at d,c,dx,aj rfl,aj e];simp;omega
def XK:∀(l:aw)(n:Int)(d:Nat),dx l n=V d->d<l.length
 |[],_,_,h=>by simp[dx]at h
 |c::r,n,d,h=>by
  rw[dx]at h;split at h
  .split at h;simp at h;subst h;simp;cases hr:dx r (n - 1)with
   |none=>rw[hr]at h;simp at h
   |some a=>rw[hr]at h;simp at h;subst h;have:=XK r _ a hr;simp;omega
  cases hr:dx r (if aU c=db then n+1 else n)with
  |none=>rw[hr]at h;simp at h
  |some a=>rw[hr]at h;simp at h;subst h;have:=XK r _ a hr;simp;omega
def vz(a:aw)(i:Nat)(h:i<=a.length):i<=mt a i/\mt a i<=a.length:=by unfold mt;split;rename_i d b;have:=XK _ _ _ b;simp at this;omega;omega
def lI(a:aw):Nat->Nat->Int
 |0,_=>0
 |f+1,i=>if i<a.length then(if a.getD i 0=0 then 0 else if a.getD i 0=1∨a.getD i 0=2 then 1 else if aU (a.getD i 0)=db then lI a f (mt a i+1)else lI a f (i+1))else 0
def found(a:aw):Int:=lI a a.length 0
def Qt(a:aw):∀f i,a.length<=i+f->lI a f i=lI a (f+1) i
 |0,i,h=>by rw[lI,lI,ai<|by omega]
 |f+1,i,h=>by rw[lI,lI];by_cases b:i<a.length;rw[aj b,aj b];have c:=vz a i (by omega);rw[Qt a f (mt a i+1)<|by omega,Qt a f (i+1)<|by omega];rw[ai b,ai b]
def Vp(a:aw)(f g i:Nat)(b:a.length<=i+f)(c:a.length<=i+g):lI a f i=lI a g i:=by
 have key:∀d f i,a.length<=i+f->lI a f i=lI a (f+d) i:=by
  intro d
  induction d with
  |zero=>intro f i _;rfl
  |succ d ih=>intro f i h;rw[ih f i h,Qt a (f+d) i<|by omega];rfl
 rcases Nat.le_total f g with h|h;rw[key (g - f) f i b];congr 1;omega;rw[key (f - g) g i c];congr 1;omega
def bH(c:Int):Int:=if c=0 then 0 else if c=1∨c=3∨c=6 then 1 else -1
def jA(a b:Int):Int:=if(if a<b then b else a)%2=1 then 1 else 0
def pF(c l:Int):Int:=if l%2=0 then(if c=1 then l+1 else if c=6∨c=3 then l+2 else l)else(if c=1 then l else l+1)
def mj(c:Int):Bool:=c==11||(c==9||decide (13<=c))
def canon(r:Int):Int:=if r=9001 then 12296 else if r=9002 then 12297 else r
def brk(r:Int):Int×Int:=
 if canon r=40∨canon r=91∨canon r=123∨canon r=12296 then(1,canon r)
 else if canon r=41 then(2,40)else if canon r=93 then(2,91)else if canon r=125 then(2,123)else if canon r=12297 then(2,12296)else(0,0)
def bJ(w:cw)(b a:Nat)(l:aw):Prop:=∀i,i<l.length->w.cell? (S b (a+i) U)=V (Y Z<|l.getD i 0)
def dF(w:cw)(v:cJ)(l:aw):Prop:=(v=R U 0 0/\l=[])∨∃b a c,v= .slice (V<|S b a U) l.length c/\bJ w b a l
def dX {k:IntKind}{a b:Int}(h:a=b):Ending.returned (.int k a)=bj (.int k b):=by rw[h]
def iA {a b:Bool}(h:a=b):Ending.returned (ce a)=bj (ce b):=by rw[h]
def fH(r:Int)(l:aw):Bool:=l.contains r
def ajZ(l:aw)(r:Int)(k:Nat)(h:k<l.length)(b:fH r (l.take k)=da)(a:(l.getD k 0==r)=da):fH r (l.take<|k+1)=da:=by unfold fH at b ⊢;rw[aN,aK h]at a;simp only[uV,LN]at a;rw[pR h,l6,C2,ji];rw[l6,C2]at b;rintro(e|e);exact b e;exact a (r7.1 e).symm
def ajY(l:aw)(r:Int)(k:Nat)(h:k<l.length)(a:(l.getD k 0==r)=db):fH r l=db:=by unfold fH;rw[aN,aK h]at a;simp at a;simp;exact a▸nP h
def Px(r:Int)(l:aw)(b d h n:Nat)(w:cw)(q:l.length=n)(j:n<=1000000)(p:bJ w b d l):cP prog 68 #[Y Z r,.slice (V<|S b d U) n h] w λe t=>e=bj (ce<|fH r l)/\t=w:=by
 have s:=ah p;have f:=ah q;clear p q;go_enter func68,ntmps68;go_wp2;go_loop [5] (λi=>∃k:Nat,k<=n/\i=Y Z k/\fH r (l.take k)=da) (λi=>n - (intOf i).toNat);case atStart=>exact⟨0,lB _,rfl,by simp[fH]⟩
 case round=>
  obtain⟨k,u,rfl,j⟩:=hrel;have m:=ah j;clear j;by_cases c:k<n
  .have a:=s.out k (by rw[f.out];exact c);obtain⟨x,hx⟩:=ac<|l.getD k 0;rw[<-hx]at a;have o:=ah hx;clear hx;by_cases g:(x==r)=db
   .go_wp2;go_ret;exact⟨iA (ajY l r k (by rw[f.out];exact c)<|o.out▸g).symm,rfl⟩
   .have g:(x==r)=da:=(by simpa using g);go_wp2;go_round;case rel=>exact⟨k+1,by omega,by go_num,ajZ l r k (by rw[f.out];exact c) m.out<|o.out▸g⟩
    case measure=>simp[intOf];omega
  go_wp2;go_ret;refine⟨iA ?_,rfl⟩;have:=m.out;rw[jY<|by rw[f.out];omega]at this;exact this.symm
def vp(r:Int)(w:cw):cP prog 68 #[Y Z r,R U 0 0] w λe a=>e=bj (ce da)/\a=w:=by go_enter func68,ntmps68;go_wp2;refine dN 1 ?_;rw[bB];go_wp2;go_ret;exact⟨rfl,rfl⟩
def uT(r:Int)(l:aw)(v:cJ)(w:cw)(f:l.length<=1000000)(g:dF w v l):cP prog 68 #[Y Z r,v] w λe h=>e=bj (ce<|fH r l)/\h=w:=by rcases g with⟨rfl,rfl⟩|⟨b,c,a,rfl,d⟩;exact vp r w;exact Px r l b c a l.length w rfl f d
def Om(x y z:Int)(w:cw):cP prog 47 #[df #[Y Z x,Y Z y,Y Z z],df #[Y Z x,Y Z y,Y Z z]] w λe a=>e=bj (ce db)/\cD w.1.size w a:=by go_enter func47,ntmps47;go_wp2;go_ret;exact⟨rfl,by repeat (first|exact aA _ _|refine Below.alloc ?_ (by simp<;>omega) _)⟩
def Below.chain {a b d c:cw}(e:cD a.1.size a b)(h:cD b.1.size b d)(f:cD d.1.size d c):cD a.1.size a c:=
 e.trans ((h.mono e.size).trans (f.mono<|bM e.size h.size))
def uW {W a:cw}(c:cD W.1.size W a):(∀b o,b<W.1.size->a.cell? (S b o U)=W.cell? (S b o U))/\(∀b o,b<W.1.size->a.frozen? (S b o U)=W.frozen? (S b o U)):=
 ⟨λb o h=>c.cell (p:=(S b o U)) h,λb o h=>c.frozen (p:=(S b o U)) h⟩
def bJ.below {W d:cw}{b a:Nat}{l:aw}(h:bJ W b a l)(e:cD W.1.size W d):bJ d b a l:=by intro i f;have:=h i f;rw[<-this];refine e.cell ?_;rcases dc b W.1.size with c|c;exact c;simp[World.cell?,sV c]at this
def dF.below {W d:cw}{v:cJ}{l:aw}(h:dF W v l)(e:cD W.1.size W d):dF d v l:=by rcases h with h|⟨b,c,a,rfl,f⟩;exact .inl h;exact .inr ⟨b,c,a,rfl,f.below e⟩
def afE(x y z:Int)(b:Option Addr)(c:Nat)(w:cw)(hx:(x !=0)=db):cP prog 28 #[R U 0 0,df #[Y Z x,Y Z y,Y Z z],R b 0 c,df #[Y Z x,Y Z y,Y Z z]] w λe d=>e=bj (ce db)/\cD w.1.size w d:=by go_enter func28,ntmps28;go_wp2_with fail;refine(Om x y z _).mono ?_;rintro e h ⟨rfl,a⟩;obtain⟨f,g⟩:=uW a;go_wp2;refine dN 1 ?_;rw[bB];go_wp2;go_ret;exact⟨rfl,(((aA _ _).alloc (au _) _).alloc (by simp) _).trans (a.mono<|by simp;omega)⟩
def X6(y z:Int)(d a:Option Addr)(c f:Nat)(w:cw):cP prog 28 #[R a 0 f,df #[Y Z 0,Y Z y,Y Z z],R d 0 c,df #[Y Z 0,Y Z y,Y Z z]] w λe g=>e=bj (ce db)/\cD w.1.size w g:=by go_enter func28,ntmps28;go_wp2_with fail;refine(Om 0 y z _).mono ?_;rintro e j ⟨rfl,b⟩;obtain⟨h,i⟩:=uW b;go_wp2;refine dN 1 ?_;rw[bB];go_wp2;go_ret;exact⟨rfl,(((aA _ _).alloc (au _) _).alloc (by simp) _).trans (b.mono<|by simp;omega)⟩
def apO(y z:Int)(l:aw)(n b g c o a C:Nat)(w:cw)(q:l.length=n)(J:n<=1000000)(p:bJ w b g l)(d:bJ w o a l):cP prog 28 #[.slice (V<|S b g U) n c,df #[Y Z 0,Y Z y,Y Z z],.slice (V<|S o a U) n C,df #[Y Z 0,Y Z y,Y Z z]] w λe H=>e=bj (ce db)/\cD w.1.size w H:=by
 have t:=ah p;have u:=ah d;have j:=ah q;clear p d q;go_enter func28,ntmps28;go_wp2_with fail;refine(Om 0 y z _).mono ?_;rintro e s ⟨rfl,d⟩;have h:cD w.1.size w s:=(((aA _ _).alloc (au _) _).alloc (by simp) _).trans (d.mono<|by simp;omega);have v:=ah<|t.out.below h;have B:=ah<|u.out.below h;have A:=ah h;obtain⟨F,G⟩:=uW d;clear h;go_wp2;clear F G d;go_loopw [10] (λi wr=>∃k m:Nat,k<=n/\i=Y Z k/\wr=s.drewN m) (λi _=>n - (intOf i).toNat);case atStart=>exact⟨0,0,lB _,rfl,rfl⟩
 case round=>
  obtain⟨k,m,I,rfl,rfl⟩:=hrel;by_cases f:k<n
  .have D:=v.out k (by rw[j.out];exact f);have E:=B.out k (by rw[j.out];exact f);generalize l.getD k 0=x at D E;have r:(k:Int)<(n:Int):=(by omega);go_wp2_with fail;go_quiet(fail);go_wp2;go_roundw;case rel=>exact⟨k+1,_,by omega,by go_num,rfl⟩
   case measure=>simp[intOf];omega
  go_wp2;go_ret;exact⟨rfl,gY A _⟩
def X5(x y z:Int)(l:aw)(m n:cJ)(w:cw)(o:l.length<=1000000)(i:dF w m l)(d:dF w n l)(hx:x≠0->m=R U 0 0):cP prog 28 #[m,df #[Y Z x,Y Z y,Y Z z],n,df #[Y Z x,Y Z y,Y Z z]] w λe p=>e=bj (ce db)/\cD w.1.size w p:=by by_cases g:x=0;subst g;rcases i with⟨rfl,rfl⟩|⟨b,f,c,rfl,i⟩;rcases d with⟨rfl,_⟩|⟨j,a,k,rfl,_⟩;exact X6 y z _ _ _ _ w;exact X6 y z _ _ _ _ w;rcases d with⟨rfl,rfl⟩|⟨j,a,k,rfl,d⟩;exact X6 y z _ _ _ _ w;exact apO y z l l.length b f c j a k w rfl o i d;have:=hx g;subst this;rcases i with⟨_,rfl⟩|⟨b,f,c,h,_⟩;rcases d with⟨rfl,_⟩|⟨j,a,k,rfl,_⟩;exact afE x y z _ _ w (by simpa using g);exact afE x y z _ _ w (by simpa using g);simp at h
def Ct {P:Program}(w:cw){g:Array Oper}{rest:List Oper}{o:Oper}{a:Act}{Q:Exit->Act->cw->Prop}(r:o.guard=U)(s x:Operand)(t:TypeId) (J:o.op= .call {callee:= .builtin .append,args:=#[s,x],argTypes:=#[t,t]}) (b:Nat) (e:TypeId) (i:TypeInfo) (z:cJ) (bytes:Nat) (L:P.underlying t=V (.slice e)) (H:P.info? e=V i) (M:i.zero=V z) (f:i.size=1) (q:i.bytes=bytes) (A:z.cells.size=1) (N:bytes<=64) (v:cJ) (n:Nat) (B:List cJ) (K:a.eval s=v) (c:w.ownsRow b e 1 v n B) (y:cJ) (D:TypeId) (hx:a.eval x= .slice (V<|S w.1.size 0 U) 1 1) (E:y.oneCell'=db) (O:n<=1000000) (d:b<=w.1.size) (h:∀p l,l.ownsRow b e 1 p (n+1) (B++[y])->cD b w l->wpList P g Q rest (a.put o.dst p) l):wpList P g Q (o::rest) a (w.alloc<|bi #[y] D):=by
 refine Kt _ r s x t J b e i z 1 bytes L H M f q A (by decide) v n B K (c.alloc _) (S w.1.size 0 U) 1 1 [y] hx rfl ?_ ?_ ?_ ?_ ?_ ?_
 .intro j u m
  match j,m with
  |0,m=>simp at m;subst m;simp[Addr.add]
 .intro u C;simp at C;subst C;exact E
 .unfold maxLen;omega
 .have:(n+1)*bytes<=1000001*64:=zT (by omega) N;omega
 .simp;omega
 intro p l F G _;exact h p l F<|((aA b w).alloc d _).grown G (by simp;omega) λk I=>(c.lt k I).1
def dF.uo {w:cw}{a:Nat}{e:TypeId}{v:cJ}{n:Nat}{l:aw}(h:w.ownsRow a e 1 v n<|l.map<|Value.int .i64):dF w v l:=by
 have f:l.length=n:=by have:=h.1;simpa using this
 rcases h.2 with⟨rfl,j⟩|⟨g,b,d,rfl,_⟩;exact .inl ⟨rfl,Ua.1<|by omega⟩;refine .inr ⟨g,0,b,by rw[f],λi c=> ?_⟩;have:=h.cellAt i (by omega);rw[fV,this,jC,aK c];simp[aN,aK c]
def aov(w:cw)(l:aw)(t:TypeId):bJ (w.alloc<|bi (l.map<|Value.int .i64).toArray t) w.1.size 0 l:=by intro i a;rw[World.cell?_alloc_at _ _ _ _ rfl];simp[aN,aK a]
def Xc(w:cw)(n:Nat)(l:aw)(b:Array cJ)(t:TypeId)(c:n=w.1.size)(a:b=(l.map<|Value.int .i64).toArray):bJ (w.alloc<|bi b t) n 0 l:=by subst c;subst a;exact aov w l t
def aui(b:UInt8):wrap64 (b.toNat:Int)=(b.toNat:Int):=by have:=b.toNat_lt;exact ai1 _ (by omega)
def Tryz.Dp:(prog.info? 3).map (λi=>(i.zero,i.size,i.bytes))=V (V<|Y Z 0,1,8):=by kernel_rfl
def zX(s:bc):aw:=s.data.toList.map λb=>(b.toNat:Int)
def Fb(s:bc):(zX s).length=s.size:=by simp only[zX,jh,Ov];rfl
def akU(s:bc)(k:Nat)(h:k<s.size):(zX s).take (k+1)=(zX s).take k++[(s[k].toNat:Int)]:=by rw[pR<|by rw[Fb];exact h];congr 1;simp[zX];rfl
def asF(s:bc)(w:cw)(r:s.size<=10000):cP prog 113 #[cd s] w λe l=>∃v,e=bj v/\l.ownsRow w.1.size 3 1 v s.size ((zX s).map (Value.int .i64))/\cD w.1.size w l:=by
 obtain⟨p,o,g,h,j⟩:=fP Tryz.Dp;go_enter func113,ntmps113;go_wp2;go_loopw [3,4] (λv i wr=>∃k:Nat,k<=s.size/\i=Y Z k/\wr.ownsRow w.1.size 3 1 v k (((zX s).take k).map (Value.int .i64))/\cD w.1.size w wr) (λ_ i _=>s.size - (intOf i).toNat);case atStart=>exact⟨0,lB _,rfl,by simpa using fh _ _ _ _,aA _ _⟩
 case round=>
  obtain⟨k,q,rfl,a,c⟩:=hrel;by_cases f:k<s.size
  .have m:=ah<|akU s k f;have n:=c.size;go_wp2_with(at_builtin;refine Ct _ rfl _ _ 31 rfl w.1.size 3 p (Y Z 0) 8 underlying31 o g h j rfl (by decide) _ _ _ rfl a _ _ rfl rfl (by omega) (by omega) ?_);intro t u b d;clear a;go_wp2;go_roundw;case rel=>exact⟨k+1,by omega,by go_num,by rw[m.out];rw[aui]at b;simpa using b,c.trans d⟩
   case measure=>simp[intOf];omega
  go_wp2;go_ret;refine⟨_,rfl,?_,c⟩;have e:k=s.size:=(by omega);subst e;rwa [jY<|by rw[Fb];omega]at a
def cls(r:Int):Int:=
 if(1488<=r/\r<=1514)∨r=8207 then 1
 else if(1575<=r/\r<=1610)∨r=1564 then 2
 else if 48<=r/\r<=57 then 3
 else if r=43∨r=45 then 4
 else if 1632<=r/\r<=1641 then 6
 else if(768<=r/\r<=879)∨(1611<=r/\r<=1618)then 8
 else if r=173∨r=8203 then 9
 else if r=9 then 10
 else if r=32∨r=8195 then 11
 else if 8294<=r/\r<=8297 then 18+r - 8294
 else if fH r [35,36,37,8364]=db then 5
 else if fH r [44,46,47,58]=db then 7
 else if fH r (zX {data:=#[33,34,38,39,40,41,42,59,60,61,62,63,64,91,92,93,94,95,96,123,124,125,126]})=db∨fH r [9001,9002,12296,12297]=db then 12
 else if r=8234 then 13
 else if r=8235 then 14
 else if r=8237 then 15
 else if r=8238 then 16
 else if r=8236 then 17
 else 0
def AO {r:Int}(h:(1488<=r/\r<=1514)∨r=8207):cls r=1:=by unfold cls;rw[aj h]
def A8 {r:Int}(h:(1575<=r/\r<=1610)∨r=1564):cls r=2:=by unfold cls;rw[ai<|by omega];rw[aj h]
def BS {r:Int}(h:48<=r/\r<=57):cls r=3:=by unfold cls;rw[ai<|by omega];rw[ai<|by omega];rw[aj h]
def CE {r:Int}(h:r=43∨r=45):cls r=4:=by unfold cls;rw[ai<|by omega];rw[ai<|by omega];rw[ai<|by omega];rw[aj h]
def CR {r:Int}(h:1632<=r/\r<=1641):cls r=6:=by unfold cls;rw[ai<|by omega];rw[ai<|by omega];rw[ai<|by omega];rw[ai<|by omega];rw[aj h]
def CW {r:Int}(h:(768<=r/\r<=879)∨(1611<=r/\r<=1618)):cls r=8:=by unfold cls;rw[ai<|by omega];rw[ai<|by omega];rw[ai<|by omega];rw[ai<|by omega];rw[ai<|by omega];rw[aj h]
def Db {r:Int}(h:r=173∨r=8203):cls r=9:=by unfold cls;rw[ai<|by omega];rw[ai<|by omega];rw[ai<|by omega];rw[ai<|by omega];rw[ai<|by omega];rw[ai<|by omega];rw[aj h]
def Dc {r:Int}(h:r=9):cls r=10:=by unfold cls;rw[ai<|by omega];rw[ai<|by omega];rw[ai<|by omega];rw[ai<|by omega];rw[ai<|by omega];rw[ai<|by omega];rw[ai<|by omega];rw[aj h]
def Df {r:Int}(h:r=32∨r=8195):cls r=11:=by unfold cls;rw[ai<|by omega];rw[ai<|by omega];rw[ai<|by omega];rw[ai<|by omega];rw[ai<|by omega];rw[ai<|by omega];rw[ai<|by omega];rw[ai<|by omega];rw[aj h]
def Dl {r:Int}(h:8294<=r/\r<=8297):cls r=18+r - 8294:=by unfold cls;rw[ai<|by omega];rw[ai<|by omega];rw[ai<|by omega];rw[ai<|by omega];rw[ai<|by omega];rw[ai<|by omega];rw[ai<|by omega];rw[ai<|by omega];rw[ai<|by omega];rw[aj h]
def qV(r:Int):Prop:=¬((1488<=r/\r<=1514)∨r=8207)/\¬((1575<=r/\r<=1610)∨r=1564)/\¬(48<=r/\r<=57)/\¬(r=43∨r=45)/\¬(1632<=r/\r<=1641)/\¬((768<=r/\r<=879)∨(1611<=r/\r<=1618))/\¬(r=173∨r=8203)/\¬r=9/\¬(r=32∨r=8195)/\¬(8294<=r/\r<=8297)
def Dm {r:Int}(h:qV r):cls r=if fH r [35,36,37,8364]=db then 5 else if fH r [44,46,47,58]=db then 7 else if fH r (zX {data:=#[33,34,38,39,40,41,42,59,60,61,62,63,64,91,92,93,94,95,96,123,124,125,126]})=db∨fH r [9001,9002,12296,12297]=db then 12 else if r=8234 then 13 else if r=8235 then 14 else if r=8237 then 15 else if r=8238 then 16 else if r=8236 then 17 else 0:=by obtain⟨b,c,d,e,f,g,i,j,k,a⟩:=h;unfold cls;rw[ai b,ai c,ai d,ai e,ai f,ai g,ai i,ai j,ai k,ai a]
def Dq(c:Int)(w:cw):cP prog 114 #[Y Z c] w λe g=>e=bj (ce<|aU c)/\g=w:=by
 obtain⟨q,f⟩:=ac<|aU c;rw[<-f];have d:=ah f;clear f;by_cases a:(c==18)=db
 .go_enter func114,ntmps114;go_wp2;go_ret;exact⟨iA<|by rw[d.out,aU,a];rfl,rfl⟩
 have a:=ar a;by_cases b:(c==19)=db
 .go_enter func114,ntmps114;go_wp2;go_ret;exact⟨iA<|by rw[d.out,aU,a,b];rfl,rfl⟩
 have b:=ar b;go_enter func114,ntmps114;go_wp2;go_ret;exact⟨iA<|by rw[d.out,aU,a,b];rfl,rfl⟩
def NM(f:aw)(i b p y a:Nat)(w:cw)(G:f.length=a)(N:a<=1000000)(J:i<=a)(F:bJ w b p f):cP prog 115 #[.slice (V<|S b p U) a y,Y Z i] w λe l=>e=bj (Y Z<|mt f i)/\l=w:=by
 have H:=ah F;have q:=ah G;have D:dd (nj f i i 0):=nj.start f i (by omega);clear F G;go_enter func115,ntmps115;go_wp2;go_loop [5,6] (λn k=>∃(m:Nat)(z:Int),m<=a/\k=Y Z m/\n=Y Z z/\ -(m:Int)<=z/\z<=m/\nj f i m z) (λ_ k=>a - (intOf k).toNat);case atStart=>exact⟨i,0,J,rfl,rfl,by omega,by omega,D⟩
 case round=>
  obtain⟨m,z,M,rfl,rfl,K,L,E⟩:=hrel;have s:=ah E;clear E D;by_cases j:m<a
  .have h:=H.out m (by rw[q.out];exact j);obtain⟨c,hx⟩:=ac<|f.getD m 0;rw[<-hx]at h;have t:=ah hx;have u:dd (m<f.length):=(by show m<f.length;rw[q.out];exact j);clear hx;by_cases d:c=21
   .have C:dd (cP prog 114 #[Y Z c] w λe l=>e=bj (ce da)/\l=w):=(by have:=Dq c w;rw[d,NB]at this;rw[d];exact this);have B:=ah d;have x:=an d;clear d;by_cases g:z - 1=0
    .have o:(z - 1==0)=db:=(by simpa using g);have v:=ah g;clear g;go_wp2_with fail;refine C.out.mono ?_;rintro e l ⟨rfl,rfl⟩;go_wp2;go_ret;refine⟨dX ?_,rfl⟩;rw[s.out.hit u.out (by rw[<-t.out];exact B.out) v.out]
    .have o:(z - 1==0)=da:=(by simpa using g);have v:=ah g;clear g;go_wp2_with fail;refine C.out.mono ?_;rintro e l ⟨rfl,rfl⟩;go_wp2;go_round;case rel=>exact⟨m+1,z - 1,by omega,by go_num,rfl,by omega,by omega,s.out.Fi u (by rw[<-t.out];exact B.out) v.out⟩
     case measure=>simp[intOf];omega
   have r:dd (nj f i (m+1) (if aU c=db then z+1 else z)):=(by have:=s.out.plain u (by rw[<-t.out];exact d);rw[<-t.out]at this;exact this);have x:=ae d;clear d;go_wp2_with fail;refine(Dq c w).mono ?_;rintro e l ⟨rfl,rfl⟩;cases hq:aU c
   .have A:dd (nj f i (m+1) z):=(by have:=r.out;rw[hq]at this;exact this);clear hq r;go_wp2;go_round;case rel=>exact⟨m+1,z,by omega,by go_num,rfl,by omega,by omega,A⟩
    case measure=>simp[intOf];omega
   .have A:dd (nj f i (m+1)<|z+1):=(by have:=r.out;rw[hq]at this;exact this);clear hq r;go_wp2;go_round;case rel=>exact⟨m+1,z+1,by omega,by go_num,rfl,by omega,by omega,A⟩
    case measure=>simp[intOf];omega
  have I:dd (mt f i=a):=(by show mt f i=a;rw[<-q.out];exact s.out.stop<|by rw[q.out];exact j);go_wp2;go_ret;exact⟨dX<|by rw[I.out],rfl⟩
def oO(a:aw)(k:Nat):Prop:=∃f,a.length<=k+f/\found a=lI a f k
def oO.start(a:aw):oO a 0:=⟨a.length,by omega,rfl⟩
def oO.open {a:aw}{k:Nat}(h:oO a k)(b:k<a.length):found a=(if a.getD k 0=0 then 0 else if a.getD k 0=1∨a.getD k 0=2 then 1 else if aU (a.getD k 0)=db then lI a a.length (mt a k+1)else lI a a.length (k+1)):=by
 obtain⟨f,c,e⟩:=h;cases f with
 |zero=>omega
 |succ f=>rw[e,lI,aj b];have d:=vz a k (by omega);rw[Vp a f a.length (mt a k+1) (by omega)<|by omega,Vp a f a.length (k+1) (by omega)<|by omega]
def oO.stop {a:aw}{k:Nat}(h:oO a k)(b:¬k<a.length):found a=0:=by
 obtain⟨f,c,e⟩:=h;rw[e];cases f with
 |zero=>rfl
 |succ f=>rw[lI,ai b]
def oO.zero {a:aw}{k:Nat}(h:oO a k)(c:k<a.length)(b:a.getD k 0=0):found a=0:=by rw[h.open c,aj b]
def oO.one {a:aw}{k:Nat}(h:oO a k)(c:k<a.length)(b:a.getD k 0=1∨a.getD k 0=2):found a=1:=by rw[h.open c,ai<|by omega,aj b]
def oO.EZ {a:aw}{k:Nat}(h:oO a k)(e:k<a.length)(b:¬a.getD k 0=0)(c:¬(a.getD k 0=1∨a.getD k 0=2))(d:aU (a.getD k 0)=db):oO a (mt a k+1):=
 ⟨a.length,by omega,by rw[h.open e,ai b,ai c,aj d]⟩
def oO.next {a:aw}{k:Nat}(h:oO a k)(e:k<a.length)(b:¬a.getD k 0=0)(c:¬(a.getD k 0=1∨a.getD k 0=2))(d:aU (a.getD k 0)=da):oO a (k+1):=
 ⟨a.length,by omega,by rw[h.open e,ai b,ai c,ai<|by rw[d];decide]⟩
def Vq(a:aw)(b f l d:Nat)(w:cw)(F:a.length=d)(K:d<=1000000)(E:bJ w b f a):cP prog 70 #[.slice (V<|S b f U) d l] w λe u=>e=bj (Y Z<|found a)/\u=w:=by
 have C:=ah E;have s:=ah F;clear E F;go_enter func70,ntmps70;go_wp2;go_loop [3] (λi=>∃k:Nat,k<=d+1/\i=Y Z k/\oO a k) (λi=>d+1 - (intOf i).toNat);case atStart=>exact⟨0,by omega,rfl,oO.start a⟩
 case round=>
  obtain⟨k,L,rfl,D⟩:=hrel;have p:=ah D;clear D;by_cases n:k<d
  .have m:=C.out k (by rw[s.out];exact n);obtain⟨c,hx⟩:=ac<|a.getD k 0;rw[<-hx]at m;have j:=ah hx;have o:dd (k<a.length):=(by show k<a.length;rw[s.out];exact n);clear hx;by_cases g:c=0
   .have h:dd (found a=0):=p.out.zero o (by rw[<-j.out];exact g);have y:=an g;clear g;go_wp2;go_ret;exact⟨dX<|by rw[h.out],rfl⟩
   have y:=ae g;by_cases r:c=1
   .have h:dd (found a=1):=p.out.one o (by rw[<-j.out];exact .inl r);have z:=an r;clear g r;go_wp2;go_ret;exact⟨dX<|by rw[h.out],rfl⟩
   have z:=ae r;by_cases t:c=2
   .have h:dd (found a=1):=p.out.one o (by rw[<-j.out];exact .inr t);have A:=an t;clear g r t;go_wp2;go_ret;exact⟨dX<|by rw[h.out],rfl⟩
   have A:=ae t;have B:dd (¬a.getD k 0=0):=(by show¬_;rw[<-j.out];exact g);have G:dd (¬(a.getD k 0=1∨a.getD k 0=2)):=(by show¬_;rw[<-j.out];omega);clear g r t;go_wp2_with fail;refine(Dq c w).mono ?_;rintro e u ⟨rfl,rfl⟩;cases v:aU c
   .have x:dd (oO a<|k+1):=p.out.next o B G (by rw[<-j.out];exact v);clear v;go_wp2;go_round;case rel=>exact⟨k+1,by omega,by go_num,x⟩
    case measure=>simp[intOf];omega
   have x:dd (oO a<|mt a k+1):=p.out.EZ o B G (by rw[<-j.out];exact v);have J:=vz a k<|gV o;have I:dd (cP prog 115 #[.slice (V<|S b f U) d l,Y Z k] u λe H=>e=bj (Y Z<|mt a k)/\H=u):=
    NM a k b f l d u s K (by omega) C.out
   rw[s.out]at J;generalize mt a k=q at*;clear v;go_wp2_with fail;refine I.out.mono ?_;rintro e H ⟨rfl,rfl⟩;go_wp2;go_round;case rel=>exact⟨q+1,by omega,by go_num,x⟩
   case measure=>simp[intOf];omega
  have h:dd (found a=0):=p.out.stop (by rw[s.out];exact n);go_wp2;go_ret;exact⟨dX<|by rw[h.out],rfl⟩
def Fs(c:Int)(w:cw):cP prog 192 #[Y Z c] w λe p=>e=bj (Y Z<|bH c)/\p=w:=by
 obtain⟨q,n⟩:=ac<|bH c;rw[<-n];have h:=ah n;clear n;by_cases a:c=0
 .have b:=ah a;have j:=an a;clear a;go_enter func192,ntmps192;go_wp2;go_ret;exact⟨dX<|by rw[h.out,bH,aj b.out],rfl⟩
 have j:=ae a;by_cases f:c=1
 .have b:=ah f;have d:=ah a;have k:=an f;clear a f;go_enter func192,ntmps192;go_wp2;go_ret;exact⟨dX<|by rw[h.out,bH,ai d.out,aj<|by have:=b.out;omega],rfl⟩
 have k:=ae f;by_cases g:c=3
 .have b:=ah g;have d:=ah a;have l:=an g;clear a f g;go_enter func192,ntmps192;go_wp2;go_ret;exact⟨dX<|by rw[h.out,bH,ai d.out,aj<|by have:=b.out;omega],rfl⟩
 have l:=ae g;by_cases i:c=6
 .have b:=ah i;have d:=ah a;have m:=an i;clear a f g i;go_enter func192,ntmps192;go_wp2;go_ret;exact⟨dX<|by rw[h.out,bH,ai d.out,aj<|by have:=b.out;omega],rfl⟩
 have m:=ae i;have d:=ah a;have o:dd (¬(c=1∨c=3∨c=6)):=by show¬_;omega
 clear a f g i;go_enter func192,ntmps192;go_wp2;go_ret;exact⟨dX<|by rw[h.out,bH,ai d.out,ai o.out],rfl⟩
def Kk(a b:Int)(w:cw)(m:0<=a)(j:a<=1000)(n:0<=b)(k:b<=1000):cP prog 189 #[Y Z a,Y Z b] w λe l=>e=bj (Y Z<|jA a b)/\l=w:=by
 obtain⟨q,i⟩:=ac<|jA a b;rw[<-i];have g:=ah i;clear i;by_cases h:a<b
 .by_cases c:b%2=1
  .have f:(b%2==1)=db:=(by simpa using c);have d:=ah c;clear c;go_enter func189,ntmps189;go_wp2;go_ret;exact⟨dX<|by rw[g.out,jA,aj h,aj d.out],rfl⟩
  have f:(b%2==1)=da:=(by simpa using c);have d:=ah c;clear c;go_enter func189,ntmps189;go_wp2;go_ret;exact⟨dX<|by rw[g.out,jA,aj h,ai d.out],rfl⟩
 by_cases c:a%2=1
 .have f:(a%2==1)=db:=(by simpa using c);have d:=ah c;clear c;go_enter func189,ntmps189;go_wp2;go_ret;exact⟨dX<|by rw[g.out,jA,ai (by omega:¬a<b),aj d.out],rfl⟩
 have f:(a%2==1)=da:=(by simpa using c);have d:=ah c;clear c;go_enter func189,ntmps189;go_wp2;go_ret;exact⟨dX<|by rw[g.out,jA,ai (by omega:¬a<b),ai d.out],rfl⟩
def aog(c l:Int)(w:cw)(u:0<=l)(s:l<=1000):cP prog 128 #[Y Z c,Y Z l] w λe t=>e=bj (Y Z<|pF c l)/\t=w:=by
 obtain⟨q,o⟩:=ac<|pF c l;rw[<-o];have g:=ah o;clear o;by_cases h:l%2=0
 .have r:(l%2==0)=db:=by simpa using h
  have d:=ah h;clear h;by_cases a:c=1
  .have f:=an a;have b:=ah a;clear a;go_enter func128,ntmps128;go_wp2;go_ret;exact⟨dX<|by rw[g.out,pF,aj d.out,aj b.out],rfl⟩
  have f:=ae a;by_cases i:c=6
  .have n:=an i;have b:=ah i;have j:=ah a;clear a i;go_enter func128,ntmps128;go_wp2;go_ret;exact⟨dX<|by rw[g.out,pF,aj d.out,ai j.out,aj<|by have:=b.out;omega],rfl⟩
  have n:=ae i;by_cases k:c=3
  .have m:=an k;have b:=ah k;have j:=ah a;clear a i k;go_enter func128,ntmps128;go_wp2;go_ret;exact⟨dX<|by rw[g.out,pF,aj d.out,ai j.out,aj<|by have:=b.out;omega],rfl⟩
  have m:=ae k;have j:=ah a;have p:dd (¬(c=6∨c=3)):=by show¬_;omega
  clear a i k;go_enter func128,ntmps128;go_wp2;go_ret;exact⟨dX<|by rw[g.out,pF,aj d.out,ai j.out,ai p.out],rfl⟩
 have r:(l%2==0)=da:=by simpa using h
 have d:=ah h;clear h;by_cases a:c=1
 .have f:=an a;have b:=ah a;clear a;go_enter func128,ntmps128;go_wp2;go_ret;exact⟨dX<|by rw[g.out,pF,ai d.out,aj b.out],rfl⟩
 have f:=ae a;have b:=ah a;clear a;go_enter func128,ntmps128;go_wp2;go_ret;exact⟨dX<|by rw[g.out,pF,ai d.out,ai b.out],rfl⟩
def Rn(c:Int)(w:cw):cP prog 129 #[Y Z c] w λe g=>e=bj (ce<|mj c)/\g=w:=by
 obtain⟨q,f⟩:=ac<|mj c;rw[<-f];have d:=ah f;clear f;by_cases a:(c==11)=db
 .go_enter func129,ntmps129;go_wp2;go_ret;exact⟨iA<|by rw[d.out,mj,a];rfl,rfl⟩
 have a:=ar a;by_cases b:(c==9)=db
 .go_enter func129,ntmps129;go_wp2;go_ret;exact⟨iA<|by rw[d.out,mj,a,b];rfl,rfl⟩
 have b:=ar b;go_enter func129,ntmps129;go_wp2;go_ret;exact⟨iA<|by rw[d.out,mj,a,b];rfl,rfl⟩
def Ay(a:aw)(i:Nat):Nat->Int
 |0=> -1
 |n+1=>if aU (a.getD (i - (n+1)) 0)=db/\mt a (i - (n+1))=i then((i - (n+1):Nat):Int)else Ay a i n
def opener(a:aw)(i:Nat):Int:=Ay a i i
def ap7(a:aw)(i b f h d:Nat)(w:cw)(D:a.length=d)(I:d<=1000000)(J:i<=d)(C:bJ w b f a):cP prog 122 #[.slice (V<|S b f U) d h,Y Z i] w λe o=>e=bj (Y Z<|opener a i)/\o=w:=by
 have x:=ah C;have s:=ah D;clear C D;obtain⟨q,g⟩:=ac<|opener a i;rw[<-g];have A:=ah g;clear g;go_enter func122,ntmps122;go_wp2;go_loop [5] (λk=>∃m:Nat,m<=i/\k=Y Z m/\q=Ay a i (i - m)) (λk=>i - (intOf k).toNat);case atStart=>exact⟨0,by omega,rfl,A⟩
 case round=>
  obtain⟨m,K,rfl,B⟩:=hrel;have t:=ah B;clear B A;by_cases F:m<i
  .have j:=x.out m (by rw[s.out];omega);obtain⟨c,hx⟩:=ac<|a.getD m 0;rw[<-hx]at j;have p:dd (q=if aU c=db/\mt a m=i then(m:Int)else Ay a i (i - (m+1))):=(by have:=t.out;rw[show i - m=(i - (m+1))+1 by omega,Ay,show i - (i - (m+1)+1)=m by omega,<-hx]at this;exact this);clear hx t;have G:(m:Int)<(d:Int):=(by omega);go_wp2_with fail;refine(Dq c w).mono ?_;rintro e o ⟨rfl,rfl⟩;cases g:aU c
   .have E:dd (q=Ay a i (i - (m+1))):=(by have:=p.out;rw[g,ai<|by simp]at this;exact this);clear g p;go_wp2;go_round;case rel=>exact⟨m+1,by omega,by go_num,E⟩
    case measure=>simp[intOf];omega
   have y:dd (cP prog 115 #[.slice (V<|S b f U) d h,Y Z m] o λe v=>e=bj (Y Z<|mt a m)/\v=o):=
    NM a m b f h d o s I (by omega) x.out
   have H:=vz a m (by rw[s.out];omega);have r:dd (q=if mt a m=i then(m:Int)else Ay a i (i - (m+1))):=(by have:=p.out;rw[g]at this;show q=_;simpa using this);generalize mt a m=z at*;clear g p;by_cases n:z=i
   .have l:dd (q=(m:Int)):=(by have:=r.out;rw[aj n]at this;exact this);have u:((z:Int)==(i:Int))=db:=(by simp[n]);clear n r;go_wp2_with fail;refine y.out.mono ?_;rintro e v ⟨rfl,rfl⟩;go_wp2;go_ret;exact⟨dX<|by rw[l.out],rfl⟩
   .have l:dd (q=Ay a i (i - (m+1))):=(by have:=r.out;rw[ai n]at this;exact this);have u:((z:Int)==(i:Int))=da:=(by simp;omega);clear n r;go_wp2_with fail;refine y.out.mono ?_;rintro e v ⟨rfl,rfl⟩;go_wp2;go_round;case rel=>exact⟨m+1,by omega,by go_num,l⟩
    case measure=>simp[intOf];omega
  have l:dd (q= -1):=(by have:=t.out;rw[show i - m=0 by omega]at this;exact this);go_wp2;go_ret;exact⟨dX<|by rw[l.out],rfl⟩
structure aY where
 l:Int
 o:Int
 i:Bool
def aY.cells(e:aY):List cJ:=[Y Z e.l,Y Z e.o,ce e.i]
def kM(a:List aY):List cJ:=a.flatMap aY.cells
def Mg(a:List aY):(kM a).length=a.length*3:=by
 induction a with
 |nil=>rfl
 |cons e r ih=>simp only[kM,yF,bG]at ih ⊢;rw[ih];simp[aY.cells];omega
def Qj(a:List aY)(e:aY):kM (a++[e])=kM a++e.cells:=by simp[kM]
def Va(a:List aY)(e:aY)(j:Nat)(b:j<3):(kM<|a++[e])[a.length*3+j]? =e.cells[j]? :=by rw[Qj,tH<|by rw[Mg];omega,Mg];congr 1;omega
structure dG(w:World)(B s:Nat)(v:Value)(st:List aY)(aM aV valid:Int):Prop where
 cell:w.1[s]? =some (.cells #[v,.int .i64 aM,.int .i64 aV,.int .i64 valid] 184 (0,0))
 row:w.ownsRow B 181 3 v st.length<|kM st
 low:B<=s
def az {w:cw}{s:Nat}{a:Array cJ}{t:TypeId}{b:Nat×Nat}(h:w.1[s]? =V (bi a t b))(j:Nat):w.cell? (S s j U)=a[j]? :=by simp[World.cell?,h]
def cB {w:cw}{s:Nat}{a:Array cJ}{t:TypeId}(h:w.1[s]? =V (bi a t (0,0)))(j:Nat):w.frozen? (S s j U)=da:=by simp[World.frozen?,h]
def Tryz.al7(l o:Int)(i:Bool)(w:cw):(Instr.field 181 (df #[Y Z l,Y Z o,ce i]) 0).run prog w= .ok (Y Z l) w:=by kernel_rfl
def Tryz.UI(l o:Int)(i:Bool)(w:cw):(Instr.field 181 (df #[Y Z l,Y Z o,ce i]) 2).run prog w= .ok (ce i) w:=by kernel_rfl
def Sb(w:cw)(B s:Nat)(v:cJ)(b:List aY)(e:aY)(q r d:Int)(h:dG w B s v (b++[e]) q r d)(A:b.length<=1000000):cP prog 117 #[.pointer<|V<|S s 0 U] w λz D=>z=bj (df #[Y Z e.l,Y Z e.o,ce e.i])/\cD w.1.size w D:=by
 have k:=az h.cell;have j:w.cell? (S s 0 U)=V v:=k 0;have F:s<w.1.size:=by rcases dc s w.1.size with i|i;exact i;have:=h.cell;rw[sV i]at this;cases this
 obtain⟨g,c,C,l,u,x,y⟩:∃g c,v= .slice (V<|S g 0 U) (b.length+1) c/\g<w.1.size/\w.cell? (S g (b.length*3) U)=V (Y Z e.l)/\w.cell? (S g (b.length*3+1) U)=V (Y Z e.o)/\w.cell? (S g (b.length*3+2) U)=V (ce e.i):=by have a:=h.row;rcases a.2 with⟨_,j⟩|⟨g,c,t,rfl,_,E,_⟩;simp at j;have l:=(a.lt g rfl).2;have m:=a.cellAt (b.length*3) (by simp<;>omega);have o:=a.cellAt (b.length*3+1) (by simp<;>omega);have p:=a.cellAt (b.length*3+2) (by simp<;>omega);rw[show b.length*3=b.length*3+0 from rfl,Va b e 0<|by omega]at m;rw[Va b e 1<|by omega]at o;rw[Va b e 2<|by omega]at p;exact⟨g,c,by simp,l,m,o,p⟩
 subst C;obtain⟨n,f⟩:=ac b.length;rw[<-f]at j u x y A;clear k h f;go_enter func117,ntmps117;go_wp2;go_region;go_wp2;exact bU (v:=df #[Y Z e.l,Y Z e.o,ce e.i]) (by simp[results,results117,go_sem]) rfl ⟨rfl,((aA _ _).alloc (au _) _).drew⟩
structure XS where
 st:List aY
 aM:Int
 aV:Int
 valid:Int
def jt(l a:Int):Int:=if(l+1)%2=a then l+1 else l+2
def bq(a:List aY):aY:=a.getLastD ⟨0, -1,da⟩
def pY(x:XS)(n:Int):Bool:=decide (n<=125)&&(x.aM==0&&x.aV==0)
def dG.below {w i:cw}{B s:Nat}{v:cJ}{f:List aY}{a b c:Int}(h:dG w B s v f a b c)(d:cD w.1.size w i):dG i B s v f a b c:=
 ⟨by rw[d.block s];exact h.cell;rcases dc s w.1.size with e|e;exact e;(have:=h.cell;rw[sV e]at this;cases this),
  h.row.kept ⟨d.os,d.tape,d.output,d.size,λj l _=>d.block j l⟩ (row:=U) (by rcases h.row.2 with⟨rfl,_⟩|⟨g,m,k,rfl,_⟩<;>simp[Value.ownBlock]),h.low⟩
def afy(w:cw)(B s:Nat)(v:cJ)(n:List aY)(e:aY)(r t a b:Int)(h:dG w B s v (n++[e]) r t a)(y:n.length<=1000000)(x:0<=e.l)(j:e.l<=1000):cP prog 187 #[.pointer<|V<|S s 0 U,Y Z b] w λu z=>u=bj (Y Z<|jt e.l b)/\cD w.1.size w z:=by
 have f:=ah<|Sb w B s v n e r t a h y;obtain⟨l,o,i⟩:=e;simp only at x j f ⊢;obtain⟨q,m⟩:=ac<|jt l b;rw[<-m];have p:=ah m;have C:=Tryz.al7;clear h m;by_cases c:(l+1)%2=b
 .have d:=ah c;have k:((l+1)%2 !=b)=da:=by simpa using c
  clear c;go_enter func187,ntmps187;go_wp2_with fail;refine f.out.mono ?_;rintro e A ⟨rfl,g⟩;go_wp2;go_ret;exact⟨dX<|by rw[p.out,jt,aj d.out],g⟩
 have d:=ah c;have k:((l+1)%2 !=b)=db:=by simpa using c
 clear c;go_enter func187,ntmps187;go_wp2_with fail;refine f.out.mono ?_;rintro e A ⟨rfl,g⟩;go_wp2;go_ret;exact⟨dX<|by rw[p.out,jt,ai d.out];omega,g⟩
def QT(w:cw)(s:Nat)(v:cJ)(b c a n:Int)(j:List aY)(h:w.1[s]? =V (bi #[v,Y Z b,Y Z c,Y Z a] 184 (0,0))):cP prog 188 #[.pointer<|V<|S s 0 U,Y Z n] w λk l=>k=bj (ce<|pY ⟨j,b,c,a⟩ n)/\l=w:=by
 have m:w.cell? (S s 1 U)=V (Y Z b):=az h 1;have o:w.cell? (S s 2 U)=V (Y Z c):=az h 2;obtain⟨q,i⟩:=ac<|pY ⟨j,b,c,a⟩ n;rw[<-i];have e:dd (q=(decide (n<=125)&&(b==0&&c==0))):=i;clear h i;by_cases f:n<=125
 .by_cases d:(b==0)=db
  .go_enter func188,ntmps188;go_wp2;go_ret;exact⟨iA<|by rw[e.out,d,nB f];rfl,rfl⟩
  have d:=ar d;go_enter func188,ntmps188;go_wp2;go_ret;exact⟨iA<|by rw[e.out,d,nB f];rfl,rfl⟩
 have g:decide (n<=125)=da:=by simpa using f
 go_enter func188,ntmps188;go_wp2;go_ret;exact⟨iA<|by rw[e.out,g];rfl,rfl⟩
def aR {w b:cw}(c:cD w.1.size w b){k:Nat}{o:Obj}(h:w.1[k]? =V o):b.1[k]? =V o:=by rw[c.block k ?_];exact h;rcases dc k w.1.size with a|a;exact a;simp[sV a]at h
def cU {w c:cw}(d:cD w.1.size w c){a:Addr}{v:cJ}(h:w.cell? a=V v):c.cell? a=V v:=by rw[<-h];refine d.cell ?_;rcases dc a.block w.1.size with b|b;exact b;simp[World.cell?,sV b]at h
def rT {P:Program}(w:cw){g:Array Oper}{rest:List Oper}{o:Oper}{a:Act}{Q:Exit->Act->cw->Prop}(A:o.guard=U)(s x:Operand)(t:TypeId) (K:o.op= .call {callee:= .builtin .append,args:=#[s,x],argTypes:=#[t,t]}) (b:Nat) (e:TypeId) (i:TypeInfo) (z:cJ) (bytes:Nat) (M:P.underlying t=V (.slice e)) (I:P.info? e=V i) (N:i.zero=V z) (c:i.size=1) (r:i.bytes=bytes) (C:z.cells.size=1) (O:bytes<=64) (v:cJ) (n:Nat) (D:List cJ) (L:a.eval s=v) (f:w.ownsRow b e 1 v n D) (y:cJ) (F:TypeId) (hx:a.eval x= .slice (V<|S w.1.size 0 U) 1 1) (G:y.oneCell'=db) (R:n<=1000000) (q:b<=w.1.size) (h:∀p l,l.ownsRow b e 1 p (n+1) (D++[y])->w.grownBy l v.ownBlock->wpList P g Q rest (a.put o.dst p) l):wpList P g Q (o::rest) a (w.alloc<|bi #[y] F):=by
 refine Kt _ A s x t K b e i z 1 bytes M I N c r C (by decide) v n D L (f.alloc _) (S w.1.size 0 U) 1 1 [y] hx rfl ?_ ?_ ?_ ?_ ?_ ?_
 .intro j u m
  match j,m with
  |0,m=>simp at m;subst m;simp[Addr.add]
 .intro u E;simp at E;subst E;exact G
 .unfold maxLen;omega
 .have:(n+1)*bytes<=1000001*64:=zT (by omega) O;omega
 .simp;omega
 intro p l H d _;refine h p l H ⟨d.os,d.tape,d.output,?_,λk J B=> ?_⟩;have:=d.size;simp at this;omega;rw[d.block k (by simp;omega) B];exact dh w _ k J
def kS {w d:cw}{a:Nat}{e:TypeId}{size:Nat}{v:cJ}{n:Nat}{f:List cJ}(h:w.ownsRow a e size v n f)(m:∀k o,v.ownBlock=V k->w.1[k]? =V o->d.1[k]? =V o):d.ownsRow a e size v n f:=by refine⟨h.1,?_⟩;rcases h.2 with h|⟨g,b,c,rfl,i,j,l⟩;exact .inl h;exact .inr ⟨g,b,c,rfl,i,m g _ rfl j,l⟩
def zh {w:cw}{a:Nat}{e:TypeId}{size:Nat}{v:cJ}{n:Nat}{i:List cJ}(h:w.ownsRow a e size v n i){K:Nat}{s:bc}{p:Nat}(f:w.1[K]? =V (.stringIter s p)):v.ownBlock≠V K:=by rcases h.2 with⟨rfl,_⟩|⟨g,c,d,rfl,j,b,k⟩;simp[Value.ownBlock];simp only[Value.ownBlock];intro e;obtain rfl:=aI e;rw[f]at b;cases b
structure Fr(B s:Nat)(w w':World):Prop where
 below:Below B w w'
 AA:Lib.OthersKept 181 (some s) w w'
def Fr.refl(B s:Nat)(w:cw):Fr B s w w:=⟨aA _ _,j6 _ _ _⟩
def Fr.trans {B s:Nat}{a b c:cw}(h:Fr B s a b)(k:Fr B s b c):Fr B s a c:=⟨h.below.trans k.below,h.AA.trans k.AA⟩
def Fr.of_below {B s:Nat}{w b:cw}(c:B<=w.1.size)(a:cD w.1.size w b):Fr B s w b:=⟨a.mono c,λ_ _ h _ _=>aR a h⟩
def Fr.set {B s:Nat}{w:cw}(a:B<=s)(j:Nat)(u:cJ):Fr B s w (w.setCell (S s j U) u):=
 ⟨(aA _ _).setCell a u,(j6 _ _ _).setCell (S s j U) rfl u⟩
def dG.lt {w:cw}{B s:Nat}{v:cJ}{e:List aY}{a b c:Int}(h:dG w B s v e a b c):s<w.1.size:=by rcases dc s w.1.size with d|d;exact d;have:=h.cell;rw[sV d]at this;cases this
def dG.ne {w:cw}{B s:Nat}{v:cJ}{i:List aY}{a b c:Int}(h:dG w B s v i a b c):v.ownBlock≠V s:=by rcases h.row.2 with⟨rfl,_⟩|⟨g,j,f,rfl,_,d,_⟩;simp[Value.ownBlock];simp only[Value.ownBlock];intro e;obtain rfl:=aI e;rw[h.cell]at d;simp at d
def kT {w:cw}{B s:Nat}{v:cJ}{e:TypeId}{z n:Nat}{b:List cJ}(h:w.ownsRow B e z v n b)(a:v.ownBlock≠V s)(j:Nat)(u:cJ):(w.setCell (S s j U) u).ownsRow B e z v n b:=
 kS h λk o c d=>by rw[iX];exact d;rintro rfl;exact a c
def dG.N9 {w:cw}{B s:Nat}{v:cJ}{d:List aY}{a b c:Int}(h:dG w B s v d a b c)(z:Int):dG (w.setCell (S s 1 U)<|Y Z z) B s v d z b c:=
 ⟨by rw[fe h.cell];rfl,kT h.row h.ne _ _,h.low⟩
def dG.Hu {w:cw}{B s:Nat}{v:cJ}{d:List aY}{a b c:Int}(h:dG w B s v d a b c)(z:Int):dG (w.setCell (S s 2 U)<|Y Z z) B s v d a z c:=
 ⟨by rw[fe h.cell];rfl,kT h.row h.ne _ _,h.low⟩
def dG.Oa {w:cw}{B s:Nat}{v:cJ}{d:List aY}{a b c:Int}(h:dG w B s v d a b c)(z:Int):dG (w.setCell (S s 3 U)<|Y Z z) B s v d a b z:=
 ⟨by rw[fe h.cell];rfl,kT h.row h.ne _ _,h.low⟩
def Tryz.aeC:(prog.info? 181).map (λi=>(i.zero,i.size,i.bytes))=V (V<|df #[Y Z 0,Y Z 0,ce da],3,24):=by kernel_rfl
def aia {P:Program}(w:cw){l:Array Oper}{rest:List Oper}{o:Oper}{a:Act}{Q:Exit->Act->cw->Prop}(D:o.guard=U)(s x:Operand)(t:TypeId) (N:o.op= .call {callee:= .builtin .append,args:=#[s,x],argTypes:=#[t,t]}) (b:Nat) (e:TypeId) (i:TypeInfo) (z:cJ) (bytes:Nat) (R:P.underlying t=V (.slice e)) (M:P.info? e=V i) (T:i.zero=V z) (d:i.size=3) (C:i.bytes=bytes) (G:z.cells.size=3) (W:bytes<=64) (v:cJ) (n:Nat) (H:List cJ) (O:a.eval s=v) (g:w.ownsRow b e 3 v n H) (q r y:cJ) (J:TypeId) (k:Nat) (hx:a.eval x= .slice (V<|S k 0 U) 1 1) (E:k=w.1.size) (K:q.oneCell'=db) (L:r.oneCell'=db) (A:y.oneCell'=db) (X:n<=1000000) (B:b<=w.1.size) (h:∀p m,m.ownsRow b e 3 p (n+1) (H++[q,r,y])->w.grownBy m v.ownBlock->wpList P l Q rest (a.put o.dst p) m):wpList P l Q (o::rest) a (w.alloc<|bi #[q,r,y] J):=by
 subst E;refine Kt _ D s x t N b e i z 3 bytes R M T d C G (by decide) v n H O (g.alloc _) (S w.1.size 0 U) 1 1 [q,r,y] hx rfl ?_ ?_ ?_ ?_ ?_ ?_
 .intro j u c
  match j,c with
  |0,c=>simp at c;subst c;simp[Addr.add]
  |1,c=>simp at c;subst c;simp[Addr.add]
  |2,c=>simp at c;subst c;simp[Addr.add]
 .intro u I;simp at I;rcases I with rfl|rfl|rfl;exact K;exact L;exact A
 .unfold maxLen;omega
 .have:(n+1)*bytes<=1000001*64:=zT (by omega) W;omega
 .simp;omega
 intro p m A f _;refine h p m A ⟨f.os,f.tape,f.output,?_,λk E F=> ?_⟩;have:=f.size;simp at this;omega;rw[f.block k (by simp;omega) F];exact dh w _ k E
def afX {w:cw}{B:Nat}{e:TypeId}{z k:Nat}{v:cJ}{f:List cJ}(h:w.ownsRow B e z v (k+1) f):∃g a,v= .slice (V<|S g 0 U) (k+1) a:=by rcases h.2 with⟨_,d⟩|⟨g,b,c,rfl,_⟩;cases d;exact⟨g,b,rfl⟩
def dG.push {w i:cw}{B s:Nat}{v j:cJ}{o:List aY}{a b c:Int}{e:aY}(h:dG w B s v o a b c)(d:i.ownsRow B 181 3 j (o.length+1)<|kM o++[Y Z e.l,Y Z e.o,ce e.i])(p:w.grownBy i v.ownBlock):dG (i.setCell (S s 0 U) j) B s j (o++[e]) a b c/\Fr B s w (i.setCell (S s 0 U) j)/\i.cell? (S s 0 U)=V v/\i.frozen? (S s 0 U)=da:=by
 have n:i.1[s]? =V (bi #[v,Y Z a,Y Z b,Y Z c] 184 (0,0)):=by rw[p.block s h.lt h.ne.symm];exact h.cell
 have q:j.ownBlock≠V s:=by rcases d.2 with⟨rfl,_⟩|⟨g,r,l,rfl,_,m,_⟩;simp[Value.ownBlock];simp only[Value.ownBlock];intro e;obtain rfl:=aI e;rw[n]at m;simp at m
 refine⟨⟨by rw[fe n];rfl,?_,h.low⟩,⟨?_,?_⟩,az n 0,cB n 0⟩;have:=kT d q 0 j;rw[Qj];simpa [aY.cells]using this;exact((aA B w).grown p (bM h.low<|gV h.lt) λk t=>(h.row.lt k t).1).setCell h.low _;refine((j6 _ _ _).grown p λg f=> ?_).setCell (S s 0 U) rfl _;rcases h.row.2 with⟨rfl,_⟩|⟨u,r,l,rfl,_,m,_⟩;simp[Value.ownBlock]at f;simp only[Value.ownBlock,CZ]at f;subst f;exact⟨l,_,m⟩
def lH(x:XS)(c:Int):XS:=
 let n:=jt (bq x.st).l (if c=14∨c=16 then 1 else 0)
 if pY x n=db then{x with st:=x.st++[⟨n,if c=15 then 0 else if c=16 then 1 else -1,da⟩]}
 else if x.aM=0 then{x with aV:=x.aV+1}else x
def jP(x:XS)(a:Int):XS:=
 let n:=jt (bq x.st).l a
 if pY x n=db then{x with st:=x.st++[⟨n, -1,db⟩],valid:=x.valid+1}else{x with aM:=x.aM+1}
def Hz(a:List aY)(e:aY):bq (a++[e])=e:=by simp[bq]
def ako(w:cw)(B s:Nat)(v:cJ)(x:XS)(d:Int)(h:dG w B s v x.st x.aM x.aV x.valid)(o:x.st≠[])(M:x.st.length<=1000)(r:0<=(bq x.st).l)(k:(bq x.st).l<=1000) (X:0<=x.aM/\x.aM<=100000) (hv:0<=x.valid/\x.valid<=100000):cP prog 119 #[.pointer<|V<|S s 0 U,Y Z d] w λp t=>p=bj (de #[])/\Fr B s w t/\∃P,dG t B s P (jP x d).st (jP x d).aM (jP x d).aV (jP x d).valid:=by
 obtain⟨i0,C,E,F,G⟩:=fP Tryz.aeC;obtain⟨H,f,i,a⟩:=x;simp only at h o M r k X hv;obtain⟨b,e,rfl⟩:∃b e,H=b++[e]:=⟨H.dropLast,H.getLast o,(F4 o).symm⟩
 rw[Hz]at r k;simp only[bG,eU,kW]at M;have J:dd (cP prog 187 #[.pointer<|V<|S s 0 U,Y Z d] w λp t=>p=bj (Y Z<|jt e.l d)/\cD w.1.size w t):=afy w B s v b e f i a d h (by omega) r k;obtain⟨y,D⟩:=ac<|jP ⟨b++[e],f,i,a⟩ d;rw[<-D];have q:dd (y=if pY ⟨b++[e],f,i,a⟩ (jt e.l d)=db then⟨(b++[e])++[⟨jt e.l d, -1,db⟩],f,i,a+1⟩else⟨b++[e],f+1,i,a⟩):=by have:=D;unfold jP at this;simp only[Hz]at this;exact this
 have u:=ah h;clear h D r k;generalize jt e.l d=n at*;go_enter func119,ntmps119;go_wp2_with fail;refine J.out.mono ?_;rintro p Q ⟨rfl,m⟩;have c:=ah<|u.out.below m;have O:dd (Fr B s w Q):=Fr.of_below (bM u.out.low<|gV u.out.lt) m;clear m J;go_wp2_with fail;refine(QT Q s v f i a n (b++[e]) c.out.cell).mono ?_;rintro p j ⟨rfl,rfl⟩;have c0:j.cell? (S s 0 U)=V v:=az c.out.cell 0;have c1:j.cell? (S s 1 U)=V (Y Z f):=az c.out.cell 1;have c3:j.cell? (S s 3 U)=V (Y Z a):=az c.out.cell 3;have f0:j.frozen? (S s 0 U)=da:=cB c.out.cell 0;have f1:j.frozen? (S s 1 U)=da:=cB c.out.cell 1;have f3:j.frozen? (S s 3 U)=da:=cB c.out.cell 3;cases hq:pY ⟨b++[e],f,i,a⟩ n
 .have I:dd (y=⟨b++[e],f+1,i,a⟩):=by have:=q.out;rw[hq,ai<|by decide]at this;exact this
  clear hq q;go_wp2;go_end0;rw[I.out];exact⟨rfl,O.out.trans<|Fr.set c.out.low _ _,v,c.out.N9 _⟩
 have I:dd (y=⟨(b++[e])++[⟨n, -1,db⟩],f,i,a+1⟩):=by have:=q.out;rw[hq,aj rfl]at this;exact this
 clear hq q;have z:dd (dG (j.setCell (S s 3 U)<|Y Z<|a+1) B s v (b++[e]) f i<|a+1):=c.out.Oa _;have W:B<=j.1.size:=bM c.out.low<|gV c.out.lt;have N:s<j.1.size:=c.out.lt;have d0:(j.setCell (S s 3 U)<|Y Z<|a+1).cell? (S s 0 U)=V v:=az z.out.cell 0;have g:=z.out.row;simp only[bG,eU,kW]at g;go_wp2_with(at_builtin;refine aia _ rfl _ _ 182 rfl B 181 i0 (df #[Y Z 0,Y Z 0,ce da]) 24 underlying182 C E F G rfl (by decide) _ _ _ rfl g _ _ _ _ _ rfl (by simp) rfl rfl rfl (by omega) (by simp;omega) ?_);intro P w5 A K;obtain⟨gg,cc,rfl⟩:=afX A;obtain⟨L,hF,jG,ML⟩:=z.out.push (e:=⟨n, -1,db⟩) (by simpa using A) K;have T:=ah L;have R:dd (Fr B s w<|w5.setCell (S s 0 U) _):=(O.out.trans<|Fr.set c.out.low _ _).trans hF;clear L hF A K g d0;go_wp2;go_end0;rw[I.out];exact⟨rfl,R,_,T⟩
def dG.aq9 {w d:cw}{B s:Nat}{v j:cJ}{g:List aY}{a b c l o:Int}{i:Bool}{m:Nat}(h:dG w B s v g a b c)(n:m=g.length+1)(f:d.ownsRow B 181 3 j m<|kM g++[Y Z l,Y Z o,ce i])(k:w.grownBy d v.ownBlock):dG (d.setCell (S s 0 U) j) B s j (g++[⟨l,o,i⟩]) a b c/\Fr B s w (d.setCell (S s 0 U) j)/\d.cell? (S s 0 U)=V v/\d.frozen? (S s 0 U)=da:=by subst n;exact h.push (e:=⟨l,o,i⟩) f k
def alZ(w:cw)(B s:Nat)(v:cJ)(x:XS)(c:Int)(h:dG w B s v x.st x.aM x.aV x.valid)(q:x.st≠[])(W:x.st.length<=1000)(A:0<=(bq x.st).l)(j:(bq x.st).l<=1000) (hi:0<=x.aV/\x.aV<=100000) (H:c=13∨c=14∨c=15∨c=16):cP prog 118 #[.pointer<|V<|S s 0 U,Y Z c] w λu C=>u=bj (de #[])/\Fr B s w C/\∃v',dG C B s v' (lH x c).st (lH x c).aM (lH x c).aV (lH x c).valid:=by
 obtain⟨i0,I,L,M,N⟩:=fP Tryz.aeC;obtain⟨P,d,g,a⟩:=x;simp only at h q W A j hi;obtain⟨b,e,rfl⟩:∃b e,P=b++[e]:=⟨P.dropLast,P.getLast q,(F4 q).symm⟩
 rw[Hz]at A j;simp only[bG,eU,kW]at W;have D:=ah h;have key:∀(o i:Int),(if c=14∨c=16 then(1:Int)else 0)=o->(if c=15 then(0:Int)else if c=16 then 1 else -1)=i->
   dd (cP prog 187 #[.pointer<|V<|S s 0 U,Y Z o] w λu C=>u=bj (Y Z<|jt e.l o)/\cD w.1.size w C)/\
   dd (lH ⟨b++[e],d,g,a⟩ c=if pY ⟨b++[e],d,g,a⟩ (jt e.l o)=db then⟨(b++[e])++[⟨jt e.l o,i,da⟩],d,g,a⟩else if d=0 then⟨b++[e],d,g+1,a⟩else⟨b++[e],d,g,a⟩):=by
  intro o i h1 h2;refine⟨afy w B s v b e d g a o h (by omega) A j,?_⟩;show lH _ c=_;unfold lH;simp only[Hz,h1,h2]
 obtain⟨y,J⟩:=ac<|lH ⟨b++[e],d,g,a⟩ c;rw[<-J];rw[<-J]at key;clear h J A j;rcases H with rfl|rfl|rfl|rfl;all_goals
  obtain⟨E,m⟩:=key _ _ rfl rfl;simp only[Int.reduceEq,Hg,or_true,or_self,Aq,if_false]at E m;clear key;generalize jt e.l _=n at*;go_enter func118,ntmps118;go_wp2_with fail;refine E.out.mono ?_;rintro u w1 ⟨rfl,p⟩;have f:=ah<|D.out.below p;have O:dd (Fr B s w w1):=Fr.of_below (bM D.out.low<|gV D.out.lt) p;clear p E;go_wp2_with fail;refine(QT w1 s v d g a n (b++[e]) f.out.cell).mono ?_;rintro u r ⟨rfl,rfl⟩;have c0:r.cell? (S s 0 U)=V v:=az f.out.cell 0;have c1:r.cell? (S s 1 U)=V (Y Z d):=az f.out.cell 1;have c2:r.cell? (S s 2 U)=V (Y Z g):=az f.out.cell 2;have f0:r.frozen? (S s 0 U)=da:=cB f.out.cell 0;have f2:r.frozen? (S s 2 U)=da:=cB f.out.cell 2;cases hq:pY ⟨b++[e],d,g,a⟩ n
  .by_cases t:d=0
   .have z:dd (y=⟨b++[e],d,g+1,a⟩):=(by have:=m.out;rw[hq,ai<|by decide,aj t]at this;exact this);have K:=an t;clear hq m t;go_wp2;go_end0;rw[z.out];exact⟨rfl,O.out.trans<|Fr.set f.out.low _ _,v,f.out.Hu _⟩
   have z:dd (y=⟨b++[e],d,g,a⟩):=(by have:=m.out;rw[hq,ai<|by decide,ai t]at this;exact this);have K:=ae t;clear hq m t;go_wp2;go_end0;rw[z.out];exact⟨rfl,O,v,f⟩
  have F:=m.out;rw[hq,aj rfl]at F;have z:dd (y=_):=F;have T:(b++[e]).length<=1001:=(by simp;omega);have aa:B<=r.1.size:=bM f.out.low<|gV f.out.lt;have X:s<r.1.size:=f.out.lt;have k:=f.out.row;clear hq F m;go_wp2_with(at_builtin;refine aia _ rfl _ _ 182 rfl B 181 i0 (df #[Y Z 0,Y Z 0,ce da]) 24 underlying182 I L M N rfl (by decide) _ _ _ rfl k _ _ _ _ _ rfl rfl rfl rfl rfl (by omega) (by omega) ?_);intro v' w5 G Q;obtain⟨gg,cc,rfl⟩:=afX G;obtain⟨R,hF,jG,ML⟩:=f.out.aq9 (by simp) G Q;have HS:=ah R;have HF:=ah<|O.out.trans hF;clear R hF G Q k;go_wp2;go_end0;rw[z.out];exact⟨rfl,HF,_,HS⟩
def dG.drew {w:cw}{B s:Nat}{v:cJ}{d:List aY}{a b c:Int}(h:dG w B s v d a b c):dG w.drew B s v d a b c:=⟨h.cell,h.row,h.low⟩
def Fr.drew {B s:Nat}{a w:cw}(h:Fr B s a w):Fr B s a w.drew:=⟨h.below.drew,h.AA⟩
def dG.shape {w:cw}{B s:Nat}{v:cJ}{f:List aY}{e:aY}{a b c:Int}(h:dG w B s v (f++[e]) a b c):∃g d,v= .slice (V<|S g 0 U) (f.length+1) d/\f.length+1<=d:=by rcases h.row.2 with⟨_,k⟩|⟨g,i,j,rfl,_,_,l,_⟩;simp at k;exact⟨g,i,by simp,by simpa using l⟩
def dG.Yz {w:cw}{B s g d:Nat}{f:List aY}{e:aY}{a b c:Int}(h:dG w B s (.slice (V<|S g 0 U) (f.length+1) d) (f++[e]) a b c):dG (w.setCell (S s 0 U) (.slice (V<|S g 0 U) f.length d)) B s (.slice (V<|S g 0 U) f.length d) f a b c:=by
 have k:=h.row;rw[Qj]at k;have j:w.ownsRow B 181 3 (.slice (V<|S g 0 U) (f.length+1) d) (f.length+1) (kM f++e.cells):=by simpa using k
 have l:=mU (Mg f) j;have i:(Value.slice (V<|S g 0 U) f.length d).ownBlock≠V s:=h.ne;exact⟨by rw[fe h.cell];rfl,kT l i _ _,h.low⟩
def iW(a:List aY):List aY:=((a.reverse.dropWhile λe=> !e.i).drop 1).reverse
def RJ(a:List aY)(e:aY)(h:e.i=db):iW (a++[e])=a:=by simp[iW,h]
def RM(a:List aY)(e:aY)(h:e.i=da):iW (a++[e])=iW a:=by simp[iW,h]
def jE(x:XS):XS:=
 if 0<x.aM then{x with aM:=x.aM - 1}
 else if x.valid=0 then x
 else{x with aV:=0,st:=iW x.st,valid:=x.valid - 1}
def kZ(x:XS):XS:=
 if 0<x.aM then x
 else if 0<x.aV then{x with aV:=x.aV - 1}
 else if(bq x.st).i=da/\1<x.st.length then{x with st:=x.st.dropLast}else x
def al5(w:cw)(B s:Nat)(v:cJ)(x:XS)(h:dG w B s v x.st x.aM x.aV x.valid)(P:x.st.length<=1000)(O:x.aM=0)(hv:1<=x.valid/\x.valid<=100000)(hex:∃e∈x.st,e.i=db):cP prog 116 #[.pointer<|V<|S s 0 U] w λq A=>q=bj (de #[])/\Fr B s w A/\∃u,dG A B s u (iW x.st) x.aM 0 (x.valid - 1):=by
 obtain⟨t,aM,X,b⟩:=x;simp only at h P O hv hex ⊢;subst O;have W:=ah h;have z:=ah hex;have c1:w.cell? (S s 1 U)=V (Y Z 0):=az h.cell 1;have c2:w.cell? (S s 2 U)=V (Y Z X):=az h.cell 2;have N:w.cell? (S s 3 U)=V (Y Z b):=az h.cell 3;have f2:w.frozen? (S s 2 U)=da:=cB h.cell 2;have aa:(b==0)=da:=by simp;omega
 have R:=ah<|h.Hu 0;have p:dd (Fr B s w<|w.setCell (S s 2 U)<|Y Z 0):=Fr.set h.low _ _;clear h hex;go_enter func116,ntmps116;go_wp2;clear c1 c2 N f2;go_loopg [22] (t.length+1) (λgk _ wr=>∃(u:cJ)(c:List aY),dG wr B s u c 0 0 b/\Fr B s w wr/\iW c=iW t/\(∃e∈c,e.i=db)/\c.length<gk/\c.length<=1000);exact⟨v,t,R,p,rfl,z,by omega,P⟩;obtain⟨u,c,F,hF,Q,hex,G,I⟩:=hrel;clear R p W z;have n:c≠[]:=by rintro rfl;simp at hex
 obtain⟨a,e,rfl⟩:∃a e,c=a++[e]:=⟨c.dropLast,c.getLast n,(F4 n).symm⟩
 simp only[bG,eU,kW]at G I;have y:dd (cP prog 117 #[.pointer<|V<|S s 0 U] wr λq A=>q=bj (df #[Y Z e.l,Y Z e.o,ce e.i])/\cD wr.1.size wr A):=Sb wr B s u a e 0 0 b F (by omega);have o:=ah F;have L:=ah hF;have M:=ah Q;have z:=ah hex;have fI:=Tryz.UI;clear F hF Q hex n;obtain⟨el,eo,ei⟩:=e;cases ei
 .have K:dd (iW a=iW t):=by have:=M.out;rw[RM _ _ rfl]at this;exact this
  have T:dd (∃E∈a,E.i=db):=by obtain⟨E,g,H⟩:=z.out;rcases ji.1 g with g|g;exact⟨E,g,H⟩;rw[r7.1 g]at H;cases H
  go_wp2_with fail;refine y.out.mono ?_;rintro q i ⟨rfl,d⟩;have f:=o.out.below d;have p:=ah<|L.out.trans<|Fr.of_below (bM o.out.low<|gV o.out.lt) d;obtain⟨l,k,rfl,J⟩:=f.shape;have D:i.cell? (S s 0 U)=V (.slice (V<|S l 0 U) (a.length+1) k):=az f.cell 0;have f0:i.frozen? (S s 0 U)=da:=cB f.cell 0;have j:=ah f.Yz;have r:dd (Fr B s w<|i.setCell (S s 0 U) (.slice (V<|S l 0 U) a.length k)):=p.out.trans<|Fr.set f.low _ _;obtain⟨m,g⟩:=ac a.length;have C:=ah g;rw[<-g]at D j r J G I;clear f d y g;go_wp2;go_region;go_wp2;go_roundg (m+1);exact⟨_,a,j.out.drew,r.out.drew,K,T,by rw[C.out];omega,by rw[<-C.out];omega⟩;omega
 have K:dd (a=iW t):=by have:=M.out;rw[RJ _ _ rfl]at this;exact this
 go_wp2_with fail;refine y.out.mono ?_;rintro q i ⟨rfl,d⟩;have f:=o.out.below d;have p:=ah<|L.out.trans<|Fr.of_below (bM o.out.low<|gV o.out.lt) d;obtain⟨l,k,rfl,J⟩:=f.shape;have D:i.cell? (S s 0 U)=V (.slice (V<|S l 0 U) (a.length+1) k):=az f.cell 0;have f0:i.frozen? (S s 0 U)=da:=cB f.cell 0;have j:=ah f.Yz;have r:dd (Fr B s w<|i.setCell (S s 0 U) (.slice (V<|S l 0 U) a.length k)):=p.out.trans<|Fr.set f.low _ _;obtain⟨m,g⟩:=ac a.length;have C:=ah g;rw[<-g]at D j r J G I;clear f d y g;go_wp2;go_region;have N:((i.setCell (S s 0 U) (.slice (V<|S l 0 U) m k))).drew.cell? (S s 3 U)=V (Y Z b):=az j.out.drew.cell 3;have f3:((i.setCell (S s 0 U) (.slice (V<|S l 0 U) m k))).drew.frozen? (S s 3 U)=da:=cB j.out.drew.cell 3;go_wp2;go_end0;exact⟨rfl,r.out.drew.trans<|Fr.set j.out.low _ _,_,K.out▸j.out.drew.Oa _⟩
def Un(x:XS):Prop:=0<=x.aM/\x.aM<=100000/\0<=x.aV/\x.aV<=100000/\0<=x.valid/\x.valid<=100000
def al4(w:cw)(B s:Nat)(v:cJ)(x:XS)(h:dG w B s v x.st x.aM x.aV x.valid)(l:x.st.length<=1000)(c:Un x)(hex:1<=x.valid->∃e∈x.st,e.i=db):cP prog 116 #[.pointer<|V<|S s 0 U] w λq o=>q=bj (de #[])/\Fr B s w o/\∃t,dG o B s t (jE x).st (jE x).aM (jE x).aV (jE x).valid:=by
 obtain⟨k,d,y,u,f,a⟩:=c;by_cases b:0<x.aM
 .have j:dd (jE x=⟨x.st,x.aM - 1,x.aV,x.valid⟩):=by unfold jE;rw[aj b];rfl
  obtain⟨st,n,aV,valid⟩:=x;simp only at h l b d f a ⊢;have p:w.cell? (S s 1 U)=V (Y Z n):=az h.cell 1;have f1:w.frozen? (S s 1 U)=da:=cB h.cell 1;have g:=ah h;clear h hex;go_enter func116,ntmps116;go_wp2
  (try simp only[Exit.inBlock,Exit.then]);refine bU (Cg rfl _ _ _) rfl ?_
  rw[j.out];exact⟨rfl,Fr.set g.out.low _ _,v,g.out.N9 _⟩
 have m:x.aM=0:=by omega
 by_cases i:x.valid=0
 .have j:dd (jE x=x):=(by show jE x=x;unfold jE;rw[ai b,aj i]);obtain⟨st,n,aV,valid⟩:=x;simp only at h l m i;subst m i;have p:w.cell? (S s 1 U)=V (Y Z 0):=az h.cell 1;have z:w.cell? (S s 3 U)=V (Y Z 0):=az h.cell 3;have g:=ah h;clear h hex b k d f a;go_enter func116,ntmps116;go_wp2
  (try simp only[Exit.inBlock,Exit.then]);refine bU (Cg rfl _ _ _) rfl ?_
  rw[j.out];exact⟨rfl,Fr.refl _ _ _,v,g⟩
 have r:jE x={x with aV:=0,st:=iW x.st,valid:=x.valid - 1}:=(by unfold jE;rw[ai b,ai i]);rw[r];exact al5 w B s v x h l m ⟨by omega,a⟩<|hex<|by omega
def aq3(w:cw)(B s:Nat)(v:cJ)(x:XS)(h:dG w B s v x.st x.aM x.aV x.valid)(f:x.st≠[])(I:x.st.length<=1000)(u:Un x):cP prog 120 #[.pointer<|V<|S s 0 U] w λq K=>q=bj (de #[])/\Fr B s w K/\∃v',dG K B s v' (kZ x).st (kZ x).aM (kZ x).aV (kZ x).valid:=by
 obtain⟨l,k,M,L,W,X⟩:=u;by_cases o:0<x.aM
 .have g:dd (kZ x=x):=by show kZ x=x;unfold kZ;rw[aj o]
  obtain⟨st,r,aV,a⟩:=x;simp only at h I o k;have t:w.cell? (S s 1 U)=V (Y Z r):=az h.cell 1;have d:=ah h;clear h f;go_enter func120,ntmps120;go_wp2;go_end0;rw[g.out];exact⟨rfl,Fr.refl _ _ _,v,d⟩
 by_cases z:0<x.aV
 .have g:dd (kZ x={x with aV:=x.aV - 1}):=(by show kZ x=_;unfold kZ;rw[ai o,aj z]);obtain⟨st,r,aV,a⟩:=x;simp only at h I o l k z L g ⊢;obtain rfl:r=0:=(by omega);have t:w.cell? (S s 1 U)=V (Y Z 0):=az h.cell 1;have F:w.cell? (S s 2 U)=V (Y Z aV):=az h.cell 2;have f2:w.frozen? (S s 2 U)=da:=cB h.cell 2;have d:=ah h;clear h f o l k;go_enter func120,ntmps120;go_wp2;go_end0;rw[g.out];exact⟨rfl,Fr.set d.out.low _ _,v,d.out.Hu _⟩
 have J:kZ x=if(bq x.st).i=da/\1<x.st.length then{x with st:=x.st.dropLast}else x:=by unfold kZ;rw[ai o,ai z]
 obtain⟨st,r,aV,a⟩:=x;simp only at h I o l k z M L J f ⊢;obtain rfl:r=0:=(by omega);obtain rfl:aV=0:=(by omega);obtain⟨b,e,rfl⟩:∃b e,st=b++[e]:=⟨st.dropLast,st.getLast f,(F4 f).symm⟩
 simp only[Hz,Iz,bG,eU,kW]at J I;have p:dd (cP prog 117 #[.pointer<|V<|S s 0 U] w λq K=>q=bj (df #[Y Z e.l,Y Z e.o,ce e.i])/\cD w.1.size w K):=Sb w B s v b e 0 0 a h (by omega);have t:w.cell? (S s 1 U)=V (Y Z 0):=az h.cell 1;have F:w.cell? (S s 2 U)=V (Y Z 0):=az h.cell 2;have d:=ah h;have g:=ah J;have fI:=Tryz.UI;obtain⟨y,C⟩:=ac<|kZ ⟨b++[e],0,0,a⟩;rw[<-C]at g ⊢;clear h f o l k z M L J C;obtain⟨N,O,Q⟩:=e;cases Q
 .by_cases T:0<b.length
  .have E:dd (y=⟨b,0,0,a⟩):=(by have:=g.out;rw[aj ⟨rfl,by omega⟩]at this;exact this);go_enter func120,ntmps120;go_wp2_with fail;refine p.out.mono ?_;rintro q n ⟨rfl,c⟩;have j:=d.out.below c;have D:dd (Fr B s w n):=Fr.of_below (bM d.out.low<|gV d.out.lt) c;obtain⟨H,G,rfl,pE⟩:=j.shape;have d0:n.cell? (S s 0 U)=V (.slice (V<|S H 0 U) (b.length+1) G):=az j.cell 0;have g0:n.frozen? (S s 0 U)=da:=cB j.cell 0;have P:=ah j.Yz;have R:dd (Fr B s w<|n.setCell (S s 0 U) (.slice (V<|S H 0 U) b.length G)):=D.out.trans<|Fr.set j.low _ _;generalize b.length=m at*;clear j c p t F g;go_wp2;go_region;go_wp2;go_end0;rw[E.out];exact⟨rfl,R.out.drew,_,P.out.drew⟩
  have E:dd (y=⟨b++[⟨N,O,da⟩],0,0,a⟩):=(by have:=g.out;rw[ai<|by omega]at this;exact this);have A:b.length=0:=(by omega);go_enter func120,ntmps120;go_wp2_with fail;refine p.out.mono ?_;rintro q n ⟨rfl,c⟩;have j:dd _:=d.out.below c;have D:dd (Fr B s w n):=Fr.of_below (bM d.out.low<|gV d.out.lt) c;obtain⟨H,G,rfl,pE⟩:=j.out.shape;have d0:n.cell? (S s 0 U)=V (.slice (V<|S H 0 U) (0+1) G):=(by have:=az j.out.cell 0;rw[A]at this;exact this);clear c p t F g T A;go_wp2;go_end0;rw[E.out];exact⟨rfl,D,_,j⟩
 have E:dd (y=⟨b++[⟨N,O,db⟩],0,0,a⟩):=(by have:=g.out;rw[ai<|by simp]at this;exact this);go_enter func120,ntmps120;go_wp2_with fail;refine p.out.mono ?_;rintro q n ⟨rfl,c⟩;have j:dd _:=d.out.below c;have D:dd (Fr B s w n):=Fr.of_below (bM d.out.low<|gV d.out.lt) c;clear c p t F g;go_wp2;go_end0;rw[E.out];exact⟨rfl,D,_,j⟩
def bX(c:Int):Bool:=c !=9&&(decide (c<13)||decide (17<c))
def eP(x:XS)(c:Int):XS:=if c=21 then jE x else x
def tX(a:aw)(i:Nat):Int:=found<|(a.take<|mt a i).drop (i+1)
def gi(a:aw)(i:Nat)(x:XS)(c:Int):XS:=
 if c=13∨c=14∨c=15∨c=16 then lH x c else if c=18 then jP x 0 else if c=19 then jP x 1
 else if c=20 then jP x (tX a i)else if c=17 then kZ x else x
def fE(b:aw)(a:Int):Nat->XS
 |0=>⟨[⟨a, -1,da⟩],0,0,0⟩
 |i+1=>gi b i (eP (fE b a i)<|b.getD i 0)<|b.getD i 0
def iM(b:aw)(a:Int)(i:Nat):aY:=bq (eP (fE b a i)<|b.getD i 0).st
def bf(b:aw)(a:Int):aw:=(List.range b.length).map λi=>(iM b a i).l
def kindOf(c:Int)(e:aY):Int:=if bX c=db/\0<=e.o then e.o else c
def je(b:aw)(a:Int):aw:=(List.range b.length).map λi=>kindOf (b.getD i 0)<|iM b a i
def aO(a:aw):List Bool:=a.map bX
structure eH(m:Int)(x:XS):Prop where
 ne:x.st≠[]
 ax:∀(j:Nat)(e:aY),x.st[j]? =some e->(j:Int)<=e.l/\e.l<=125
 hd:∀e,x.st[0]? =some e->e.i=false
 cnt:x.valid=(x.st.filter (·.i)).length
 aM:0<=x.aM/\x.aM<=m
 aV:0<=x.aV/\x.aV<=m
def eH.len {m:Int}{x:XS}(h:eH m x):x.st.length<=126:=by
 have a:=h.ne;have b:x.st.length - 1<x.st.length:=by have:=kF.2 a;omega
 have:=h.ax (x.st.length - 1) _ (aK b);omega
def eH.top {m:Int}{x:XS}(h:eH m x):((x.st.length:Int) - 1<=(bq x.st).l)/\0<=(bq x.st).l/\(bq x.st).l<=125:=by
 have a:=h.ne;have c:=kF.2 a;have b:x.st.length - 1<x.st.length:=by omega
 have d:=h.ax (x.st.length - 1) _ (aK b);have e:bq x.st=x.st[x.st.length - 1]:=by unfold bq;rw[tK,IC,aK b];rfl
 rw[e];omega
def eH.big {m:Int}{x:XS}(h:eH m x)(f:m<=100000):Un x:=by have a:=h.aM;have b:=h.aV;have c:=h.cnt;have d:=h.len;have e:=Bk (·.i) x.st;refine⟨a.1,by omega,b.1,by omega,by omega,by omega⟩
def eH.Vc {m:Int}{x:XS}(h:eH m x)(c:1<=x.valid):∃e∈x.st,e.i=db:=by
 have b:=h.cnt;have:0<(x.st.filter (·.i)).length:=by omega
 obtain⟨e,a⟩:=List.exists_mem_of_length_pos this;exact⟨e,(uN.1 a).1,(uN.1 a).2⟩
def eH.start(a:Int)(h:0<=a/\a<=125):eH 0 ⟨[⟨a, -1,da⟩],0,0,0⟩:=
 ⟨by simp,λj e b=>by
  match j,b with
  |0,b=>simp at b;subst b;exact⟨by simp;omega,h.2⟩,λe b=>by simp at b;subst b;rfl,by simp,by simp,by simp⟩
def eH.mono {m m':Int}{x:XS}(h:eH m x)(a:m<=m'):eH m' x:=
 ⟨h.ne,h.ax,h.hd,h.cnt,⟨h.aM.1,by have:=h.aM.2;omega⟩,⟨h.aV.1,by have:=h.aV.2;omega⟩⟩
def eH.push {m:Int}{x:XS}(h:eH m x)(e:aY)(g:(bq x.st).l<e.l)(f:e.l<=125):eH m ⟨x.st++[e],x.aM,x.aV,x.valid+(if e.i=db then 1 else 0)⟩:=by
 refine⟨by simp,λj b a=> ?_,λb a=> ?_,?_,h.aM,h.aV⟩
 .simp only at a;rcases dc j x.st.length with c|c;rw[uM c]at a;exact h.ax j b a;rw[tH c]at a;have:j - x.st.length=0:=by rcases IL (j - x.st.length)with d|d;exact d;rw[tI<|by simp;omega]at a;cases a
  rw[this]at a;simp at a;subst a;have:=h.top.1;omega
 .simp only at a;rw[uM<|kF.2 h.ne]at a;exact h.hd b a
 simp only[tD,bG];have:=h.cnt;rw[tG,IA];cases e.i<;>simp<;>omega
def XU(l a:Int):l<jt l a:=by unfold jt;split<;>omega
def eH.U9 {m:Int}{x:XS}(h:eH m x)(c:Int):eH (m+1) (lH x c):=by
 unfold lH;simp only;generalize(if c=15 then(0:Int)else if c=16 then 1 else -1)=o;generalize d:jt (bq x.st).l _=n;have a:(bq x.st).l<n:=by rw[<-d];exact XU _ _
 split;rename_i b;unfold pY at b;simp at b;have:=(h.push ⟨n,o,da⟩ a<|by simp;omega).mono (m':=m+1) (by omega);simpa using this;split;exact⟨h.ne,h.ax,h.hd,h.cnt,⟨h.aM.1,by have:=h.aM.2;simp only;omega⟩,⟨by have:=h.aV.1;simp only;omega,by have:=h.aV.2;simp only;omega⟩⟩;exact h.mono<|by omega
def eH.begin {m:Int}{x:XS}(h:eH m x)(c:Int):eH (m+1) (jP x c):=by
 unfold jP;simp only;generalize d:jt (bq x.st).l _=n;have a:(bq x.st).l<n:=by rw[<-d];exact XU _ _
 split;rename_i b;unfold pY at b;simp at b;have:=(h.push ⟨n, -1,db⟩ a<|by simp;omega).mono (m':=m+1) (by omega);simpa using this;exact⟨h.ne,h.ax,h.hd,h.cnt,⟨by have:=h.aM.1;simp only;omega,by have:=h.aM.2;simp only;omega⟩,⟨h.aV.1,by have:=h.aV.2;simp only;omega⟩⟩
def eH.pop {m:Int}{x:XS}(h:eH m x):eH m (kZ x):=by
 unfold kZ;split;exact h;split;exact⟨h.ne,h.ax,h.hd,h.cnt,h.aM,⟨by simp only;omega,by have:=h.aV.2;simp only;omega⟩⟩;split
 .rename_i l;obtain⟨i,k⟩:=l;obtain⟨f,o,p,g⟩:=x;obtain⟨a,e,rfl⟩:∃a e,f=a++[e]:=⟨f.dropLast,f.getLast h.ne,(F4 h.ne).symm⟩
  simp only[Hz,bG,eU,kW]at i k;have c:a≠[]:=(by rintro rfl;simp at k);refine⟨by simpa using c,λj d b=> ?_,λd b=> ?_,?_,h.aM,h.aV⟩;simp only[Iz]at b;refine h.ax j d ?_;have n:j<a.length:=(tJ.1 b).1;simp only;rw[uM n];exact b;simp only[Iz]at b;refine h.hd d ?_;simp only;rw[uM<|kF.2 c];exact b;have:=h.cnt;simp only[tD,bG,Iz]at this ⊢;simpa [i]using this
 exact h
def agr:∀(r:List aY),(∃e∈r,e.i=db)->∃a e b,r=a++e::b/\e.i=db/\(∀y∈a,y.i=da)/\(r.dropWhile λe=> !e.i)=e::b
 |[],h=>by simp at h
 |e::r,h=>by
  cases hi:e.i with
  |true=>exact⟨[],e,r,rfl,hi,by simp,by simp[hi]⟩
  |false=>
   have:∃y∈r,y.i=db:=by obtain⟨y,c,d⟩:=h;rcases gI.1 c with rfl|c;rw[hi]at d;cases d;exact⟨y,c,d⟩
   obtain⟨a,f,b,g,i,j,k⟩:=agr r this;refine⟨e::a,f,b,by rw[g];rfl,i,?_,?_⟩;intro y c;rcases gI.1 c with rfl|c;exact hi;exact j y c;rw[List.dropWhile_cons,hi];simpa using k
def aq1(c:List aY)(h:∃e∈c,e.i=db):∃e a,c=iW c++e::a/\e.i=db/\∀y∈a,y.i=da:=by
 obtain⟨a,e,b,d,f,g,i⟩:=agr c.reverse (by simpa using h);refine⟨e,a.reverse,?_,f,by simpa using g⟩;have j:iW c=b.reverse:=by unfold iW;rw[i];rfl
 have:c=(a++e::b).reverse:=by rw[<-d,List.reverse_reverse]
 rw[j];rw[this];simp
def eH.end {m:Int}{x:XS}(h:eH m x):eH m (jE x):=by
 unfold jE;split;exact⟨h.ne,h.ax,h.hd,h.cnt,⟨by simp only;omega,by have:=h.aM.2;simp only;omega⟩,h.aV⟩;split;exact h;rename_i t w;have k:1<=x.valid:=(by have:=h.cnt;omega);obtain⟨e,a,g,l,o⟩:=aq1 x.st<|h.Vc k;have f:iW x.st≠[]:=by intro r;rw[r]at g;have:=h.hd e (by rw[g];rfl);rw[l]at this;cases this
 have n:=kF.2 f;have c:∀(j:Nat)(b:aY),(iW x.st)[j]? =V b->x.st[j]? =V b:=by intro j b d;have q:j<(iW x.st).length:=(tJ.1 d).1;rw[g,uM q];exact d
 refine⟨f,λj b d=>h.ax j b<|c j b d,λb d=>h.hd b<|c 0 b d,?_,h.aM,⟨by simp,by have:=h.aV;simp only;omega⟩⟩;have u:=h.cnt;have v:(x.st.filter (·.i)).length=((iW x.st).filter (·.i)).length+1:=by
  have p:a.filter (·.i)=[]:=T6.2<|by intro y s;simp[o y s]
  conv=>lhs;rw[g]
  rw[tD,bG,tG,aj l,p];rfl
 simp only;omega
def eH.pre {m:Int}{x:XS}(h:eH m x)(c:Int):eH m (eP x c):=by unfold eP;split;exact h.end;exact h
def eH.post {m:Int}{x:XS}(h:eH m x)(a:aw)(i:Nat)(c:Int):eH (m+1) (gi a i x c):=by unfold gi;split;exact h.U9 c;split;exact h.begin 0;split;exact h.begin 1;split;exact h.begin _;split;exact h.pop.mono (by omega);exact h.mono<|by omega
def zF(b:aw)(a:Int)(h:0<=a/\a<=125):∀i:Nat,eH i (fE b a i)
 |0=>eH.start a h
 |i+1=>by have:=((zF b a h i).pre (b.getD i 0)).post b i (b.getD i 0);exact this
def iv(l:aw):List cJ:=l.map (Y Z ·)
def bv(l:List Bool):List cJ:=l.map .bool
def JU(l:aw)(k:Nat)(a:Int):(iv l).set k (Y Z a)=iv (l.set k a):=by simp[iv,List.map_set]
def UN(l:List Bool)(k:Nat)(a:Bool):(bv l).set k (ce a)=bv (l.set k a):=by simp[bv,List.map_set]
def upto {a:Type}(l:List a)(z:a)(k:Nat):List a:=l.take k++List.replicate (l.length - k) z
def ZF {a:Type}(l:List a)(z:a):upto l z 0=List.replicate l.length z:=by simp[upto]
def ZC {a:Type}(l:List a)(z:a)(k:Nat)(h:k=l.length):upto l z k=l:=by simp[upto,h]
def ZE {a:Type}(l:List a)(z:a)(k:Nat)(h:k<=l.length):(upto l z k).length=l.length:=by simp[upto];omega
def Ks {c:Type}(l:List c)(z a:c)(k:Nat)(h:l[k]? =V a):(upto l z k).set k a=upto l z (k+1):=by obtain⟨b,rfl⟩:=tJ.1 h;clear h;unfold upto;rw[yH _ _ (by simp;omega)];simp only[tM,kG<|gV b,pT];rw[show l.length - k=(l.length - (k+1))+1 by omega,IK,ajt,pR b,dY];rfl
def YL {w b:cw}{B s n:Nat}{v:cJ}{e:TypeId}{d:List cJ}(h:w.ownsRow B e 1 v n d)(q:Lib.OthersKept 181 (V s) w b)(p:e≠181)(r:v.ownBlock≠V s):b.ownsRow B e 1 v n d:=by rcases h.2 with⟨rfl,j⟩|⟨g,f,a,rfl,k,l,m⟩;exact⟨h.1,.inl ⟨rfl,j⟩⟩;refine⟨h.1,.inr ⟨g,f,a,rfl,k,q g _ l (by simpa [Value.ownBlock]using r) ?_,m⟩⟩;intro c t o;injection o with _ i _;exact p i
def Tryz.sQ:(prog.info? 3).map (λi=>(i.zero,i.size,i.bytes))=V (V<|Y Z 0,1,8):=by kernel_rfl
def Tryz.JP:(prog.info? 4).map (λi=>(i.zero,i.size,i.bytes))=V (V<|ce da,1,1):=by kernel_rfl
def aW(w:cw)(B:Nat)(e:TypeId)(g n:Nat)(a:List cJ):Prop:=w.ownsRow B e 1 (.slice (V<|S g 0 U) n n) n a
def aW.set {w:cw}{B g n:Nat}{e:TypeId}{a:List cJ}(h:aW w B e g n a)(k:Nat)(u:cJ):aW (w.setCell (S g k U) u) B e g n (a.set k u):=(h.stored k u).1
def aW.setOther {w:cw}{B g n:Nat}{e:TypeId}{c:List cJ}(h:aW w B e g n c)(b k:Nat)(u:cJ)(a:g≠b):aW (w.setCell (S b k U) u) B e g n c:=kT h (by simp[Value.ownBlock,a]) k u
def aW.alloc {w:cw}{B g n:Nat}{e:TypeId}{a:List cJ}(h:aW w B e g n a)(o:Obj):aW (w.alloc o) B e g n a:=lZ h o
def aW.frozen {w:cw}{B g n:Nat}{e:TypeId}{a:List cJ}(h:aW w B e g n a)(k:Nat):w.frozen? (S g k U)=da:=Em h k
def aW.cell {w:cw}{B g n:Nat}{e:TypeId}{a:List cJ}(h:aW w B e g n a)(k:Nat)(b:k<n):w.cell? (S g k U)=a[k]? :=cT h k<|by omega
def aW.ge {w:cw}{B g n:Nat}{e:TypeId}{a:List cJ}(h:aW w B e g n a):B<=g/\g<w.1.size:=Bu h g rfl
def aW.made {w:cw}{B n:Nat}{e:TypeId}{z:cJ}(a:B<=w.1.size)(b:n<=1000000):aW (w.alloc<|bi (madeCells #[z] n) e) B e w.1.size n (List.replicate n z):=by refine⟨by simp,.inr ⟨w.1.size,n,madeCells #[z] n,rfl,a,?_,au _,by unfold maxLen;omega,by simp[size_madeCells],?_⟩⟩;exact QN w _;rw[oV];simp
def bI(w:cw)(B g n a:Nat)(t:aw):Prop:=w.ownsRow B 3 1 (.slice (V<|S g 0 U) n a) n<|iv t
def bI.len {w:cw}{B g n a:Nat}{t:aw}(h:bI w B g n a t):t.length=n:=by have:=h.1;simpa [iv]using this
def bI.set {w:cw}{B g n b:Nat}{t:aw}(h:bI w B g n b t)(k:Nat)(a:Int):bI (w.setCell (S g k U)<|Y Z a) B g n b (t.set k a):=by have:=(C0 h k<|Y Z a).1;rw[JU]at this;exact this
def bI.grown {w:cw}{B g n b:Nat}{t:aw}(h:bI w B g n b t)(k:Nat)(a:Int):w.grownBy (w.setCell (S g k U)<|Y Z a) (V g):=(C0 h k<|Y Z a).2
def bI.frozen {w:cw}{B g n a:Nat}{t:aw}(h:bI w B g n a t)(k:Nat):w.frozen? (S g k U)=da:=Em h k
def bI.cell {w:cw}{B g n a:Nat}{t:aw}(h:bI w B g n a t)(k:Nat)(b:k<n):w.cell? (S g k U)=V (Y Z<|t.getD k 0):=by rw[cT h k<|by omega];have c:=h.len;simp[iv,aN,aK (show k<t.length by omega)]
def mO(a b:Int):Int->aw->aw
 |_,[]=>[]
 |last,c::r=>(if c=3/\(if c=0∨c=1∨c=2 then c else last)=a then b else c)::mO a b (if c=0∨c=1∨c=2 then c else last) r
def tN(c d e:Int)(t:aw)(k:Nat)(b:Int)(f:aw):Prop:=∃a,a.length=k/\f=a++t.drop k/\mO c d e t=a++mO c d b (t.drop k)
def tN.start(b c a:Int)(t:aw):tN b c a t 0 a t:=⟨[],rfl,by simp,by simp⟩
def tN.stop {e g b a:Int}{t f:aw}{k:Nat}(h:tN e g b t k a f)(j:¬k<t.length):f=mO e g b t:=by obtain⟨i,_,c,d⟩:=h;rw[lu<|by omega]at c d;rw[c,d];rfl
def tN.at {g j c a:Int}{t b:aw}{k:Nat}(h:tN g j c t k a b)(f:k<t.length):b.getD k 0=t.getD k 0:=by obtain⟨i,d,e,_⟩:=h;rw[e,aN,tH<|by omega,d,pT,drop_at f];rfl
def tN.step {c e f b:Int}{t j:aw}{k:Nat}(h:tN c e f t k b j)(i:k<t.length)(a v:Int)(n:a=if t.getD k 0=0∨t.getD k 0=1∨t.getD k 0=2 then t.getD k 0 else b)(o:v=if t.getD k 0=3/\a=c then e else t.getD k 0):tN c e f t (k+1) a (j.set k v):=by obtain⟨d,g,l,m⟩:=h;refine⟨d++[v],by simp[g],?_,?_⟩;rw[l,drop_at i,yH _ _ (by omega),g,pT];simp;rw[m,drop_at i,mO,<-n,<-o];simp
def tN.same {g j c a:Int}{t b:aw}{k:Nat}(h:tN g j c t k a b)(f:k<t.length):b.set k (t.getD k 0)=b:=by obtain⟨i,d,e,_⟩:=h;rw[e,drop_at f,yH _ _ (by omega),d,pT];rfl
def agH(t:aw)(s f p:Int)(B g n j:Nat)(w:cw)(G:bI w B g n j t)(Q:n<=100000):cP prog 190 #[.slice (V<|S g 0 U) n j,Y Z s,Y Z f,Y Z p] w λe K=>e=bj (de #[])/\bI K B g n j (mO f p s t)/\w.grownBy K (V g):=by
 have M:=ah G;have I:=ah G.len;clear G;go_enter func190,ntmps190;go_wp2;go_loopg [8,9] n (λgk O i wr=>∃(k:Nat)(l:Int)(z:aw),k<=n/\gk=n - k/\O=Y Z l/\i=Y Z k/\bI wr B g n j z/\w.grownBy wr (V g)/\tN f p s t k l z);exact⟨0,s,t,by omega,rfl,rfl,rfl,M,kI _ _,tN.start _ _ _ _⟩;obtain⟨k,l,z,P,rfl,rfl,rfl,A,F,o⟩:=hrel;have m:=ah A;have r:=ah F;have J:=ah o;by_cases x:k<n
 .have a:k<t.length:=by rw[I.out];exact x
  have d:=A.cell k x;rw[o.at a]at d;have N:=A.frozen k;obtain⟨c,hx⟩:=ac<|t.getD k 0;rw[<-hx]at d;have key:∀C:Int,(C=if c=0∨c=1∨c=2 then c else l)->¬(c=3/\C=f)->dd (tN f p s t (k+1) C z):=by intro C u v;have:=o.step a C c (by rw[<-hx];exact u) (by rw[<-hx,ai v]);rw[hx,o.same a]at this;exact this
  have q:c=3->l=f->dd (tN f p s t (k+1) l<|z.set k p):=by intro u v;exact o.step a l p (by rw[<-hx,ai<|by omega])<|by rw[<-hx,aj ⟨u,v⟩]
  clear A F o hx a J;by_cases E:c=0
  .subst E;have b:=key 0 rfl (by omega);clear key q;go_wp2;go_roundg (n - (k+1));exact⟨k+1,0,_,by omega,rfl,rfl,by simp,m,r,b.out⟩;omega
  by_cases u:c=1
  .subst u;have b:=key 1 rfl (by omega);clear key q;go_wp2;go_roundg (n - (k+1));exact⟨k+1,1,_,by omega,rfl,rfl,by simp,m,r,b.out⟩;omega
  by_cases v:c=2
  .subst v;have b:=key 2 rfl (by omega);clear key q;go_wp2;go_roundg (n - (k+1));exact⟨k+1,2,_,by omega,rfl,rfl,by simp,m,r,b.out⟩;omega
  by_cases D:c=3
  .subst D;by_cases y:l=f
   .have b:=q rfl y;have H:(l==f)=db:=(by simpa using y);clear key q y;go_wp2;go_roundg (n - (k+1));exact⟨k+1,l,_,by omega,rfl,rfl,by simp,m.out.set k _,r.out.trans<|m.out.grown k _,b.out⟩;omega
   have b:=key l (by rw[ai<|by omega]) (λh=>y h.2);have H:(l==f)=da:=(by simpa using y);clear key q y;go_wp2;go_roundg (n - (k+1));exact⟨k+1,l,_,by omega,rfl,rfl,by simp,m,r,b.out⟩;omega
  have b:=key l (by rw[ai<|by omega]) (λh=>D h.1);have R:=ae E;have T:=ae u;have W:=ae v;have X:=ae D;clear key q E u v D;go_wp2;go_roundg (n - (k+1));exact⟨k+1,l,_,by omega,rfl,rfl,by simp,m,r,b.out⟩;omega
 have L:dd (z=mO f p s t):=o.stop (by rw[I.out];exact x);clear A F o J;go_wp2;go_end0;exact⟨rfl,L.out▸m.out,r⟩
def pass {a:Type}(f:a->Int->aw->Int)(g:a->Int->aw->a):a->aw->aw
 |_,[]=>[]
 |s,c::r=>f s c r::pass f g (g s c r) r
def bC {b:Type}(f:b->Int->aw->Int)(g:b->Int->aw->b)(c:b)(t:aw)(k:Nat)(s:b)(d:aw):Prop:=
 ∃a,a.length=k/\d=a++t.drop k/\pass f g c t=a++pass f g s (t.drop k)
section
variable{σ:Type}{f:σ->Int->List Int->Int}{g:σ->Int->List Int->σ}{s0 s:σ}{t t':List Int}{k:Nat}
def age:∀(t:aw)(s:σ),(pass f g s t).length=t.length
 |[],_=>rfl
 |c::r,s=>by simp[pass,age r]
def bC.start(f:σ->Int->aw->Int)(g:σ->Int->aw->σ)(a:σ)(t:aw):bC f g a t 0 a t:=⟨[],rfl,by simp,by simp⟩
def bC.stop(h:bC f g s0 t k s t')(d:¬k<t.length):t'=pass f g s0 t:=by obtain⟨c,_,a,b⟩:=h;rw[lu<|by omega]at a b;rw[a,b];rfl
def bC.at(h:bC f g s0 t k s t')(j:Nat)(d:k<=j):t'.getD j 0=t.getD j 0:=by obtain⟨c,a,b,_⟩:=h;rw[b,aN,tH<|by omega,a,zS,show k+(j - k)=j by omega,aN]
def bC.step(h:bC f g s0 t k s t')(c:k<t.length)(v:Int)(d:σ)(l:v=f s (t.getD k 0) (t.drop<|k+1))(j:d=g s (t.getD k 0) (t.drop<|k+1)):bC f g s0 t (k+1) d (t'.set k v):=by obtain⟨a,b,e,i⟩:=h;refine⟨a++[v],by simp[b],?_,?_⟩;rw[e,drop_at c,yH _ _ (by omega),b,pT];simp;rw[i,drop_at c,pass,<-l,<-j];simp
def bC.same(h:bC f g s0 t k s t')(c:k<t.length):t'.set k (t.getD k 0)=t':=by obtain⟨d,a,b,_⟩:=h;rw[b,drop_at c,yH _ _ (by omega),a,pT];rfl
def bC.stay(h:bC f g s0 t k s t')(b:k<t.length)(a:σ)(d:t.getD k 0=f s (t.getD k 0) (t.drop<|k+1))(c:a=g s (t.getD k 0) (t.drop<|k+1)):bC f g s0 t (k+1) a t':=by have:=h.step b (t.getD k 0) a d c;rwa [h.same b]at this
def bC.length(h:bC f g s0 t k s t')(d:k<=t.length):t'.length=t.length:=by obtain⟨c,a,b,_⟩:=h;rw[b];simp[a];omega
def bC.prev(h:bC f g s0 t k s t')(a:k<t.length)(v:Int):(t'.set k v).getD k 0=v:=by have:=h.length (by omega);rw[aN,mB<|by omega];rfl
end
def jO(a:aw)(k:Nat)(s:Option Int):Prop:=(k=0/\s=U)∨(0<k/\s=V (a.getD (k - 1) 0))
def f1(a:Int)(s:Option Int)(c:Int)(_r:aw):Int:=if c=8 then(match s with|none=>a|some p=>if aU p=db∨p=21 then 12 else p)else c
def g1(a:Int)(s:Option Int)(c:Int)(r:aw):Option Int:=V<|f1 a s c r
def f3(_:Unit)(c:Int)(_:aw):Int:=if c=2 then 1 else c
def g3(_:Unit)(_:Int)(_:aw):Unit:=()
def f4(s:Option Int)(c:Int)(r:aw):Int:=match s,r with
 |some a,d::_=>if a=d/\((c=4/\a=3)∨(c=7/\(a=3∨a=6)))then a else c
 |_,_=>c
def g4(s:Option Int)(c:Int)(r:aw):Option Int:=V<|f4 s c r
def rC:aw->Bool
 |[]=>da
 |c::r=>if c=5 then rC r else c==3
def f5(s:Option Int)(c:Int)(r:aw):Int:=if c=5/\(s=V 3∨rC r=db)then 3 else c
def g5(s:Option Int)(c:Int)(r:aw):Option Int:=V<|f5 s c r
def f6(_:Unit)(c:Int)(_:aw):Int:=if c=4∨c=5∨c=7 then 12 else c
def Qo {a c:Int}{s:Option Int}{r:aw}(h:¬c=8):f1 a s c r=c:=by unfold f1;rw[ai h]
def V4 {c:Int}{r:aw}(h:¬c=2):f3 () c r=c:=by unfold f3;rw[ai h]
def ams {c:Int}{r:aw}(h:c=4∨c=5∨c=7):f6 () c r=12:=by unfold f6;rw[aj h]
def V7 {c:Int}{r:aw}(h:¬(c=4∨c=5∨c=7)):f6 () c r=c:=by unfold f6;rw[ai h]
def V5 {c:Int}{r:aw}:f4 U c r=c:=by unfold f4;rfl
def amr {s:Option Int}{c:Int}:f4 s c []=c:=by unfold f4;cases s<;>rfl
def Ve {a d c:Int}{r:aw}:f4 (V a) c (d::r)=if a=d/\((c=4/\a=3)∨(c=7/\(a=3∨a=6)))then a else c:=rfl
def aga {t:aw}(h:0<t.length):bC f4 g4 U t 1 (V<|t.getD 0 0) t:=by have:=(bC.start f4 g4 U t).stay h (V<|t.getD 0 0) V5.symm (by rw[g4,V5]);exact this
def agb {t b:aw}{k:Nat}{s:Option Int}(h:bC f4 g4 U t k s b)(d:¬k+1<t.length):b=pass f4 g4 U t:=by by_cases a:k<t.length;have c:t.drop (k+1)=[]:=lu (by omega);exact(h.stay a (g4 s (t.getD k 0)<|t.drop<|k+1) (by rw[c,amr]) rfl).stop (by omega);exact h.stop a
def vJ(a:Int)(t:aw):aw:=
 mO 0 0 a (pass f6 g3 ()<|pass f5 g5 U<|pass f4 g4 U<|pass f3 g3 ()<|mO 2 6 a<|pass (f1 a) (g1 a) U t)
def jO.start(a:aw):jO a 0 U:= .inl ⟨rfl,rfl⟩
def jO.set {a:aw}{k:Nat}(v:Int)(h:k<a.length):jO (a.set k v) (k+1) (V v):= .inr ⟨by omega,by rw[pS,aN,mB h];rfl⟩
def jO.stay {t':aw}{k:Nat}:jO t' (k+1) (V<|t'.getD k 0):= .inr ⟨by omega,by rw[pS]⟩
def z7(t:aw)(k:Nat):Nat->aw
 |0=>t
 |m+1=>(z7 t k m).set (k+m) 3
def K2(t:aw)(k:Nat):∀m,(z7 t k m).length=t.length
 |0=>rfl
 |m+1=>by simp[z7,K2 t k m]
def Vb {b:aw}{j:Nat}(d:j<=b.length):∀m a,a+m=j->(∀q,a<=q->q<j->b.getD q 0=5)->rC (b.drop a)=rC (b.drop j)
 |0,a,h,_=>by rw[<-h];rfl
 |m+1,a,h,hr=>by rw[drop_at (show a<b.length by omega),rC,aj<|hr a (au _)<|by omega];exact Vb d m (a+1) (by omega) λq e c=>hr q (by omega) c
def agM {b n:aw}{k j:Nat}{s:Option Int}(h:bC f5 g5 U b k s n)(a:∀q,k<=q->q<j->b.getD q 0=5)(l:j<=b.length)(c:s=V 3∨rC (b.drop j)=db):∀m,k+m<=j->∃d,bC f5 g5 U b (k+m) d (z7 n k m)/\(m=0->d=s)/\(0<m->d=V 3)
 |0,_=>⟨s,h,λ_=>rfl,λh=>by omega⟩
 |m+1,hm=>by
  obtain⟨d,g,f,o⟩:=agM h a l c m (by omega);have p:d=V 3∨rC (b.drop<|k+m+1)=db:=by rcases c with c|c;left;rcases IL m with e|e;rw[f e,c];exact o e;right;rw[Vb l (j - (k+m+1)) (k+m+1) (by omega) λq g f=>a q (by omega) f];exact c
  have i:f5 d (b.getD (k+m) 0) (b.drop<|k+m+1)=3:=by unfold f5;exact aj ⟨a (k+m) (by omega)<|by omega,p⟩
  exact⟨V 3,g.step (by omega) 3 (V 3) i.symm<|by rw[g5,i],λh=>by omega,λ_=>rfl⟩
def agN {c d:aw}{k j:Nat}{s:Option Int}(h:bC f5 g5 U c k s d)(b:∀q,k<=q->q<j->c.getD q 0=5)(i:j<=c.length)(l:k<j)(g:s=V 3∨rC (c.drop j)=db):bC f5 g5 U c j (V 3) (z7 d k<|j - k)/\jO (z7 d k<|j - k) j (V 3):=by
 obtain⟨o,e,_,f⟩:=agM h b i g (j - k) (by omega);rw[f<|by omega,show k+(j - k)=j by omega]at e;refine⟨e,?_⟩;have a:=h.length (by omega);obtain⟨m,n⟩:∃m,j - k=m+1:=⟨j - k - 1,by omega⟩
 rw[n,z7,show j=k+m+1 by omega];exact jO.set 3<|by rw[K2,a];omega
def agO {b r:aw}{k j:Nat}{s:Option Int}(h:bC f5 g5 U b k s r)(a:∀q,k<=q->q<j->b.getD q 0=5)(o:j<=b.length)(p:¬s=V 3)(l:rC (b.drop j)=da):∀m,k+m<=j->∃c,bC f5 g5 U b (k+m) c r/\(m=0->c=s)/\(0<m->c=V 5)
 |0,_=>⟨s,h,λ_=>rfl,λh=>by omega⟩
 |m+1,hm=>by
  obtain⟨c,g,e,t⟩:=agO h a o p l m (by omega);have f:¬c=V 3:=by rcases IL m with d|d;rw[e d];exact p;rw[t d];simp
  have i:=a (k+m) (by omega) (by omega);have n:f5 c (b.getD (k+m) 0) (b.drop<|k+m+1)=5:=by unfold f5;rw[Vb o (j - (k+m+1)) (k+m+1) (by omega) λq g e=>a q (by omega) e,l,ai<|by rintro⟨_,h|h⟩;exact f h;cases h];exact i
  exact⟨V 5,g.stay (by omega) (V 5) (by rw[n];exact i)<|by rw[g5,n],λh=>by omega,λ_=>rfl⟩
def agP {b c:aw}{k j:Nat}{s:Option Int}(h:bC f5 g5 U b k s c)(a:∀q,k<=q->q<j->b.getD q 0=5)(g:j<=b.length)(i:k<j)(l:¬s=V 3)(f:rC (b.drop j)=da):bC f5 g5 U b j (V 5) c/\jO c j (V 5):=by obtain⟨m,d,_,e⟩:=agO h a g l f (j - k) (by omega);rw[e<|by omega,show k+(j - k)=j by omega]at d;refine⟨d,.inr ⟨by omega,?_⟩⟩;rw[h.at (j - 1)<|by omega,a (j - 1) (by omega)<|by omega]
def VP {a:aw}{j:Nat}(c:j<a.length)(b:¬a.getD j 0=5):rC (a.drop j)=(a.getD j 0==3):=by rw[drop_at c,rC,ai b]
def VQ {a:aw}{j:Nat}(b:¬j<a.length):rC (a.drop j)=da:=by rw[lu<|by omega];rfl
def YM {a b:aw}{k:Nat}{s:Option Int}(h:bC f5 g5 U a k s b)(e:k<a.length)(d:¬a.getD k 0=5):bC f5 g5 U a (k+1) (V<|a.getD k 0) b/\jO b (k+1) (V<|a.getD k 0):=by
 have c:f5 s (a.getD k 0) (a.drop<|k+1)=a.getD k 0:=by unfold f5;rw[ai λh=>d h.1]
 refine⟨h.stay e _ c.symm (by rw[g5,c]),?_⟩;rw[<-h.at k (au _)];exact jO.stay
def nJ(a:aw)(r:Int)(b:ba):Nat->Option Nat
 |0=>U
 |m+1=>if(brk<|a.getD (b.getD m 0) 0).2=r then V m else nJ a r b m
def qg(t a:aw)(i:Nat)(x:ba×List (Nat×Nat)):Option (ba×List (Nat×Nat)):=
 if t.getD i 0=12 then
  if(brk<|a.getD i 0).1=1 then(if x.1.length=63 then U else V (x.1++[i],x.2))
  else if(brk<|a.getD i 0).1=2 then(match nJ a (brk<|a.getD i 0).2 x.1 x.1.length with
   |some m=>V (x.1.take m,x.2++[(x.1.getD m 0,i)])
   |none=>V x)
  else V x
 else V x
def dW(t a:aw):Nat->Nat->ba×List (Nat×Nat)->Option (List<|Nat×Nat)
 |0,_,x=>V x.2
 |n+1,i,x=>match qg t a i x with
  |some y=>dW t a n (i+1) y
  |none=>U
def mG(t e:aw)(d:List<|Nat×Nat):Prop:=match dW t e t.length 0 ([],[])with
 |none=>d=[]
 |some c=>d.Perm c/\d.Pairwise (λa b=>a.1<=b.1)
def ahk(a:aw)(r:Int)(b:ba):∀m k,nJ a r b m=V k->k<m
 |0,k,h=>by simp[nJ]at h
 |m+1,k,h=>by rw[nJ]at h;split at h;simp at h;omega;have:=ahk a r b m k h;omega
structure lX(i:Nat)(x:ba×List (Nat×Nat)):Prop where
 len:x.1.length<=63
 few:x.2.length<=i
 st:∀a∈x.1,a<i
 out:∀p∈x.2,p.1<p.2/\p.2<i
 vC:(x.1++x.2.map Prod.fst).Nodup
def lX.start:lX 0 ([],[]):=⟨by simp,by simp,by simp,by simp,by simp⟩
def lX.more {i:Nat}{x:ba×List (Nat×Nat)}(h:lX i x):lX (i+1) x:=
 ⟨h.len,Nat.le_succ_of_le h.few,λa c=>LA<|h.st a c,λp b=>⟨(h.out p b).1,LA (h.out p b).2⟩,h.vC⟩
def lX.push {i:Nat}{x:ba×List (Nat×Nat)}(h:lX i x)(m:¬x.1.length=63):lX (i+1) (x.1++[i],x.2):=by
 obtain⟨k,l,f,e,g⟩:=h;refine⟨by simp;omega,by simp;omega,?_,λp d=>⟨(e p d).1,LA (e p d).2⟩,?_⟩;intro a c;simp at c;rcases c with c|rfl;exact LA<|f a c;exact jd _;show((x.1++[i])++x.2.map Prod.fst).Nodup;have d:((x.1++[i])++x.2.map Prod.fst).Perm (i::(x.1++x.2.map Prod.fst)):=by rw[dY];exact ajp
 rw[d.nodup_iff,Ec];refine⟨?_,g⟩;intro b;rcases ji.1 b with b|b;exact Nat.lt_irrefl _ (f i b);obtain⟨p,j,rfl⟩:=jX.1 b;have:=e p j;omega
def lX.pop {i m:Nat}{x:ba×List (Nat×Nat)}(h:lX i x)(e:m<x.1.length):lX (i+1) (x.1.take m,x.2++[(x.1.getD m 0,i)]):=by
 obtain⟨o,q,f,g,j⟩:=h;have b:x.1.getD m 0=x.1[m]:=by simp[aN,aK e]
 have c:x.1.getD m 0∈x.1:=by rw[b];exact nP e
 refine⟨by simp;omega,by simp;omega,λa k=>LA<|f a<|Lu k,?_,?_⟩;intro p d;simp at d;rcases d with d|rfl;exact⟨(g p d).1,LA (g p d).2⟩;exact⟨by have:=f _ c;simpa [aN]using this,jd _⟩;have n:(x.1.take m++[x.1.getD m 0]).Sublist x.1:=by have:x.1.take m++[x.1.getD m 0]=x.1.take (m+1):=(by rw[b,pR e]);rw[this];exact aju _ _
 have l:=j.sublist<|n.append<|ai5<|x.2.map Prod.fst;refine(ai4 ?_).1 l;simp only[gu,ni,Eb];rw[dY];refine(T5 _).append ?_;exact ajo
def lX.step {t c:aw}{i:Nat}{x y:ba×List (Nat×Nat)}(h:lX i x)(a:qg t c i x=V y):lX (i+1) y:=by unfold qg at a;split at a;split at a;split at a;cases a;obtain rfl:=aI a;exact h.push ‹_›;split at a;split at a;rename_i m b;obtain rfl:=aI a;exact h.pop<|ahk _ _ _ _ _ b;obtain rfl:=aI a;exact h.more;obtain rfl:=aI a;exact h.more;obtain rfl:=aI a;exact h.more
def Yf {t d:aw}:∀n i x a,lX i x->dW t d n i x=V a->(∀p∈a,p.1<p.2/\p.2<i+n)/\(a.map Prod.fst).Nodup
 |0,i,x,a,h,hf=>by rw[dW]at hf;obtain rfl:=aI hf;exact⟨h.out,(II.1 h.vC).2.1⟩
 |n+1,i,x,a,h,hf=>by rw[dW]at hf;split at hf;rename_i y c;have:=Yf n (i+1) y a (h.step c) hf;exact⟨λp b=>⟨(this.1 p b).1,by have:=(this.1 p b).2;omega⟩,this.2⟩;cases hf
def ahp:∀(a b:List<|Nat×Nat),a.Perm b->(a.map Prod.fst).Nodup->a.Pairwise (λp q=>p.1<=q.1)->b.Pairwise (λp q=>p.1<=q.1)->a=b
 |[],b,h,_,_,_=>h.nil_eq
 |p::a,[],h,_,_,_=>by simpa using h.length_eq
 |p::a,q::b,h,hn,ha,hb=>by
  have e:p=q:=by have d:p∈q::b:=h.subset (by simp);have c:q∈p::a:=h.symm.subset (by simp);rcases gI.1 d with d|d;exact d;rcases gI.1 c with c|c;exact c.symm;have f:=(Ef.1 hb).1 p d;have g:=(Ef.1 ha).1 q c;have i:p.1=q.1:=Nat.le_antisymm g f;have:=(Ec.1 hn).1;exact absurd (jX.2 ⟨q,c,i.symm⟩) this
  subst e;rw[ahp a b (List.Perm.cons_inv h) (Ec.1 hn).2 (Ef.1 ha).2 (Ef.1 hb).2]
def mG.one {t c:aw}{a b:List (Nat×Nat)}(h:mG t c a)(k:mG t c b):a=b:=by
 unfold mG at h k;cases hp:dW t c t.length 0 ([],[])with
 |none=>rw[hp]at h k;simp only at h k;rw[h,k]
 |some e=>rw[hp]at h k;have d:=(Yf _ _ _ _ lX.start hp).2;exact ahp a b (h.1.trans k.1.symm) ((ai4<|h.1.map Prod.fst).2 d) h.2 k.2
def mG.ok {t c:aw}{b:List (Nat×Nat)}(h:mG t c b):∀p∈b,p.1<p.2/\p.2<t.length:=by
 unfold mG at h;cases hp:dW t c t.length 0 ([],[])with
 |none=>rw[hp]at h;simp only at h;rw[h];simp
 |some d=>rw[hp]at h;intro p a;have:=(Yf _ _ _ _ lX.start hp).1 p (h.1.subset a);simpa using this
def af0 {t c:aw}:∀n i x a,lX i x->dW t c n i x=V a->a.length<=i+n
 |0,i,x,a,h,hf=>by rw[dW]at hf;obtain rfl:=aI hf;exact h.few
 |n+1,i,x,a,h,hf=>by rw[dW]at hf;split at hf;rename_i y b;have:=af0 n (i+1) y a (h.step b) hf;omega;cases hf
def swp(l:List<|Nat×Nat)(k:Nat):List (Nat×Nat):=(l.set k<|l.getD (k - 1) (0,0)).set (k - 1) (l.getD k (0,0))
def as4(l:List<|Nat×Nat)(k:Nat):(swp l k).length=l.length:=by simp[swp]
def as3(l:List<|Nat×Nat)(k j:Nat)(d:0<k)(c:k<l.length):(swp l k).getD j (0,0)=if j=k then l.getD (k - 1) (0,0)else if j=k - 1 then l.getD k (0,0)else l.getD j (0,0):=by unfold swp;rw[aN,Pg,Pg];by_cases a:j=k;subst a;rw[ai<|by omega,aj rfl,aj c,aj rfl];rfl;rw[ai a];by_cases b:j=k - 1;subst b;rw[aj rfl,aj<|by simp;omega,aj rfl];rfl;rw[ai<|by omega,ai<|by omega,ai b,aN]
def as5(l:List<|Nat×Nat)(k:Nat)(i:0<k)(e:k<l.length):(swp l k).Perm l:=by
 obtain⟨j,rfl⟩:∃j,k=j+1:=⟨k - 1,by omega⟩
 have d:l=l.take j++(l.getD j (0,0)::l.getD (j+1) (0,0)::l.drop (j+2)):=by
  have f:l.drop j=l.getD j (0,0)::l.drop (j+1):=by rw[lV (show j<l.length by omega)];simp[aN,aK (show j<l.length by omega)]
  have g:l.drop (j+1)=l.getD (j+1) (0,0)::l.drop (j+2):=by rw[lV e];simp[aN,aK e]
  rw[<-g,<-f,Ug]
 have c:(l.take j).length=j:=by simp;omega
 have h:swp l (j+1)=l.take j++(l.getD (j+1) (0,0)::l.getD j (0,0)::l.drop (j+2)):=by unfold swp;rw[pS];generalize l.getD j (0,0)=a at*;generalize l.getD (j+1) (0,0)=b at*;generalize l.take j=u at*;generalize l.drop (j+2)=v at*;rw[d,yH _ _ (by omega),yH _ _ (by omega),c];simp
 rw[h]
 conv=>rhs;rw[d]
 exact(T5 _).append (List.Perm.swap _ _ _)
def key(l:List<|Nat×Nat)(j:Nat):Nat:=(l.getD j (0,0)).1
def Bt(c l:List<|Nat×Nat)(i:Nat):Prop:=l.Perm c/\∀a b,a<b->b<i->key l a<=key l b
def El(c l:List<|Nat×Nat)(i k:Nat):Prop:=l.Perm c/\k<=i/\(∀a b,a<b->b<=i->a≠k->b≠k->key l a<=key l b)/\∀b,k<b->b<=i->key l k<=key l b
def Bt.sink {c l:List (Nat×Nat)}{i:Nat}(h:Bt c l i):El c l i i:=⟨h.1,au _,λa b d e f g=>h.2 a b d<|by omega,λb d e=>by omega⟩
def El.swp {d l:List (Nat×Nat)}{i k:Nat}(h:El d l i k)(n:0<k)(w:i<l.length)(s:key l k<key l (k - 1)):El d (swp l k) i (k - 1):=by
 obtain⟨p,v,g,q⟩:=h;have e:∀j,key (Go.Proofs.YtkbinfhclaafhaaGreatDoor.swp l k) j=if j=k then key l (k - 1)else if j=k - 1 then key l k else key l j:=by intro j;unfold key;rw[as3 l k j n<|by omega];split;rfl;split<;>rfl
 refine⟨(as5 l k n<|by omega).trans p,by omega,?_,?_⟩;intro a b r m t u;rw[e,e,ai t,ai u];by_cases f:a=k;rw[aj f];rw[ai<|by omega];exact g (k - 1) b (by omega) m (by omega) (by omega);rw[ai f];by_cases c:b=k;rw[aj c];exact g a (k - 1) (by omega) (by omega) f (by omega);rw[ai c];exact g a b r m f c;intro b m o;rw[e,e,ai<|by omega,aj rfl,ai (by omega:¬b=k - 1)];by_cases c:b=k;rw[aj c];omega;rw[ai c];exact q b (by omega) o
def El.done {d l:List (Nat×Nat)}{i k:Nat}(h:El d l i k)(f:k=0∨¬key l k<key l (k - 1)):Bt d l (i+1):=by obtain⟨m,o,g,n⟩:=h;refine⟨m,λa b j p=> ?_⟩;by_cases c:b=k;subst c;rcases f with f|f;omega;by_cases e:a=b - 1;subst e;omega;have:=g a (b - 1) (by omega) (by omega) (by omega) (by omega);omega;by_cases e:a=k;subst e;exact n b j (by omega);exact g a b j (by omega) e c
def Bt.done {c l:List (Nat×Nat)}{i:Nat}(h:Bt c l i)(g:l.length<=i):l.Perm c/\l.Pairwise (λa b=>a.1<=b.1):=by refine⟨h.1,?_⟩;rw[ajn];intro a b e f d;have:=h.2 a b d (by omega);simpa [key,aN,aK e,aK f]using this
def dV(t:aw)(k:Nat)(v:Int):Nat->aw
 |0=>t
 |m+1=>(dV t k v m).set (k+m) v
def Qp(t:aw)(k:Nat)(v:Int):∀m,(dV t k v m).length=t.length
 |0=>rfl
 |m+1=>by simp[dV,Qp t k v m]
def Ld(t:aw)(k:Nat)(v:Int)(j:Nat):∀m,k+m<=t.length->(dV t k v m).getD j 0=if k<=j/\j<k+m then v else t.getD j 0
 |0,_=>by rw[dV,ai<|by omega]
 |m+1,h=>by rw[dV,aN,Pg];by_cases b:k+m=j;rw[aj b,aj<|by rw[Qp];omega,aj<|by omega];rfl;rw[ai b,<-aN,Ld t k v j m<|by omega];by_cases a:k<=j/\j<k+m;rw[aj a,aj<|by omega];rw[ai a,ai<|by omega]
def vD(a:Int):aw->Int
 |[]=>a
 |c::r=>if bH c<0 then vD a r else bH c
def fN(a e:Int)(s c:Int)(r:aw):Int:=if bH c<0 then(if s=vD a r then s else e)else c
def gN(s c:Int)(_:aw):Int:=if bH c<0 then s else bH c
def E7(a b e:Int)(t:aw):aw:=pass (fN b e) gN a t
def afH {c:Int}{b:aw}{j:Nat}(e:j<=b.length):∀m a,a+m=j->(∀q,a<=q->q<j->bH (b.getD q 0)<0)->vD c (b.drop a)=vD c (b.drop j)
 |0,a,h,_=>by rw[<-h];rfl
 |m+1,a,h,hr=>by rw[drop_at (show a<b.length by omega),vD,aj<|hr a (au _)<|by omega];exact afH e m (a+1) (by omega) λq f d=>hr q (by omega) d
def agT {c e f d:Int}{b o:aw}{k j:Nat}{s:Int}(h:bC (fN c e) gN f b k s o)(a:∀q,k<=q->q<j->bH (b.getD q 0)<0)(l:j<=b.length)(i:d=if s=vD c (b.drop j)then s else e):∀m,k+m<=j->bC (fN c e) gN f b (k+m) s (dV o k d m)
 |0,_=>h
 |m+1,hm=>by have g:=agT h a l i m (by omega);have n:=a (k+m) (by omega) (by omega);refine g.step (by omega) d s ?_ ?_;rw[fN,aj n,afH l (j - (k+m+1)) (k+m+1) (by omega) λq g p=>a q (by omega) p,i];rw[gN,aj n]
def arQ {c e b:Int}{a f:aw}{k:Nat}{s:Int}(h:bC (fN c e) gN b a k s f)(g:k<a.length)(d:¬bH (a.getD k 0)<0):bC (fN c e) gN b a (k+1) (bH<|a.getD k 0) f:=
 h.stay g _ (by rw[fN,ai d]) (by rw[gN,ai d])
def apT {b:Int}{a:aw}{j:Nat}(c:j<a.length)(d:¬bH (a.getD j 0)<0):vD b (a.drop j)=bH (a.getD j 0):=by rw[drop_at c,vD,ai d]
def apU {a:Int}{b:aw}{j:Nat}(c:¬j<b.length):vD a (b.drop j)=a:=by rw[lu<|by omega];rfl
def Sm(a c:aw)(b:Int)(k:Nat)(s:Int):Prop:=(k=0/\s=b)∨(0<k/\s=bH (c.getD (k - 1) 0))∨(k<a.length->¬bH (a.getD k 0)<0)
def mJ(p:Int->Bool)(t:aw)(a:Nat):Nat->Bool
 |0=>da
 |m+1=>mJ p t a m||p (t.getD (a+m) 0)
def lM(a:Int)(t:aw):Nat->Int
 |0=>a
 |m+1=>if bH (t.getD m 0)<0 then lM a t m else bH (t.getD m 0)
def sS:aw->Nat
 |[]=>0
 |c::r=>if c=8 then sS r+1 else 0
def qi(a:aw)(d:Int)(k:Nat)(t:aw):aw:=dV t k d (1+sS (a.drop<|k+1))
def Fp(e:Int)(c:Int):Bool:=bH c==e
def zg(e:Int)(c:Int):Bool:=decide (0<=bH c)&&bH c !=e
def AG(t:aw)(p:Nat×Nat)(e a:Int):Int:=if mJ (Fp e) t (p.1+1) (p.2 - (p.1+1))=db then e else lM a t p.1
def uu(t a:aw)(p:Nat×Nat)(e b:Int):aw:=
 if mJ (Fp e) t (p.1+1) (p.2 - (p.1+1))=da/\mJ (zg e) t (p.1+1) (p.2 - (p.1+1))=da then t
 else qi a (AG t p e b) p.2 (qi a (AG t p e b) p.1 t)
def XZ {l:aw}{m:Nat}(a:m<l.length):sS (l.drop m)=if l.getD m 0=8 then sS (l.drop<|m+1)+1 else 0:=by rw[drop_at a,sS]
def XY {l:aw}{m:Nat}(a:¬m<l.length):sS (l.drop m)=0:=by rw[lu<|by omega];rfl
def ahg(a:aw)(d:Int)(k:Nat)(t:aw):(qi a d k t).length=t.length:=Qp _ _ _ _
def aqn(t a:aw)(p:Nat×Nat)(e b:Int):(uu t a p e b).length=t.length:=by unfold uu;split;rfl;rw[ahg,ahg]
