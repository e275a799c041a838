import Derived.Test.YtkbinfhclaafhaaGreatDoorProg
import Derived.WalkKit
import Derived.WalkSpells
import Derived.WalkLawsBesides
import Derived.Deep.QuietTactic
import Derived.BigQuiet
import Derived.WalkSmall
import Derived.Lib.OthersKept
import Derived.RegionTactic
import Derived.BigRegion
import Derived.Lib.SmallJoins
namespace Go.Proofs.YtkbinfhclaafhaaGreatDoor
open Go.RowKit
open Go.Proofs.Tryz
set_option maxRecDepth 100000
set_option maxHeartbeats 32000000
set_option linter.all false
def ai:=@if_neg
def aj:=@if_pos
def ay:=@Nat.le_refl
def aA:=@Below.refl
def aK:=@Option.some.inj
def aO:=@List.getD_eq_getElem?_getD
def aQ:=@List.getElem?_eq_getElem
def aY:=@rounds_succ
def bP:=@List.length_append
def bU:=@Nat.le_trans
def cG:=@bodyPost_ret
def cK:=@Nat.lt_or_ge
def dg:=@World.ownsRow.cellAt
def dw:=@wp_loop_rounds
def dM:=@Below.heap_alloc
def eV:=@List.append_assoc
def eW:=@List.length_cons
def fK:=@Joins.block_setCell
def fO:=@List.map_append
def fW:=@Nat.le_of_lt
def fZ:=@below_drewN
def gK:=@Below.heap_setCell
def gW:=@info_parts
def iz:=@Nat.zero_add
def jc:=@List.length_pos_iff
def jd:=@Nat.min_eq_left
def jr:=@List.mem_map
def jt:=@World.grownBy.refl
def jw:=@World.ownsRow_nil
def jD:=@List.drop_eq_nil_of_le
def jE:=@List.length_map
def jF:=@List.mem_cons
def jO:=@List.getElem?_map
def jQ:=@World.cell?_alloc_lt
def kq:=@List.length_nil
def kr:=@Nat.add_sub_cancel
def ku:=@Nat.lt_of_lt_of_le
def kK:=@List.mem_append
def kM:=@Nat.le_succ
def lu:=@List.append_nil
def lB:=@List.take_of_length_le
def lV:=@run_callFunc_extern
def l9:=@List.drop_eq_getElem_cons
def mP:=@Array.getElem?_push_size
def mX:=@decide_eq_true
def nK:=@Nat.sub_self
def nM:=@World.ownsRow.alloc
def o6:=@List.foldl_cons
def pT:=@List.getElem?_append_right
def pU:=@List.getElem?_eq_none
def pV:=@List.getElem_mem
def pW:=@List.getLastD_eq_getLast?
def pX:=@List.map_cons
def pY:=@List.mem_singleton
def pZ:=@List.take_succ_eq_append_getElem
def qQ:=@List.filter_append
def qU:=@List.filter_cons
def qV:=@List.getElem?_append_left
def qW:=@List.getElem?_eq_some_iff
def qY:=@Nat.add_zero
def rB:=@decide_eq_false
def rW:=@List.length_take
def rY:=@Nat.zero_le
def uJ:=@Array.getElem?_eq_none
def uU:=@List.drop_of_length_le
def uV:=@List.flatMap_cons
def uW:=@List.mem_filter
def uX:=@List.set_append_right
def uY:=@Value.slice.injEq
def vN:=@true_and
def wN:=@Int.ofNat_sub
def wO:=@List.eq_nil_or_concat
def wP:=@List.getElem?_cons_succ
def wQ:=@List.getElem?_cons_zero
def wR:=@List.getElem?_toArray
def wT:=@Option.map_eq_some_iff
def w9:=@frozen_of_row
def xL:=@ownsRow_setCell_below
def yq:=@List.flatten_cons
def yu:=@List.getElem?_drop
def yw:=@List.length_filter_le
def yx:=@List.nil_append
def yE:=@World.ownsRow.lt
def yH:=@beq_iff_eq
def y8:=@if_true
def zj:=@results_none
def zy:=@Calls.mono
def zW:=@List.concat_eq_append
def zX:=@List.take_add_one
def zZ:=@Nat.mul_le_mul
def z7:=@World.ownsRow.stored
def A4:=@DataW.trod_int
def Bn:=@List.nodup_cons
def Bo:=@Option.some.injEq
def Bu:=@World.ownsRow.frozenAt
def BA:=@decide_eq_false_iff_not
def Cr:=@run_underlying
def Cw:=@Bool.eq_iff_iff
def Cx:=@Calls.quiet_of_same
def CR:=@Int.toNat_natCast
def CS:=@List.dropLast_concat_getLast
def CT:=@List.foldl_append
def CU:=@Option.getD_some
def DZ:=@Array.getElem?_setIfInBounds_ne
def Ei:=@List.dropLast_concat
def Ej:=@List.filter_nil
def Ek:=@List.getLast?_eq_getElem?
def El:=@List.getLast?_eq_some_getLast
def Em:=@List.map_nil
def En:=@List.mem_cons_of_mem
def Eo:=@List.nodup_append
def Ep:=@List.pairwise_cons
def Er:=@List.replicate_succ
def Es:=@Nat.eq_zero_or_pos
def Et:=@Nat.min_eq_right
def Eu:=@Oper.semAt_some
def Ex:=@World.var?_cell
def FO:=@wpList_append_own
def FQ:=@wp_goto
def FR:=@Bool.false_or
def FT:=@Bool.or_eq_false_iff
def FU:=@Bool.or_eq_true
def Gy:=@List.cons_append
def Gz:=@List.ext_getElem?
def GA:=@List.flatMap_def
def GC:=@List.getElem?_range
def GD:=@List.map_congr_left
def GF:=@List.mem_flatMap
def GG:=@List.mem_range
def GH:=@List.range_succ
def GI:=@List.replicate_zero
def GJ:=@Nat.add_assoc
def GK:=@Nat.lt_succ_of_lt
def GL:=@Nat.mul_one
def GM:=@Nat.succ_ne_zero
def GN:=@Nat.zero_min
def GP:=@Option.map_some
def GR:=@Prod.mk.injEq
def GU:=@Sem.run_bind
def GY:=@beq_eq_false_iff_ne
def Jz:=@of_decide_eq_true
def J1:=@step_scope
def J8:=@Bool.and_eq_true
def KE:=@Int.le_refl
def KF:=@Lib.iterAt_other
def KG:=@List.getElem?_set
def KH:=@List.getElem?_take_of_lt
def KI:=@List.getLast?_append
def KJ:=@List.length_drop
def KL:=@List.length_range
def KM:=@List.map_map
def KN:=@List.mem_cons_self
def KO:=@List.mem_of_mem_take
def KP:=@List.replicate_succ'
def KQ:=@List.take_length
def KR:=@World.ownsRow.drew
def Lj:=@decide_eq_true_eq
def MD:=@or_false
def Nh:=@Array.getElem?_eq_getElem
def Ni:=@Array.getElem?_eq_some_iff
def Ow:=@Int.natCast_nonneg
def Ox:=@IntWalk.i64_in
def OA:=@Lib.run_next_end_at
def OC:=@List.Perm.refl
def OD:=@List.drop_drop
def OE:=@List.flatMap_append
def OG:=@List.foldl_nil
def OH:=@List.getElem?_replicate
def OI:=@List.getElem?_take
def OJ:=@List.length_eq_zero_iff
def OL:=@List.length_reverse
def OM:=@List.length_zip
def OO:=@List.mem_flatten
def OP:=@List.not_mem_nil
def OQ:=@List.set_set
def OU:=@World.iter_heap
def PL:=@forall_eq
def PM:=@forall_eq_or_imp
def PV:=@getElem!_pos
def Qz:=@heap_alloc_new
def T9:=@wpIn_wide
def Ua:=@wpList_load_row
def Ue:=@Addr.add_lit
def Uf:=@Array.getD_eq_getD_getElem?
def Ug:=@Array.getElem?_setIfInBounds_self_of_lt
def Uh:=@Array.length_toList
def Ui:=@Below.size
def Uj:=@Below.trans
def Uk:=@ByteArray.getElem_extract
def Ul:=@DataW.trod_array
def Vs:=@Lib.OthersKept.refl
def Vt:=@Lib.below_iterAt
def Vu:=@Lib.iterAt_heap
def Vv:=@Lib.run_next_any_at
def Vw:=@List.Pairwise.filter
def Vx:=@List.any_cons
def Vy:=@List.contains_eq_mem
def Vz:=@List.dropLast_subset
def VA:=@List.eq_nil_of_length_eq_zero
def VB:=@List.getD_cons_succ
def VC:=@List.getElem?_of_mem
def VD:=@List.getElem?_set_self
def VE:=@List.length_singleton
def VF:=@List.map_take
def VG:=@List.mem_of_getElem?
def VH:=@List.prefix_append
def VI:=@List.sublist_flatten_of_mem
def VJ:=@List.take_succ_cons
def VK:=@List.take_zero
def VL:=@MapKept.run_getObj_map
def VM:=@Nat.lt_succ_self
def VN:=@Option.bind_some
def VP:=@Result.andThen_ok
def Xr:=@errorString_of_trod
def Y7:=@heap_setCell_same
def abg:=@ownsRow_pop
def ab6:=@run_copy_none
def ace:=@run_makeMap
def acL:=@toList_madeCells_one
def adu:=@Array.getElem?_toList
def adv:=@Array.getElem_mem_toList
def adw:=@Bool.and_eq_false_iff
def adx:=@Bool.not_eq_true'
def ady:=@ByteArray.extract_extract
def adz:=@ByteArray.size_extract
def adA:=@Classical.byContradiction
def adB:=@Decidable.byContradiction
def adY:=@Lib.run_clear_slice
def adZ:=@List.Nodup.not_mem_erase
def ad0:=@List.Perm.nodup_iff
def ad1:=@List.Sublist.refl
def ad2:=@List.count_pos_iff
def ad3:=@List.drop_append_of_le_length
def ad4:=@List.drop_length
def ad5:=@List.erase_of_not_mem
def ad6:=@List.filter_eq_nil_iff
def ad7:=@List.getD_cons_zero
def ad8:=@List.getElem?_set_ne
def ad9:=@List.getElem_of_mem
def aea:=@List.getLast?_singleton
def aeb:=@List.getLast_mem
def aec:=@List.length_erase_of_mem
def aed:=@List.length_replicate
def aee:=@List.map_toArray
def aef:=@List.mem_of_mem_erase
def aeg:=@List.mem_reverse
def aeh:=@List.nodup_range
def aei:=@List.pairwise_iff_getElem
def aej:=@List.perm_append_comm
def aek:=@List.perm_middle
def ael:=@List.prefix_refl
def aem:=@List.range_succ_eq_map
def aen:=@List.reverse_nil
def aeo:=@List.set_cons_succ
def aep:=@List.set_cons_zero
def aeq:=@List.take_append_drop
def aer:=@List.take_sublist
def aes:=@World.block_lt_of_cell?
def aet:=@World.size_setCell
def ae7:=@bne_eq_false_iff_eq
def alo:=@run_append_own_at
def als:=@run_eql_iface_ptr_other
def alu:=@run_eql_iface_ptr_same
def alv:=@run_equalIn_array
def alx:=@run_equalIn_iface_ptr_same
def an2:=@wpList_append_own_at
theorem ah {p:Prop}(h:p):Hid p:=h
def aS(c:Int):Bool:=c==18||(c==19||c==20)
def cN:List Int->Int->Option Nat
 |[],_=>none
 |c::r,n=>if c=21 then(if n - 1=0 then some 0 else(cN r (n - 1)).map (·+1))else(cN r (if aS c=true then n+1 else n)).map (·+1)
def mt(cs:List Int)(i:Nat):Nat:=match cN (cs.drop i) 0 with
 |some d=>i+d
 |none=>cs.length
theorem Jj:aS 21=false:=by decide
def kL(cs:List Int)(i k:Nat)(n:Int):Prop:=i<=k/\k<=cs.length/\cN (cs.drop i) 0=(cN (cs.drop k) n).map (·+(k - i))
theorem kL.start(cs:List Int)(i:Nat)(h:i<=cs.length):kL cs i i 0:=⟨ay _,h,by simp⟩
theorem kL.stop {cs:List Int}{i k:Nat}{n:Int}(h:kL cs i k n)(hk:¬k<cs.length):mt cs i=cs.length:=by
 obtain⟨_,h2,h3⟩:=h;unfold mt;rw [h3,jD (by omega)];rfl
theorem drop_at {cs:List Int}{k:Nat}(hk:k<cs.length):cs.drop k=cs.getD k 0::cs.drop (k+1):=by
 rw [l9 hk];simp [aO,aQ hk]
theorem kL.plain {cs:List Int}{i k:Nat}{n:Int}(h:kL cs i k n)(hk:k<cs.length)(hc:cs.getD k 0≠21):kL cs i (k+1) (if aS (cs.getD k 0)=true then n+1 else n):=by
 obtain⟨h1,h2,h3⟩:=h;refine⟨by omega,hk,?_⟩;rw [h3,drop_at hk,cN,ai hc,Option.map_map]
 congr 1
 funext d
 simp only [Function.comp];omega
theorem kL.Cm {cs:List Int}{i k:Nat}{n:Int}(h:kL cs i k n)(hk:k<cs.length)(hc:cs.getD k 0=21)(hn:n - 1≠0):kL cs i (k+1) (n - 1):=by
 obtain⟨h1,h2,h3⟩:=h;refine⟨by omega,hk,?_⟩;rw [h3,drop_at hk,hc,cN,aj rfl,ai hn,Option.map_map]
 congr 1
 funext d
 simp only [Function.comp];omega
theorem kL.hit {cs:List Int}{i k:Nat}{n:Int}(h:kL cs i k n)(hk:k<cs.length)(hc:cs.getD k 0=21)(hn:n - 1=0):mt cs i=k:=by
 obtain⟨h1,h2,h3⟩:=h;unfold mt;rw [h3,drop_at hk,hc,cN,aj rfl,aj hn];simp;omega
theorem RY:∀(l:List Int)(n:Int)(d:Nat),cN l n=some d->d<l.length
 |[],_,_,h=>by simp [cN]at h
 |c::r,n,d,h=>by
  rw [cN]at h;split at h
  .split at h
   .simp at h;subst h;simp
   .cases hr:cN r (n - 1)with
    |none=>rw [hr]at h;simp at h
    |some d'=>rw [hr]at h;simp at h;subst h;have:=RY r _ d' hr;simp;omega
  .cases hr:cN r (if aS c=true then n+1 else n)with
   |none=>rw [hr]at h;simp at h
   |some d'=>rw [hr]at h;simp at h;subst h;have:=RY r _ d' hr;simp;omega
theorem rG(cs:List Int)(i:Nat)(h:i<=cs.length):i<=mt cs i/\mt cs i<=cs.length:=by
 unfold mt;split
 .rename_i d hd;have:=RY _ _ _ hd;simp at this;omega
 .omega
def jI(cs:List Int):Nat->Nat->Int
 |0,_=>0
 |f+1,i=>if i<cs.length then(if cs.getD i 0=0 then 0 else if cs.getD i 0=1∨cs.getD i 0=2 then 1 else if aS (cs.getD i 0)=true then jI cs f (mt cs i+1)else jI cs f (i+1))else 0
def found(cs:List Int):Int:=jI cs cs.length 0
theorem LD(cs:List Int):∀f i,cs.length<=i+f->jI cs f i=jI cs (f+1) i
 |0,i,h=>by rw [jI,jI,ai (by omega)]
 |f+1,i,h=>by
  rw [jI,jI];by_cases hi:i<cs.length
  .rw [aj hi,aj hi];have hm:=rG cs i (by omega);rw [LD cs f (mt cs i+1) (by omega),LD cs f (i+1) (by omega)]
  .rw [ai hi,ai hi]
theorem PO(cs:List Int)(f g i:Nat)(hf:cs.length<=i+f)(hg:cs.length<=i+g):jI cs f i=jI cs g i:=by
 have key:∀d f i,cs.length<=i+f->jI cs f i=jI cs (f+d) i:=by
  intro d
  induction d with
  |zero=>intro f i _;rfl
  |succ d ih=>intro f i h;rw [ih f i h,LD cs (f+d) i (by omega)];rfl
 rcases Nat.le_total f g with h|h
 .rw [key (g - f) f i hf];congr 1;omega
 .rw [key (f - g) g i hg];congr 1;omega
def bC(c:Int):Int:=if c=0 then 0 else if c=1∨c=3∨c=6 then 1 else -1
def iy(a b:Int):Int:=if(if a<b then b else a)%2=1 then 1 else 0
def mF(c l:Int):Int:=if l%2=0 then(if c=1 then l+1 else if c=6∨c=3 then l+2 else l)else(if c=1 then l else l+1)
def jX(c:Int):Bool:=c==11||(c==9||decide (13<=c))
def canon(r:Int):Int:=if r=9001 then 12296 else if r=9002 then 12297 else r
def brk(r:Int):Int×Int:=
 if canon r=40∨canon r=91∨canon r=123∨canon r=12296 then(1,canon r)
 else if canon r=41 then(2,40)else if canon r=93 then(2,91)else if canon r=125 then(2,123)else if canon r=12297 then(2,12296)else(0,0)
def bG(w:World)(b off:Nat)(l:List Int):Prop:=∀i,i<l.length->w.cell? ⟨b,off+i,none⟩=some (.int .i64 (l.getD i 0))
def js(w:World)(v:Value)(l:List Int):Prop:=(v= .slice none 0 0/\l=[])∨∃b off cap,v= .slice (some ⟨b,off,none⟩) l.length cap/\bG w b off l
theorem bI {k:IntKind}{a b:Int}(h:a=b):Ending.returned (.int k a)= .returned (.int k b):=by rw [h]
theorem iw {a b:Bool}(h:a=b):Ending.returned (.bool a)= .returned (.bool b):=by rw [h]
def je(r:Int)(l:List Int):Bool:=l.contains r
theorem aeD(l:List Int)(r:Int)(k:Nat)(h:k<l.length)(hn:je r (l.take k)=false)(he:(l.getD k 0==r)=false):je r (l.take (k+1))=false:=by
 unfold je at hn ⊢;rw [aO,aQ h]at he;simp only [CU,GY]at he;rw [pZ h,Vy,BA,kK];rw [Vy,BA]at hn;rintro(e|e)
 .exact hn e
 .exact he (pY.1 e).symm
theorem aeB(l:List Int)(r:Int)(k:Nat)(h:k<l.length)(he:(l.getD k 0==r)=true):je r l=true:=by
 unfold je;rw [aO,aQ h]at he;simp at he;simp;exact he▸pV h
theorem KT(r:Int)(l:List Int)(b off cap n:Nat)(w:World)(hl:l.length=n)(hn:n<=1000000)(hc:bG w b off l):
  Calls prog 68 #[.int .i64 r,.slice (some ⟨b,off,none⟩) n cap] w fun e w'=>e= .returned (.bool (je r l))/\w'=w:=by
 have HC:=ah hc;have HL:=ah hl;clear hc hl;go_enter func68,ntmps68;go_wp2;go_loop [5] (fun i=>∃k:Nat,k<=n/\i= .int .i64 k/\je r (l.take k)=false) (fun i=>n - (intOf i).toNat);case atStart=>exact⟨0,rY _,rfl,by simp [je]⟩
 case round=>
  obtain⟨k,hk,rfl,hn⟩:=hrel;have HN:=ah hn;clear hn;by_cases hlt:k<n
  .have hcell:=HC.out k (by rw [HL.out];exact hlt);obtain⟨x,hx⟩:∃x,x=l.getD k 0:=⟨_,rfl⟩
   rw [<-hx]at hcell;have HX:=ah hx;clear hx;by_cases he:(x==r)=true
   .go_wp2;go_ret;exact⟨iw (aeB l r k (by rw [HL.out];exact hlt) (HX.out▸he)).symm,rfl⟩
   .have he:(x==r)=false:=by simpa using he
    go_wp2;go_round;case rel=>exact⟨k+1,by omega,by go_num,aeD l r k (by rw [HL.out];exact hlt) HN.out (HX.out▸he)⟩
    case measure=>simp [intOf];omega
  .go_wp2;go_ret;refine⟨iw ?_,rfl⟩;have:=HN.out;rw [lB (by rw [HL.out];omega)]at this;exact this.symm
theorem aeC(r:Int)(w:World):
  Calls prog 68 #[.int .i64 r,.slice none 0 0] w fun e w'=>e= .returned (.bool false)/\w'=w:=by
 go_enter func68,ntmps68;go_wp2;refine dw 1 ?_;rw [aY];go_wp2;go_ret;exact⟨rfl,rfl⟩
theorem aeA(r:Int)(l:List Int)(v:Value)(w:World)(hl:l.length<=1000000)(hv:js w v l):
  Calls prog 68 #[.int .i64 r,v] w fun e w'=>e= .returned (.bool (je r l))/\w'=w:=by
 rcases hv with⟨rfl,rfl⟩|⟨b,off,cap,rfl,hc⟩
 .exact aeC r w
 .exact KT r l b off cap l.length w rfl hl hc
theorem ano(x y z:Int)(w:World):
  Calls prog 47 #[.agg #[.int .i64 x,.int .i64 y,.int .i64 z],.agg #[.int .i64 x,.int .i64 y,.int .i64 z]] w fun e w'=>e= .returned (.bool true)/\Below w.heap.size w w':=by
 go_enter func47,ntmps47;go_wp2;go_ret;exact⟨rfl,by repeat (first|exact aA _ _|refine Below.alloc ?_ (by simp<;>omega) _)⟩
theorem Below.chain {a b b' c:World}(h1:Below a.heap.size a b)(h:Below b.heap.size b b')(h2:Below b'.heap.size b' c):Below a.heap.size a c:=
 h1.trans ((h.mono h1.size).trans (h2.mono (bU h1.size h.size)))
theorem V5 {W w1:World}(hb:Below W.heap.size W w1):(∀b o,b<W.heap.size->w1.cell? ⟨b,o,none⟩=W.cell? ⟨b,o,none⟩)/\(∀b o,b<W.heap.size->w1.frozen? ⟨b,o,none⟩=W.frozen? ⟨b,o,none⟩):=
 ⟨fun b o h=>hb.cell (p:=⟨b,o,none⟩) h,fun b o h=>hb.frozen (p:=⟨b,o,none⟩) h⟩
theorem bG.below {W w1:World}{b off:Nat}{l:List Int}(h:bG W b off l)(hb:Below W.heap.size W w1):bG w1 b off l:=by
 intro i hi;have:=h i hi;rw [<-this];refine hb.cell ?_;rcases cK b W.heap.size with h'|h'
 .exact h'
 .simp [World.cell?,uJ h']at this
theorem js.below {W w1:World}{v:Value}{l:List Int}(h:js W v l)(hb:Below W.heap.size W w1):js w1 v l:=by
 rcases h with h|⟨b,off,cap,rfl,hc⟩
 .exact .inl h
 .exact .inr ⟨b,off,cap,rfl,hc.below hb⟩
theorem FP {P:Program}(w:World){ops:Array Oper}{rest:List Oper}{o:Oper}{a:Act}{Q:Exit->Act->World->Prop}(hgd:o.guard=none)(s x:Operand)(t:TypeId)
  (ho:o.op= .call {callee:= .builtin .append,args:=#[s,x],argTypes:=#[t,t]})
  (base:Nat) (e:TypeId) (i:TypeInfo) (z:Value) (bytes:Nat) (ht:P.underlying t=some (.slice e)) (hi:P.info? e=some i) (hz:i.zero=some z)
  (hsize:i.size=1) (hby:i.bytes=bytes) (hzs:z.cells.size=1) (oJ:bytes<=64)
  (v:Value) (n:Nat) (xs:List Value) (hs:a.eval s=v) (hown:w.ownsRow base e 1 v n xs)
  (y:Value) (e':TypeId) (hx:a.eval x= .slice (some ⟨w.heap.size,0,none⟩) 1 1) (h1:y.oneCell'=true) (hn:n<=1000000) (hbase:base<=w.heap.size)
  (h:∀v' w',w'.ownsRow base e 1 v' (n+1) (xs++[y])->Below base w w'->wpList P ops Q rest (a.put o.dst v') w'):wpList P ops Q (o::rest) a (w.alloc (.cells #[y] e')):=by
 refine FO _ hgd s x t ho base e i z 1 bytes ht hi hz hsize hby hzs (by decide) v n xs hs (hown.alloc _) ⟨w.heap.size,0,none⟩ 1 1 [y] hx rfl ?_ ?_ ?_ ?_ ?_ ?_
 .intro j u hj
  match j,hj with
  |0,hj=>simp at hj;subst hj;simp [Addr.add]
 .intro u hu;simp at hu;subst hu;exact h1
 .unfold maxLen;omega
 .have:(n+1)*bytes<=1000001*64:=zZ (by omega) oJ;omega
 .simp;omega
 .intro v' w' h2 h3 _;exact h v' w' h2 (((aA base w).alloc hbase _).grown h3 (by simp;omega) fun k hk=>(hown.lt k hk).1)
theorem js.JA {w:World}{base:Nat}{e:TypeId}{v:Value}{n:Nat}{l:List Int}(h:w.ownsRow base e 1 v n (l.map (Value.int .i64))):js w v l:=by
 have hn:l.length=n:=by have:=h.1;simpa using this
 rcases h.2 with⟨rfl,h0⟩|⟨g,cap,cur,rfl,_⟩
 .exact .inl ⟨rfl,OJ.1 (by omega)⟩
 .refine .inr ⟨g,0,cap,by rw [hn],fun i hi=> ?_⟩;have:=h.cellAt i (by omega);rw [iz,this,jO,aQ hi];simp [aO,aQ hi]
theorem aij(w:World)(l:List Int)(t:TypeId):bG (w.alloc (.cells (l.map (Value.int .i64)).toArray t)) w.heap.size 0 l:=by
 intro i hi;rw [World.cell?_alloc_at _ _ _ _ rfl];simp [aO,aQ hi]
theorem Rp(w:World)(n:Nat)(l:List Int)(cs:Array Value)(t:TypeId)(hn:n=w.heap.size)(hcs:cs=(l.map (Value.int .i64)).toArray):bG (w.alloc (.cells cs t)) n 0 l:=by
 subst hn;subst hcs;exact aij w l t
theorem an4(b:UInt8):wrap64 (b.toNat:Int)=(b.toNat:Int):=by have:=b.toNat_lt;exact IntWalk.wrap64_in _ (by omega)
theorem Tryz.Dw:(prog.info? 3).map (fun i=>(i.zero,i.size,i.bytes))=some (some (.int .i64 0),1,8):=by kernel_rfl
def wX(s:ByteArray):List Int:=s.data.toList.map fun b=>(b.toNat:Int)
theorem Wk(s:ByteArray):(wX s).length=s.size:=by simp only [wX,jE,Uh];rfl
theorem afo(s:ByteArray)(k:Nat)(h:k<s.size):(wX s).take (k+1)=(wX s).take k++[(s[k].toNat:Int)]:=by
 rw [pZ (by rw [Wk];exact h)]
 congr 1
 simp [wX];rfl
theorem amh(s:ByteArray)(w:World)(hs:s.size<=10000):
  Calls prog 113 #[.string s] w fun e w'=>∃v,e= .returned v/\w'.ownsRow w.heap.size 3 1 v s.size ((wX s).map (Value.int .i64))/\Below w.heap.size w w':=by
 obtain⟨i0,hi,hz0,hz1,hz2⟩:=gW Tryz.Dw;go_enter func113,ntmps113;go_wp2;go_loopw [3,4] (fun v i wr=>∃k:Nat,k<=s.size/\i= .int .i64 k/\wr.ownsRow w.heap.size 3 1 v k (((wX s).take k).map (Value.int .i64))/\Below w.heap.size w wr) (fun _ i _=>s.size - (intOf i).toNat);case atStart=>exact⟨0,rY _,rfl,by simpa using jw _ _ _ _,aA _ _⟩
 case round=>
  obtain⟨k,hk,rfl,hown,hb⟩:=hrel;by_cases hlt:k<s.size
  .have HS:=ah (afo s k hlt);have hbz:=hb.size;go_wp2_with(at_builtin;refine FP _ rfl _ _ 31 rfl w.heap.size 3 i0 (.int .i64 0) 8 underlying31 hi hz0 hz1 hz2 rfl (by decide) _ _ _ rfl hown _ _ rfl rfl (by omega) (by omega) ?_);intro v' w1 hown' hb';clear hown;go_wp2;go_roundw;case rel=>exact⟨k+1,by omega,by go_num,by rw [HS.out];rw [an4]at hown';simpa using hown',hb.trans hb'⟩
   case measure=>simp [intOf];omega
  .go_wp2;go_ret;refine⟨_,rfl,?_,hb⟩;have e:k=s.size:=by omega
   subst e
   rwa [lB (by rw [Wk];omega)]at hown
def cls(r:Int):Int:=
 if(1488<=r/\r<=1514)∨r=8207 then 1
 else if(1575<=r/\r<=1610)∨r=1564 then 2
 else if 48<=r/\r<=57 then 3
 else if r=43∨r=45 then 4
 else if 1632<=r/\r<=1641 then 6
 else if(768<=r/\r<=879)∨(1611<=r/\r<=1618)then 8
 else if r=173∨r=8203 then 9
 else if r=9 then 10
 else if r=32∨r=8195 then 11
 else if 8294<=r/\r<=8297 then 18+r - 8294
 else if je r [35,36,37,8364]=true then 5
 else if je r [44,46,47,58]=true then 7
 else if je r (wX {data:=#[33,34,38,39,40,41,42,59,60,61,62,63,64,91,92,93,94,95,96,123,124,125,126]})=true∨je r [9001,9002,12296,12297]=true then 12
 else if r=8234 then 13
 else if r=8235 then 14
 else if r=8237 then 15
 else if r=8238 then 16
 else if r=8236 then 17
 else 0
theorem K8 {r:Int}(h:(1488<=r/\r<=1514)∨r=8207):cls r=1:=by
 unfold cls;rw [aj h]
theorem K9 {r:Int}(h:(1575<=r/\r<=1610)∨r=1564):cls r=2:=by
 unfold cls;rw [ai (by omega)];rw [aj h]
theorem WK {r:Int}(h:48<=r/\r<=57):cls r=3:=by
 unfold cls;rw [ai (by omega)];rw [ai (by omega)];rw [aj h]
theorem La {r:Int}(h:r=43∨r=45):cls r=4:=by
 unfold cls;rw [ai (by omega)];rw [ai (by omega)];rw [ai (by omega)];rw [aj h]
theorem WL {r:Int}(h:1632<=r/\r<=1641):cls r=6:=by
 unfold cls;rw [ai (by omega)];rw [ai (by omega)];rw [ai (by omega)];rw [ai (by omega)];rw [aj h]
theorem Lb {r:Int}(h:(768<=r/\r<=879)∨(1611<=r/\r<=1618)):cls r=8:=by
 unfold cls;rw [ai (by omega)];rw [ai (by omega)];rw [ai (by omega)];rw [ai (by omega)];rw [ai (by omega)];rw [aj h]
theorem Lc {r:Int}(h:r=173∨r=8203):cls r=9:=by
 unfold cls;rw [ai (by omega)];rw [ai (by omega)];rw [ai (by omega)];rw [ai (by omega)];rw [ai (by omega)];rw [ai (by omega)];rw [aj h]
theorem WM {r:Int}(h:r=9):cls r=10:=by
 unfold cls;rw [ai (by omega)];rw [ai (by omega)];rw [ai (by omega)];rw [ai (by omega)];rw [ai (by omega)];rw [ai (by omega)];rw [ai (by omega)];rw [aj h]
theorem Ld {r:Int}(h:r=32∨r=8195):cls r=11:=by
 unfold cls;rw [ai (by omega)];rw [ai (by omega)];rw [ai (by omega)];rw [ai (by omega)];rw [ai (by omega)];rw [ai (by omega)];rw [ai (by omega)];rw [ai (by omega)];rw [aj h]
theorem G8 {r:Int}(h:8294<=r/\r<=8297):cls r=18+r - 8294:=by
 unfold cls;rw [ai (by omega)];rw [ai (by omega)];rw [ai (by omega)];rw [ai (by omega)];rw [ai (by omega)];rw [ai (by omega)];rw [ai (by omega)];rw [ai (by omega)];rw [ai (by omega)];rw [aj h]
def nZ(r:Int):Prop:=¬((1488<=r/\r<=1514)∨r=8207)/\¬((1575<=r/\r<=1610)∨r=1564)/\¬(48<=r/\r<=57)/\¬(r=43∨r=45)/\¬(1632<=r/\r<=1641)/\¬((768<=r/\r<=879)∨(1611<=r/\r<=1618))/\¬(r=173∨r=8203)/\¬r=9/\¬(r=32∨r=8195)/\¬(8294<=r/\r<=8297)
theorem WN {r:Int}(h:nZ r):cls r=if je r [35,36,37,8364]=true then 5
 else if je r [44,46,47,58]=true then 7
 else if je r (wX {data:=#[33,34,38,39,40,41,42,59,60,61,62,63,64,91,92,93,94,95,96,123,124,125,126]})=true∨je r [9001,9002,12296,12297]=true then 12
 else if r=8234 then 13
 else if r=8235 then 14
 else if r=8237 then 15
 else if r=8238 then 16
 else if r=8236 then 17
 else 0:=by
 obtain⟨h1,h2,h3,h4,h5,h6,h7,h8,h9,h10⟩:=h;unfold cls;rw [ai h1,ai h2,ai h3,ai h4,ai h5,ai h6,ai h7,ai h8,ai h9,ai h10]
theorem Ay(c:Int)(w:World):Calls prog 114 #[.int .i64 c] w fun e w'=>e= .returned (.bool (aS c))/\w'=w:=by
 obtain⟨q,hq⟩:∃q,q=aS c:=⟨_,rfl⟩
 rw [<-hq];have HQ:=ah hq;clear hq;by_cases h1:(c==18)=true
 .go_enter func114,ntmps114;go_wp2;go_ret;exact⟨iw (by rw [HQ.out,aS,h1];rfl),rfl⟩
 have h1:(c==18)=false:=by simpa using h1
 by_cases h2:(c==19)=true
 .go_enter func114,ntmps114;go_wp2;go_ret;exact⟨iw (by rw [HQ.out,aS,h1,h2];rfl),rfl⟩
 have h2:(c==19)=false:=by simpa using h2
 go_enter func114,ntmps114;go_wp2;go_ret;exact⟨iw (by rw [HQ.out,aS,h1,h2];rfl),rfl⟩
theorem Js(cs:List Int)(i b off cap len:Nat)(w:World)(hl:cs.length=len)(hn:len<=1000000)(hi:i<=len)(hc:bG w b off cs):
  Calls prog 115 #[.slice (some ⟨b,off,none⟩) len cap,.int .i64 i] w fun e w'=>e= .returned (.int .i64 (mt cs i))/\w'=w:=by
 have HC:=ah hc;have HL:=ah hl;have HS:Hid (kL cs i i 0):=kL.start cs i (by omega);clear hc hl;go_enter func115,ntmps115;go_wp2;go_loop [5,6] (fun n k=>∃(m:Nat)(z:Int),m<=len/\k= .int .i64 m/\n= .int .i64 z/\ -(m:Int)<=z/\z<=m/\kL cs i m z) (fun _ k=>len - (intOf k).toNat);case atStart=>exact⟨i,0,hi,rfl,rfl,by omega,by omega,HS.out⟩
 case round=>
  obtain⟨m,z,hm,rfl,rfl,hz1,hz2,hT⟩:=hrel;have HT:=ah hT;clear hT HS;by_cases hlt:m<len
  .have hcell:=HC.out m (by rw [HL.out];exact hlt);obtain⟨c,hx⟩:∃c,c=cs.getD m 0:=⟨_,rfl⟩
   rw [<-hx]at hcell;have HX:=ah hx;have HK:Hid (m<cs.length):=by show m<cs.length;rw [HL.out];exact hlt
   clear hx;by_cases h21:c=21
   .have HI:Hid (Calls prog 114 #[.int .i64 c] w fun e w'=>e= .returned (.bool false)/\w'=w):=by
     have:=Ay c w;rw [h21,Jj]at this;rw [h21];exact this
    have HE:=ah h21;have ag8:(c==21)=true:=by simpa using h21
    clear h21;by_cases hz0:z - 1=0
    .have hz0':(z - 1==0)=true:=by simpa using hz0
     have HZ:=ah hz0;clear hz0;go_wp2_with fail;refine HI.out.mono ?_;rintro e w' ⟨rfl,rfl⟩;go_wp2;go_ret;refine⟨bI ?_,rfl⟩;rw [HT.out.hit HK.out (by rw [<-HX.out];exact HE.out) HZ.out]
    .have hz0':(z - 1==0)=false:=by simpa using hz0
     have HZ:=ah hz0;clear hz0;go_wp2_with fail;refine HI.out.mono ?_;rintro e w' ⟨rfl,rfl⟩;go_wp2;go_round;case rel=>exact⟨m+1,z - 1,by omega,by go_num,rfl,by omega,by omega,HT.out.Cm HK.out (by rw [<-HX.out];exact HE.out) HZ.out⟩
     case measure=>simp [intOf];omega
   .have HP:Hid (kL cs i (m+1) (if aS c=true then z+1 else z)):=by
     have:=HT.out.plain HK.out (by rw [<-HX.out];exact h21);rw [<-HX.out]at this;exact this
    have ag8:(c==21)=false:=by simpa using h21
    clear h21;go_wp2_with fail;refine(Ay c w).mono ?_;rintro e w' ⟨rfl,rfl⟩;cases hq:aS c
    .have wJ:Hid (kL cs i (m+1) z):=by have:=HP.out;rw [hq]at this;exact this
     clear hq HP;go_wp2;go_round;case rel=>exact⟨m+1,z,by omega,by go_num,rfl,by omega,by omega,wJ.out⟩
     case measure=>simp [intOf];omega
    .have wJ:Hid (kL cs i (m+1) (z+1)):=by have:=HP.out;rw [hq]at this;exact this
     clear hq HP;go_wp2;go_round;case rel=>exact⟨m+1,z+1,by omega,by go_num,rfl,by omega,by omega,wJ.out⟩
     case measure=>simp [intOf];omega
  .have HM:Hid (mt cs i=len):=by show mt cs i=len;rw [<-HL.out];exact HT.out.stop (by rw [HL.out];exact hlt)
   go_wp2;go_ret;exact⟨bI (by rw [HM.out]),rfl⟩
def lZ(cs:List Int)(k:Nat):Prop:=∃f,cs.length<=k+f/\found cs=jI cs f k
theorem lZ.start(cs:List Int):lZ cs 0:=⟨cs.length,by omega,rfl⟩
theorem lZ.open {cs:List Int}{k:Nat}(h:lZ cs k)(hk:k<cs.length):found cs=(if cs.getD k 0=0 then 0 else if cs.getD k 0=1∨cs.getD k 0=2 then 1 else if aS (cs.getD k 0)=true then jI cs cs.length (mt cs k+1)else jI cs cs.length (k+1)):=by
 obtain⟨f,hf,e⟩:=h;cases f with
 |zero=>omega
 |succ f=>
  rw [e,jI,aj hk];have hm:=rG cs k (by omega);rw [PO cs f cs.length (mt cs k+1) (by omega) (by omega),PO cs f cs.length (k+1) (by omega) (by omega)]
theorem lZ.stop {cs:List Int}{k:Nat}(h:lZ cs k)(hk:¬k<cs.length):found cs=0:=by
 obtain⟨f,hf,e⟩:=h;rw [e];cases f with
 |zero=>rfl
 |succ f=>rw [jI,ai hk]
theorem lZ.zero {cs:List Int}{k:Nat}(h:lZ cs k)(hk:k<cs.length)(hc:cs.getD k 0=0):found cs=0:=by rw [h.open hk,aj hc]
theorem lZ.one {cs:List Int}{k:Nat}(h:lZ cs k)(hk:k<cs.length)(hc:cs.getD k 0=1∨cs.getD k 0=2):found cs=1:=by rw [h.open hk,ai (by omega),aj hc]
theorem lZ.B6 {cs:List Int}{k:Nat}(h:lZ cs k)(hk:k<cs.length)(h0:¬cs.getD k 0=0)(h1:¬(cs.getD k 0=1∨cs.getD k 0=2))(hi:aS (cs.getD k 0)=true):lZ cs (mt cs k+1):=
 ⟨cs.length,by omega,by rw [h.open hk,ai h0,ai h1,aj hi]⟩
theorem lZ.next {cs:List Int}{k:Nat}(h:lZ cs k)(hk:k<cs.length)(h0:¬cs.getD k 0=0)(h1:¬(cs.getD k 0=1∨cs.getD k 0=2))(hi:aS (cs.getD k 0)=false):lZ cs (k+1):=
 ⟨cs.length,by omega,by rw [h.open hk,ai h0,ai h1,ai (by rw [hi];decide)]⟩
theorem PT(cs:List Int)(b off cap len:Nat)(w:World)(hl:cs.length=len)(hn:len<=1000000)(hc:bG w b off cs):
  Calls prog 70 #[.slice (some ⟨b,off,none⟩) len cap] w fun e w'=>e= .returned (.int .i64 (found cs))/\w'=w:=by
 have HC:=ah hc;have HL:=ah hl;clear hc hl;go_enter func70,ntmps70;go_wp2;go_loop [3] (fun i=>∃k:Nat,k<=len+1/\i= .int .i64 k/\lZ cs k) (fun i=>len+1 - (intOf i).toNat);case atStart=>exact⟨0,by omega,rfl,lZ.start cs⟩
 case round=>
  obtain⟨k,hk,rfl,hT⟩:=hrel;have HT:=ah hT;clear hT;by_cases hlt:k<len
  .have hcell:=HC.out k (by rw [HL.out];exact hlt);obtain⟨c,hx⟩:∃c,c=cs.getD k 0:=⟨_,rfl⟩
   rw [<-hx]at hcell;have HX:=ah hx;have HK:Hid (k<cs.length):=by show k<cs.length;rw [HL.out];exact hlt
   clear hx;by_cases h0:c=0
   .have HV:Hid (found cs=0):=HT.out.zero HK.out (by rw [<-HX.out];exact h0);have h0':(c==0)=true:=by simpa using h0
    clear h0;go_wp2;go_ret;exact⟨bI (by rw [HV.out]),rfl⟩
   have h0':(c==0)=false:=by simpa using h0
   by_cases h1:c=1
   .have HV:Hid (found cs=1):=HT.out.one HK.out (by rw [<-HX.out];exact .inl h1);have h1':(c==1)=true:=by simpa using h1
    clear h0 h1;go_wp2;go_ret;exact⟨bI (by rw [HV.out]),rfl⟩
   have h1':(c==1)=false:=by simpa using h1
   by_cases h2:c=2
   .have HV:Hid (found cs=1):=HT.out.one HK.out (by rw [<-HX.out];exact .inr h2);have h2':(c==2)=true:=by simpa using h2
    clear h0 h1 h2;go_wp2;go_ret;exact⟨bI (by rw [HV.out]),rfl⟩
   have h2':(c==2)=false:=by simpa using h2
   have A9:Hid (¬cs.getD k 0=0):=by show¬_;rw [<-HX.out];exact h0
   have rQ:Hid (¬(cs.getD k 0=1∨cs.getD k 0=2)):=by show¬_;rw [<-HX.out];omega
   clear h0 h1 h2;go_wp2_with fail;refine(Ay c w).mono ?_;rintro e w' ⟨rfl,rfl⟩;cases hq:aS c
   .have HN:Hid (lZ cs (k+1)):=HT.out.next HK.out A9.out rQ.out (by rw [<-HX.out];exact hq);clear hq;go_wp2;go_round;case rel=>exact⟨k+1,by omega,by go_num,HN.out⟩
    case measure=>simp [intOf];omega
   .have HN:Hid (lZ cs (mt cs k+1)):=HT.out.B6 HK.out A9.out rQ.out (by rw [<-HX.out];exact hq);have hm:=rG cs k (fW HK.out);have HM:Hid (Calls prog 115 #[.slice (some ⟨b,off,none⟩) len cap,.int .i64 k] w' fun e w2=>e= .returned (.int .i64 (mt cs k))/\w2=w'):=
     Js cs k b off cap len w' HL.out hn (by omega) HC.out
    rw [HL.out]at hm;generalize mt cs k=q at*;clear hq;go_wp2_with fail;refine HM.out.mono ?_;rintro e w2 ⟨rfl,rfl⟩;go_wp2;go_round;case rel=>exact⟨q+1,by omega,by go_num,HN.out⟩
    case measure=>simp [intOf];omega
  .have HV:Hid (found cs=0):=HT.out.stop (by rw [HL.out];exact hlt);go_wp2;go_ret;exact⟨bI (by rw [HV.out]),rfl⟩
theorem rM(c:Int)(w:World):Calls prog 192 #[.int .i64 c] w fun e w'=>e= .returned (.int .i64 (bC c))/\w'=w:=by
 obtain⟨q,hq⟩:∃q,q=bC c:=⟨_,rfl⟩
 rw [<-hq];have HQ:=ah hq;clear hq;by_cases h0:c=0
 .have HV:=ah h0;have h0':(c==0)=true:=by simpa using h0
  clear h0;go_enter func192,ntmps192;go_wp2;go_ret;exact⟨bI (by rw [HQ.out,bC,aj HV.out]),rfl⟩
 have h0':(c==0)=false:=by simpa using h0
 by_cases h1:c=1
 .have HV:=ah h1;have HW:=ah h0;have h1':(c==1)=true:=by simpa using h1
  clear h0 h1;go_enter func192,ntmps192;go_wp2;go_ret;exact⟨bI (by rw [HQ.out,bC,ai HW.out,aj (by have:=HV.out;omega)]),rfl⟩
 have h1':(c==1)=false:=by simpa using h1
 by_cases h3:c=3
 .have HV:=ah h3;have HW:=ah h0;have h3':(c==3)=true:=by simpa using h3
  clear h0 h1 h3;go_enter func192,ntmps192;go_wp2;go_ret;exact⟨bI (by rw [HQ.out,bC,ai HW.out,aj (by have:=HV.out;omega)]),rfl⟩
 have h3':(c==3)=false:=by simpa using h3
 by_cases h6:c=6
 .have HV:=ah h6;have HW:=ah h0;have h6':(c==6)=true:=by simpa using h6
  clear h0 h1 h3 h6;go_enter func192,ntmps192;go_wp2;go_ret;exact⟨bI (by rw [HQ.out,bC,ai HW.out,aj (by have:=HV.out;omega)]),rfl⟩
 have h6':(c==6)=false:=by simpa using h6
 have HW:=ah h0;have HX:Hid (¬(c=1∨c=3∨c=6)):=by show¬_;omega
 clear h0 h1 h3 h6;go_enter func192,ntmps192;go_wp2;go_ret;exact⟨bI (by rw [HQ.out,bC,ai HW.out,ai HX.out]),rfl⟩
theorem FE(a b:Int)(w:World)(ha:0<=a)(ha':a<=1000)(hb:0<=b)(hb':b<=1000):Calls prog 189 #[.int .i64 a,.int .i64 b] w fun e w'=>e= .returned (.int .i64 (iy a b))/\w'=w:=by
 obtain⟨q,hq⟩:∃q,q=iy a b:=⟨_,rfl⟩
 rw [<-hq];have HQ:=ah hq;clear hq;by_cases h:a<b
 .by_cases h1:b%2=1
  .have h1':(b%2==1)=true:=by simpa using h1
   have HV:=ah h1;clear h1;go_enter func189,ntmps189;go_wp2;go_ret;exact⟨bI (by rw [HQ.out,iy,aj h,aj HV.out]),rfl⟩
  .have h1':(b%2==1)=false:=by simpa using h1
   have HV:=ah h1;clear h1;go_enter func189,ntmps189;go_wp2;go_ret;exact⟨bI (by rw [HQ.out,iy,aj h,ai HV.out]),rfl⟩
 .by_cases h1:a%2=1
  .have h1':(a%2==1)=true:=by simpa using h1
   have HV:=ah h1;clear h1;go_enter func189,ntmps189;go_wp2;go_ret;exact⟨bI (by rw [HQ.out,iy,ai (by omega:¬a<b),aj HV.out]),rfl⟩
  .have h1':(a%2==1)=false:=by simpa using h1
   have HV:=ah h1;clear h1;go_enter func189,ntmps189;go_wp2;go_ret;exact⟨bI (by rw [HQ.out,iy,ai (by omega:¬a<b),ai HV.out]),rfl⟩
theorem ah4(c l:Int)(w:World)(hl:0<=l)(hl':l<=1000):Calls prog 128 #[.int .i64 c,.int .i64 l] w fun e w'=>e= .returned (.int .i64 (mF c l))/\w'=w:=by
 obtain⟨q,hq⟩:∃q,q=mF c l:=⟨_,rfl⟩
 rw [<-hq];have HQ:=ah hq;clear hq;by_cases h:l%2=0
 .have h':(l%2==0)=true:=by simpa using h
  have HV:=ah h;clear h;by_cases h1:c=1
  .have h1':(c==1)=true:=by simpa using h1
   have HW:=ah h1;clear h1;go_enter func128,ntmps128;go_wp2;go_ret;exact⟨bI (by rw [HQ.out,mF,aj HV.out,aj HW.out]),rfl⟩
  have h1':(c==1)=false:=by simpa using h1
  by_cases h6:c=6
  .have h6':(c==6)=true:=by simpa using h6
   have HW:=ah h6;have HX:=ah h1;clear h1 h6;go_enter func128,ntmps128;go_wp2;go_ret;exact⟨bI (by rw [HQ.out,mF,aj HV.out,ai HX.out,aj (by have:=HW.out;omega)]),rfl⟩
  have h6':(c==6)=false:=by simpa using h6
  by_cases h3:c=3
  .have h3':(c==3)=true:=by simpa using h3
   have HW:=ah h3;have HX:=ah h1;clear h1 h6 h3;go_enter func128,ntmps128;go_wp2;go_ret;exact⟨bI (by rw [HQ.out,mF,aj HV.out,ai HX.out,aj (by have:=HW.out;omega)]),rfl⟩
  have h3':(c==3)=false:=by simpa using h3
  have HX:=ah h1;have HY:Hid (¬(c=6∨c=3)):=by show¬_;omega
  clear h1 h6 h3;go_enter func128,ntmps128;go_wp2;go_ret;exact⟨bI (by rw [HQ.out,mF,aj HV.out,ai HX.out,ai HY.out]),rfl⟩
 .have h':(l%2==0)=false:=by simpa using h
  have HV:=ah h;clear h;by_cases h1:c=1
  .have h1':(c==1)=true:=by simpa using h1
   have HW:=ah h1;clear h1;go_enter func128,ntmps128;go_wp2;go_ret;exact⟨bI (by rw [HQ.out,mF,ai HV.out,aj HW.out]),rfl⟩
  .have h1':(c==1)=false:=by simpa using h1
   have HW:=ah h1;clear h1;go_enter func128,ntmps128;go_wp2;go_ret;exact⟨bI (by rw [HQ.out,mF,ai HV.out,ai HW.out]),rfl⟩
theorem Mv(c:Int)(w:World):Calls prog 129 #[.int .i64 c] w fun e w'=>e= .returned (.bool (jX c))/\w'=w:=by
 obtain⟨q,hq⟩:∃q,q=jX c:=⟨_,rfl⟩
 rw [<-hq];have HQ:=ah hq;clear hq;by_cases h1:(c==11)=true
 .go_enter func129,ntmps129;go_wp2;go_ret;exact⟨iw (by rw [HQ.out,jX,h1];rfl),rfl⟩
 have h1:(c==11)=false:=by simpa using h1
 by_cases h2:(c==9)=true
 .go_enter func129,ntmps129;go_wp2;go_ret;exact⟨iw (by rw [HQ.out,jX,h1,h2];rfl),rfl⟩
 have h2:(c==9)=false:=by simpa using h2
 go_enter func129,ntmps129;go_wp2;go_ret;exact⟨iw (by rw [HQ.out,jX,h1,h2];rfl),rfl⟩
def xH(cs:List Int)(i:Nat):Nat->Int
 |0=> -1
 |n+1=>if aS (cs.getD (i - (n+1)) 0)=true/\mt cs (i - (n+1))=i then((i - (n+1):Nat):Int)else xH cs i n
def opener(cs:List Int)(i:Nat):Int:=xH cs i i
theorem ajN(cs:List Int)(i b off cap len:Nat)(w:World)(hl:cs.length=len)(hn:len<=1000000)(hi:i<=len)(hc:bG w b off cs):
  Calls prog 122 #[.slice (some ⟨b,off,none⟩) len cap,.int .i64 i] w fun e w'=>e= .returned (.int .i64 (opener cs i))/\w'=w:=by
 have HC:=ah hc;have HL:=ah hl;clear hc hl;obtain⟨q,hq⟩:∃q,q=opener cs i:=⟨_,rfl⟩
 rw [<-hq];have HQ:=ah hq;clear hq;go_enter func122,ntmps122;go_wp2;go_loop [5] (fun k=>∃m:Nat,m<=i/\k= .int .i64 m/\q=xH cs i (i - m)) (fun k=>i - (intOf k).toNat);case atStart=>exact⟨0,by omega,rfl,HQ.out⟩
 case round=>
  obtain⟨m,hm,rfl,hT⟩:=hrel;have HT:=ah hT;clear hT HQ;by_cases hlt:m<i
  .have hcell:=HC.out m (by rw [HL.out];omega);obtain⟨c,hx⟩:∃c,c=cs.getD m 0:=⟨_,rfl⟩
   rw [<-hx]at hcell;have HS:Hid (q=if aS c=true/\mt cs m=i then(m:Int)else xH cs i (i - (m+1))):=by
    have:=HT.out;rw [show i - m=(i - (m+1))+1 by omega,xH,show i - (i - (m+1)+1)=m by omega,<-hx]at this;exact this
   clear hx HT;have hml:(m:Int)<(len:Int):=by omega
   go_wp2_with fail;refine(Ay c w).mono ?_;rintro e w' ⟨rfl,rfl⟩;cases hq:aS c
   .have HN:Hid (q=xH cs i (i - (m+1))):=by have:=HS.out;rw [hq,ai (by simp)]at this;exact this
    clear hq HS;go_wp2;go_round;case rel=>exact⟨m+1,by omega,by go_num,HN.out⟩
    case measure=>simp [intOf];omega
   .have HM:Hid (Calls prog 115 #[.slice (some ⟨b,off,none⟩) len cap,.int .i64 m] w' fun e w2=>e= .returned (.int .i64 (mt cs m))/\w2=w'):=
     Js cs m b off cap len w' HL.out hn (by omega) HC.out
    have hmm:=rG cs m (by rw [HL.out];omega);have qN:Hid (q=if mt cs m=i then(m:Int)else xH cs i (i - (m+1))):=by
     have:=HS.out;rw [hq]at this;show q=_;simpa using this
    generalize mt cs m=z at*;clear hq HS;by_cases hz:z=i
    .have HV:Hid (q=(m:Int)):=by have:=qN.out;rw [aj hz]at this;exact this
     have hz':((z:Int)==(i:Int))=true:=by simp [hz]
     clear hz qN;go_wp2_with fail;refine HM.out.mono ?_;rintro e w2 ⟨rfl,rfl⟩;go_wp2;go_ret;exact⟨bI (by rw [HV.out]),rfl⟩
    .have HV:Hid (q=xH cs i (i - (m+1))):=by have:=qN.out;rw [ai hz]at this;exact this
     have hz':((z:Int)==(i:Int))=false:=by simp;omega
     clear hz qN;go_wp2_with fail;refine HM.out.mono ?_;rintro e w2 ⟨rfl,rfl⟩;go_wp2;go_round;case rel=>exact⟨m+1,by omega,by go_num,HV.out⟩
     case measure=>simp [intOf];omega
  .have HV:Hid (q= -1):=by have:=HT.out;rw [show i - m=0 by omega]at this;exact this
   go_wp2;go_ret;exact⟨bI (by rw [HV.out]),rfl⟩
structure aU where
 l:Int
 o:Int
 i:Bool
def aU.cells(e:aU):List Value:=[.int .i64 e.l,.int .i64 e.o,.bool e.i]
def ji(st:List aU):List Value:=st.flatMap aU.cells
theorem Hp(st:List aU):(ji st).length=st.length*3:=by
 induction st with
 |nil=>rfl
 |cons e r ih=>simp only [ji,uV,bP]at ih ⊢;rw [ih];simp [aU.cells];omega
theorem Lt(st:List aU)(e:aU):ji (st++[e])=ji st++e.cells:=by simp [ji]
theorem Px(st:List aU)(e:aU)(j:Nat)(hj:j<3):(ji (st++[e]))[st.length*3+j]? =e.cells[j]? :=by
 rw [Lt,pT (by rw [Hp];omega),Hp]
 congr 1;omega
structure cU(w:World)(B s:Nat)(v:Value)(st:List aU)(aH aM valid:Int):Prop where
 cell:w.heap[s]? =some (.cells #[v,.int .i64 aH,.int .i64 aM,.int .i64 valid] 184 (0,0))
 row:w.ownsRow B 181 3 v st.length (ji st)
 low:B<=s
theorem az {w:World}{s:Nat}{cs:Array Value}{t:TypeId}{fr:Nat×Nat}(h:w.heap[s]? =some (.cells cs t fr))(j:Nat):w.cell? ⟨s,j,none⟩=cs[j]? :=by simp [World.cell?,h]
theorem cH {w:World}{s:Nat}{cs:Array Value}{t:TypeId}(h:w.heap[s]? =some (.cells cs t (0,0)))(j:Nat):w.frozen? ⟨s,j,none⟩=false:=by simp [World.frozen?,h]
theorem Tryz.agw(l o:Int)(i:Bool)(w:World):(Instr.field 181 (.agg #[.int .i64 l,.int .i64 o,.bool i]) 0).run prog w= .ok (.int .i64 l) w:=by kernel_rfl
theorem Tryz.Xo(l o:Int)(i:Bool)(w:World):(Instr.field 181 (.agg #[.int .i64 l,.int .i64 o,.bool i]) 2).run prog w= .ok (.bool i) w:=by kernel_rfl
theorem M7(w:World)(B s:Nat)(v:Value)(st:List aU)(e:aU)(aH aM valid:Int)(h:cU w B s v (st++[e]) aH aM valid)(hn:st.length<=1000000):
  Calls prog 117 #[.pointer (some ⟨s,0,none⟩)] w fun ev w'=>ev= .returned (.agg #[.int .i64 e.l,.int .i64 e.o,.bool e.i])/\Below w.heap.size w w':=by
 have hc:=az h.cell;have h0:w.cell? ⟨s,0,none⟩=some v:=hc 0;have hs:s<w.heap.size:=by
  rcases cK s w.heap.size with h'|h'
  .exact h'
  .have:=h.cell;rw [uJ h']at this;cases this
 obtain⟨g,cap,hv,hg,e0,e1,e2⟩:∃g cap,v= .slice (some ⟨g,0,none⟩) (st.length+1) cap/\g<w.heap.size/\w.cell? ⟨g,st.length*3,none⟩=some (.int .i64 e.l)/\w.cell? ⟨g,st.length*3+1,none⟩=some (.int .i64 e.o)/\w.cell? ⟨g,st.length*3+2,none⟩=some (.bool e.i):=by
  have hrow:=h.row;rcases hrow.2 with⟨_,h0⟩|⟨g,cap,cur,rfl,_,hh,_⟩
  .simp at h0
  .have hg:=(hrow.lt g rfl).2;have q0:=hrow.cellAt (st.length*3) (by simp<;>omega);have q1:=hrow.cellAt (st.length*3+1) (by simp<;>omega);have q2:=hrow.cellAt (st.length*3+2) (by simp<;>omega);rw [show st.length*3=st.length*3+0 from rfl,Px st e 0 (by omega)]at q0;rw [Px st e 1 (by omega)]at q1;rw [Px st e 2 (by omega)]at q2;exact⟨g,cap,by simp,hg,q0,q1,q2⟩
 subst hv;obtain⟨n,hnn⟩:∃n,n=st.length:=⟨_,rfl⟩
 rw [<-hnn]at h0 e0 e1 e2 hn;clear hc h hnn;go_enter func117,ntmps117;go_wp2;go_region;go_wp2;exact cG (v:= .agg #[.int .i64 e.l,.int .i64 e.o,.bool e.i]) (by simp [results,results117,go_sem]) rfl ⟨rfl,((aA _ _).alloc (ay _) _).drew⟩
structure XS where
 st:List aU
 aH:Int
 aM:Int
 valid:Int
def fG(l bJ:Int):Int:=if(l+1)%2=bJ then l+1 else l+2
def aR(st:List aU):aU:=st.getLastD ⟨0, -1,false⟩
def jx(x:XS)(n:Int):Bool:=decide (n<=125)&&(x.aH==0&&x.aM==0)
theorem cU.below {w w':World}{B s:Nat}{v:Value}{st:List aU}{a b c:Int}(h:cU w B s v st a b c)(hb:Below w.heap.size w w'):cU w' B s v st a b c:=
 ⟨by rw [hb.block s];exact h.cell;rcases cK s w.heap.size with h'|h';exact h';(have:=h.cell;rw [uJ h']at this;cases this),
  h.row.kept ⟨hb.os,hb.tape,hb.output,hb.size,fun j hj _=>hb.block j hj⟩ (row:=none) (by rcases h.row.2 with⟨rfl,_⟩|⟨g,cp,cur,rfl,_⟩<;>simp [Value.ownBlock]),h.low⟩
theorem aaX(w:World)(B s:Nat)(v:Value)(st:List aU)(e:aU)(aH aM valid bJ:Int)(h:cU w B s v (st++[e]) aH aM valid)(hn:st.length<=1000000)(hl:0<=e.l)(hl':e.l<=1000):
  Calls prog 187 #[.pointer (some ⟨s,0,none⟩),.int .i64 bJ] w fun ev w'=>ev= .returned (.int .i64 (fG e.l bJ))/\Below w.heap.size w w':=by
 have HT:=ah (M7 w B s v st e aH aM valid h hn);obtain⟨l,o,i⟩:=e;simp only at hl hl' HT ⊢;obtain⟨q,hq⟩:∃q,q=fG l bJ:=⟨_,rfl⟩
 rw [<-hq];have HQ:=ah hq;have fL:=Tryz.agw;clear h hq;by_cases hp:(l+1)%2=bJ
 .have HP:=ah hp;have hp':((l+1)%2 !=bJ)=false:=by simpa using hp
  clear hp;go_enter func187,ntmps187;go_wp2_with fail;refine HT.out.mono ?_;rintro e w1 ⟨rfl,hb⟩;go_wp2;go_ret;exact⟨bI (by rw [HQ.out,fG,aj HP.out]),hb⟩
 .have HP:=ah hp;have hp':((l+1)%2 !=bJ)=true:=by simpa using hp
  clear hp;go_enter func187,ntmps187;go_wp2_with fail;refine HT.out.mono ?_;rintro e w1 ⟨rfl,hb⟩;go_wp2;go_ret;exact⟨bI (by rw [HQ.out,fG,ai HP.out];omega),hb⟩
theorem XQ(w:World)(s:Nat)(v:Value)(aH aM valid n:Int)(st:List aU)(h:w.heap[s]? =some (.cells #[v,.int .i64 aH,.int .i64 aM,.int .i64 valid] 184 (0,0))):
  Calls prog 188 #[.pointer (some ⟨s,0,none⟩),.int .i64 n] w fun ev w'=>ev= .returned (.bool (jx ⟨st,aH,aM,valid⟩ n))/\w'=w:=by
 have h1:w.cell? ⟨s,1,none⟩=some (.int .i64 aH):=az h 1;have h2:w.cell? ⟨s,2,none⟩=some (.int .i64 aM):=az h 2;obtain⟨q,hq⟩:∃q,q=jx ⟨st,aH,aM,valid⟩ n:=⟨_,rfl⟩
 rw [<-hq];have HQ:Hid (q=(decide (n<=125)&&(aH==0&&aM==0))):=hq;clear h hq;by_cases ha:n<=125
 .by_cases hb:(aH==0)=true
  .go_enter func188,ntmps188;go_wp2;go_ret;exact⟨iw (by rw [HQ.out,hb,mX ha];rfl),rfl⟩
  .have hb:(aH==0)=false:=by simpa using hb
   go_enter func188,ntmps188;go_wp2;go_ret;exact⟨iw (by rw [HQ.out,hb,mX ha];rfl),rfl⟩
 .have ha':decide (n<=125)=false:=by simpa using ha
  go_enter func188,ntmps188;go_wp2;go_ret;exact⟨iw (by rw [HQ.out,ha'];rfl),rfl⟩
theorem cB {w w':World}(hb:Below w.heap.size w w'){k:Nat}{o:Obj}(h:w.heap[k]? =some o):w'.heap[k]? =some o:=by
 rw [hb.block k ?_]
 .exact h
 .rcases cK k w.heap.size with h'|h'
  .exact h'
  .simp [uJ h']at h
theorem jf {w w':World}(hb:Below w.heap.size w w'){a:Addr}{v:Value}(h:w.cell? a=some v):w'.cell? a=some v:=by
 rw [<-h];refine hb.cell ?_;rcases cK a.block w.heap.size with h'|h'
 .exact h'
 .simp [World.cell?,uJ h']at h
theorem nX {P:Program}(w:World){ops:Array Oper}{rest:List Oper}{o:Oper}{a:Act}{Q:Exit->Act->World->Prop}(hgd:o.guard=none)(s x:Operand)(t:TypeId)
  (ho:o.op= .call {callee:= .builtin .append,args:=#[s,x],argTypes:=#[t,t]})
  (base:Nat) (e:TypeId) (i:TypeInfo) (z:Value) (bytes:Nat) (ht:P.underlying t=some (.slice e)) (hi:P.info? e=some i) (hz:i.zero=some z)
  (hsize:i.size=1) (hby:i.bytes=bytes) (hzs:z.cells.size=1) (oJ:bytes<=64)
  (v:Value) (n:Nat) (xs:List Value) (hs:a.eval s=v) (hown:w.ownsRow base e 1 v n xs)
  (y:Value) (e':TypeId) (hx:a.eval x= .slice (some ⟨w.heap.size,0,none⟩) 1 1) (h1:y.oneCell'=true) (hn:n<=1000000) (hbase:base<=w.heap.size)
  (h:∀v' w',w'.ownsRow base e 1 v' (n+1) (xs++[y])->w.grownBy w' v.ownBlock->wpList P ops Q rest (a.put o.dst v') w'):wpList P ops Q (o::rest) a (w.alloc (.cells #[y] e')):=by
 refine FO _ hgd s x t ho base e i z 1 bytes ht hi hz hsize hby hzs (by decide) v n xs hs (hown.alloc _) ⟨w.heap.size,0,none⟩ 1 1 [y] hx rfl ?_ ?_ ?_ ?_ ?_ ?_
 .intro j u hj
  match j,hj with
  |0,hj=>simp at hj;subst hj;simp [Addr.add]
 .intro u hu;simp at hu;subst hu;exact h1
 .unfold maxLen;omega
 .have:(n+1)*bytes<=1000001*64:=zZ (by omega) oJ;omega
 .simp;omega
 .intro v' w' h2 h3 _;refine h v' w' h2 ⟨h3.os,h3.tape,h3.output,?_,fun k hk hne=> ?_⟩
  .have:=h3.size;simp at this;omega
  .rw [h3.block k (by simp;omega) hne];exact dM w _ k hk
theorem nC {w w':World}{base:Nat}{e:TypeId}{size:Nat}{v:Value}{n:Nat}{xs:List Value}(h:w.ownsRow base e size v n xs)(hb:∀k o,v.ownBlock=some k->w.heap[k]? =some o->w'.heap[k]? =some o):w'.ownsRow base e size v n xs:=by
 refine⟨h.1,?_⟩;rcases h.2 with h|⟨g,cap,cur,rfl,h2,h3,h4⟩
 .exact .inl h
 .exact .inr ⟨g,cap,cur,rfl,h2,hb g _ rfl h3,h4⟩
theorem Cj {w:World}{base:Nat}{e:TypeId}{size:Nat}{v:Value}{n:Nat}{xs:List Value}(h:w.ownsRow base e size v n xs){K:Nat}{s:ByteArray}{p:Nat}(hk:w.heap[K]? =some (.stringIter s p)):v.ownBlock≠some K:=by
 rcases h.2 with⟨rfl,_⟩|⟨g,cap,cur,rfl,h2,h3,h4⟩
 .simp [Value.ownBlock]
 .simp only [Value.ownBlock];intro e;obtain rfl:=aK e;rw [hk]at h3;cases h3
structure Fr(B s:Nat)(w w':World):Prop where
 below:Below B w w'
 xJ:Lib.OthersKept 181 (some s) w w'
theorem Fr.refl(B s:Nat)(w:World):Fr B s w w:=⟨aA _ _,Vs _ _ _⟩
theorem Fr.trans {B s:Nat}{a b c:World}(h:Fr B s a b)(k:Fr B s b c):Fr B s a c:=⟨h.below.trans k.below,h.xJ.trans k.xJ⟩
theorem Fr.of_below {B s:Nat}{w w':World}(hB:B<=w.heap.size)(hb:Below w.heap.size w w'):Fr B s w w':=⟨hb.mono hB,fun _ _ h _ _=>cB hb h⟩
theorem Fr.set {B s:Nat}{w:World}(hB:B<=s)(j:Nat)(u:Value):Fr B s w (w.setCell ⟨s,j,none⟩ u):=
 ⟨(aA _ _).setCell hB u,(Vs _ _ _).setCell ⟨s,j,none⟩ rfl u⟩
theorem cU.lt {w:World}{B s:Nat}{v:Value}{st:List aU}{a b c:Int}(h:cU w B s v st a b c):s<w.heap.size:=by
 rcases cK s w.heap.size with h'|h'
 .exact h'
 .have:=h.cell;rw [uJ h']at this;cases this
theorem cU.ne {w:World}{B s:Nat}{v:Value}{st:List aU}{a b c:Int}(h:cU w B s v st a b c):v.ownBlock≠some s:=by
 rcases h.row.2 with⟨rfl,_⟩|⟨g,cp,cur,rfl,_,hh,_⟩
 .simp [Value.ownBlock]
 .simp only [Value.ownBlock];intro e;obtain rfl:=aK e;rw [h.cell]at hh;simp at hh
theorem jm {w:World}{B s:Nat}{v:Value}{e:TypeId}{z n:Nat}{xs:List Value}(h:w.ownsRow B e z v n xs)(hne:v.ownBlock≠some s)(j:Nat)(u:Value):(w.setCell ⟨s,j,none⟩ u).ownsRow B e z v n xs:=
 nC h fun k o hk ho=>by
  rw [gK]
  .exact ho
  .rintro rfl;exact hne hk
theorem cU.JS {w:World}{B s:Nat}{v:Value}{st:List aU}{a b c:Int}(h:cU w B s v st a b c)(z:Int):cU (w.setCell ⟨s,1,none⟩ (.int .i64 z)) B s v st z b c:=
 ⟨by rw [fK h.cell];rfl,jm h.row h.ne _ _,h.low⟩
theorem cU.zm {w:World}{B s:Nat}{v:Value}{st:List aU}{a b c:Int}(h:cU w B s v st a b c)(z:Int):cU (w.setCell ⟨s,2,none⟩ (.int .i64 z)) B s v st a z c:=
 ⟨by rw [fK h.cell];rfl,jm h.row h.ne _ _,h.low⟩
theorem cU.JT {w:World}{B s:Nat}{v:Value}{st:List aU}{a b c:Int}(h:cU w B s v st a b c)(z:Int):cU (w.setCell ⟨s,3,none⟩ (.int .i64 z)) B s v st a b z:=
 ⟨by rw [fK h.cell];rfl,jm h.row h.ne _ _,h.low⟩
theorem Tryz.aah:(prog.info? 181).map (fun i=>(i.zero,i.size,i.bytes))=some (some (.agg #[.int .i64 0,.int .i64 0,.bool false]),3,24):=by kernel_rfl
theorem ada {P:Program}(w:World){ops:Array Oper}{rest:List Oper}{o:Oper}{a:Act}{Q:Exit->Act->World->Prop}(hgd:o.guard=none)(s x:Operand)(t:TypeId)
  (ho:o.op= .call {callee:= .builtin .append,args:=#[s,x],argTypes:=#[t,t]})
  (base:Nat) (e:TypeId) (i:TypeInfo) (z:Value) (bytes:Nat) (ht:P.underlying t=some (.slice e)) (hi:P.info? e=some i) (hz:i.zero=some z)
  (hsize:i.size=3) (hby:i.bytes=bytes) (hzs:z.cells.size=3) (oJ:bytes<=64)
  (v:Value) (n:Nat) (xs:List Value) (hs:a.eval s=v) (hown:w.ownsRow base e 3 v n xs)
  (y0 y1 y2:Value) (e':TypeId) (k:Nat) (hx:a.eval x= .slice (some ⟨k,0,none⟩) 1 1) (hk:k=w.heap.size) (h0:y0.oneCell'=true) (h1:y1.oneCell'=true) (h2:y2.oneCell'=true) (hn:n<=1000000) (hbase:base<=w.heap.size)
  (h:∀v' w',w'.ownsRow base e 3 v' (n+1) (xs++[y0,y1,y2])->w.grownBy w' v.ownBlock->wpList P ops Q rest (a.put o.dst v') w'):wpList P ops Q (o::rest) a (w.alloc (.cells #[y0,y1,y2] e')):=by
 subst hk;refine FO _ hgd s x t ho base e i z 3 bytes ht hi hz hsize hby hzs (by decide) v n xs hs (hown.alloc _) ⟨w.heap.size,0,none⟩ 1 1 [y0,y1,y2] hx rfl ?_ ?_ ?_ ?_ ?_ ?_
 .intro j u hj
  match j,hj with
  |0,hj=>simp at hj;subst hj;simp [Addr.add]
  |1,hj=>simp at hj;subst hj;simp [Addr.add]
  |2,hj=>simp at hj;subst hj;simp [Addr.add]
 .intro u hu;simp at hu;rcases hu with rfl|rfl|rfl
  .exact h0
  .exact h1
  .exact h2
 .unfold maxLen;omega
 .have:(n+1)*bytes<=1000001*64:=zZ (by omega) oJ;omega
 .simp;omega
 .intro v' w' h2 h3 _;refine h v' w' h2 ⟨h3.os,h3.tape,h3.output,?_,fun k hk hne=> ?_⟩
  .have:=h3.size;simp at this;omega
  .rw [h3.block k (by simp;omega) hne];exact dM w _ k hk
theorem abf {w:World}{B:Nat}{e:TypeId}{z k:Nat}{v:Value}{xs:List Value}(h:w.ownsRow B e z v (k+1) xs):∃g cap,v= .slice (some ⟨g,0,none⟩) (k+1) cap:=by
 rcases h.2 with⟨_,h0⟩|⟨g,cp,cur,rfl,_⟩
 .cases h0
 .exact⟨g,cp,rfl⟩
theorem cU.push {w w5:World}{B s:Nat}{v v':Value}{st:List aU}{a b c:Int}{e:aU}(h:cU w B s v st a b c)(hown:w5.ownsRow B 181 3 v' (st.length+1) (ji st++[.int .i64 e.l,.int .i64 e.o,.bool e.i]))(hg:w.grownBy w5 v.ownBlock):
  cU (w5.setCell ⟨s,0,none⟩ v') B s v' (st++[e]) a b c/\Fr B s w (w5.setCell ⟨s,0,none⟩ v')/\w5.cell? ⟨s,0,none⟩=some v/\w5.frozen? ⟨s,0,none⟩=false:=by
 have iF:w5.heap[s]? =some (.cells #[v,.int .i64 a,.int .i64 b,.int .i64 c] 184 (0,0)):=by
  rw [hg.block s h.lt h.ne.symm];exact h.cell
 have hne:v'.ownBlock≠some s:=by
  rcases hown.2 with⟨rfl,_⟩|⟨g,cp,cur,rfl,_,hh,_⟩
  .simp [Value.ownBlock]
  .simp only [Value.ownBlock];intro e;obtain rfl:=aK e;rw [iF]at hh;simp at hh
 refine⟨⟨by rw [fK iF];rfl,?_,h.low⟩,⟨?_,?_⟩,az iF 0,cH iF 0⟩
 .have:=jm hown hne 0 v';rw [Lt];simpa [aU.cells]using this
 .exact((aA B w).grown hg (bU h.low (fW h.lt)) fun k hk=>(h.row.lt k hk).1).setCell h.low _
 .refine((Vs _ _ _).grown hg fun g hgg=> ?_).setCell ⟨s,0,none⟩ rfl _;rcases h.row.2 with⟨rfl,_⟩|⟨g',cp,cur,rfl,_,hh,_⟩
  .simp [Value.ownBlock]at hgg
  .simp only [Value.ownBlock,Bo]at hgg;subst hgg;exact⟨cur,_,hh⟩
def iZ(x:XS)(c:Int):XS:=
 let n:=fG (aR x.st).l (if c=14∨c=16 then 1 else 0)
 if jx x n=true then{x with st:=x.st++[⟨n,if c=15 then 0 else if c=16 then 1 else -1,false⟩]}
 else if x.aH=0 then{x with aM:=x.aM+1}else x
def iO(x:XS)(bJ:Int):XS:=
 let n:=fG (aR x.st).l bJ
 if jx x n=true then{x with st:=x.st++[⟨n, -1,true⟩],valid:=x.valid+1}else{x with aH:=x.aH+1}
theorem DV(st:List aU)(e:aU):aR (st++[e])=e:=by simp [aR]
theorem aeY(w:World)(B s:Nat)(v:Value)(x:XS)(bJ:Int)(h:cU w B s v x.st x.aH x.aM x.valid)(hne:x.st≠[])(hn:x.st.length<=1000)(hl:0<=(aR x.st).l)(hl':(aR x.st).l<=1000)
  (hi:0<=x.aH/\x.aH<=100000) (hv:0<=x.valid/\x.valid<=100000):
  Calls prog 119 #[.pointer (some ⟨s,0,none⟩),.int .i64 bJ] w fun ev w'=>ev= .returned (.tuple #[])/\Fr B s w w'/\∃v',cU w' B s v' (iO x bJ).st (iO x bJ).aH (iO x bJ).aM (iO x bJ).valid:=by
 obtain⟨i0,hi0,hz0,hz1,hz2⟩:=gW Tryz.aah;obtain⟨st,aH,aM,valid⟩:=x;simp only at h hne hn hl hl' hi hv;obtain⟨st0,e,rfl⟩:∃st0 e,st=st0++[e]:=⟨st.dropLast,st.getLast hne,(CS hne).symm⟩
 rw [DV]at hl hl';simp only [bP,eW,kq]at hn;have HN:Hid (Calls prog 187 #[.pointer (some ⟨s,0,none⟩),.int .i64 bJ] w fun ev w'=>ev= .returned (.int .i64 (fG e.l bJ))/\Below w.heap.size w w'):=aaX w B s v st0 e aH aM valid bJ h (by omega) hl hl';obtain⟨y,hy⟩:∃y,y=iO ⟨st0++[e],aH,aM,valid⟩ bJ:=⟨_,rfl⟩
 rw [<-hy];have HY:Hid (y=if jx ⟨st0++[e],aH,aM,valid⟩ (fG e.l bJ)=true then⟨(st0++[e])++[⟨fG e.l bJ, -1,true⟩],aH,aM,valid+1⟩else⟨st0++[e],aH+1,aM,valid⟩):=by
  have:=hy;unfold iO at this;simp only [DV]at this;exact this
 have HH:=ah h;clear h hy hl hl';generalize fG e.l bJ=n at*;go_enter func119,ntmps119;go_wp2_with fail;refine HN.out.mono ?_;rintro ev w1 ⟨rfl,hb1⟩;have gP:=ah (HH.out.below hb1);have kH:Hid (Fr B s w w1):=Fr.of_below (bU HH.out.low (fW HH.out.lt)) hb1;clear hb1 HN;go_wp2_with fail;refine(XQ w1 s v aH aM valid n (st0++[e]) gP.out.cell).mono ?_;rintro ev w2 ⟨rfl,rfl⟩;have c0:w2.cell? ⟨s,0,none⟩=some v:=az gP.out.cell 0;have c1:w2.cell? ⟨s,1,none⟩=some (.int .i64 aH):=az gP.out.cell 1;have c3:w2.cell? ⟨s,3,none⟩=some (.int .i64 valid):=az gP.out.cell 3;have f0:w2.frozen? ⟨s,0,none⟩=false:=cH gP.out.cell 0;have f1:w2.frozen? ⟨s,1,none⟩=false:=cH gP.out.cell 1;have f3:w2.frozen? ⟨s,3,none⟩=false:=cH gP.out.cell 3;cases hq:jx ⟨st0++[e],aH,aM,valid⟩ n
 .have pS:Hid (y=⟨st0++[e],aH+1,aM,valid⟩):=by have:=HY.out;rw [hq,ai (by decide)]at this;exact this
  clear hq HY;go_wp2;go_end0;rw [pS.out];exact⟨rfl,kH.out.trans (Fr.set gP.out.low _ _),v,gP.out.JS _⟩
 .have pS:Hid (y=⟨(st0++[e])++[⟨n, -1,true⟩],aH,aM,valid+1⟩):=by have:=HY.out;rw [hq,aj rfl]at this;exact this
  clear hq HY;have Ny:Hid (cU (w2.setCell ⟨s,3,none⟩ (.int .i64 (valid+1))) B s v (st0++[e]) aH aM (valid+1)):=gP.out.JT _;have hbz:B<=w2.heap.size:=bU gP.out.low (fW gP.out.lt);have hslt:s<w2.heap.size:=gP.out.lt;have d0:(w2.setCell ⟨s,3,none⟩ (.int .i64 (valid+1))).cell? ⟨s,0,none⟩=some v:=az Ny.out.cell 0;have hrow:=Ny.out.row;simp only [bP,eW,kq]at hrow;go_wp2_with(at_builtin;refine ada _ rfl _ _ 182 rfl B 181 i0 (.agg #[.int .i64 0,.int .i64 0,.bool false]) 24 underlying182 hi0 hz0 hz1 hz2 rfl (by decide) _ _ _ rfl hrow _ _ _ _ _ rfl (by simp) rfl rfl rfl (by omega) (by simp;omega) ?_);intro v' w5 b9 cA;obtain⟨gg,cc,rfl⟩:=abf b9;obtain⟨hS,hF,iF,Ir⟩:=Ny.out.push (e:=⟨n, -1,true⟩) (by simpa using b9) cA;have HS:=ah hS;have HF:Hid (Fr B s w (w5.setCell ⟨s,0,none⟩ _)):=(kH.out.trans (Fr.set gP.out.low _ _)).trans hF;clear hS hF b9 cA hrow d0;go_wp2;go_end0;rw [pS.out];exact⟨rfl,HF.out,_,HS.out⟩
theorem cU.akL {w w5:World}{B s:Nat}{v v':Value}{st:List aU}{a b c l o:Int}{i:Bool}{m:Nat}(h:cU w B s v st a b c)(hm:m=st.length+1)(hown:w5.ownsRow B 181 3 v' m (ji st++[.int .i64 l,.int .i64 o,.bool i]))(hg:w.grownBy w5 v.ownBlock):
  cU (w5.setCell ⟨s,0,none⟩ v') B s v' (st++[⟨l,o,i⟩]) a b c/\Fr B s w (w5.setCell ⟨s,0,none⟩ v')/\w5.cell? ⟨s,0,none⟩=some v/\w5.frozen? ⟨s,0,none⟩=false:=by
 subst hm;exact h.push (e:=⟨l,o,i⟩) hown hg
theorem ago(w:World)(B s:Nat)(v:Value)(x:XS)(c:Int)(h:cU w B s v x.st x.aH x.aM x.valid)(hne:x.st≠[])(hn:x.st.length<=1000)(hl:0<=(aR x.st).l)(hl':(aR x.st).l<=1000)
  (hi:0<=x.aM/\x.aM<=100000) (hcc:c=13∨c=14∨c=15∨c=16):
  Calls prog 118 #[.pointer (some ⟨s,0,none⟩),.int .i64 c] w fun ev w'=>ev= .returned (.tuple #[])/\Fr B s w w'/\∃v',cU w' B s v' (iZ x c).st (iZ x c).aH (iZ x c).aM (iZ x c).valid:=by
 obtain⟨i0,hi0,hz0,hz1,hz2⟩:=gW Tryz.aah;obtain⟨st,aH,aM,valid⟩:=x;simp only at h hne hn hl hl' hi;obtain⟨st0,e,rfl⟩:∃st0 e,st=st0++[e]:=⟨st.dropLast,st.getLast hne,(CS hne).symm⟩
 rw [DV]at hl hl';simp only [bP,eW,kq]at hn;have HH:=ah h;have key:∀(bJ over:Int),(if c=14∨c=16 then(1:Int)else 0)=bJ->(if c=15 then(0:Int)else if c=16 then 1 else -1)=over->
   Hid (Calls prog 187 #[.pointer (some ⟨s,0,none⟩),.int .i64 bJ] w fun ev w'=>ev= .returned (.int .i64 (fG e.l bJ))/\Below w.heap.size w w')/\
   Hid (iZ ⟨st0++[e],aH,aM,valid⟩ c=if jx ⟨st0++[e],aH,aM,valid⟩ (fG e.l bJ)=true then⟨(st0++[e])++[⟨fG e.l bJ,over,false⟩],aH,aM,valid⟩else if aH=0 then⟨st0++[e],aH,aM+1,valid⟩else⟨st0++[e],aH,aM,valid⟩):=by
  intro bJ over h1 h2;refine⟨aaX w B s v st0 e aH aM valid bJ h (by omega) hl hl',?_⟩;show iZ _ c=_;unfold iZ;simp only [DV,h1,h2]
 obtain⟨y,hy⟩:∃y,y=iZ ⟨st0++[e],aH,aM,valid⟩ c:=⟨_,rfl⟩
 rw [<-hy];rw [<-hy]at key;clear h hy hl hl';rcases hcc with rfl|rfl|rfl|rfl
 all_goals
  obtain⟨HN,HY⟩:=key _ _ rfl rfl;simp only [Int.reduceEq,MD,or_true,or_self,y8,if_false]at HN HY;clear key;generalize fG e.l _=n at*;go_enter func118,ntmps118;go_wp2_with fail;refine HN.out.mono ?_;rintro ev w1 ⟨rfl,hb1⟩;have gP:=ah (HH.out.below hb1);have kH:Hid (Fr B s w w1):=Fr.of_below (bU HH.out.low (fW HH.out.lt)) hb1;clear hb1 HN;go_wp2_with fail;refine(XQ w1 s v aH aM valid n (st0++[e]) gP.out.cell).mono ?_;rintro ev w2 ⟨rfl,rfl⟩;have c0:w2.cell? ⟨s,0,none⟩=some v:=az gP.out.cell 0;have c1:w2.cell? ⟨s,1,none⟩=some (.int .i64 aH):=az gP.out.cell 1;have c2:w2.cell? ⟨s,2,none⟩=some (.int .i64 aM):=az gP.out.cell 2;have f0:w2.frozen? ⟨s,0,none⟩=false:=cH gP.out.cell 0;have f2:w2.frozen? ⟨s,2,none⟩=false:=cH gP.out.cell 2;cases hq:jx ⟨st0++[e],aH,aM,valid⟩ n
  .by_cases hz:aH=0
   .have pS:Hid (y=⟨st0++[e],aH,aM+1,valid⟩):=by have:=HY.out;rw [hq,ai (by decide),aj hz]at this;exact this
    have hz':(aH==0)=true:=by simpa using hz
    clear hq HY hz;go_wp2;go_end0;rw [pS.out];exact⟨rfl,kH.out.trans (Fr.set gP.out.low _ _),v,gP.out.zm _⟩
   .have pS:Hid (y=⟨st0++[e],aH,aM,valid⟩):=by have:=HY.out;rw [hq,ai (by decide),ai hz]at this;exact this
    have hz':(aH==0)=false:=by simpa using hz
    clear hq HY hz;go_wp2;go_end0;rw [pS.out];exact⟨rfl,kH.out,v,gP.out⟩
  .have Oq:=HY.out;rw [hq,aj rfl]at Oq;have pS:Hid (y=_):=Oq;have hlen:(st0++[e]).length<=1001:=by simp;omega
   have hbz:B<=w2.heap.size:=bU gP.out.low (fW gP.out.lt);have hslt:s<w2.heap.size:=gP.out.lt;have hrow:=gP.out.row;clear hq Oq HY;go_wp2_with(at_builtin;refine ada _ rfl _ _ 182 rfl B 181 i0 (.agg #[.int .i64 0,.int .i64 0,.bool false]) 24 underlying182 hi0 hz0 hz1 hz2 rfl (by decide) _ _ _ rfl hrow _ _ _ _ _ rfl rfl rfl rfl rfl (by omega) (by omega) ?_);intro v' w5 b9 cA;obtain⟨gg,cc,rfl⟩:=abf b9;obtain⟨hS,hF,iF,Ir⟩:=gP.out.akL (by simp) b9 cA;have HS:=ah hS;have HF:=ah (kH.out.trans hF);clear hS hF b9 cA hrow;go_wp2;go_end0;rw [pS.out];exact⟨rfl,HF.out,_,HS⟩
