import Derived.Test.YtkbinfhclaafhaaGreatDoorZ24
import Derived.Test.YtkbinfhclaafhaaGreatDoorZ20
import Derived.Test.YtkbinfhclaafhaaGreatDoorZ21
import Derived.Test.YtkbinfhclaafhaaGreatDoorZ01
import Derived.Deep.LoopGhost
import Derived.Test.YtkbinfhclaafhaaGreatDoorZ17
import Derived.Test.YtkbinfhclaafhaaGreatDoorZ05
import Derived.Test.YtkbinfhclaafhaaGreatDoorZ22
namespace Go.Proofs.YtkbinfhclaafhaaGreatDoor
open Go.RowKit
open Go.Proofs.Tryz
set_option maxRecDepth 100000
set_option maxHeartbeats 32000000
set_option linter.all false
theorem aga:∀(l:List PR)(i:Nat)(hi:i<l.length),(jh l)[i*6]? =some (.int .i64 l[i].line)/\(jh l)[i*6+1]? =some (.int .i64 l[i].kind)/\(jh l)[i*6+2]? =some (.int .i64 l[i].from_)/\(jh l)[i*6+3]? =some (.int .i64 l[i].dU)/\(jh l)[i*6+4]? =some (.int .i64 l[i].body)/\(jh l)[i*6+5]? =some (.int .i64 l[i].end_):=by
 intro l
 induction l with
 |nil=>intro i hi;simp at hi
 |cons a l ih=>
  intro i hi;have e:jh (a::l)=[.int .i64 a.line,.int .i64 a.kind,.int .i64 a.from_,.int .i64 a.dU,.int .i64 a.body,.int .i64 a.end_]++jh l:=by simp [jh]
  cases i with
  |zero=>rw [e];simp
  |succ i=>
   have:=ih i (by simpa using hi);rw [e,show(i+1)*6=i*6+6 by omega];simpa using this
theorem aki:∀(l:List PR)(i:Nat)(hi:i<l.length),(pK l)[i*5]? =some (.int .i64 l[i].kind)/\(pK l)[i*5+1]? =some (.int .i64 l[i].from_)/\(pK l)[i*5+2]? =some (.int .i64 l[i].dU)/\(pK l)[i*5+3]? =some (.int .i64 l[i].body)/\(pK l)[i*5+4]? =some (.int .i64 l[i].end_):=by
 intro l
 induction l with
 |nil=>intro i hi;simp at hi
 |cons a l ih=>
  intro i hi;have e:pK (a::l)=[.int .i64 a.kind,.int .i64 a.from_,.int .i64 a.dU,.int .i64 a.body,.int .i64 a.end_]++pK l:=by simp [pK,qH]
  cases i with
  |zero=>rw [e];simp
  |succ i=>
   have:=ih i (by simpa using hi);rw [e,show(i+1)*5=i*5+5 by omega];simpa using this
def A5(w:World)(g:Nat)(l:List PR):Prop:=∀i (hi:i<l.length),w.cell? ⟨g,i*6,none⟩=some (.int .i64 l[i].line)/\w.cell? ⟨g,i*6+1,none⟩=some (.int .i64 l[i].kind)/\w.cell? ⟨g,i*6+2,none⟩=some (.int .i64 l[i].from_)/\w.cell? ⟨g,i*6+3,none⟩=some (.int .i64 l[i].dU)/\w.cell? ⟨g,i*6+4,none⟩=some (.int .i64 l[i].body)/\w.cell? ⟨g,i*6+5,none⟩=some (.int .i64 l[i].end_)
def GQ(w:World)(g:Nat)(l:List PR):Prop:=∀i (hi:i<l.length),w.cell? ⟨g,i*5,none⟩=some (.int .i64 l[i].kind)/\w.cell? ⟨g,i*5+1,none⟩=some (.int .i64 l[i].from_)/\w.cell? ⟨g,i*5+2,none⟩=some (.int .i64 l[i].dU)/\w.cell? ⟨g,i*5+3,none⟩=some (.int .i64 l[i].body)/\w.cell? ⟨g,i*5+4,none⟩=some (.int .i64 l[i].end_)
def OB(w:World)(g:Nat)(l:List PR):Prop:=∀i (hi:i<l.length),w.cell? ⟨g,i,none⟩=some (.int .i64 l[i].line)
theorem af6 {w:World}{B g cap n:Nat}{l:List PR}{e:TypeId}(h:w.ownsRow B e 6 (.slice (some ⟨g,0,none⟩) n cap) n (jh l))(hn:n=l.length):A5 w g l:=by
 intro i hi;obtain⟨k0,k1,k2,k3,k4,k5⟩:=aga l i hi;exact⟨by rw [dg h (i*6) (by omega)];exact k0,by rw [dg h (i*6+1) (by omega)];exact k1,by rw [dg h (i*6+2) (by omega)];exact k2,by rw [dg h (i*6+3) (by omega)];exact k3,by rw [dg h (i*6+4) (by omega)];exact k4,by rw [dg h (i*6+5) (by omega)];exact k5⟩
theorem akf {w:World}{B g cap n:Nat}{l:List PR}{e:TypeId}(h:w.ownsRow B e 5 (.slice (some ⟨g,0,none⟩) n cap) n (pK l))(hn:n=l.length):GQ w g l:=by
 intro i hi;obtain⟨k0,k1,k2,k3,k4⟩:=aki l i hi;exact⟨by rw [dg h (i*5) (by omega)];exact k0,by rw [dg h (i*5+1) (by omega)];exact k1,by rw [dg h (i*5+2) (by omega)];exact k2,by rw [dg h (i*5+3) (by omega)];exact k3,by rw [dg h (i*5+4) (by omega)];exact k4⟩
theorem A5.take {w:World}{g:Nat}{l:List PR}(h:A5 w g l)(m:Nat):A5 w g (l.take m):=by
 intro i hi;have hi':i<l.length:=by simp at hi;omega
 have:=h i hi';simpa using this
theorem A5.below {w w':World}{g:Nat}{l:List PR}(h:A5 w g l)(hb:Below w.heap.size w w'):A5 w' g l:=by
 intro i hi;obtain⟨k0,k1,k2,k3,k4,k5⟩:=h i hi;exact⟨jf hb k0,jf hb k1,jf hb k2,jf hb k3,jf hb k4,jf hb k5⟩
theorem GQ.below {w w':World}{g:Nat}{l:List PR}(h:GQ w g l)(hb:Below w.heap.size w w'):GQ w' g l:=by
 intro i hi;obtain⟨k0,k1,k2,k3,k4⟩:=h i hi;exact⟨jf hb k0,jf hb k1,jf hb k2,jf hb k3,jf hb k4⟩
theorem OB.below {w w':World}{g:Nat}{l:List PR}(h:OB w g l)(hb:Below w.heap.size w w'):OB w' g l:=fun i hi=>jf hb (h i hi)
section
open Go.RowKit Go.Extern.Stop Go.Stop Go.Extern
theorem Tryz.anF(e:Addr)(w:World):(ReflectliteValue.unpack (.iface 92 (.pointer (some e)))).run prog w
  = .ok (.agg #[.pointer (some ⟨16,92,none⟩),.pointer (some ⟨w.heap.size,0,none⟩),.int .u64 150]) (w.alloc (.cells #[.pointer (some e)] 92)):=by kernel_rfl
theorem Tryz.anB(v:Value)(w:World):(ReflectliteType.typeOf #[.iface 92 v]).run prog w= .ok (.iface 223 (.agg #[.pointer (some ⟨16,92,none⟩)])) w:=by kernel_rfl
theorem Tryz.aeJ(w:World):(ReflectliteType.relation "AssignableTo" ReflectliteType.assignableTo #[.agg #[.pointer (some ⟨16,92,none⟩)],.iface 223 (.agg #[.pointer (some ⟨16,92,none⟩)])]).run prog w= .ok (.bool true) w:=by kernel_rfl
theorem Tryz.agd(w:World):(Rtype.elem? 94).run prog w= .ok (some 92) w:=by kernel_rfl
theorem Tryz.mkE(p:Addr)(w:World):(ReflectliteValue.mk 92 p 256).run prog w= .ok (.agg #[.pointer (some ⟨16,92,none⟩),.pointer (some p),.int .u64 406]) w:=by kernel_rfl
theorem Tryz.elemV(a p:Addr)(W:World)(ha:W.cell? a=some (.pointer (some p))):
  (ReflectliteValue.method (ReflectliteValue.valueError "reflectlite.Value.Elem" 0) ReflectliteValue.elem #[.agg #[.pointer (some ⟨16,94,none⟩),.pointer (some a),.int .u64 150]]).run prog W= .ok (.agg #[.pointer (some ⟨16,92,none⟩),.pointer (some p),.int .u64 406]) W:=by
 rw [rlm];simp only [GU,Tryz.abq,Result.andThen];have hm:=Tryz.mkE p W;have he:=Tryz.agd W;simp [ReflectliteValue.elem,loadVar,isAgg,underlying,underlying94,ha,Result.andThen,he];exact hm
theorem Tryz.akp(p:Addr)(w:World):(ReflectliteValue.parts (.agg #[.pointer (some ⟨16,92,none⟩),.pointer (some p),.int .u64 406])).run prog w= .ok (some (92,p,406)) w:=by kernel_rfl
theorem Tryz.akq(p:Addr)(w:World):(ReflectliteValue.parts (.agg #[.pointer (some ⟨16,92,none⟩),.pointer (some p),.int .u64 150])).run prog w= .ok (some (92,p,150)) w:=by kernel_rfl
theorem Tryz.af5(w:World):(Rtype.directlyAssignable 92 92).run prog w= .ok true w:=by kernel_rfl
theorem Tryz.al7(p b e:Addr)(old:Value)(W:World)(hb:W.cell? b=some (.pointer (some e)))(hp:W.cell? p=some old)(hf:W.frozen? p=false):
  (ReflectliteValue.set #[.agg #[.pointer (some ⟨16,92,none⟩),.pointer (some p),.int .u64 406],.agg #[.pointer (some ⟨16,92,none⟩),.pointer (some b),.int .u64 150]]).run prog W= .ok (.tuple #[]) (W.setCell p (.pointer (some e))):=by
 have hd:=Tryz.af5 W;have hs:∀v x,ReflectliteValue.set #[v,x]=(ReflectliteValue.parts v>>=fun p=>ReflectliteValue.parts x>>=fun q=>_):=fun v x=>rfl
 rw [hs];simp only [GU,Tryz.akp,Tryz.akq,Result.andThen];simp [ReflectliteValue.flagAddr,loadVar,isAgg,underlying,underlying92,hb,hd,Result.andThen];simp [storeVar,storeCells,go_sem,hp,hf]
theorem aeG(e t:Addr)(w:World)(old:Value)(ht:w.cell? t=some old)(hf:w.frozen? t=false)(iU:t.block<w.heap.size)(hg:w.cell? ⟨3,0,none⟩=some (.iface 223 (.agg #[.pointer (some ⟨16,53,none⟩)]))):
  Calls prog 56 #[.iface 92 (.pointer (some e)),.iface 94 (.pointer (some t))] w fun ev w'=>ev= .returned (.bool true)/\∃W',Below w.heap.size w W'/\w'=W'.setCell t (.pointer (some e)):=by
 have h6:=@lV prog 90 _ (fun args=>ReflectliteValue.unpack (args.getD 0 (.tuple #[]))) func90 (by kernel_rfl) (by kernel_rfl) (by kernel_rfl) (by kernel_rfl);have h7:=@lV prog 91 _ (ReflectliteValue.methodAny (ReflectliteValue.valueError "reflectlite.Value.Type" 0) (fun t _ _ _=>ReflectliteType.toType t)) func91 (by kernel_rfl) (by kernel_rfl) (by kernel_rfl) (by kernel_rfl);have h8:=@lV prog 92 _ (ReflectliteValue.method (ReflectliteValue.valueError "reflectlite.Value.IsNil" 0) ReflectliteValue.isNil) func92 (by kernel_rfl) (by kernel_rfl) (by kernel_rfl) (by kernel_rfl);have h27:=@lV prog 323 _ (ReflectliteType.abiMethod fun t=>do pure (.int .u8 (<-Rtype.kind t))) func323 (by kernel_rfl) (by kernel_rfl) (by kernel_rfl) (by kernel_rfl);have h37:=@lV prog 334 _ (ReflectliteType.method ReflectliteType.elem) func334 (by kernel_rfl) (by kernel_rfl) (by kernel_rfl) (by kernel_rfl);have h38:=@lV prog 335 _ (ReflectliteType.relation "Implements" ReflectliteType.implements_) func335 (by kernel_rfl) (by kernel_rfl) (by kernel_rfl) (by kernel_rfl);have h10:=@lV prog 94 _ ReflectliteType.typeOf func94 (by kernel_rfl) (by kernel_rfl) (by kernel_rfl) (by kernel_rfl);have X7:=@lV prog 332 _ (ReflectliteType.relation "AssignableTo" ReflectliteType.assignableTo) func332 (by kernel_rfl) (by kernel_rfl) (by kernel_rfl) (by kernel_rfl);have tO:=Tryz.anB;have a25:=Tryz.aeJ;have f6:=Tryz.ac6;have mK:=Tryz.aaM;have mE:=Tryz.aaK;have mI:=Tryz.aaL;have mA:=Tryz.aaI;have f7:=Tryz.ac1;have k27:=Tryz.aau;have k25:=Tryz.aat;have e27:=Tryz.Xe;have i25:=Tryz.aae;have aof:=@lV prog 165 _ (ReflectliteValue.method (ReflectliteValue.valueError "reflectlite.Value.Elem" 0) ReflectliteValue.elem) func165 (by kernel_rfl) (by kernel_rfl) (by kernel_rfl) (by kernel_rfl);have aog:=@lV prog 166 _ ReflectliteValue.set func166 (by kernel_rfl) (by kernel_rfl) (by kernel_rfl) (by kernel_rfl);have f6E:=Tryz.anF;have n8:=Tryz.aak ⟨w.heap.size,0,none⟩ t ((w.alloc (.cells #[.pointer (some t)] 94)).alloc (.cells #[.pointer (some ⟨16,94,none⟩),.pointer (some ⟨w.heap.size,0,none⟩),.int .u64 150] 152)) (by simp);have hlt:3<w.heap.size:=by
  rcases cK 3 w.heap.size with h|h
  .exact h
  .simp [World.cell?,uJ h]at hg
 have hg2:((w.alloc (.cells #[.pointer (some t)] 94)).alloc (.cells #[.pointer (some ⟨16,94,none⟩),.pointer (some ⟨w.heap.size,0,none⟩),.int .u64 150] 152)).cell? ⟨3,0,none⟩=some (.iface 223 (.agg #[.pointer (some ⟨16,53,none⟩)])):=by
  rw [jQ _ _ ⟨3,0,none⟩ (by simp;omega),jQ _ _ ⟨3,0,none⟩ hlt];exact hg
 have n9:=Tryz.elemV ⟨w.heap.size,0,none⟩ t (((w.alloc (.cells #[.pointer (some t)] 94)).alloc (.cells #[.pointer (some ⟨16,94,none⟩),.pointer (some ⟨w.heap.size,0,none⟩),.int .u64 150] 152)).alloc (.cells #[.pointer (some ⟨16,94,none⟩),.pointer (some ⟨w.heap.size,0,none⟩),.int .u64 150] 152)) (by rw [jQ _ _ ⟨w.heap.size,0,none⟩ (by simp;omega),jQ _ _ ⟨w.heap.size,0,none⟩ (by simp)];exact cell_one_new _ _ _ 0 _ rfl);have tc:((((w.alloc (.cells #[.pointer (some t)] 94)).alloc (.cells #[.pointer (some ⟨16,94,none⟩),.pointer (some ⟨w.heap.size,0,none⟩),.int .u64 150] 152)).alloc (.cells #[.pointer (some ⟨16,94,none⟩),.pointer (some ⟨w.heap.size,0,none⟩),.int .u64 150] 152)).alloc (.cells #[.pointer (some e)] 92)).cell? t=some old:=by
  rw [jQ _ _ t (by simp;omega),jQ _ _ t (by simp;omega),jQ _ _ t (by simp;omega),jQ _ _ t iU];exact ht
 have tf:((((w.alloc (.cells #[.pointer (some t)] 94)).alloc (.cells #[.pointer (some ⟨16,94,none⟩),.pointer (some ⟨w.heap.size,0,none⟩),.int .u64 150] 152)).alloc (.cells #[.pointer (some ⟨16,94,none⟩),.pointer (some ⟨w.heap.size,0,none⟩),.int .u64 150] 152)).alloc (.cells #[.pointer (some e)] 92)).frozen? t=false:=by
  have hb4:Below w.heap.size w ((((w.alloc (.cells #[.pointer (some t)] 94)).alloc (.cells #[.pointer (some ⟨16,94,none⟩),.pointer (some ⟨w.heap.size,0,none⟩),.int .u64 150] 152)).alloc (.cells #[.pointer (some ⟨16,94,none⟩),.pointer (some ⟨w.heap.size,0,none⟩),.int .u64 150] 152)).alloc (.cells #[.pointer (some e)] 92)):=((((aA _ _).alloc (ay _) _).alloc (by simp) _).alloc (by simp;omega) _).alloc (by simp;omega) _;rw [hb4.frozen iU];exact hf
 have n10:=Tryz.al7 t ⟨w.heap.size+1+1+1,0,none⟩ e old ((((w.alloc (.cells #[.pointer (some t)] 94)).alloc (.cells #[.pointer (some ⟨16,94,none⟩),.pointer (some ⟨w.heap.size,0,none⟩),.int .u64 150] 152)).alloc (.cells #[.pointer (some ⟨16,94,none⟩),.pointer (some ⟨w.heap.size,0,none⟩),.int .u64 150] 152)).alloc (.cells #[.pointer (some e)] 92)) (by
  have hz:(((w.alloc (.cells #[.pointer (some t)] 94)).alloc (.cells #[.pointer (some ⟨16,94,none⟩),.pointer (some ⟨w.heap.size,0,none⟩),.int .u64 150] 152)).alloc (.cells #[.pointer (some ⟨16,94,none⟩),.pointer (some ⟨w.heap.size,0,none⟩),.int .u64 150] 152)).heap.size=w.heap.size+1+1+1:=by simp
  rw [<-hz];exact cell_one_new _ _ _ 0 _ rfl) tc tf
 clear tc tf ht hf;go_enter func56,ntmps56;go_wp2;refine dw 1 ?_;rw [aY];go_wp2;go_ret;exact⟨rfl,_,((((aA _ _).alloc (ay _) _).alloc (by simp) _).alloc (by simp;omega) _).alloc (by simp;omega) _,rfl⟩
end
def bF(s:ByteArray)(bg i:Nat):List ByteArray:=
 if i<s.size then if bt s i=10 then s.extract bg i::bF s (i+1) (i+1)else bF s bg (i+1)else [s.extract bg i]
termination_by s.size - i
theorem RR {s:ByteArray}{bg i:Nat}(h:i<s.size)(hb:bt s i=10):bF s bg i=s.extract bg i::bF s (i+1) (i+1):=by rw [bF,aj h,aj hb]
theorem RQ {s:ByteArray}{bg i:Nat}(h:i<s.size)(hb:¬bt s i=10):bF s bg i=bF s bg (i+1):=by rw [bF,aj h,ai hb]
theorem aaD {s:ByteArray}{bg i:Nat}(h:¬i<s.size):bF s bg i=[s.extract bg i]:=by rw [bF,ai h]
theorem Jq(s:ByteArray)(bg i:Nat)(h:i<=s.size):(bF s bg i).length<=s.size+1 - i:=by
 fun_induction bF s bg i with
 |case1 bg i h1 h2 ih=>have:=ih (by omega);simp only [eW];omega
 |case2 bg i h1 h2 ih=>have:=ih (by omega);omega
 |case3 bg i h1=>simp only [eW,kq];omega
def ny(l:List ByteArray):List Value:=l.map fun x=> .string x
theorem aaE(l:List ByteArray)(x:ByteArray):ny (l++[x])=ny l++[.string x]:=by simp [ny]
theorem Tryz.aih:(prog.info? 9).map (fun i=>(i.zero,i.size,i.bytes))=some (some (.string ⟨#[]⟩),1,16):=by kernel_rfl
theorem ai6 {w:World}{B:Nat}{e:TypeId}{z n:Nat}{v:Value}{xs:List Value}(h:w.ownsRow B e z v n xs):∃a cap,v= .slice a n cap:=by
 rcases h.2 with⟨rfl,rfl⟩|⟨g,cap,cur,rfl,_⟩
 .exact⟨none,0,rfl⟩
 .exact⟨_,cap,rfl⟩
theorem ak3(s:ByteArray)(w:World)(hz:s.size<=900000):Calls prog 23 #[.string s] w fun e w'=>∃v,e= .returned v/\w'.ownsRow w.heap.size 9 1 v (bF s 0 0).length (ny (bF s 0 0))/\Below w.heap.size w w':=by
 obtain⟨iT,sA,xB⟩:∃i,prog.info? 9=some i/\(i.zero,i.size,i.bytes)=(some (.string ⟨#[]⟩),1,16):=by simpa using Tryz.aih
 simp only [GR]at xB;obtain⟨sF,sG,sH⟩:=xB;obtain⟨R,hR⟩:∃R,R=bF s 0 0:=⟨_,rfl⟩
 rw [<-hR];have HR:=ah hR;clear hR;go_enter func23,ntmps23;go_wp2;go_loopg [3,4,5] (s.size+1) (fun gk lv fv pv W=>∃(l:List ByteArray)(fr p:Nat),p<=s.size+1/\gk=s.size+1 - p/\l.length<=p/\fr<=p/\fv= .int .i64 fr/\pv= .int .i64 p/\(p<=s.size->l++bF s fr p=R)/\(p=s.size+1->l=R)/\W.ownsRow w.heap.size 9 1 lv l.length (ny l)/\Below w.heap.size w W);case atStart=>exact⟨[],0,0,by omega,rfl,by simp,by omega,rfl,rfl,fun _=>HR.out.symm,fun h=>by omega,jw _ _ _ _,aA _ _⟩
 case round=>
  obtain⟨l,fr,p,hp,rfl,hlp,pH,rfl,rfl,hj,hd,hown,hb⟩:=hrel;obtain⟨qa,qc,rfl⟩:=ai6 hown;have HB:=ah hb;have hbz:=hb.size;clear hb;by_cases hle:p<=s.size
  .have hpi:(p:Int)<=(s.size:Int):=by omega
   have HJ:=ah (hj hle);clear hj hd;by_cases hlt:p<s.size
   .have hne:((p:Int)==(s.size:Int))=false:=by simp;omega
    have ahF:(p:Int)<(s.size:Int):=by omega
    have qw:=nN hlt;obtain⟨c,hc⟩:∃c,s[p]'hlt=c:=⟨_,rfl⟩
    rw [hc]at qw;by_cases h10:bt s p=10
    .have Co:(c.toNat:Int)=10:=by rw [<-qw,h10]
     have xY:=ah h10;clear qw h10;go_wp2_with(at_builtin;refine nX _ rfl _ _ 42 rfl w.heap.size 9 iT (.string ⟨#[]⟩) 16 underlying42 sA sF sG sH rfl (by decide) _ _ _ rfl hown _ _ rfl rfl (by omega) hbz ?_);intro v2 w2 hown2 hg2;have aJ:Hid (Below w.heap.size w w2):=HB.out.grown hg2 hbz (fun y hy=>(hown.lt y hy).1);have bK:Hid (w2.ownsRow w.heap.size 9 1 v2 (l.length+1) (ny (l++[s.extract fr p]))):=by
      show World.ownsRow _ _ _ _ _ _ _;rw [aaE];exact hown2
     clear hown hown2 hg2;go_wp2;go_roundg (s.size+1 - (p+1));case measure=>omega
     case rel=>exact⟨l++[s.extract fr p],p+1,p+1,by omega,rfl,by simp;omega,by omega,by go_num,by go_num,fun _=>by rw [<-HJ.out,RR hlt xY.out,eV];rfl,fun h=>by omega,by simpa using bK.out,aJ.out⟩
    .have Co:((c.toNat:Int)==10)=false:=by rw [qw]at h10;simpa using h10
     have xY:=ah h10;have HO:=ah hown;clear qw h10 hown;go_wp2;go_roundg (s.size+1 - (p+1));case measure=>omega
     case rel=>exact⟨l,fr,p+1,by omega,rfl,by omega,by omega,rfl,by go_num,fun _=>by rw [<-RQ hlt xY.out];exact HJ.out,fun h=>by omega,HO.out,HB.out⟩
   .have hpe:p=s.size:=by omega
    subst hpe;go_wp2_with(at_builtin;refine nX _ rfl _ _ 42 rfl w.heap.size 9 iT (.string ⟨#[]⟩) 16 underlying42 sA sF sG sH rfl (by decide) _ _ _ rfl hown _ _ rfl rfl (by omega) hbz ?_);intro v2 w2 hown2 hg2;have aJ:Hid (Below w.heap.size w w2):=HB.out.grown hg2 hbz (fun y hy=>(hown.lt y hy).1);have bK:Hid (w2.ownsRow w.heap.size 9 1 v2 (l.length+1) (ny (l++[s.extract fr s.size]))):=by
     show World.ownsRow _ _ _ _ _ _ _;rw [aaE];exact hown2
    clear hown hown2 hg2;go_wp2;go_roundg (s.size+1 - (s.size+1));case measure=>omega
    case rel=>exact⟨l++[s.extract fr s.size],s.size+1,s.size+1,by omega,rfl,by simp;omega,by omega,by go_num,by go_num,fun h=>by omega,fun _=>by rw [<-HJ.out,aaD hlt],by simpa using bK.out,aJ.out⟩
  .have hpi:¬(p:Int)<=(s.size:Int):=by omega
   have QL:l=R:=hd (by omega);subst QL;have HO:=ah hown;clear hown hj hd HR;go_wp2;go_ret;exact⟨_,rfl,HO.out,HB.out⟩
def rP(w:World)(v:Value)(l:List PR):Prop:=∃x c,v= .slice x l.length c/\(0<l.length->∃g,x=some ⟨g,0,none⟩/\l.length<=c/\A5 w g l)
theorem rP.below {w w':World}{v:Value}{l:List PR}(h:rP w v l)(hb:Below w.heap.size w w'):rP w' v l:=by
 obtain⟨x,c,rfl,h⟩:=h;exact⟨x,c,rfl,fun h0=>let⟨g,h1,h2,h3⟩:=h h0;⟨g,h1,h2,h3.below hb⟩⟩
theorem W9 {w:World}{B:Nat}{e:TypeId}{v:Value}{l:List PR}(h:w.ownsRow B e 6 v l.length (jh l)):rP w v l:=by
 obtain⟨x,c,rfl⟩:=kE h;refine⟨x,c,rfl,fun h0=> ?_⟩;obtain⟨g,d,e1,hd,_⟩:=sL h h0;simp only [uY,vN]at e1;obtain⟨rfl,rfl⟩:=e1;exact⟨g,rfl,hd,af6 h rfl⟩
theorem js.form {w:World}{v:Value}{l:List Int}(h:js w v l):∃x c,v= .slice x l.length c/\(0<l.length->∃b off,x=some ⟨b,off,none⟩/\bG w b off l):=by
 rcases h with⟨rfl,rfl⟩|⟨b,off,cap,rfl,hc⟩
 .exact⟨none,0,rfl,fun h=>absurd h (by simp)⟩
 .exact⟨_,cap,rfl,fun _=>⟨b,off,rfl,hc⟩⟩
def gX(l:List PR)(line:Nat):List PR:=l.filter (fun x=>x.line==line)
theorem ajF {l:List PR}{line i:Nat}(hi:i<l.length):gX (l.take (i+1)) line=gX (l.take i) line++(if l[i].line=line then [l[i]]else []):=by
 rw [pZ hi];unfold gX;rw [qQ]
 congr 1
 by_cases h:l[i].line=line<;>simp [h]
theorem Sl(l:List PR)(line:Nat):(gX l line).length<=l.length:=yw _ _
theorem ajG(l:List PR)(v:Value)(line:Nat)(w:World)(hl:l.length<=600)(hv:rP w v l):
  Calls prog 79 #[v,.int .i64 line] w fun e w'=>∃v',e= .returned v'/\w'.ownsRow w.heap.size 83 6 v' (gX l line).length (jh (gX l line))/\Below w.heap.size w w':=by
 obtain⟨iT,sA,xB⟩:∃i,prog.info? 83=some i/\(i.zero,i.size,i.bytes)=(some (.agg #[.int .i64 0,.int .i64 0,.int .i64 0,.int .i64 0,.int .i64 0,.int .i64 0]),6,48):=by simpa using Tryz.aag
 simp only [GR]at xB;obtain⟨sF,sG,sH⟩:=xB;obtain⟨x,c,rfl,hx⟩:=hv;obtain⟨n,hn⟩:∃n,n=l.length:=⟨_,rfl⟩
 have HN:=ah hn;rw [<-hn]at hl hx ⊢;have HX:=ah hx;clear hn hx;go_enter func79,ntmps79;go_wp2;go_loopg [5,6] n (fun gk ov fE W=>∃(i:Nat),i<=n/\gk=n - i/\fE= .int .i64 i/\W.ownsRow w.heap.size 83 6 ov (gX (l.take i) line).length (jh (gX (l.take i) line))/\Below w.heap.size w W);case atStart=>exact⟨0,by omega,rfl,rfl,jw _ _ _ _,aA _ _⟩
 case round=>
  obtain⟨i,hi,rfl,rfl,hown,hb⟩:=hrel;obtain⟨qa,qc,rfl⟩:=kE hown;have HB:=ah hb;have hbz:=hb.size;by_cases hlt:i<n
  .have hil:i<l.length:=by rw [<-HN.out];exact hlt
   obtain⟨g,rfl,hcn,hD⟩:=HX.out (by omega);obtain⟨d0,d1,d2,d3,d4,d5⟩:=(hD.below hb) i hil;have hT:=ajF (line:=line) hil;have hol:(gX (l.take i) line).length<=600:=bU (Sl _ _) (by simp;omega);generalize l[i]=t at*;obtain⟨tl,tk,tf,tt,tb,te⟩:=t;simp only at d0 d1 d2 d3 d4 d5 hT;obtain⟨o,ho⟩:∃o,o=gX (l.take i) line:=⟨_,rfl⟩
   rw [<-ho]at hT hown hol ⊢;have HT:=ah hT;have hin:(i:Int)<(n:Int):=by omega
   clear ho hT hb hD hil;by_cases hL:tl=line
   .subst hL;go_wp2_with(at_builtin;refine Cu _ rfl _ _ 80 rfl w.heap.size 83 iT _ 6 48 underlying80 sA sF sG sH rfl (by decide) (by decide) _ _ _ rfl hown [_,_,_,_,_,_] _ _ rfl rfl rfl (by simp [Value.oneCell']) (by omega) hbz ?_);intro v2 w2 hown2 hg2;have aJ:Hid (Below w.heap.size w w2):=HB.out.grown hg2 hbz (fun y hy=>(hown.lt y hy).1);have bK:Hid (w2.ownsRow w.heap.size 83 6 v2 (gX (l.take (i+1)) tl).length (jh (gX (l.take (i+1)) tl))):=by
     show World.ownsRow _ _ _ _ _ _ _;rw [HT.out,aj trivial,Ho,bP];exact hown2
    clear hown hown2 hg2;go_wp2;go_roundg (n - (i+1));case measure=>omega
    case rel=>exact⟨i+1,by omega,rfl,by go_num,bK.out,aJ.out⟩
   .have hL':((tl:Int)==(line:Int))=false:=by simp;omega
    have bK:Hid (wr.ownsRow w.heap.size 83 6 (.slice qa o.length qc) (gX (l.take (i+1)) line).length (jh (gX (l.take (i+1)) line))):=by
     show World.ownsRow _ _ _ _ _ _ _;rw [HT.out,ai hL,lu];exact hown
    clear hown;go_wp2;go_roundg (n - (i+1));case measure=>omega
    case rel=>exact⟨i+1,by omega,rfl,by go_num,bK.out,HB.out⟩
  .obtain rfl:i=n:=by omega
   have hin:¬(i:Int)<(i:Int):=by omega
   rw [lB (by rw [HN.out];exact ay _)]at hown ⊢;have HO:=ah hown;clear hown hb;go_wp2;go_ret;exact⟨_,rfl,HO.out,HB.out⟩
def wd(r:Int):Nat:=if r<128 then 1 else if r<2048 then 2 else if r<65536 then 3 else 4
theorem anR(r:Int)(w:World):Calls prog 135 #[.int .i64 r] w fun e w'=>e= .returned (.int .i64 (wd r:Nat))/\w'=w:=by
 unfold wd;by_cases h1:r<128
 .rw [aj h1];go_enter func135,ntmps135;go_wp2;go_ret;exact⟨rfl,rfl⟩
 .rw [ai h1];by_cases h2:r<2048
  .rw [aj h2];go_enter func135,ntmps135;go_wp2;go_ret;exact⟨rfl,rfl⟩
  .rw [ai h2];by_cases h3:r<65536
   .rw [aj h3];go_enter func135,ntmps135;go_wp2;go_ret;exact⟨rfl,rfl⟩
   .rw [ai h3];go_enter func135,ntmps135;go_wp2;go_ret;exact⟨rfl,rfl⟩
theorem anO(r:Int):wd r<=4/\1<=wd r:=by
 unfold wd;split
 .omega
 .split
  .omega
  .split<;>omega
def dZ:Nat->List Int->List Nat
 |p,[]=>[p]
 |p,r::rs=>p::dZ (p+wd r) rs
def nv(l:List Nat):List Value:=l.map fun x=> .int .i64 (x:Nat)
theorem aa2(l:List Nat)(x:Nat):nv (l++[x])=nv l++[.int .i64 (x:Nat)]:=by simp [nv]
theorem abB(p:Nat)(rs:List Int):(dZ p rs).length=rs.length+1:=by
 induction rs generalizing p with
 |nil=>rfl
 |cons r rs ih=>simp [dZ,ih]
theorem abG(rs:List Int)(v:Value)(w:World)(hl:rs.length<=1000)(hv:js w v rs):
  Calls prog 133 #[v] w fun e w'=>∃v',e= .returned v'/\w'.ownsRow w.heap.size 3 1 v' (rs.length+1) (nv (dZ 0 rs))/\Below w.heap.size w w':=by
 obtain⟨iI,eY,eZ,fe,fh⟩:=gW Tryz.Dw;obtain⟨x,c,rfl,hx⟩:=hv.form;obtain⟨n,hn⟩:∃n,n=rs.length:=⟨_,rfl⟩
 have HN:=ah hn;rw [<-hn]at hl hx ⊢;have HX:=ah hx;clear hn hx hv;go_enter func133,ntmps133;go_wp2;go_loopg [3,4,5] n (fun gk ov pv fE W=>∃(i p:Nat)(o:List Nat),i<=n/\gk=n - i/\fE= .int .i64 i/\pv= .int .i64 p/\o.length=i/\p<=4*i/\o++dZ p (rs.drop i)=dZ 0 rs/\W.ownsRow w.heap.size 3 1 ov i (nv o)/\Below w.heap.size w W);case atStart=>exact⟨0,0,[],by omega,rfl,rfl,rfl,rfl,by omega,rfl,jw _ _ _ _,aA _ _⟩
 case round=>
  obtain⟨i,p,o,hi,rfl,rfl,rfl,hol,hp4,hpl,hown,hb⟩:=hrel;obtain⟨qa,qc,rfl⟩:=kE hown;have HB:=ah hb;have hbz:=hb.size;have yg:=ah hol;clear hol;by_cases hlt:i<n
  .have hil:i<rs.length:=by rw [<-HN.out];exact hlt
   obtain⟨b,off,rfl,hD⟩:=HX.out (by omega);have HD:=ah hD;have hdr:rs.drop i=rs[i]::rs.drop (i+1):=l9 hil;have hge:rs.getD i 0=rs[i]:=by rw [aO,aQ hil];rfl
   have HI:=ah hil;obtain⟨r,hr⟩:∃r,r=rs.getD i 0:=⟨_,rfl⟩
   have HR:=ah hr;rw [hdr,<-hge,<-hr,dZ]at hpl;have pR:=ah hpl;have hin:(i:Int)<(n:Int):=by omega
   have HW:Hid (∀W,Calls prog 135 #[.int .i64 r] W fun e w'=>e= .returned (.int .i64 (wd r:Nat))/\w'=W):=fun W=>anR r W
   have hwd:=anO r;clear hdr hge hr hpl hD hil hb;go_wp2_with(at_builtin;refine nX _ rfl _ _ 31 rfl w.heap.size 3 iI (.int .i64 0) 8 underlying31 eY eZ fe fh rfl (by decide) _ _ _ rfl hown _ _ rfl rfl (by omega) hbz ?_);intro v2 w2 hown2 hg2;have bq:Below w.heap.size w w2:=HB.out.grown hg2 hbz (fun y hy=>(hown.lt y hy).1);have aJ:=ah bq;have hcell:=(HD.out.below bq) i HI.out;rw [<-HR.out]at hcell;have bK:Hid (w2.ownsRow w.heap.size 3 1 v2 (i+1) (nv (o++[p]))):=by
    show World.ownsRow _ _ _ _ _ _ _;rw [aa2];exact hown2
   clear hown hown2 hg2 bq;generalize wd r=q at*;obtain⟨aoS,aoT⟩:=hwd;go_wp2_with fail;refine(HW.out _).mono ?_;rintro ev wx ⟨rfl,rfl⟩;go_wp2;go_roundg (n - (i+1));case measure=>omega
   case rel=>exact⟨i+1,p+q,o++[p],by omega,rfl,by go_num,by go_num,by simp [yg.out],by omega,by rw [<-pR.out];simp,bK.out,aJ.out⟩
  .obtain rfl:i=n:=by omega
   have hin:¬(i:Int)<(i:Int):=by omega
   rw [uU (by rw [HN.out];exact ay _),dZ]at hpl;have pR:=ah hpl;clear hpl hb;go_wp2_with(at_builtin;refine nX _ rfl _ _ 31 rfl w.heap.size 3 iI (.int .i64 0) 8 underlying31 eY eZ fe fh rfl (by decide) _ _ _ rfl hown _ _ rfl rfl (by omega) hbz ?_);intro v2 w2 hown2 hg2;have aJ:Hid (Below w.heap.size w w2):=HB.out.grown hg2 hbz (fun y hy=>(hown.lt y hy).1);have bK:Hid (w2.ownsRow w.heap.size 3 1 v2 (i+1) (nv (dZ 0 rs))):=by
    show World.ownsRow _ _ _ _ _ _ _;rw [<-pR.out,aa2];exact hown2
   clear hown hown2 hg2;go_wp2;go_ret;exact⟨_,rfl,bK.out,aJ.out⟩
def pI(q:Nat):List PR->Nat->Int
 |[],_=> -1
 |x::xs,k=>if x.from_<=q/\q<x.dU then(k:Int)else pI q xs (k+1)
theorem abp(l:List PR)(v:Value)(q:Nat)(w:World)(hl:l.length<=600)(hv:rP w v l):
  Calls prog 194 #[v,.int .i64 q] w fun e w'=>e= .returned (.int .i64 (pI q l 0))/\w'=w:=by
 obtain⟨x,c,rfl,hx⟩:=hv;obtain⟨n,hn⟩:∃n,n=l.length:=⟨_,rfl⟩
 have HN:=ah hn;rw [<-hn]at hl hx ⊢;have HX:=ah hx;clear hn hx;obtain⟨R,hR⟩:∃R,R=pI q l 0:=⟨_,rfl⟩
 rw [<-hR];have HR:=ah hR.symm;clear hR;go_enter func194,ntmps194;go_wp2;go_loopg [5] n (fun gk fE W=>∃(i:Nat),i<=n/\gk=n - i/\fE= .int .i64 i/\pI q (l.drop i) i=R/\W=w);case atStart=>exact⟨0,by omega,rfl,rfl,HR.out,rfl⟩
 case round=>
  obtain⟨i,hi,rfl,rfl,hp,rfl⟩:=hrel;by_cases hlt:i<n
  .have hil:i<l.length:=by rw [<-HN.out];exact hlt
   obtain⟨g,rfl,hcn,hD⟩:=HX.out (by omega);obtain⟨_,_,d2,d3,_,_⟩:=hD i hil;rw [l9 hil,pI]at hp;generalize l[i]=t at*;obtain⟨tl,tk,tf,tt,tb,te⟩:=t;simp only at d2 d3 hp;have hin:(i:Int)<(n:Int):=by omega
   by_cases h1:tf<=q
   .have h1':(q:Int) ≥ (tf:Int):=by omega
    by_cases h2:q<tt
    .have h2':(q:Int)<(tt:Int):=by omega
     rw [aj ⟨h1,h2⟩]at hp;subst hp;clear hD hil;go_wp2;go_ret;exact⟨rfl,rfl⟩
    .have h2':¬(q:Int)<(tt:Int):=by omega
     rw [ai (fun h=>h2 h.2)]at hp;have HP:=ah hp;clear hD hil hp;go_wp2;go_roundg (n - (i+1));case measure=>omega
     case rel=>exact⟨i+1,by omega,rfl,by go_num,HP.out,rfl⟩
   .have h1':¬(q:Int) ≥ (tf:Int):=by omega
    rw [ai (fun h=>h1 h.1)]at hp;have HP:=ah hp;clear hD hil hp;go_wp2;go_roundg (n - (i+1));case measure=>omega
    case rel=>exact⟨i+1,by omega,rfl,by go_num,HP.out,rfl⟩
  .obtain rfl:i=n:=by omega
   have hin:¬(i:Int)<(i:Int):=by omega
   rw [uU (by rw [HN.out];exact ay _),pI]at hp;subst hp;go_wp2;go_ret;exact⟨rfl,rfl⟩
def jS(s:ByteArray)(p:Nat):Nat:=if p<s.size then if _h:bu s p=0 then p else jS s (p+bu s p)else p
termination_by s.size - p
theorem Lr {s:ByteArray}{p:Nat}(h:p<s.size)(hz:bu s p=0):jS s p=p:=by rw [jS,aj h,dif_pos hz]
theorem Ls {s:ByteArray}{p:Nat}(h:p<s.size)(hz:bu s p≠0):jS s p=jS s (p+bu s p):=by
 conv=>lhs;rw [jS,aj h,dif_neg hz]
theorem Pw {s:ByteArray}{p:Nat}(h:¬p<s.size):jS s p=p:=by rw [jS,ai h]
def p8(s:ByteArray)(p:Nat)(l:List Int):Prop:=r8 s p l/\jS s p=jS s 0
theorem p8.start(s:ByteArray):p8 s 0 []:=⟨r8.start s,rfl⟩
theorem p8.stop {s:ByteArray}{p:Nat}{l:List Int}(h:p8 s p l)(hp:¬p<s.size):fH s=some l:=h.1.stop hp
theorem p8.bad {s:ByteArray}{p:Nat}{l:List Int}(h:p8 s p l)(hp:p<s.size)(hz:bu s p=0):fH s=none:=h.1.bad hp hz
theorem p8.step {s:ByteArray}{p:Nat}{l:List Int}(h:p8 s p l)(hp:p<s.size)(hz:bu s p≠0):p8 s (p+bu s p) (l++[iL s p]):=⟨h.1.step hp hz,by rw [<-h.2,Ls hp hz]⟩
theorem alC(s:ByteArray)(w:World)(hs:s.size<=1000):
  Calls prog 67 #[.string s] w fun e w'=>Below w.heap.size w w'/\
   ((fH s=none/\jS s 0<s.size/\e= .returned (.tuple #[.slice none 0 0,.int .i64 (jS s 0:Nat)]))∨
    ∃v l,fH s=some l/\l.length<=s.size/\e= .returned (.tuple #[v,.int .i64 (-1)])/\w'.ownsRow w.heap.size 3 1 v l.length (l.map (Value.int .i64))):=by
 obtain⟨i0,hi,hz0,hz1,hz2⟩:=gW Tryz.Dw;go_enter func67,ntmps67;go_wp2;go_loopw [4,5] (fun v i wr=>∃(p:Nat)(l:List Int),p<=s.size/\i= .int .i64 p/\p8 s p l/\wr.ownsRow w.heap.size 3 1 v l.length (l.map (Value.int .i64))/\Below w.heap.size w wr) (fun _ i _=>s.size - (intOf i).toNat);case atStart=>exact⟨0,[],rY _,rfl,p8.start s,jw _ _ _ _,aA _ _⟩
 case round=>
  obtain⟨p,l,hp,rfl,hR,hown,hb⟩:=hrel;have HR:=ah hR;have hbz:=hb.size;have hll:l.length<=p:=by obtain⟨f,_,h,_⟩:=hR.1;exact h
  clear hR;by_cases hlt:p<s.size
  .have hlt':(p:Int)<(s.size:Int):=by omega
   have HZ:=am6 s p hlt;have hsz:(s.extract p s.size).size=s.size - p:=Tw s p;by_cases hz:bu s p=0
   .rw [hz]at HZ;have HC:Hid (Calls prog 112 #[.string (s.extract p s.size)] wr fun e w'=>e= .returned (.int .i64 0)/\w'=wr):=by
     have:=JV (s.extract p s.size) wr (by omega) (by omega);rw [HZ]at this;exact this
    have Ot:=ah hz;clear HZ hsz hz;go_wp2_with fail;refine HC.out.mono ?_;rintro e w' ⟨rfl,rfl⟩;go_wp2;go_ret2;exact⟨hb,.inl ⟨HR.out.bad hlt Ot.out,by rw [<-HR.out.2,Lr hlt Ot.out];exact hlt,by rw [<-HR.out.2,Lr hlt Ot.out];rfl⟩⟩
   rcases FK s p hlt hz with⟨e1,h1,hr⟩|⟨e1,hn,h1,h2,h3,h4,hr⟩|⟨e1,hn,h1,h2,h3,h4,h5,h6,hr⟩|⟨e1,hn,h1,h2,h3,h4,h5,h6,h7,h8,hr⟩
   .have hz':bu s p≠0:=by omega
    have HS:Hid (p8 s (p+1) (l++[iL s p])):=e1▸HR.out.step hlt hz';have HV:=ah hr;rw [e1]at HZ;have HC:Hid (Calls prog 112 #[.string (s.extract p s.size)] wr fun e w'=>e= .returned (.int .i64 1)/\w'=wr):=by
     have:=JV (s.extract p s.size) wr (by omega) (by omega);rw [HZ]at this;exact this
    clear HZ hsz hz hz' hr e1 HR;have hi0:s[p]'(by omega)=s.get! (p):=(get_eq s (p) (by omega)).symm;have hl0:((s.get! (p)).toNat:Int)<256:=by have:=(s.get! (p)).toNat_lt;omega
    generalize s.get! (p)=c0 at*;go_wp2_with fail;refine HC.out.mono ?_;rintro e w' ⟨rfl,rfl⟩;clear HC;go_wp2;refine dw 1 ?_;rw [aY];go_wp2_with(at_builtin;refine FP _ rfl _ _ 31 rfl w.heap.size 3 i0 (.int .i64 0) 8 underlying31 hi hz0 hz1 hz2 rfl (by decide) _ _ _ rfl hown _ _ rfl rfl (by omega) (by omega) ?_);intro v' w1 hown' hb';clear hown;go_wp2;go_roundw;case rel=>exact⟨p+1,_,by omega,by go_num,HS.out,by rw [HV.out];simpa using hown',hb.trans hb'⟩
    case measure=>simp [intOf];omega
   .have hz':bu s p≠0:=by omega
    have HS:Hid (p8 s (p+2) (l++[iL s p])):=e1▸HR.out.step hlt hz';have HV:=ah hr;rw [e1]at HZ;have HC:Hid (Calls prog 112 #[.string (s.extract p s.size)] wr fun e w'=>e= .returned (.int .i64 2)/\w'=wr):=by
     have:=JV (s.extract p s.size) wr (by omega) (by omega);rw [HZ]at this;exact this
    clear HZ hsz hz hz' hr e1 HR;have hi0:s[p]'(by omega)=s.get! (p):=(get_eq s (p) (by omega)).symm;have hl0:((s.get! (p)).toNat:Int)<256:=by have:=(s.get! (p)).toNat_lt;omega
    have hi1:s[p+1]'(by omega)=s.get! (p+1):=(get_eq s (p+1) (by omega)).symm;have nt:((s.get! (p+1)).toNat:Int)<256:=by have:=(s.get! (p+1)).toNat_lt;omega
    generalize s.get! (p)=c0 at*;generalize s.get! (p+1)=c1 at*;have ha:bits .and .i64 (c0.toNat:Int) 31=((c0.toNat%32:Nat):Int):=KU ⟨c0.toNat,c0.toNat_lt⟩;go_wp2_with fail;refine HC.out.mono ?_;rintro e w' ⟨rfl,rfl⟩;clear HC;go_wp2;refine dw 2 ?_;rw [aY];go_wp2;rw [aY];go_wp2_with(at_builtin;refine FP _ rfl _ _ 31 rfl w.heap.size 3 i0 (.int .i64 0) 8 underlying31 hi hz0 hz1 hz2 rfl (by decide) _ _ _ rfl hown _ _ rfl rfl (by omega) (by omega) ?_);intro v' w1 hown' hb';clear hown;go_wp2;go_roundw;case rel=>exact⟨p+2,_,by omega,by go_num,HS.out,by rw [HV.out];simpa using hown',hb.trans hb'⟩
    case measure=>simp [intOf];omega
   .have hz':bu s p≠0:=by omega
    have HS:Hid (p8 s (p+3) (l++[iL s p])):=e1▸HR.out.step hlt hz';have HV:=ah hr;rw [e1]at HZ;have HC:Hid (Calls prog 112 #[.string (s.extract p s.size)] wr fun e w'=>e= .returned (.int .i64 3)/\w'=wr):=by
     have:=JV (s.extract p s.size) wr (by omega) (by omega);rw [HZ]at this;exact this
    clear HZ hsz hz hz' hr e1 HR;have hi0:s[p]'(by omega)=s.get! (p):=(get_eq s (p) (by omega)).symm;have hl0:((s.get! (p)).toNat:Int)<256:=by have:=(s.get! (p)).toNat_lt;omega
    have hi1:s[p+1]'(by omega)=s.get! (p+1):=(get_eq s (p+1) (by omega)).symm;have nt:((s.get! (p+1)).toNat:Int)<256:=by have:=(s.get! (p+1)).toNat_lt;omega
    have hi2:s[p+2]'(by omega)=s.get! (p+2):=(get_eq s (p+2) (by omega)).symm;have hl2:((s.get! (p+2)).toNat:Int)<256:=by have:=(s.get! (p+2)).toNat_lt;omega
    generalize s.get! (p)=c0 at*;generalize s.get! (p+1)=c1 at*;generalize s.get! (p+2)=c2 at*;have ha:bits .and .i64 (c0.toNat:Int) 15=((c0.toNat%16:Nat):Int):=Aa ⟨c0.toNat,c0.toNat_lt⟩;go_wp2_with fail;refine HC.out.mono ?_;rintro e w' ⟨rfl,rfl⟩;clear HC;go_wp2;refine dw 3 ?_;rw [aY];go_wp2;rw [aY];go_wp2;rw [aY];go_wp2_with(at_builtin;refine FP _ rfl _ _ 31 rfl w.heap.size 3 i0 (.int .i64 0) 8 underlying31 hi hz0 hz1 hz2 rfl (by decide) _ _ _ rfl hown _ _ rfl rfl (by omega) (by omega) ?_);intro v' w1 hown' hb';clear hown;go_wp2;go_roundw;case rel=>exact⟨p+3,_,by omega,by go_num,HS.out,by rw [HV.out];simpa using hown',hb.trans hb'⟩
    case measure=>simp [intOf];omega
   .have hz':bu s p≠0:=by omega
    have HS:Hid (p8 s (p+4) (l++[iL s p])):=e1▸HR.out.step hlt hz';have HV:=ah hr;rw [e1]at HZ;have HC:Hid (Calls prog 112 #[.string (s.extract p s.size)] wr fun e w'=>e= .returned (.int .i64 4)/\w'=wr):=by
     have:=JV (s.extract p s.size) wr (by omega) (by omega);rw [HZ]at this;exact this
    clear HZ hsz hz hz' hr e1 HR;have hi0:s[p]'(by omega)=s.get! (p):=(get_eq s (p) (by omega)).symm;have hl0:((s.get! (p)).toNat:Int)<256:=by have:=(s.get! (p)).toNat_lt;omega
    have hi1:s[p+1]'(by omega)=s.get! (p+1):=(get_eq s (p+1) (by omega)).symm;have nt:((s.get! (p+1)).toNat:Int)<256:=by have:=(s.get! (p+1)).toNat_lt;omega
    have hi2:s[p+2]'(by omega)=s.get! (p+2):=(get_eq s (p+2) (by omega)).symm;have hl2:((s.get! (p+2)).toNat:Int)<256:=by have:=(s.get! (p+2)).toNat_lt;omega
    have Zg:s[p+3]'(by omega)=s.get! (p+3):=(get_eq s (p+3) (by omega)).symm;have hl3:((s.get! (p+3)).toNat:Int)<256:=by have:=(s.get! (p+3)).toNat_lt;omega
    generalize s.get! (p)=c0 at*;generalize s.get! (p+1)=c1 at*;generalize s.get! (p+2)=c2 at*;generalize s.get! (p+3)=c3 at*;have ha:bits .and .i64 (c0.toNat:Int) 7=((c0.toNat%8:Nat):Int):=yF ⟨c0.toNat,c0.toNat_lt⟩;go_wp2_with fail;refine HC.out.mono ?_;rintro e w' ⟨rfl,rfl⟩;clear HC;go_wp2;refine dw 4 ?_;rw [aY];go_wp2;rw [aY];go_wp2;rw [aY];go_wp2;rw [aY];go_wp2_with(at_builtin;refine FP _ rfl _ _ 31 rfl w.heap.size 3 i0 (.int .i64 0) 8 underlying31 hi hz0 hz1 hz2 rfl (by decide) _ _ _ rfl hown _ _ rfl rfl (by omega) (by omega) ?_);intro v' w1 hown' hb';clear hown;go_wp2;go_roundw;case rel=>exact⟨p+4,_,by omega,by go_num,HS.out,by rw [HV.out];simpa using hown',hb.trans hb'⟩
    case measure=>simp [intOf];omega
  .go_wp2;go_ret2;exact⟨hb,.inr ⟨_,l,HR.out.stop hlt,by omega,rfl,hown⟩⟩
def p9:List ByteArray->Nat->Option (Nat×Nat)
 |[],_=>none
 |x::xs,i=>match fH x with
  |none=>some (i,jS x 0)
  |some _=>p9 xs (i+1)
def oL:List (List Int)->Nat->Option Nat
 |[],_=>none
 |x::xs,i=>if 300<x.length then some i else oL xs (i+1)
def dP(l:List ByteArray):List (List Int):=l.map fun x=>(fH x).getD []
def dS(s:ByteArray):Int×Int×Int:=
 if 600<s.size then(1, -1, -1)else match p9 (bF s 0 0) 0 with
  |some (i,p)=>(2,(i:Nat),(p:Nat))
  |none=>match oL (dP (bF s 0 0)) 0 with
   |some i=>(1,(i:Nat),0)
   |none=>(0,0,0)
def AB(s:ByteArray):Value:= .agg #[.int .i64 (dS s).1,.int .i64 (dS s).2.1,.int .i64 (dS s).2.2]
def wU(w:World)(B:Nat)(v:Value)(ls:List (List Int)):Prop:=∃vs,w.ownsRow B 31 1 v ls.length vs/\∀j,j<ls.length->w.ownsRow B 3 1 (vs.getD j undef) (ls.getD j []).length ((ls.getD j []).map (Value.int .i64))
theorem wU.nil(w:World)(B:Nat):wU w B (.slice none 0 0) []:=⟨[],jw _ _ _ _,fun j h=>absurd h (by simp)⟩
theorem wU.below {w w':World}{B:Nat}{v:Value}{ls:List (List Int)}(h:wU w B v ls)(hb:Below w.heap.size w w'):wU w' B v ls:=by
 obtain⟨vs,h1,h2⟩:=h;exact⟨vs,vJ h1 hb,fun j hj=>vJ (h2 j hj) hb⟩
theorem XZ {α:Type}{l m:List α}{d:α}{i:Nat}(h:i<l.length):(l++m).getD i d=l.getD i d:=by
 rw [aO,aO,qV h]
theorem X0 {α:Type}{l:List α}{x d:α}{i:Nat}(h:l.length=i):(l++[x]).getD i d=x:=by
 subst h;rw [aO];simp
theorem acK:(3:TypeId)≠31:=by decide
theorem RO(s:ByteArray)(bg i:Nat):∀x∈bF s bg i,x.size<=s.size:=by
 fun_induction bF s bg i with
 |case1 bg i h1 h2 ih=>
  intro x hx;rcases jF.1 hx with rfl|hx
  .simp;omega
  .exact ih x hx
 |case2 bg i h1 h2 ih=>exact ih
 |case3 bg i h1=>intro x hx;simp at hx;subst hx;simp;omega
theorem ai4(s:ByteArray)(w:World):Calls prog 77 #[.string s] w fun e w'=>Below w.heap.size w w'/\∃v,e= .returned (.tuple #[v,AB s])/\((dS s).1≠0->v= .slice none 0 0)/\((dS s).1=0->wU w' (w.heap.size+1) v (dP (bF s 0 0))):=by
 by_cases hz:600<s.size
 .have hz':(s.size:Int)>600:=by omega
  have hL:dS s=(1, -1, -1):=aj hz;unfold AB;rw [hL];simp only;go_enter func77,ntmps77;go_wp2;exact cG (v:= .tuple #[.slice none 0 0,.agg #[.int .i64 1,.int .i64 (-1),.int .i64 (-1)]]) (by simp [results,results77,go_sem]) rfl ⟨(aA _ _).alloc (ay _) _,_,rfl,fun _=>rfl,fun h=>by cases h⟩
 .have hz':¬(s.size:Int)>600:=by omega
  obtain⟨iI,eY,Z8⟩:∃i,prog.info? 31=some i/\(i.zero,i.size,i.bytes)=(some (.slice none 0 0),1,24):=by simpa using Tryz.Ro
  simp only [GR]at Z8;obtain⟨eZ,fe,fh⟩:=Z8;have hle:=Jq s 0 0 (by omega);have nJ:Hid (∀x∈bF s 0 0,x.size<=600):=fun x hx=>by have:=RO s 0 0 x hx;omega
  have HL:=ak3 s (w.alloc (.cells #[.int .i64 0,.int .i64 0,.int .i64 0] 47)) (by omega);have HF:Hid (dS s=match p9 (bF s 0 0) 0 with
   |some (i,p)=>(2,((i:Nat):Int),((p:Nat):Int))
   |none=>match oL (dP (bF s 0 0)) 0 with
    |some i=>(1,((i:Nat):Int),0)
    |none=>(0,0,0)):=ai hz
  obtain⟨F,hF⟩:∃F,F=dS s:=⟨_,rfl⟩
  unfold AB;rw [<-hF]at HF ⊢;clear hF;generalize bF s 0 0=LS at*;obtain⟨N,hN⟩:∃N,N=LS.length:=⟨_,rfl⟩
  have HN:=ah hN;rw [<-hN]at hle HL;have mQ:Hid (Below w.heap.size w (w.alloc (.cells #[.int .i64 0,.int .i64 0,.int .i64 0] 47))):=(aA _ _).alloc (ay _) _;clear hN hz;go_enter func77,ntmps77;go_wp2_with fail;refine HL.mono ?_;clear HL;rintro ev W1 ⟨lv,rfl,hrow,hb1⟩;obtain⟨la,lc,rfl⟩:=kE hrow;have zO:Hid (W1.ownsRow (w.heap.size+1) 9 1 (.slice la N lc) N (ny LS)):=by show World.ownsRow _ _ _ _ _ _ _;simpa using hrow
  have aG:=ah (Uj mQ.out (hb1.mono (Ui mQ.out)));have qL:Hid (W1.heap[w.heap.size]? =some (.cells #[.int .i64 0,.int .i64 0,.int .i64 0] 47 (0,0))):=cB hb1 (World.alloc_heap_new _ _);have hz1:w.heap.size+1<=W1.heap.size:=by have:=hb1.size;simpa using this
  clear hrow hb1;go_wp2;go_loopg [5,6,7,8] N (fun gk ov fE _ _ W=>∃(i:Nat),i<=N/\gk=N - i/\fE= .int .i64 i/\p9 (LS.drop i) i=p9 LS 0/\wU W W1.heap.size ov (dP (LS.take i))/\Below W1.heap.size W1 W);case atStart=>exact⟨0,by omega,rfl,rfl,rfl,wU.nil _ _,aA _ _⟩
  case round=>
   rename World=>wa
   obtain⟨i,hi,rfl,rfl,hbad,hrs,hb⟩:=hrel;have HB:=ah hb;have hbz:=hb.size;by_cases hlt:i<N
   .have hil:i<LS.length:=by rw [<-HN.out];exact hlt
    have hrow:=vJ zO.out hb;obtain⟨lg,ao3,hle1,aoB,_,aoD⟩:=sL hrow (by omega);simp only [uY,vN]at hle1;obtain⟨rfl,rfl⟩:=hle1;have hcl:wa.cell? ⟨lg,i,none⟩=some (.string LS[i]):=by rw [dg hrow i (by omega)];simp [ny,hil]
    have hsz:LS[i].size<=600:=nJ.out _ (pV hil);have zP:=alC LS[i] wa (by omega);have hdr:LS.drop i=LS[i]::LS.drop (i+1):=l9 hil;rw [hdr,p9]at hbad;have htk:dP (LS.take (i+1))=dP (LS.take i)++[(fH LS[i]).getD []]:=by
     rw [pZ hil,dP,fO];rfl
    generalize LS[i]=x at*;have qP:=ah htk;obtain⟨o,ho⟩:∃o,o=dP (LS.take i):=⟨_,rfl⟩
    have hol:o.length=i:=by rw [ho];simp [dP];omega
    have HO:=ah ho;rw [<-ho]at hrs;have hin:(i:Int)<(N:Int):=by omega
    clear hdr htk hrow hil hb ho;go_wp2_with fail;refine zP.mono ?_;clear zP;rintro ev wr ⟨hbr,Qs⟩;have kg:=ah (HB.out.trans (hbr.mono hbz));have Qr:=kg.out.size;rcases Qs with⟨hnone,hend,rfl⟩|⟨rv,l,hsome,hll,rfl,hrl⟩
    .rw [hnone]at hbad;have P7:F=(2,(i:Int),(jS x 0:Int)):=by rw [HF.out,<-hbad]
     obtain⟨p,hp⟩:∃p,p=jS x 0:=⟨_,rfl⟩
     rw [<-hp]at P7 ⊢;have hp0:(p:Int) ≥ 0:=by omega
     have bX:=cB (kg.out.mono (ay _)) qL.out;have k0:=cell_of bX 0;have k1:=cell_of bX 1;have k2:=cell_of bX 2;simp only [wR,wP,wQ]at k0 k1 k2;have f0:=w9 wr w.heap.size 0 _ _ bX;have f1:=w9 wr w.heap.size 1 _ _ bX;have f2:=w9 wr w.heap.size 2 _ _ bX;have qK:=ah P7;clear hbad hrs hbr bX P7 hnone hend hp;go_wp2;refine cG (v:= .tuple #[.slice none 0 0,.agg #[.int .i64 2,.int .i64 i,.int .i64 p]]) (by simp [results,results77,go_sem,k0,k1,k2]) rfl ⟨?_,_,by rw [qK.out],fun _=>rfl,fun h=>by rw [qK.out]at h;cases h⟩;exact(((aG.out.trans (kg.out.mono (by omega))).setCell (ay _) _).setCell (ay _) _).setCell (ay _) _
    .rw [hsome]at hbad qP;simp only [CU]at qP;simp only at hbad;have Np:=ah hbad;have hneg:¬((-1:Int) ≥ 0):=by omega
     obtain⟨vs,nu,vE⟩:=hrs.below hbr;rw [hol]at nu vE;obtain⟨oa,oc,rfl⟩:=kE nu;have Eh:=ah vE;have rV:=ah hrl;obtain⟨ra,rc,rfl⟩:=kE hrl;have Vp:Hid (vs.length=i):=by show _=_;have:=nu.1;omega
     clear hbad vE hbr hrs hsome hrl;go_wp2_with(at_builtin;refine nX _ rfl _ _ 127 rfl W1.heap.size 31 iI (.slice none 0 0) 24 underlying127 eY eZ fe fh rfl (by decide) _ _ _ rfl nu _ _ rfl rfl (by omega) Qr ?_);intro v2 w2 hown2 hg2;have aJ:Hid (Below W1.heap.size W1 w2):=kg.out.grown hg2 Qr (fun y hy=>(nu.lt y hy).1);have gH:Hid (wU w2 W1.heap.size v2 (dP (LS.take (i+1)))):=by
      show wU _ _ _ _;rw [qP.out,<-HO.out];refine⟨vs++[.slice ra l.length rc],by rw [bP,hol];exact hown2,fun j hj=> ?_⟩;rw [bP,hol]at hj;by_cases hji:j<i
      .have e1:(vs++[Value.slice ra l.length rc]).getD j undef=vs.getD j undef:=XZ (by rw [Vp.out];exact hji);have e2:(o++[l]).getD j []=o.getD j []:=XZ (by rw [hol];exact hji);rw [e1,e2];exact(Eh.out j hji).kept hg2 (kD (Eh.out j hji) nu acK)
      .obtain rfl:j=i:=by simp at hj;omega
       have e1:(vs++[Value.slice ra l.length rc]).getD j undef= .slice ra l.length rc:=X0 Vp.out;have e2:(o++[l]).getD j []=l:=X0 hol;rw [e1,e2];exact Ch (rV.out.kept hg2 (kD rV.out nu acK)) hbz
     clear nu hown2 hg2;go_wp2;go_roundg (N - (i+1));case measure=>omega
     case rel=>exact⟨i+1,by omega,rfl,by go_num,Np.out,gH.out,aJ.out⟩
   .obtain rfl:i=N:=by omega
    have hin:¬(i:Int)<(i:Int):=by omega
    rw [uU (by rw [HN.out];exact ay _),p9]at hbad;rw [lB (by rw [HN.out];exact ay _)]at hrs;have dX:Hid (F=match oL (dP LS) 0 with
     |some i=>(1,((i:Nat):Int),0)
     |none=>(0,0,0)):=by show _=_;rw [HF.out,<-hbad]
    obtain⟨vs,nu,vE⟩:=hrs;have hrl:(dP LS).length=i:=by simp [dP,HN.out]
    rw [hrl]at nu vE;obtain⟨oa,oc,rfl⟩:=kE nu;have KA:=ah nu;have Eh:=ah vE;have rV:=ah hrl;have bX:=cB HB.out qL.out;have D8:=ah bX;obtain⟨RL,Qc⟩:∃RL,RL=dP LS:=⟨_,rfl⟩
    have HRL:=ah Qc;rw [<-Qc]at dX Eh rV;clear Qc;clear hbad nu vE hrl hb bX;go_wp2;go_loopg [9] i (fun gk kv W=>∃(k:Nat),k<=i/\gk=i - k/\kv= .int .i64 k/\oL (RL.drop k) k=oL RL 0/\W=wa);case atStart=>exact⟨0,by omega,rfl,rfl,rfl,rfl⟩
    case round=>
     obtain⟨k,hk,rfl,rfl,lJ,rfl⟩:=hrel;have k0:=cell_of D8.out 0;have k1:=cell_of D8.out 1;have k2:=cell_of D8.out 2;simp only [wR,wP,wQ]at k0 k1 k2;have f0:=w9 wr w.heap.size 0 _ _ D8.out;have f1:=w9 wr w.heap.size 1 _ _ D8.out;have f2:=w9 wr w.heap.size 2 _ _ D8.out;by_cases hkl:k<i
     .obtain⟨og,od,II,hod,_,ahC⟩:=sL KA.out (by omega);simp only [uY,vN]at II;obtain⟨rfl,rfl⟩:=II;have E0:k<RL.length:=by rw [rV.out];exact hkl
      have hck:wr.cell? ⟨og,k,none⟩=some (vs.getD k undef):=by
       rw [dg KA.out k (by omega)];have hvl:vs.length=i:=by have:=KA.out.1;omega
       rw [aQ (by omega),aO,aQ (by omega)];rfl
      have hdk:RL.drop k=RL.getD k []::RL.drop (k+1):=by rw [l9 E0];congr 1;rw [aO,aQ E0];rfl
      rw [hdk,oL]at lJ;obtain⟨xa,xc,Rf⟩:=kE (Eh.out k hkl);rw [Rf]at hck;generalize(RL.getD k []).length=q at*;have hki:(k:Int)<(i:Int):=by omega
      by_cases hq:300<q
      .rw [aj hq]at lJ;have hq':(q:Int)>300:=by omega
       have qK:Hid (F=(1,(k:Int),0)):=by show _=_;rw [dX.out,<-lJ]
       clear lJ hdk Rf;go_wp2;refine cG (v:= .tuple #[.slice none 0 0,.agg #[.int .i64 1,.int .i64 k,.int .i64 0]]) (by simp [results,results77,go_sem,k0,k1,k2]) rfl ⟨?_,_,by rw [qK.out],fun _=>rfl,fun h=>by rw [qK.out]at h;cases h⟩;exact(((aG.out.trans (HB.out.mono (by omega))).setCell (ay _) _).setCell (ay _) _).setCell (ay _) _
      .rw [ai hq]at lJ;have hq':¬(q:Int)>300:=by omega
       have CG:=ah lJ;clear lJ hdk Rf;go_wp2;go_roundg (i - (k+1));case measure=>omega
       case rel=>exact⟨k+1,by omega,rfl,by go_num,CG.out,rfl⟩
     .obtain rfl:k=i:=by omega
      have hki:¬(k:Int)<(k:Int):=by omega
      rw [uU (by rw [rV.out];exact ay _),oL]at lJ;have qK:Hid (F=(0,0,0)):=by show _=_;rw [dX.out,<-lJ]
      clear lJ;go_wp2;refine cG (v:= .tuple #[.slice oa k oc,.agg #[.int .i64 0,.int .i64 0,.int .i64 0]]) (by simp [results,results77,go_sem,k0,k1,k2]) rfl ⟨?_,_,by rw [qK.out],fun h=>by rw [qK.out]at h;exact absurd rfl h,fun _=> ?_⟩
      .exact(((aG.out.trans (HB.out.mono (by omega))).setCell (ay _) _).setCell (ay _) _).setCell (ay _) _
      .rw [<-HRL.out];refine⟨vs,by rw [rV.out];exact Ch (xL (xL (xL KA.out (by simp;omega) _) (by simp;omega) _) (by simp;omega) _) hz1,fun j hj=> ?_⟩;rw [rV.out]at hj;exact Ch (xL (xL (xL (Eh.out j hj) (by simp;omega) _) (by simp;omega) _) (by simp;omega) _) hz1
def kV(s:ByteArray)(bg i:Nat):List Nat:=
 if i<s.size then if bt s i=10 then(i - bg)::kV s (i+1) (i+1)else kV s bg (i+1)else [i - bg]
termination_by s.size - i
theorem RM {s:ByteArray}{bg i:Nat}(h:i<s.size)(hb:bt s i=10):kV s bg i=(i - bg)::kV s (i+1) (i+1):=by rw [kV,aj h,aj hb]
theorem aaz {s:ByteArray}{bg i:Nat}(h:i<s.size)(hb:¬bt s i=10):kV s bg i=kV s bg (i+1):=by rw [kV,aj h,ai hb]
theorem aay {s:ByteArray}{bg i:Nat}(h:¬i<s.size):kV s bg i=[i - bg]:=by rw [kV,ai h]
theorem aiS(s:ByteArray)(bg i:Nat):∃m ms,kV s bg i=m::ms/\i - bg<=m:=by
 fun_induction kV s bg i with
 |case1 bg i h1 h2 ih=>exact⟨_,_,rfl,ay _⟩
 |case2 bg i h1 h2 ih=>
  obtain⟨m,ms,h,hm⟩:=ih;exact⟨m,ms,h,by omega⟩
 |case3 bg i h1=>exact⟨_,_,rfl,ay _⟩
def jn(L:List Nat)(line p:Nat):List PR->Prop
 |[]=>line<L.length/\p=L.getD line 0/\∀k,line<k->k<L.length->L.getD k 0=0
 |x::xs=>line<=x.line/\x.line<L.length/\(line<x.line->p=L.getD line 0/\∀k,line<k->k<x.line->L.getD k 0=0)/\x.from_=(if line<x.line then 0 else p)/\x.from_<x.dU/\x.dU<=L.getD x.line 0/\jn L x.line x.dU xs
def JR(L:List Nat)(line pc ln bg fr:Nat):Prop:=bg<=fr/\((line=ln/\pc=fr - bg)∨(line<ln/\pc=L.getD line 0/\(∀k,line<k->k<ln->L.getD k 0=0)/\fr=bg))
theorem Lp {L:List Nat}{ln m:Nat}{ms:List Nat}(h:L.drop ln=m::ms):ln<L.length/\L.getD ln 0=m/\L.drop (ln+1)=ms:=by
 have hl:ln<L.length:=by
  rcases cK ln L.length with h1|h1
  .exact h1
  .rw [uU h1]at h;cases h
 rw [l9 hl]at h;injection h with h1 h2
 exact⟨hl,by rw [aO,aQ hl];exact h1,h2⟩
theorem Xi {s:ByteArray}{L:List Nat}{line pc ln bg fr p k B E:Nat}{R:List PR}(h:JR L line pc ln bg fr)(hf:fr<=p)(hL:L.drop ln=kV s bg p)(hR:∀line' Ck,JR L line' Ck ln bg p->jn L line' Ck R):jn L line pc (dY ln k bg fr p B E++R):=by
 obtain⟨hb,h⟩:=h;obtain⟨m,ms,hm,hmp⟩:=aiS s bg p;obtain⟨h1,h2,_⟩:=Lp (hL.trans hm);unfold dY;by_cases pH:fr<p
 .rw [aj pH];refine⟨?_,h1,?_,?_,?_,?_,hR _ _ ⟨by omega,.inl ⟨rfl,rfl⟩⟩⟩
  .show line<=ln;omega
  .intro hlt;have hlt':line<ln:=hlt;rcases h with⟨h3,_⟩|⟨_,h4,h5,_⟩
   .omega
   .exact⟨h4,h5⟩
  .show fr - bg=if line<ln then 0 else pc
   rcases h with⟨h3,h4⟩|⟨h3,_,_,h4⟩
   .rw [ai (by omega),h4]
   .rw [aj h3];omega
  .show fr - bg<p - bg;omega
  .show p - bg<=L.getD ln 0;omega
 .rw [ai pH];obtain rfl:fr=p:=by omega
  exact hR line pc ⟨hb,h⟩
theorem JR.feed {s:ByteArray}{L:List Nat}{line pc ln bg p:Nat}(h:JR L line pc ln bg p)(hp:p<s.size)(hb:bt s p=10)(hL:L.drop ln=kV s bg p):JR L line pc (ln+1) (p+1) (p+1):=by
 rw [RM hp hb]at hL;obtain⟨h1,h2,_⟩:=Lp hL;obtain⟨h0,h⟩:=h;refine⟨ay _,.inr ?_⟩;rcases h with⟨rfl,h4⟩|⟨h3,h4,h5,h6⟩
 .exact⟨by omega,by omega,fun k _ _=>by omega,rfl⟩
 .refine⟨by omega,h4,fun k k1 k2=> ?_,rfl⟩;by_cases hk:k=ln
  .rw [hk,h2];omega
  .exact h5 k k1 (by omega)
theorem Tf {s:ByteArray}{L:List Nat}{k T B E ln bg fr p line pc:Nat}{R:List PR}(hT:T<=s.size)(h:JR L line pc ln bg fr)(hf:fr<=p)(hp:p<=T)(hL:L.drop ln=kV s bg p)
  (hR:∀line' Ck RT O6,iR s T ln bg p=(RT,O6)->L.drop RT=kV s O6 T->JR L line' Ck RT O6 T->jn L line' Ck R):jn L line pc (lW s k T B E ln bg fr p++R):=by
 by_cases hlt:p<T
 .by_cases hb:bt s p=10
  .rw [DR hlt hb,eV];refine Xi h hf hL fun line' Ck hJ=> ?_
   have hL2:=hL;rw [RM (by omega) hb]at hL2;exact Tf hT (hJ.feed (by omega) hb hL) (ay _) hlt (Lp hL2).2.2 (fun l2 p2 n2 b2 he hd hj=>hR l2 p2 n2 b2 (by rw [EL hlt hb];exact he) hd hj)
  .rw [zl hlt hb];rw [aaz (by omega) hb]at hL;exact Tf hT h (by omega) hlt hL (fun l2 p2 n2 b2 he hd hj=>hR l2 p2 n2 b2 (by rw [Ag hlt hb];exact he) hd hj)
 .obtain rfl:p=T:=by omega
  rw [zk hlt];exact Xi h hf hL fun line' Ck hJ=>hR line' Ck ln bg (EK hlt) hL hJ
termination_by T - p
theorem T7 {s:ByteArray}{p:Nat}(hp:p<s.size):(dc s p).T<=s.size:=by
 unfold dc;split
 .exact MQ (by omega)
 .split
  .exact Jo (by omega)
  .split
   .rename_i h;have:=o9 (s:=s) (i:=p+1) (by rw [h.2];decide);exact V4 (by omega)
   .simp only;omega
def CC(s:ByteArray):Nat->List Tk->Prop
 |p,[]=>p=s.size
 |p,t::ts=>t.F=p/\t.F<t.T/\t.T<=s.size/\CC s t.T ts
theorem CC.cons {s:ByteArray}{t:Tk}{ts:List Tk}(h:CC s t.T ts)(h2:t.F<t.T)(h3:t.T<=s.size):CC s t.F (jR t ts):=by
 unfold jR;split
 .cases ts with
  |nil=>exact⟨rfl,h2,h3,h⟩
  |cons u us=>
   obtain⟨k1,k2,k3,k4⟩:=h;simp only;split
   .exact⟨rfl,by simp only;omega,k3,k4⟩
   .exact⟨rfl,h2,h3,k1,k2,k3,k4⟩
 .exact⟨rfl,h2,h3,h⟩
theorem Nj(s:ByteArray)(p:Nat)(hp:p<=s.size):CC s p (dD s p):=by
 rw [dD];split
 .rename_i h;have h0:=Nj s (dc s p).T (T7 h);have hF:=T5 s p;have:=CC.cons h0 (by have:=zw s p;omega) (T7 h);rw [hF]at this;exact this
 .show p=s.size;omega
termination_by s.size - p
decreasing_by have:=zw s p;omega
theorem Xa {s:ByteArray}{L:List Nat}:∀(ts:List Tk)(p ln bg line pc:Nat),CC s p ts->JR L line pc ln bg p->L.drop ln=kV s bg p->jn L line pc (fQ s ts ln bg)
 |[],p,ln,bg,line,pc,hc,h,hL=>by
  have hc':p=s.size:=hc;rw [aay (by omega)]at hL;obtain⟨h1,h2,h3⟩:=Lp hL;have h4:L.length=ln+1:=by have:=congrArg List.length hL;simp at this;omega
  obtain⟨h0,h⟩:=h;rcases h with⟨rfl,h6⟩|⟨h6,h7,h8,h9⟩
  .exact⟨h1,by omega,fun k _ _=>by omega⟩
  .refine⟨by omega,h7,fun k k1 k2=> ?_⟩;by_cases hk:k=ln
   .rw [hk,h2];omega
   .exact h8 k k1 (by omega)
 |t::ts,p,ln,bg,line,pc,hc,h,hL=>by
  obtain⟨h1,h2,h3,h4⟩:=hc;rw [fQ];subst h1;refine Tf h3 h (ay _) (by omega) hL fun l2 p2 n2 b2 he hd hj=> ?_
  rw [he];exact Xa ts t.T n2 b2 l2 p2 h4 hj hd
theorem aiB(s:ByteArray):jn (kV s 0 0) 0 0 (fQ s (dD s 0) 0 0):=
 Xa _ 0 0 0 0 0 (Nj s 0 (by omega)) ⟨ay _,.inl ⟨rfl,rfl⟩⟩ rfl
