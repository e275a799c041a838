import Derived.Test.YtkbinfhclaafhaaGreatDoorH21
import Derived.Test.YtkbinfhclaafhaaGreatDoorH33
import Derived.BigQuiet
namespace Go.Proofs.YtkbinfhclaafhaaGreatDoor
open Go.RowKit
open Go.Proofs.Tryz
set_option maxRecDepth 100000
set_option maxHeartbeats 32000000
section
open Go.RowKit Go.Extern.Stop Go.Stop Go.Extern
theorem Tryz.ajB(e:Addr)(w:World):(ReflectliteValue.unpack (.iface 92 (.pointer (some e)))).run prog w
  = .ok (.agg #[.pointer (some ⟨16,92,none⟩),.pointer (some ⟨w.heap.size,0,none⟩),.int .u64 150]) (w.alloc (.cells #[.pointer (some e)] 92)):=by kernel_rfl
theorem Tryz.aju(v:Value)(w:World):(ReflectliteType.typeOf #[.iface 92 v]).run prog w= .ok (.iface 223 (.agg #[.pointer (some ⟨16,92,none⟩)])) w:=by kernel_rfl
theorem Tryz.aaZ(w:World):(ReflectliteType.relation "AssignableTo" ReflectliteType.assignableTo #[.agg #[.pointer (some ⟨16,92,none⟩)],.iface 223 (.agg #[.pointer (some ⟨16,92,none⟩)])]).run prog w= .ok (.bool true) w:=by kernel_rfl
theorem Tryz.acM(w:World):(Rtype.elem? 94).run prog w= .ok (some 92) w:=by kernel_rfl
theorem Tryz.mkE(p:Addr)(w:World):(ReflectliteValue.mk 92 p 256).run prog w= .ok (.agg #[.pointer (some ⟨16,92,none⟩),.pointer (some p),.int .u64 406]) w:=by kernel_rfl
theorem Tryz.elemV(a p:Addr)(W:World)(ha:W.cell? a=some (.pointer (some p))):
  (ReflectliteValue.method (ReflectliteValue.valueError "reflectlite.Value.Elem" 0) ReflectliteValue.elem #[.agg #[.pointer (some ⟨16,94,none⟩),.pointer (some a),.int .u64 150]]).run prog W= .ok (.agg #[.pointer (some ⟨16,92,none⟩),.pointer (some p),.int .u64 406]) W:=by
 rw [YK];simp only [Sem.run_bind,Tryz.Yd,Result.andThen];have hm:=Tryz.mkE p W;have he:=Tryz.acM W;simp [ReflectliteValue.elem,loadVar,isAgg,underlying,underlying94,ha,Result.andThen,he];exact hm
theorem Tryz.ahe(p:Addr)(w:World):(ReflectliteValue.parts (.agg #[.pointer (some ⟨16,92,none⟩),.pointer (some p),.int .u64 406])).run prog w= .ok (some (92,p,406)) w:=by kernel_rfl
theorem Tryz.ahf(p:Addr)(w:World):(ReflectliteValue.parts (.agg #[.pointer (some ⟨16,92,none⟩),.pointer (some p),.int .u64 150])).run prog w= .ok (some (92,p,150)) w:=by kernel_rfl
theorem Tryz.acE(w:World):(Rtype.directlyAssignable 92 92).run prog w= .ok true w:=by kernel_rfl
theorem Tryz.aiv(p b e:Addr)(old:Value)(W:World)(hb:W.cell? b=some (.pointer (some e)))(hp:W.cell? p=some old)(hf:W.frozen? p=false):
  (ReflectliteValue.set #[.agg #[.pointer (some ⟨16,92,none⟩),.pointer (some p),.int .u64 406],.agg #[.pointer (some ⟨16,92,none⟩),.pointer (some b),.int .u64 150]]).run prog W= .ok (.tuple #[]) (W.setCell p (.pointer (some e))):=by
 have hd:=Tryz.acE W;have hs:∀v x,ReflectliteValue.set #[v,x]=(ReflectliteValue.parts v>>=fun p=>ReflectliteValue.parts x>>=fun q=>_):=fun v x=>rfl
 rw [hs];simp only [Sem.run_bind,Tryz.ahe,Tryz.ahf,Result.andThen];simp [ReflectliteValue.flagAddr,loadVar,isAgg,underlying,underlying92,hb,hd,Result.andThen];simp [storeVar,storeCells,go_sem,hp,hf]
theorem aaW(e t:Addr)(w:World)(old:Value)(ht:w.cell? t=some old)(hf:w.frozen? t=false)(hlt2:t.block<w.heap.size)(hg:w.cell? ⟨3,0,none⟩=some (.iface 223 (.agg #[.pointer (some ⟨16,53,none⟩)]))):
  Calls prog 56 #[.iface 92 (.pointer (some e)),.iface 94 (.pointer (some t))] w fun ev w'=>ev= .returned (.bool true)/\∃W',Below w.heap.size w W'/\w'=W'.setCell t (.pointer (some e)):=by
 have h6:=@run_callFunc_extern prog 90 _ (fun args=>ReflectliteValue.unpack (args.getD 0 (.tuple #[]))) func90 (by kernel_rfl) (by kernel_rfl) (by kernel_rfl) (by kernel_rfl);have h7:=@run_callFunc_extern prog 91 _ (ReflectliteValue.methodAny (ReflectliteValue.valueError "reflectlite.Value.Type" 0) (fun t _ _ _=>ReflectliteType.toType t)) func91 (by kernel_rfl) (by kernel_rfl) (by kernel_rfl) (by kernel_rfl);have h8:=@run_callFunc_extern prog 92 _ (ReflectliteValue.method (ReflectliteValue.valueError "reflectlite.Value.IsNil" 0) ReflectliteValue.isNil) func92 (by kernel_rfl) (by kernel_rfl) (by kernel_rfl) (by kernel_rfl);have h27:=@run_callFunc_extern prog 323 _ (ReflectliteType.abiMethod fun t=>do pure (.int .u8 (<-Rtype.kind t))) func323 (by kernel_rfl) (by kernel_rfl) (by kernel_rfl) (by kernel_rfl);have h37:=@run_callFunc_extern prog 334 _ (ReflectliteType.method ReflectliteType.elem) func334 (by kernel_rfl) (by kernel_rfl) (by kernel_rfl) (by kernel_rfl);have h38:=@run_callFunc_extern prog 335 _ (ReflectliteType.relation "Implements" ReflectliteType.implements_) func335 (by kernel_rfl) (by kernel_rfl) (by kernel_rfl) (by kernel_rfl);have h10:=@run_callFunc_extern prog 94 _ ReflectliteType.typeOf func94 (by kernel_rfl) (by kernel_rfl) (by kernel_rfl) (by kernel_rfl);have Ud:=@run_callFunc_extern prog 332 _ (ReflectliteType.relation "AssignableTo" ReflectliteType.assignableTo) func332 (by kernel_rfl) (by kernel_rfl) (by kernel_rfl) (by kernel_rfl);have tO:=Tryz.aju;have a25:=Tryz.aaZ;have f6:=Tryz.aai;have mK:=Tryz.Xb;have mE:=Tryz.WZ;have mI:=Tryz.Xa;have mA:=Tryz.WX;have f7:=Tryz.aaa;have k27:=Tryz.Wd;have k25:=Tryz.V8;have e27:=Tryz.SN;have i25:=Tryz.VQ;have aj5:=@run_callFunc_extern prog 165 _ (ReflectliteValue.method (ReflectliteValue.valueError "reflectlite.Value.Elem" 0) ReflectliteValue.elem) func165 (by kernel_rfl) (by kernel_rfl) (by kernel_rfl) (by kernel_rfl);have aj6:=@run_callFunc_extern prog 166 _ ReflectliteValue.set func166 (by kernel_rfl) (by kernel_rfl) (by kernel_rfl) (by kernel_rfl);have f6E:=Tryz.ajB;have n8:=Tryz.VW ⟨w.heap.size,0,none⟩ t ((w.alloc (.cells #[.pointer (some t)] 94)).alloc (.cells #[.pointer (some ⟨16,94,none⟩),.pointer (some ⟨w.heap.size,0,none⟩),.int .u64 150] 152)) (by simp);have hlt:3<w.heap.size:=by
  rcases Nat.lt_or_ge 3 w.heap.size with h|h
  .exact h
  .simp [World.cell?,Array.getElem?_eq_none h]at hg
 have hg2:((w.alloc (.cells #[.pointer (some t)] 94)).alloc (.cells #[.pointer (some ⟨16,94,none⟩),.pointer (some ⟨w.heap.size,0,none⟩),.int .u64 150] 152)).cell? ⟨3,0,none⟩=some (.iface 223 (.agg #[.pointer (some ⟨16,53,none⟩)])):=by
  rw [World.cell?_alloc_lt _ _ ⟨3,0,none⟩ (by simp;omega),World.cell?_alloc_lt _ _ ⟨3,0,none⟩ hlt];exact hg
 have n9:=Tryz.elemV ⟨w.heap.size,0,none⟩ t (((w.alloc (.cells #[.pointer (some t)] 94)).alloc (.cells #[.pointer (some ⟨16,94,none⟩),.pointer (some ⟨w.heap.size,0,none⟩),.int .u64 150] 152)).alloc (.cells #[.pointer (some ⟨16,94,none⟩),.pointer (some ⟨w.heap.size,0,none⟩),.int .u64 150] 152)) (by rw [World.cell?_alloc_lt _ _ ⟨w.heap.size,0,none⟩ (by simp;omega),World.cell?_alloc_lt _ _ ⟨w.heap.size,0,none⟩ (by simp)];exact cell_one_new _ _ _ 0 _ rfl);have tc:((((w.alloc (.cells #[.pointer (some t)] 94)).alloc (.cells #[.pointer (some ⟨16,94,none⟩),.pointer (some ⟨w.heap.size,0,none⟩),.int .u64 150] 152)).alloc (.cells #[.pointer (some ⟨16,94,none⟩),.pointer (some ⟨w.heap.size,0,none⟩),.int .u64 150] 152)).alloc (.cells #[.pointer (some e)] 92)).cell? t=some old:=by
  rw [World.cell?_alloc_lt _ _ t (by simp;omega),World.cell?_alloc_lt _ _ t (by simp;omega),World.cell?_alloc_lt _ _ t (by simp;omega),World.cell?_alloc_lt _ _ t hlt2];exact ht
 have tf:((((w.alloc (.cells #[.pointer (some t)] 94)).alloc (.cells #[.pointer (some ⟨16,94,none⟩),.pointer (some ⟨w.heap.size,0,none⟩),.int .u64 150] 152)).alloc (.cells #[.pointer (some ⟨16,94,none⟩),.pointer (some ⟨w.heap.size,0,none⟩),.int .u64 150] 152)).alloc (.cells #[.pointer (some e)] 92)).frozen? t=false:=by
  have hb4:Below w.heap.size w ((((w.alloc (.cells #[.pointer (some t)] 94)).alloc (.cells #[.pointer (some ⟨16,94,none⟩),.pointer (some ⟨w.heap.size,0,none⟩),.int .u64 150] 152)).alloc (.cells #[.pointer (some ⟨16,94,none⟩),.pointer (some ⟨w.heap.size,0,none⟩),.int .u64 150] 152)).alloc (.cells #[.pointer (some e)] 92)):=((((Below.refl _ _).alloc (Nat.le_refl _) _).alloc (by simp) _).alloc (by simp;omega) _).alloc (by simp;omega) _;rw [hb4.frozen hlt2];exact hf
 have n10:=Tryz.aiv t ⟨w.heap.size+1+1+1,0,none⟩ e old ((((w.alloc (.cells #[.pointer (some t)] 94)).alloc (.cells #[.pointer (some ⟨16,94,none⟩),.pointer (some ⟨w.heap.size,0,none⟩),.int .u64 150] 152)).alloc (.cells #[.pointer (some ⟨16,94,none⟩),.pointer (some ⟨w.heap.size,0,none⟩),.int .u64 150] 152)).alloc (.cells #[.pointer (some e)] 92)) (by
  have hz:(((w.alloc (.cells #[.pointer (some t)] 94)).alloc (.cells #[.pointer (some ⟨16,94,none⟩),.pointer (some ⟨w.heap.size,0,none⟩),.int .u64 150] 152)).alloc (.cells #[.pointer (some ⟨16,94,none⟩),.pointer (some ⟨w.heap.size,0,none⟩),.int .u64 150] 152)).heap.size=w.heap.size+1+1+1:=by simp
  rw [<-hz];exact cell_one_new _ _ _ 0 _ rfl) tc tf
 clear tc tf ht hf;go_enter func56,ntmps56;go_wp2;refine wp_loop_rounds 1 ?_;rw [rounds_succ];go_wp2;go_ret;exact⟨rfl,_,((((Below.refl _ _).alloc (Nat.le_refl _) _).alloc (by simp) _).alloc (by simp;omega) _).alloc (by simp;omega) _,rfl⟩
end
section
open Go.RowKit Go.Extern.Stop Go.Stop Go.Extern
theorem aad(b:Nat)(ln at' er:Value)(w:World)(h:w.heap[b]? =some (.cells #[ln,at',er] 96 (0,0))):
  Calls prog 57 #[.pointer (some ⟨b,0,none⟩)] w fun e w'=>e= .returned er/\w'=w:=by
 have c2:w.cell? ⟨b,2,none⟩=some er:=au h 2;go_enter func57,ntmps57;go_wp2;go_ret;exact⟨rfl,rfl⟩
theorem Tryz.af0(p:Value)(w:World):(Go.method 483 92 p "Unwrap").run prog w= .ok (57,p) w:=by kernel_rfl
theorem Tryz.agp(v:Value)(xT:TypeId)(w:World):(Instr.typeAssert (.iface 92 v) xT 233 true).run prog w= .ok (.tuple #[.nilIface,.bool false]) w:=run_typeAssert_lacksB underlying233 (by kernel_rfl) (by kernel_rfl) v xT w
theorem Tryz.aec(v:Value)(xT:TypeId)(w:World):(Instr.typeAssert (.iface 92 v) xT 230 true).run prog w= .ok (.tuple #[.iface 92 v,.bool true]) w:=run_typeAssert_hasB underlying230 (by kernel_rfl) v xT w
theorem VV(p:Nat)(ln at':Value)(a b:Addr)(q:Bool)(w:World)(h:w.heap[p]? =some (.cells #[ln,at',.iface 354 (.pointer (some a))] 96 (0,0)))
  (he:(binOp .eql 53 (.iface 354 (.pointer (some a))) (.iface 354 (.pointer (some b)))).run prog w= .ok (.bool q) w):
  Calls prog 58 #[.iface 92 (.pointer (some ⟨p,0,none⟩)),.iface 354 (.pointer (some b))] w fun ev w'=>ev= .returned (.bool q)/\w'=w:=by
 have h10:=@run_callFunc_extern prog 94 _ ReflectliteType.typeOf func94 (by kernel_rfl) (by kernel_rfl) (by kernel_rfl) (by kernel_rfl);have h11:=@run_callFunc_extern prog 333 _ (ReflectliteType.method fun t=>do Rtype.noPackHeld "Comparable" t;pure (.bool (<-typeInfo t).comparable)) func333 (by kernel_rfl) (by kernel_rfl) (by kernel_rfl) (by kernel_rfl);have tO:=Tryz.Pd;have mC:=Tryz.WY;have cS:=Tryz.R9;have q1:=Tryz.Xy;have q2:=Tryz.NF;have q3:=Tryz.NG;have r1:=Tryz.agp;have r2:=Tryz.aec;have mU:=Tryz.af0;have eT:=run_eql_iface_types (P:=prog) 92 354 (.pointer (some ⟨p,0,none⟩)) (.pointer (some b)) underlying53 (by decide) w;have HU:=aad p ln at' _ w h;cases q
 .go_enter func58,ntmps58;go_wp2;refine wp_loop_rounds 2 ?_;rw [rounds_succ];go_wp2_with fail;refine HU.mono ?_;rintro e w2 ⟨rfl,rfl⟩;go_wp2;rw [rounds_succ];go_wp2;go_ret;exact⟨rfl,rfl⟩
 .go_enter func58,ntmps58;go_wp2;refine wp_loop_rounds 2 ?_;rw [rounds_succ];go_wp2_with fail;refine HU.mono ?_;rintro e w2 ⟨rfl,rfl⟩;go_wp2;rw [rounds_succ];go_wp2;go_ret;exact⟨rfl,rfl⟩
theorem MP(p:Nat)(ln at':Value)(a:Addr)(w:World)(h:w.heap[p]? =some (.cells #[ln,at',.iface 354 (.pointer (some a))] 96 (0,0))):
  Calls prog 58 #[.iface 92 (.pointer (some ⟨p,0,none⟩)),.iface 354 (.pointer (some a))] w fun ev w'=>ev= .returned (.bool true)/\w'=w:=by
 obtain⟨i,hi,hcmp⟩:=Option.map_eq_some_iff.1 Tryz.Dv;obtain⟨j,hj,_⟩:=Option.map_eq_some_iff.1 Tryz.E5;exact VV p ln at' a a true w h (run_eql_iface_ptr_same w a underlying53 underlying354 hi hcmp hj)
theorem BP(p:Nat)(ln at':Value)(a b:Addr)(w:World)(h:w.heap[p]? =some (.cells #[ln,at',.iface 354 (.pointer (some a))] 96 (0,0)))(hne:a≠b)(ha:∃c t,w.heap[a.block]? =some (.cells c t (0,0)))(hb:∃c t,w.heap[b.block]? =some (.cells c t (0,0))):
  Calls prog 58 #[.iface 92 (.pointer (some ⟨p,0,none⟩)),.iface 354 (.pointer (some b))] w fun ev w'=>ev= .returned (.bool false)/\w'=w:=by
 obtain⟨i,hi,hcmp⟩:=Option.map_eq_some_iff.1 Tryz.Dv;obtain⟨j,hj,hjs⟩:=Option.map_eq_some_iff.1 Tryz.E5;obtain⟨_,_,ha⟩:=ha;obtain⟨_,_,hb⟩:=hb;exact VV p ln at' a b false w h (run_eql_iface_ptr_other w underlying53 underlying354 hi hcmp hj (by rw [hjs];decide) hne ha hb)
end
section
open Go.RowKit Go.Extern.Stop Go.Stop Go.Extern
theorem Tryz.acn:(prog.info? 92).map (·.comparable)=some true:=by kernel_rfl
theorem Tryz.aiH:(prog.info? 96).map (·.size)=some 3:=by kernel_rfl
theorem Tryz.age(a:Addr)(w:World):(binOp .neq 53 (.iface 354 (.pointer (some a))) (.iface 354 (.pointer (some a)))).run prog w= .ok (.bool false) w:=by
 obtain⟨i,hi,hcmp⟩:=Option.map_eq_some_iff.1 Tryz.Dv;obtain⟨j,hj,_⟩:=Option.map_eq_some_iff.1 Tryz.E5;simp only [binOp];simp [Op.equal,Op.maxDepth,run_equalIn_iface_ptr_same w 9998 a underlying53 underlying354 hi hcmp hj]
theorem Tryz.agf(a:Addr)(w:World):(binOp .neq 53 (.iface 92 (.pointer (some a))) (.iface 92 (.pointer (some a)))).run prog w= .ok (.bool false) w:=by
 obtain⟨i,hi,hcmp⟩:=Option.map_eq_some_iff.1 Tryz.acn;obtain⟨j,hj,_⟩:=Option.map_eq_some_iff.1 Tryz.aiH;simp only [binOp];simp [Op.equal,Op.maxDepth,run_equalIn_iface_ptr_same w 9998 a underlying53 underlying92 hi hcmp hj]
theorem aaS(w:World)(a b c:Obj):(((w.alloc a).alloc b).alloc c).heap[w.heap.size]? =some a/\(((w.alloc a).alloc b).alloc c).heap[w.heap.size+1]? =some b/\(((w.alloc a).alloc b).alloc c).heap[w.heap.size+1+1]? =some c:=by
 have s1:(w.alloc a).heap.size=w.heap.size+1:=by simp
 have s2:((w.alloc a).alloc b).heap.size=w.heap.size+1+1:=by simp
 have n1:(w.alloc a).heap[w.heap.size]? =some a:=World.alloc_heap_new w a;have n2:((w.alloc a).alloc b).heap[w.heap.size+1]? =some b:=by have:=World.alloc_heap_new (w.alloc a) b;rw [s1]at this;exact this
 have n3:(((w.alloc a).alloc b).alloc c).heap[w.heap.size+1+1]? =some c:=by have:=World.alloc_heap_new ((w.alloc a).alloc b) c;rw [s2]at this;exact this
 exact⟨(Below.heap_alloc _ _ _ (by omega)).trans ((Below.heap_alloc _ _ _ (by omega)).trans n1),(Below.heap_alloc _ _ _ (by omega)).trans n2,n3⟩
theorem Lg(b:Nat)(ln at':Int)(w:World)(aL aT aC aX:Addr)(n:Int)(hX:aL=aX/\n=1∨aT=aX/\n=2∨aC=aX/\n=3)(hE:Env w aL aT aC)(hb:w.heap[b]? =some (.cells #[.int .i64 ln,.int .i64 at',.iface 354 (.pointer (some aX))] 96 (0,0))):
  Calls prog 36 #[.iface 92 (.pointer (some ⟨b,0,none⟩))] w fun e w'=>e= .returned (.agg #[.int .i64 n,.int .i64 ln,.int .i64 at'])/\Below w.heap.size w w':=by
 have HX:Hid (aL=aX/\n=1∨aT=aX/\n=2∨aC=aX/\n=3):=hX;have HE:Hid (Env w aL aT aC):=hE;have xQ:Hid (w.heap[b]? =some (.cells #[.int .i64 ln,.int .i64 at',.iface 354 (.pointer (some aX))] 96 (0,0))):=hb;have hbl:=bJ hb;clear hE hb hX;go_enter func36,ntmps36;go_wp2_with fail;obtain⟨q0,q1,q2⟩:=aaS w (.cells #[.int .i64 0,.int .i64 0,.int .i64 0] 33) (.cells #[.int .i64 4,.int .i64 (-1),.int .i64 (-1)] 33) (.cells #[.pointer none] 92);have B3:Below w.heap.size w (((w.alloc (.cells #[.int .i64 0,.int .i64 0,.int .i64 0] 33)).alloc (.cells #[.int .i64 4,.int .i64 (-1),.int .i64 (-1)] 33)).alloc (.cells #[.pointer none] 92)):=(((Below.refl _ _).alloc (Nat.le_refl _) _).alloc (by simp) _).alloc (by simp;omega) _;refine(aaW _ _ _ (.pointer none) ?_ ?_ ?_ ?_).mono ?_
 .exact au q2 0
 .exact bX q2 0
 .exact bJ q2
 .exact(HE.out.below B3).Gq
 rintro e w1 ⟨rfl,W',hW,rfl⟩;have k0:=aR hW q0;have k1:=aR hW q1;have k2:=aR hW q2;have kb:=aR hW (aR B3 xQ.out);have B4:Below w.heap.size w W':=B3.trans (hW.mono (by simp;omega));have g6:W'.grownBy (W'.setCell ⟨w.heap.size+1+1,0,none⟩ (.pointer (some ⟨b,0,none⟩))) (some (w.heap.size+1+1)):=su _ _ _ _;have HB1:Hid (Below w.heap.size w (W'.setCell ⟨w.heap.size+1+1,0,none⟩ (.pointer (some ⟨b,0,none⟩)))):=B4.setCell (by simp;omega) _;have j0:=(g6.block _ (bJ k0) (fun e=>by have:=Option.some.inj e;omega)).trans k0;have j1:=(g6.block _ (bJ k1) (fun e=>by have:=Option.some.inj e;omega)).trans k1;have jb:=(g6.block _ (bJ kb) (fun e=>by have:=Option.some.inj e;omega)).trans kb;have j2:(W'.setCell ⟨w.heap.size+1+1,0,none⟩ (.pointer (some ⟨b,0,none⟩))).heap[w.heap.size+1+1]? =some (.cells #[.pointer (some ⟨b,0,none⟩)] 92 (0,0)):=by rw [Joins.block_setCell k2];rfl
 clear q0 q1 q2 B3 hW k0 k1 k2 kb B4 g6;generalize W'.setCell ⟨w.heap.size+1+1,0,none⟩ (.pointer (some ⟨b,0,none⟩))=w1 at*;have l0:w1.cell? ⟨w.heap.size+1+1,0,none⟩=some (.pointer (some ⟨b,0,none⟩)):=au j2 0;have b0:w1.cell? ⟨b,0,none⟩=some (.int .i64 ln):=au jb 0;have b1:w1.cell? ⟨b,1,none⟩=some (.int .i64 at'):=au jb 1;have b2:w1.cell? ⟨b,2,none⟩=some (.iface 354 (.pointer (some aX))):=au jb 2;have f1:w1.cell? ⟨w.heap.size+1,1,none⟩=some (.int .i64 (-1)):=au j1 1;have f2:w1.cell? ⟨w.heap.size+1,2,none⟩=some (.int .i64 (-1)):=au j1 2;have z1:w1.frozen? ⟨w.heap.size+1,1,none⟩=false:=bX j1 1;have z2:w1.frozen? ⟨w.heap.size+1,2,none⟩=false:=bX j1 2;have HJ:Hid (w1.heap[w.heap.size]? =some (.cells #[.int .i64 0,.int .i64 0,.int .i64 0] 33 (0,0))/\w1.heap[w.heap.size+1]? =some (.cells #[.int .i64 4,.int .i64 (-1),.int .i64 (-1)] 33 (0,0))/\w1.heap[w.heap.size+1+1]? =some (.cells #[.pointer (some ⟨b,0,none⟩)] 92 (0,0))/\w1.heap[b]? =some (.cells #[.int .i64 ln,.int .i64 at',.iface 354 (.pointer (some aX))] 96 (0,0))):=⟨j0,j1,j2,jb⟩
 have n1:b≠w.heap.size+1:=by omega
 have n2:¬(w.heap.size+1=b):=by omega
 have n3:¬(b=w.heap.size+1):=by omega
 clear j0 j1 j2 jb;generalize hz:w.heap.size=z at*;have HZ:Hid (w.heap.size=z):=hz;clear hz;go_wp2
 go_region_held3 (fun w'=>w'.cell? ⟨z+1+1,0,none⟩=some (.pointer (some ⟨b,0,none⟩))/\w'.cell? ⟨b,0,none⟩=some (.int .i64 ln)/\w'.cell? ⟨b,1,none⟩=some (.int .i64 at')) (go_keep) (fail)
 obtain⟨j0,j1,j2,jb⟩:=HJ.out;have i0:((w1.setCell ⟨z+1,1,none⟩ (.int .i64 ln)).setCell ⟨z+1,2,none⟩ (.int .i64 at')).drew.heap[z]? =some (.cells #[.int .i64 0,.int .i64 0,.int .i64 0] 33 (0,0)):=(Below.heap_setCell _ _ _ _ (by show z≠z+1;omega)).trans ((Below.heap_setCell _ _ _ _ (by show z≠z+1;omega)).trans j0);have i2:((w1.setCell ⟨z+1,1,none⟩ (.int .i64 ln)).setCell ⟨z+1,2,none⟩ (.int .i64 at')).drew.heap[z+1+1]? =some (.cells #[.pointer (some ⟨b,0,none⟩)] 92 (0,0)):=(Below.heap_setCell _ _ _ _ (by show z+1+1≠z+1;omega)).trans ((Below.heap_setCell _ _ _ _ (by show z+1+1≠z+1;omega)).trans j2);have ib:((w1.setCell ⟨z+1,1,none⟩ (.int .i64 ln)).setCell ⟨z+1,2,none⟩ (.int .i64 at')).drew.heap[b]? =some (.cells #[.int .i64 ln,.int .i64 at',.iface 354 (.pointer (some aX))] 96 (0,0)):=(Below.heap_setCell _ _ _ _ n1).trans ((Below.heap_setCell _ _ _ _ n1).trans jb);have i1:((w1.setCell ⟨z+1,1,none⟩ (.int .i64 ln)).setCell ⟨z+1,2,none⟩ (.int .i64 at')).drew.heap[z+1]? =some (.cells #[.int .i64 4,.int .i64 ln,.int .i64 at'] 33 (0,0)):=by
  show((w1.setCell ⟨z+1,1,none⟩ (.int .i64 ln)).setCell ⟨z+1,2,none⟩ (.int .i64 at')).heap[z+1]? =_;have e1:(w1.setCell ⟨z+1,1,none⟩ (.int .i64 ln)).heap[z+1]? =some (.cells #[.int .i64 4,.int .i64 ln,.int .i64 (-1)] 33 (0,0)):=by rw [Joins.block_setCell j1];rfl
  rw [Joins.block_setCell e1];rfl
 have HB2:Hid (Below z w ((w1.setCell ⟨z+1,1,none⟩ (.int .i64 ln)).setCell ⟨z+1,2,none⟩ (.int .i64 at')).drew):=((HB1.out.setCell (Nat.le_succ _) _).setCell (Nat.le_succ _) _).drew;clear HJ HB1 j0 j1 j2 jb b0 b1 b2 l0 f1 f2 z1 z2;generalize((w1.setCell ⟨z+1,1,none⟩ (.int .i64 ln)).setCell ⟨z+1,2,none⟩ (.int .i64 at')).drew=w2 at*;have l0:w2.cell? ⟨z+1+1,0,none⟩=some (.pointer (some ⟨b,0,none⟩)):=au i2 0;have b2:w2.cell? ⟨b,2,none⟩=some (.iface 354 (.pointer (some aX))):=au ib 2;have HU:Hid (∀n,Calls prog 57 #[.pointer (some ⟨b,0,none⟩)] (w2.drewN n) fun e w'=>e= .returned (.iface 354 (.pointer (some aX)))/\w'=w2.drewN n):=fun n=>aad b _ _ _ (w2.drewN n) ib
 have HI:Hid (w2.heap[z]? =some (.cells #[.int .i64 0,.int .i64 0,.int .i64 0] 33 (0,0))/\w2.heap[z+1]? =some (.cells #[.int .i64 4,.int .i64 ln,.int .i64 at'] 33 (0,0))/\w2.heap[b]? =some (.cells #[.int .i64 ln,.int .i64 at',.iface 354 (.pointer (some aX))] 96 (0,0))):=⟨i0,i1,ib⟩
 have m1:=Tryz.age;have m2:=Tryz.agf;clear i0 i1 i2 ib;go_wp2_with fail;go_quiet(first|(go_at_call 57;refine Calls.quiet_of_same (HU.out _)));have HL:Hid (∀W,Below z w W->W.heap[b]? =some (.cells #[.int .i64 ln,.int .i64 at',.iface 354 (.pointer (some aX))] 96 (0,0))/\Env W aL aT aC):=fun W hW=>by
  rw [<-HZ.out]at hW;exact⟨aR hW xQ.out,HE.out.below hW⟩
 have i0:(w2.drewN nq).heap[z]? =some (.cells #[.int .i64 0,.int .i64 0,.int .i64 0] 33 (0,0)):=HI.out.1;have i1:(w2.drewN nq).heap[z+1]? =some (.cells #[.int .i64 4,.int .i64 ln,.int .i64 at'] 33 (0,0)):=HI.out.2.1;have HB3:Hid (Below z w (w2.drewN nq)):=HB2.out.trans ⟨rfl,rfl,rfl,Nat.le_refl _,fun _ _=>rfl⟩;clear HU HI HB2 l0 b2;generalize w2.drewN nq=w3 at*;have h0:z<w3.heap.size:=bJ i0;have h1:z+1<w3.heap.size:=bJ i1;have hl:=(HL.out w3 HB3.out).2.long;have ht:=(HL.out w3 HB3.out).2.text;have hco:=(HL.out w3 HB3.out).2.code;have r0:w3.cell? ⟨z,0,none⟩=some (.int .i64 0):=au i0 0;have r1:w3.cell? ⟨z,1,none⟩=some (.int .i64 0):=au i0 1;have r2:w3.cell? ⟨z,2,none⟩=some (.int .i64 0):=au i0 2;have s0:w3.frozen? ⟨z,0,none⟩=false:=bX i0 0;have s1:w3.frozen? ⟨z,1,none⟩=false:=bX i0 1;have s2:w3.frozen? ⟨z,2,none⟩=false:=bX i0 2;have f0:w3.cell? ⟨z+1,0,none⟩=some (.int .i64 4):=au i1 0;have f1:w3.cell? ⟨z+1,1,none⟩=some (.int .i64 ln):=au i1 1;have f2:w3.cell? ⟨z+1,2,none⟩=some (.int .i64 at'):=au i1 2;have g0:w3.frozen? ⟨z+1,0,none⟩=false:=bX i1 0;clear i0 i1;go_wp2;refine wp_loop_rounds 4 ?_;rcases HX.out with⟨rfl,rfl⟩|⟨rfl,rfl⟩|⟨rfl,rfl⟩
 .rw [rounds_succ];go_wp2_with fail;refine(MP b (.int .i64 ln) (.int .i64 at') aL _ ?_).mono ?_
  .exact(HL.out _ (HB3.out.alloc (by omega) _)).1
  rintro e wq0 ⟨rfl,rfl⟩;go_wp2;rw [rounds_succ];go_wp2_with fail;refine(BP b (.int .i64 ln) (.int .i64 at') aL aT _ ?_ HE.out.Cb ?_ ?_).mono ?_
  .exact(HL.out _ ((HB3.out.setCell (Nat.le_succ _) _).alloc (by simp;omega) _)).1
  .exact(HL.out _ ((HB3.out.setCell (Nat.le_succ _) _).alloc (by simp;omega) _)).2.uV
  .exact(HL.out _ ((HB3.out.setCell (Nat.le_succ _) _).alloc (by simp;omega) _)).2.uW
  rintro e wq1 ⟨rfl,rfl⟩;go_wp2;rw [rounds_succ];go_wp2_with fail;refine(BP b (.int .i64 ln) (.int .i64 at') aL aC _ ?_ HE.out.Ca ?_ ?_).mono ?_
  .exact(HL.out _ ((HB3.out.setCell (Nat.le_succ _) _).alloc (by simp;omega) _)).1
  .exact(HL.out _ ((HB3.out.setCell (Nat.le_succ _) _).alloc (by simp;omega) _)).2.uV
  .exact(HL.out _ ((HB3.out.setCell (Nat.le_succ _) _).alloc (by simp;omega) _)).2.uU
  rintro e wq2 ⟨rfl,rfl⟩;go_wp2;rw [rounds_succ];go_wp2;refine bodyPost_ret (v:= .agg #[.int .i64 1,.int .i64 ln,.int .i64 at']) (by simp [results,results36,go_sem,r0,r1,r2,h0]) rfl ⟨rfl,?_⟩;rw [HZ.out];exact((((HB3.out.setCell (Nat.le_succ _) _).setCell (Nat.le_refl _) _).setCell (Nat.le_refl _) _).setCell (Nat.le_refl _) _).alloc (by simp;omega) _
 .rw [rounds_succ];go_wp2_with fail;refine(BP b (.int .i64 ln) (.int .i64 at') aT aL _ ?_ HE.out.Cb.symm ?_ ?_).mono ?_
  .exact(HL.out _ (HB3.out.alloc (by omega) _)).1
  .exact(HL.out _ (HB3.out.alloc (by omega) _)).2.uW
  .exact(HL.out _ (HB3.out.alloc (by omega) _)).2.uV
  rintro e wq0 ⟨rfl,rfl⟩;go_wp2;rw [rounds_succ];go_wp2_with fail;refine(MP b (.int .i64 ln) (.int .i64 at') aT _ ?_).mono ?_
  .exact(HL.out _ (HB3.out.alloc (by omega) _)).1
  rintro e wq1 ⟨rfl,rfl⟩;go_wp2;rw [rounds_succ];go_wp2_with fail;refine(BP b (.int .i64 ln) (.int .i64 at') aT aC _ ?_ HE.out.Cc ?_ ?_).mono ?_
  .exact(HL.out _ ((HB3.out.setCell (Nat.le_succ _) _).alloc (by simp;omega) _)).1
  .exact(HL.out _ ((HB3.out.setCell (Nat.le_succ _) _).alloc (by simp;omega) _)).2.uW
  .exact(HL.out _ ((HB3.out.setCell (Nat.le_succ _) _).alloc (by simp;omega) _)).2.uU
  rintro e wq2 ⟨rfl,rfl⟩;go_wp2;rw [rounds_succ];go_wp2;refine bodyPost_ret (v:= .agg #[.int .i64 2,.int .i64 ln,.int .i64 at']) (by simp [results,results36,go_sem,r0,r1,r2,h0]) rfl ⟨rfl,?_⟩;rw [HZ.out];exact((((HB3.out.setCell (Nat.le_succ _) _).setCell (Nat.le_refl _) _).setCell (Nat.le_refl _) _).setCell (Nat.le_refl _) _).alloc (by simp;omega) _
 .rw [rounds_succ];go_wp2_with fail;refine(BP b (.int .i64 ln) (.int .i64 at') aC aL _ ?_ HE.out.Ca.symm ?_ ?_).mono ?_
  .exact(HL.out _ (HB3.out.alloc (by omega) _)).1
  .exact(HL.out _ (HB3.out.alloc (by omega) _)).2.uU
  .exact(HL.out _ (HB3.out.alloc (by omega) _)).2.uV
  rintro e wq0 ⟨rfl,rfl⟩;go_wp2;rw [rounds_succ];go_wp2_with fail;refine(BP b (.int .i64 ln) (.int .i64 at') aC aT _ ?_ HE.out.Cc.symm ?_ ?_).mono ?_
  .exact(HL.out _ (HB3.out.alloc (by omega) _)).1
  .exact(HL.out _ (HB3.out.alloc (by omega) _)).2.uU
  .exact(HL.out _ (HB3.out.alloc (by omega) _)).2.uW
  rintro e wq1 ⟨rfl,rfl⟩;go_wp2;rw [rounds_succ];go_wp2_with fail;refine(MP b (.int .i64 ln) (.int .i64 at') aC _ ?_).mono ?_
  .exact(HL.out _ (HB3.out.alloc (by omega) _)).1
  rintro e wq2 ⟨rfl,rfl⟩;go_wp2;rw [rounds_succ];go_wp2;refine bodyPost_ret (v:= .agg #[.int .i64 3,.int .i64 ln,.int .i64 at']) (by simp [results,results36,go_sem,r0,r1,r2,h0]) rfl ⟨rfl,?_⟩;rw [HZ.out];exact((((HB3.out.setCell (Nat.le_succ _) _).setCell (Nat.le_refl _) _).setCell (Nat.le_refl _) _).setCell (Nat.le_refl _) _).alloc (by simp;omega) _
theorem ade(b:Nat)(ln at' e:Int)(he:e=1∨e=2∨e=3)(w:World)(aL aT aC:Addr)(hE:Env w aL aT aC)(hb:w.heap[b]? =some (.cells #[.int .i64 ln,.int .i64 at',tQ e aL aT aC] 96 (0,0))):
  Calls prog 36 #[.iface 92 (.pointer (some ⟨b,0,none⟩))] w fun ev w'=>ev= .returned (.agg #[.int .i64 e,.int .i64 ln,.int .i64 at'])/\Below w.heap.size w w':=by
 rcases he with rfl|rfl|rfl
 .exact Lg b ln at' w aL aT aC aL 1 (.inl ⟨rfl,rfl⟩) hE hb
 .exact Lg b ln at' w aL aT aC aT 2 (.inr (.inl ⟨rfl,rfl⟩)) hE hb
 .exact Lg b ln at' w aL aT aC aC 3 (.inr (.inr ⟨rfl,rfl⟩)) hE hb
end
theorem Tt(ev:Value)(B:Nat)(f:Int×Int×Int)(w:World)(aL aT aC:Addr)(hE:Env w aL aT aC)(h:uL w B ev f aL aT aC):
  Calls prog 36 #[ev] w fun e w'=>e= .returned (.agg #[.int .i64 f.1,.int .i64 f.2.1,.int .i64 f.2.2])/\Below w.heap.size w w':=by
 rcases h with⟨rfl,rfl⟩|⟨rfl,rfl⟩|⟨b,e,ln,at',rfl,hb,_,rfl,he⟩
 .exact Tq 0 (by omega) w aL aT aC hE
 .exact Tq 1 (by omega) w aL aT aC hE
 .exact ade b ln at' e he w aL aT aC hE hb
theorem ahp(s:ByteArray)(w:World)(aL aT aC:Addr)(hE:Env w aL aT aC)(hBr:Br w)(hM:pQ w)(env:jl w)(h20:10<=w.heap.size):
  Calls prog 22 #[.string s] w fun e w'=>∃v,e= .returned (.tuple #[v,BV s])/\((aZ s).1≠0->v= .slice none 0 0)/\((aZ s).1=0->w'.ownsRow w.heap.size 4 1 v (cB s).length (jo (cB s)))/\Below w.heap.size w w':=by
 have HE:Hid (Env w aL aT aC):=hE;have HG:Hid (∀W,Below w.heap.size w W->Calls prog 39 #[.string s] W fun e w'=>∃v ev,e= .returned (.tuple #[v,ev])/\uL w' W.heap.size ev (aZ s) aL aT aC/\((aZ s).1≠0->v= .slice none 0 0)/\((aZ s).1=0->w'.ownsRow W.heap.size 4 1 v (cB s).length (jo (cB s)))/\Below W.heap.size W w'):=fun W hW=>Ub s W aL aT aC (hE.below hW) (hBr.below hW) (hM.below hW) (env.below h20 hW) (Nat.le_trans h20 hW.size)
 clear hE hBr hM env h20;go_enter func22,ntmps22;go_wp2_with fail;have hb0:∀o:Obj,Below w.heap.size w (w.alloc o):=fun o=>(Below.refl _ _).alloc (Nat.le_refl _) o
 refine(HG.out _ (hb0 _)).mono ?_;rintro e w1 ⟨v,ev,rfl,jV,hnil,hsl,hb1⟩;have hB1:Below w.heap.size w w1:=(hb0 _).trans (hb1.mono (by simp));have HF:Hid _:=Tt ev _ (aZ s) w1 aL aT aC (HE.out.below hB1) jV;have k0:w1.cell? ⟨w.heap.size,0,none⟩=some (.int .i64 0):=by rw [hb1.cell (p:=⟨w.heap.size,0,none⟩) (by simp)];go_simp
 have k1:w1.cell? ⟨w.heap.size,1,none⟩=some (.int .i64 0):=by rw [hb1.cell (p:=⟨w.heap.size,1,none⟩) (by simp)];go_simp
 have k2:w1.cell? ⟨w.heap.size,2,none⟩=some (.int .i64 0):=by rw [hb1.cell (p:=⟨w.heap.size,2,none⟩) (by simp)];go_simp
 have f0:w1.frozen? ⟨w.heap.size,0,none⟩=false:=by rw [hb1.frozen (p:=⟨w.heap.size,0,none⟩) (by simp)];go_simp
 have f1:w1.frozen? ⟨w.heap.size,1,none⟩=false:=by rw [hb1.frozen (p:=⟨w.heap.size,1,none⟩) (by simp)];go_simp
 have f2:w1.frozen? ⟨w.heap.size,2,none⟩=false:=by rw [hb1.frozen (p:=⟨w.heap.size,2,none⟩) (by simp)];go_simp
 have hz:w.heap.size<w1.heap.size:=by have:=hb1.size;simp at this;omega
 have HB1:Hid (Below w.heap.size w w1):=hB1;have HS:Hid ((aZ s).1=0->w1.ownsRow (w.heap.size+1) 4 1 v (cB s).length (jo (cB s))):=fun h=>(hsl h).low (by simp)
 have HN:Hid ((aZ s).1≠0->v= .slice none 0 0):=hnil;clear hB1 hb1 hb0 hsl hnil HG jV;go_wp2_with fail;refine Calls.mono HF.out ?_;rintro e w2 ⟨rfl,hb2⟩;obtain⟨F1,F2,F3,hF⟩:∃a b c,aZ s=(a,b,c):=⟨_,_,_,rfl⟩
 have Jm:Hid (BV s= .agg #[.int .i64 F1,.int .i64 F2,.int .i64 F3]):=by unfold Hid BV;rw [hF]
 rw [hF];simp only;have j0:w2.cell? ⟨w.heap.size,0,none⟩=some (.int .i64 0):=cO hb2 k0;have j1:w2.cell? ⟨w.heap.size,1,none⟩=some (.int .i64 0):=cO hb2 k1;have j2:w2.cell? ⟨w.heap.size,2,none⟩=some (.int .i64 0):=cO hb2 k2;have g0:w2.frozen? ⟨w.heap.size,0,none⟩=false:=(hb2.frozen (p:=⟨w.heap.size,0,none⟩) hz).trans f0;have g1:w2.frozen? ⟨w.heap.size,1,none⟩=false:=(hb2.frozen (p:=⟨w.heap.size,1,none⟩) hz).trans f1;have g2:w2.frozen? ⟨w.heap.size,2,none⟩=false:=(hb2.frozen (p:=⟨w.heap.size,2,none⟩) hz).trans f2;have HB2:Hid (Below w.heap.size w w2):=HB1.out.trans (hb2.mono HB1.out.size);have HS2:Hid ((aZ s).1=0->w2.ownsRow (w.heap.size+1) 4 1 v (cB s).length (jo (cB s))):=fun h=>kK (HS.out h) fun k o _ ho=>aR hb2 ho
 clear hF hb2 k0 k1 k2 f0 f1 f2 HF;go_wp2;refine bodyPost_ret (v:= .tuple #[v,.agg #[.int .i64 F1,.int .i64 F2,.int .i64 F3]]) (by simp [results,results22,go_sem,j0,j1,j2]) rfl ⟨v,by rw [Jm.out],HN.out,fun h=> ?_,?_⟩
 .exact agS (ownsRow_setCell_below (ownsRow_setCell_below (ownsRow_setCell_below (HS2.out h) (by simp) _) (by simp) _) (by simp) _)
 .exact((HB2.out.setCell (Nat.le_refl _) _).setCell (Nat.le_refl _) _).setCell (Nat.le_refl _) _
def Cu(s:ByteArray)(Q:List Ed×Int×Int):Value:= .agg #[.int .i64 (dD s Q).1,.int .i64 (dD s Q).2.1,.int .i64 (dD s Q).2.2]
theorem ahq(s:ByteArray)(w:World)(aL aT aC:Addr)(hE:Env w aL aT aC)(Q:List Ed×Int×Int)
  (hG:∀W,Below w.heap.size w W->Calls prog 38 #[.string s] W fun e w'=>∃t v ev,e= .returned (.tuple #[.string t,v,ev])/\uL w' W.heap.size ev (dD s Q) aL aT aC/\((dD s Q).1≠0->t=⟨#[]⟩/\v= .slice none 0 0)/\((dD s Q).1=0->t=dA s Q.1/\w'.ownsRow W.heap.size 66 3 v Q.1.length (bS Q.1))/\Below W.heap.size W w'):
  Calls prog 21 #[.string s] w fun e w'=>∃t v,e= .returned (.tuple #[.string t,v,Cu s Q])/\((dD s Q).1≠0->t=⟨#[]⟩/\v= .slice none 0 0)/\((dD s Q).1=0->t=dA s Q.1/\w'.ownsRow w.heap.size 66 3 v Q.1.length (bS Q.1))/\Below w.heap.size w w':=by
 have HE:Hid (Env w aL aT aC):=hE;have HG:Hid (∀W,Below w.heap.size w W->Calls prog 38 #[.string s] W fun e w'=>∃t v ev,e= .returned (.tuple #[.string t,v,ev])/\uL w' W.heap.size ev (dD s Q) aL aT aC/\((dD s Q).1≠0->t=⟨#[]⟩/\v= .slice none 0 0)/\((dD s Q).1=0->t=dA s Q.1/\w'.ownsRow W.heap.size 66 3 v Q.1.length (bS Q.1))/\Below W.heap.size W w'):=hG;clear hE hG;go_enter func21,ntmps21;go_wp2_with fail;have hb0:∀o:Obj,Below w.heap.size w (w.alloc o):=fun o=>(Below.refl _ _).alloc (Nat.le_refl _) o
 refine(HG.out _ (hb0 _)).mono ?_;rintro e w1 ⟨t,v,ev,rfl,jV,hnil,hsl,hb1⟩;have hB1:Below w.heap.size w w1:=(hb0 _).trans (hb1.mono (by simp));have HF:Hid _:=Tt ev _ (dD s Q) w1 aL aT aC (HE.out.below hB1) jV;have k0:w1.cell? ⟨w.heap.size,0,none⟩=some (.int .i64 0):=by rw [hb1.cell (p:=⟨w.heap.size,0,none⟩) (by simp)];go_simp
 have k1:w1.cell? ⟨w.heap.size,1,none⟩=some (.int .i64 0):=by rw [hb1.cell (p:=⟨w.heap.size,1,none⟩) (by simp)];go_simp
 have k2:w1.cell? ⟨w.heap.size,2,none⟩=some (.int .i64 0):=by rw [hb1.cell (p:=⟨w.heap.size,2,none⟩) (by simp)];go_simp
 have f0:w1.frozen? ⟨w.heap.size,0,none⟩=false:=by rw [hb1.frozen (p:=⟨w.heap.size,0,none⟩) (by simp)];go_simp
 have f1:w1.frozen? ⟨w.heap.size,1,none⟩=false:=by rw [hb1.frozen (p:=⟨w.heap.size,1,none⟩) (by simp)];go_simp
 have f2:w1.frozen? ⟨w.heap.size,2,none⟩=false:=by rw [hb1.frozen (p:=⟨w.heap.size,2,none⟩) (by simp)];go_simp
 have hz:w.heap.size<w1.heap.size:=by have:=hb1.size;simp at this;omega
 have HB1:Hid (Below w.heap.size w w1):=hB1;have HS:Hid ((dD s Q).1=0->t=dA s Q.1/\w1.ownsRow (w.heap.size+1) 66 3 v Q.1.length (bS Q.1)):=fun h=>⟨(hsl h).1,EG (hsl h).2 (by simp)⟩
 have HN:Hid ((dD s Q).1≠0->t=⟨#[]⟩/\v= .slice none 0 0):=hnil;clear hB1 hb1 hb0 hsl hnil HG jV;go_wp2_with fail;refine Calls.mono HF.out ?_;rintro e w2 ⟨rfl,hb2⟩;obtain⟨F1,F2,F3,hF⟩:∃a b c,dD s Q=(a,b,c):=⟨_,_,_,rfl⟩
 have Jm:Hid (Cu s Q= .agg #[.int .i64 F1,.int .i64 F2,.int .i64 F3]):=by unfold Hid Cu;rw [hF]
 rw [hF];simp only;have j0:w2.cell? ⟨w.heap.size,0,none⟩=some (.int .i64 0):=cO hb2 k0;have j1:w2.cell? ⟨w.heap.size,1,none⟩=some (.int .i64 0):=cO hb2 k1;have j2:w2.cell? ⟨w.heap.size,2,none⟩=some (.int .i64 0):=cO hb2 k2;have g0:w2.frozen? ⟨w.heap.size,0,none⟩=false:=(hb2.frozen (p:=⟨w.heap.size,0,none⟩) hz).trans f0;have g1:w2.frozen? ⟨w.heap.size,1,none⟩=false:=(hb2.frozen (p:=⟨w.heap.size,1,none⟩) hz).trans f1;have g2:w2.frozen? ⟨w.heap.size,2,none⟩=false:=(hb2.frozen (p:=⟨w.heap.size,2,none⟩) hz).trans f2;have HB2:Hid (Below w.heap.size w w2):=HB1.out.trans (hb2.mono HB1.out.size);have HS2:Hid ((dD s Q).1=0->t=dA s Q.1/\w2.ownsRow (w.heap.size+1) 66 3 v Q.1.length (bS Q.1)):=fun h=>⟨(HS.out h).1,kK (HS.out h).2 fun k o _ ho=>aR hb2 ho⟩
 clear hF hb2 k0 k1 k2 f0 f1 f2 HF;go_wp2;refine bodyPost_ret (v:= .tuple #[.string t,v,.agg #[.int .i64 F1,.int .i64 F2,.int .i64 F3]]) (by simp [results,results21,go_sem,j0,j1,j2]) rfl ⟨t,v,by rw [Jm.out],HN.out,fun h=>⟨(HS2.out h).1,?_⟩,?_⟩
 .exact EG (ownsRow_setCell_below (ownsRow_setCell_below (ownsRow_setCell_below (HS2.out h).2 (by simp) _) (by simp) _) (by simp) _) (by simp)
 .exact((HB2.out.setCell (Nat.le_refl _) _).setCell (Nat.le_refl _) _).setCell (Nat.le_refl _) _
