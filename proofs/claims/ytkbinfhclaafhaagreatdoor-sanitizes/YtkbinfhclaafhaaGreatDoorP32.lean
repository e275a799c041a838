import Derived.Test.YtkbinfhclaafhaaGreatDoorP31
namespace Go.Proofs.YtkbinfhclaafhaaGreatDoor
open Go.RowKit
open Go.Proofs.Tryz
set_option maxRecDepth 100000
set_option maxHeartbeats 32000000
set_option linter.all false
section
open Go.RowKit Go.Extern.Stop Go.Stop Go.Extern
def Tryz.ar8(e:Addr)(w:World):(ReflectliteValue.unpack (.iface 92 (.pointer<|some e))).run prog w
  = .ok (.agg #[.pointer<|some ⟨16,92,none⟩,.pointer<|some ⟨w.heap.size,0,none⟩,.int .u64 150]) (w.alloc (.cells #[.pointer<|some e] 92)):=by kernel_rfl
def Tryz.arZ(v:Value)(w:World):(ReflectliteType.typeOf #[.iface 92 v]).run prog w= .ok (.iface 223 (.agg #[.pointer<|some ⟨16,92,none⟩])) w:=by kernel_rfl
def Tryz.aiB(w:World):(ReflectliteType.relation "AssignableTo" ReflectliteType.assignableTo #[.agg #[.pointer<|some ⟨16,92,none⟩],.iface 223 (.agg #[.pointer<|some ⟨16,92,none⟩])]).run prog w= .ok (.bool true) w:=by kernel_rfl
def Tryz.akf(w:World):(Rtype.elem? 94).run prog w= .ok (some 92) w:=by kernel_rfl
def Tryz.mkE(p:Addr)(w:World):(ReflectliteValue.mk 92 p 256).run prog w= .ok (.agg #[.pointer<|some ⟨16,92,none⟩,.pointer<|some p,.int .u64 406]) w:=by kernel_rfl
def Tryz.elemV(a p:Addr)(W:World)(b:W.cell? a=some (.pointer<|some p)):
  (ReflectliteValue.method (ReflectliteValue.valueError "reflectlite.Value.Elem" 0) ReflectliteValue.elem #[.agg #[.pointer<|some ⟨16,94,none⟩,.pointer<|some a,.int .u64 150]]).run prog W= .ok (.agg #[.pointer<|some ⟨16,92,none⟩,.pointer<|some p,.int .u64 406]) W:=by
 rw[rlm];simp only[GY,Tryz.TX,Result.andThen];have d:=Tryz.mkE p W;have c:=Tryz.akf W;simp[ReflectliteValue.elem,loadVar,isAgg,underlying,underlying94,b,Result.andThen,c];exact d
def Tryz.aoZ(p:Addr)(w:World):(ReflectliteValue.parts (.agg #[.pointer<|some ⟨16,92,none⟩,.pointer<|some p,.int .u64 406])).run prog w= .ok (some (92,p,406)) w:=by kernel_rfl
def Tryz.ao0(p:Addr)(w:World):(ReflectliteValue.parts (.agg #[.pointer<|some ⟨16,92,none⟩,.pointer<|some p,.int .u64 150])).run prog w= .ok (some (92,p,150)) w:=by kernel_rfl
def Tryz.aj3(w:World):(Rtype.directlyAssignable 92 92).run prog w= .ok true w:=by kernel_rfl
def Tryz.aqL(p b e:Addr)(a:Value)(W:World)(c:W.cell? b=some (.pointer<|some e))(g:W.cell? p=some a)(f:W.frozen? p=false):
  (ReflectliteValue.set #[.agg #[.pointer<|some ⟨16,92,none⟩,.pointer<|some p,.int .u64 406],.agg #[.pointer<|some ⟨16,92,none⟩,.pointer<|some b,.int .u64 150]]).run prog W= .ok (.tuple #[]) (W.setCell p (.pointer<|some e)):=by
 have d:=Tryz.aj3 W;have h:∀v x,ReflectliteValue.set #[v,x]=(ReflectliteValue.parts v>>=λp=>ReflectliteValue.parts x>>=λq=>_):=λv x=>rfl
 rw[h];simp only[GY,Tryz.aoZ,Tryz.ao0,Result.andThen];simp[ReflectliteValue.flagAddr,loadVar,isAgg,underlying,underlying92,c,d,Result.andThen];simp[storeVar,storeCells,go_sem,g,f]
def aiy(e t:Addr)(w:World)(b:Value)(j:w.cell? t=some b)(g:w.frozen? t=false)(a:t.block<w.heap.size)(i:w.cell? ⟨3,0,none⟩=some (.iface 223 (.agg #[.pointer<|some ⟨16,53,none⟩]))):
  Calls prog 56 #[.iface 92 (.pointer<|some e),.iface 94 (.pointer<|some t)] w λq F=>q= .returned (.bool true)/\∃f,Below w.heap.size w f/\F=f.setCell t (.pointer<|some e):=by
 have G:=@nG prog 90 _ (λargs=>ReflectliteValue.unpack<|args.getD 0 (.tuple #[])) func90 (by kernel_rfl) (by kernel_rfl) (by kernel_rfl) (by kernel_rfl);have H:=@nG prog 91 _ (ReflectliteValue.methodAny (ReflectliteValue.valueError "reflectlite.Value.Type" 0) λt _ _ _=>ReflectliteType.toType t) func91 (by kernel_rfl) (by kernel_rfl) (by kernel_rfl) (by kernel_rfl);have I:=@nG prog 92 _ (ReflectliteValue.method (ReflectliteValue.valueError "reflectlite.Value.IsNil" 0) ReflectliteValue.isNil) func92 (by kernel_rfl) (by kernel_rfl) (by kernel_rfl) (by kernel_rfl);have u:=@nG prog 323 _ (ReflectliteType.abiMethod λt=>do pure (.int .u8 (<-Rtype.kind t))) func323 (by kernel_rfl) (by kernel_rfl) (by kernel_rfl) (by kernel_rfl);have x:=@nG prog 334 _ (ReflectliteType.method ReflectliteType.elem) func334 (by kernel_rfl) (by kernel_rfl) (by kernel_rfl) (by kernel_rfl);have y:=@nG prog 335 _ (ReflectliteType.relation "Implements" ReflectliteType.implements_) func335 (by kernel_rfl) (by kernel_rfl) (by kernel_rfl) (by kernel_rfl);have s:=@nG prog 94 _ ReflectliteType.typeOf func94 (by kernel_rfl) (by kernel_rfl) (by kernel_rfl) (by kernel_rfl);have v:=@nG prog 332 _ (ReflectliteType.relation "AssignableTo" ReflectliteType.assignableTo) func332 (by kernel_rfl) (by kernel_rfl) (by kernel_rfl) (by kernel_rfl);have P:=Tryz.arZ;have m:=Tryz.aiB;have f6:=Tryz.agR;have M:=Tryz.aen;have K:=Tryz.ael;have L:=Tryz.aem;have J:=Tryz.aej;have f7:=Tryz.agM;have D:=Tryz.Q0;have C:=Tryz.QS;have p:=Tryz.FI;have B:=Tryz.LA;have n:=@nG prog 165 _ (ReflectliteValue.method (ReflectliteValue.valueError "reflectlite.Value.Elem" 0) ReflectliteValue.elem) func165 (by kernel_rfl) (by kernel_rfl) (by kernel_rfl) (by kernel_rfl);have o:=@nG prog 166 _ ReflectliteValue.set func166 (by kernel_rfl) (by kernel_rfl) (by kernel_rfl) (by kernel_rfl);have r:=Tryz.ar8;have N:=Tryz.OV ⟨w.heap.size,0,none⟩ t ((w.alloc (.cells #[.pointer<|some t] 94)).alloc (.cells #[.pointer<|some ⟨16,94,none⟩,.pointer<|some ⟨w.heap.size,0,none⟩,.int .u64 150] 152)) (by simp);have d:3<w.heap.size:=by
  rcases cP 3 w.heap.size with h|h
  .exact h
  .simp[World.cell?,tD h]at i
 have z:((w.alloc (.cells #[.pointer<|some t] 94)).alloc (.cells #[.pointer<|some ⟨16,94,none⟩,.pointer<|some ⟨w.heap.size,0,none⟩,.int .u64 150] 152)).cell? ⟨3,0,none⟩=some (.iface 223 (.agg #[.pointer<|some ⟨16,53,none⟩])):=by
  rw[kS _ _ ⟨3,0,none⟩ (by simp;omega),kS _ _ ⟨3,0,none⟩ d];exact i
 have O:=Tryz.elemV ⟨w.heap.size,0,none⟩ t (((w.alloc (.cells #[.pointer<|some t] 94)).alloc (.cells #[.pointer<|some ⟨16,94,none⟩,.pointer<|some ⟨w.heap.size,0,none⟩,.int .u64 150] 152)).alloc (.cells #[.pointer<|some ⟨16,94,none⟩,.pointer<|some ⟨w.heap.size,0,none⟩,.int .u64 150] 152)) (by rw[kS _ _ ⟨w.heap.size,0,none⟩ (by simp;omega),kS _ _ ⟨w.heap.size,0,none⟩ (by simp)];exact cell_one_new _ _ _ 0 _ rfl);have k:((((w.alloc (.cells #[.pointer<|some t] 94)).alloc (.cells #[.pointer<|some ⟨16,94,none⟩,.pointer<|some ⟨w.heap.size,0,none⟩,.int .u64 150] 152)).alloc (.cells #[.pointer<|some ⟨16,94,none⟩,.pointer<|some ⟨w.heap.size,0,none⟩,.int .u64 150] 152)).alloc (.cells #[.pointer<|some e] 92)).cell? t=some b:=by
  rw[kS _ _ t (by simp;omega),kS _ _ t (by simp;omega),kS _ _ t (by simp;omega),kS _ _ t a];exact j
 have l:((((w.alloc (.cells #[.pointer<|some t] 94)).alloc (.cells #[.pointer<|some ⟨16,94,none⟩,.pointer<|some ⟨w.heap.size,0,none⟩,.int .u64 150] 152)).alloc (.cells #[.pointer<|some ⟨16,94,none⟩,.pointer<|some ⟨w.heap.size,0,none⟩,.int .u64 150] 152)).alloc (.cells #[.pointer<|some e] 92)).frozen? t=false:=by
  have c:Below w.heap.size w ((((w.alloc (.cells #[.pointer<|some t] 94)).alloc (.cells #[.pointer<|some ⟨16,94,none⟩,.pointer<|some ⟨w.heap.size,0,none⟩,.int .u64 150] 152)).alloc (.cells #[.pointer<|some ⟨16,94,none⟩,.pointer<|some ⟨w.heap.size,0,none⟩,.int .u64 150] 152)).alloc (.cells #[.pointer<|some e] 92)):=((((aA _ _).alloc (au _) _).alloc (by simp) _).alloc (by simp;omega) _).alloc (by simp;omega) _;rw[c.frozen a];exact g
 have E:=Tryz.aqL t ⟨w.heap.size+1+1+1,0,none⟩ e b ((((w.alloc (.cells #[.pointer<|some t] 94)).alloc (.cells #[.pointer<|some ⟨16,94,none⟩,.pointer<|some ⟨w.heap.size,0,none⟩,.int .u64 150] 152)).alloc (.cells #[.pointer<|some ⟨16,94,none⟩,.pointer<|some ⟨w.heap.size,0,none⟩,.int .u64 150] 152)).alloc (.cells #[.pointer<|some e] 92)) (by
  have A:(((w.alloc (.cells #[.pointer<|some t] 94)).alloc (.cells #[.pointer<|some ⟨16,94,none⟩,.pointer<|some ⟨w.heap.size,0,none⟩,.int .u64 150] 152)).alloc (.cells #[.pointer<|some ⟨16,94,none⟩,.pointer<|some ⟨w.heap.size,0,none⟩,.int .u64 150] 152)).heap.size=w.heap.size+1+1+1:=by simp
  rw[<-A];exact cell_one_new _ _ _ 0 _ rfl) k l
 clear k l j g;go_enter func56,ntmps56;go_wp2;refine fV 1 ?_;rw[bN];go_wp2;go_ret;exact⟨rfl,_,((((aA _ _).alloc (au _) _).alloc (by simp) _).alloc (by simp;omega) _).alloc (by simp;omega) _,rfl⟩
end
section
open Go.RowKit Go.Extern.Stop Go.Stop Go.Extern
def agP(b:Nat)(d a c:Value)(w:World)(h:w.heap[b]? =some (.cells #[d,a,c] 96 (0,0))):
  Calls prog 57 #[.pointer<|some ⟨b,0,none⟩] w λe f=>e= .returned c/\f=w:=by
 have g:w.cell? ⟨b,2,none⟩=some c:=az h 2;go_enter func57,ntmps57;go_wp2;go_ret;exact⟨rfl,rfl⟩
def Tryz.anG(p:Value)(w:World):(Go.method 483 92 p "Unwrap").run prog w= .ok (57,p) w:=by kernel_rfl
def Tryz.an4(v:Value)(a:TypeId)(w:World):(Instr.typeAssert (.iface 92 v) a 233 true).run prog w= .ok (.tuple #[.nilIface,.bool false]) w:=run_typeAssert_lacksB underlying233 (by kernel_rfl) (by kernel_rfl) v a w
def Tryz.alp(v:Value)(a:TypeId)(w:World):(Instr.typeAssert (.iface 92 v) a 230 true).run prog w= .ok (.tuple #[.iface 92 v,.bool true]) w:=run_typeAssert_hasB underlying230 (by kernel_rfl) v a w
def OT(p:Nat)(f c:Value)(a b:Addr)(q:Bool)(w:World)(h:w.heap[p]? =some (.cells #[f,c,.iface 354 (.pointer<|some a)] 96 (0,0)))
  (o:(binOp .eql 53 (.iface 354 (.pointer<|some a)) (.iface 354 (.pointer<|some b))).run prog w= .ok (.bool q) w):
  Calls prog 58 #[.iface 92 (.pointer<|some ⟨p,0,none⟩),.iface 354 (.pointer<|some b)] w λg k=>g= .returned (.bool q)/\k=w:=by
 have i:=@nG prog 94 _ ReflectliteType.typeOf func94 (by kernel_rfl) (by kernel_rfl) (by kernel_rfl) (by kernel_rfl);have j:=@nG prog 333 _ (ReflectliteType.method λt=>do Rtype.noPackHeld "Comparable" t;pure (.bool (<-typeInfo t).comparable)) func333 (by kernel_rfl) (by kernel_rfl) (by kernel_rfl) (by kernel_rfl);have A:=Tryz.XM;have r:=Tryz.aek;have m:=Tryz.lG;have u:=Tryz.U2;have v:=Tryz.V6;have x:=Tryz.V7;have y:=Tryz.an4;have z:=Tryz.alp;have s:=Tryz.anG;have n:=run_eql_iface_types (P:=prog) 92 354 (.pointer<|some ⟨p,0,none⟩) (.pointer<|some b) underlying53 (by decide) w;have d:=agP p f c _ w h;cases q
 .go_enter func58,ntmps58;go_wp2;refine fV 2 ?_;rw[bN];go_wp2_with fail;refine d.mono ?_;rintro e l ⟨rfl,rfl⟩;go_wp2;rw[bN];go_wp2;go_ret;exact⟨rfl,rfl⟩
 .go_enter func58,ntmps58;go_wp2;refine fV 2 ?_;rw[bN];go_wp2_with fail;refine d.mono ?_;rintro e l ⟨rfl,rfl⟩;go_wp2;rw[bN];go_wp2;go_ret;exact⟨rfl,rfl⟩
def Vu(p:Nat)(d b:Value)(a:Addr)(w:World)(h:w.heap[p]? =some (.cells #[d,b,.iface 354 (.pointer<|some a)] 96 (0,0))):
  Calls prog 58 #[.iface 92 (.pointer<|some ⟨p,0,none⟩),.iface 354 (.pointer<|some a)] w λe k=>e= .returned (.bool true)/\k=w:=by
 obtain⟨i,f,c⟩:=zn.1 Tryz.Ku;obtain⟨j,g,_⟩:=zn.1 Tryz.MP;exact OT p d b a a true w h (ap5 w a underlying53 underlying354 f c g)
def Iw(p:Nat)(m d:Value)(a b:Addr)(w:World)(h:w.heap[p]? =some (.cells #[m,d,.iface 354 (.pointer<|some a)] 96 (0,0)))(l:a≠b)(f:∃c t,w.heap[a.block]? =some (.cells c t (0,0)))(g:∃c t,w.heap[b.block]? =some (.cells c t (0,0))):
  Calls prog 58 #[.iface 92 (.pointer<|some ⟨p,0,none⟩),.iface 354 (.pointer<|some b)] w λn r=>n= .returned (.bool false)/\r=w:=by
 obtain⟨i,o,e⟩:=zn.1 Tryz.Ku;obtain⟨j,q,k⟩:=zn.1 Tryz.MP;obtain⟨_,_,f⟩:=f;obtain⟨_,_,g⟩:=g;exact OT p m d a b false w h (ap4 w underlying53 underlying354 o e q (by rw[k];decide) l f g)
end
section
open Go.RowKit Go.Extern.Stop Go.Stop Go.Extern
def Tryz.ajQ:(prog.info? 92).map (·.comparable)=some true:=by kernel_rfl
def Tryz.aqW:(prog.info? 96).map (·.size)=some 3:=by kernel_rfl
def Tryz.anT(a:Addr)(w:World):(binOp .neq 53 (.iface 354 (.pointer<|some a)) (.iface 354 (.pointer<|some a))).run prog w= .ok (.bool false) w:=by
 obtain⟨i,c,b⟩:=zn.1 Tryz.Ku;obtain⟨j,d,_⟩:=zn.1 Tryz.MP;simp only[binOp];simp[Op.equal,Op.maxDepth,ap7 w 9998 a underlying53 underlying354 c b d]
def Tryz.anU(a:Addr)(w:World):(binOp .neq 53 (.iface 92 (.pointer<|some a)) (.iface 92 (.pointer<|some a))).run prog w= .ok (.bool false) w:=by
 obtain⟨i,c,b⟩:=zn.1 Tryz.ajQ;obtain⟨j,d,_⟩:=zn.1 Tryz.aqW;simp only[binOp];simp[Op.equal,Op.maxDepth,ap7 w 9998 a underlying53 underlying92 c b d]
def aip(w:World)(a b c:Obj):(((w.alloc a).alloc b).alloc c).heap[w.heap.size]? =some a/\(((w.alloc a).alloc b).alloc c).heap[w.heap.size+1]? =some b/\(((w.alloc a).alloc b).alloc c).heap[w.heap.size+1+1]? =some c:=by
 have g:(w.alloc a).heap.size=w.heap.size+1:=by simp
 have h:((w.alloc a).alloc b).heap.size=w.heap.size+1+1:=by simp
 have d:(w.alloc a).heap[w.heap.size]? =some a:=World.alloc_heap_new w a;have e:((w.alloc a).alloc b).heap[w.heap.size+1]? =some b:=by have:=World.alloc_heap_new (w.alloc a) b;rw[g]at this;exact this
 have f:(((w.alloc a).alloc b).alloc c).heap[w.heap.size+1+1]? =some c:=by have:=World.alloc_heap_new ((w.alloc a).alloc b) c;rw[h]at this;exact this
 exact⟨(dw _ _ _ (by omega)).trans ((dw _ _ _ (by omega)).trans d),(dw _ _ _ (by omega)).trans e,f⟩
def TB(b:Nat)(c a:Int)(w:World)(aL r q j:Addr)(n:Int)(hX:aL=j/\n=1∨r=j/\n=2∨q=j/\n=3)(hE:Env w aL r q)(L:w.heap[b]? =some (.cells #[.int .i64 c,.int .i64 a,.iface 354 (.pointer<|some j)] 96 (0,0))):
  Calls prog 36 #[.iface 92 (.pointer<|some ⟨b,0,none⟩)] w λe t=>e= .returned (.agg #[.int .i64 n,.int .i64 c,.int .i64 a])/\Below w.heap.size w t:=by
 have HX:=ah hX;have p:=ah hE;have T:=ah L;have aa:=bS L;clear hE L hX;go_enter func36,ntmps36;go_wp2_with fail;obtain⟨q0,q1,A⟩:=aip w (.cells #[.int .i64 0,.int .i64 0,.int .i64 0] 33) (.cells #[.int .i64 4,.int .i64 (-1),.int .i64 (-1)] 33) (.cells #[.pointer none] 92);have E:Below w.heap.size w (((w.alloc (.cells #[.int .i64 0,.int .i64 0,.int .i64 0] 33)).alloc (.cells #[.int .i64 4,.int .i64 (-1),.int .i64 (-1)] 33)).alloc (.cells #[.pointer none] 92)):=(((aA _ _).alloc (au _) _).alloc (by simp) _).alloc (by simp;omega) _;refine(aiy _ _ _ (.pointer none) ?_ ?_ ?_ ?_).mono ?_
 .exact az A 0
 .exact cB A 0
 .exact bS A
 .exact(p.out.below E).OC
 rintro e g ⟨rfl,u,l,rfl⟩;have M:=bq l q0;have N:=bq l q1;have k2:=bq l A;have O:=bq l<|bq E T.out;have U:Below w.heap.size w u:=E.trans (l.mono<|by simp;omega);have G:u.grownBy (u.setCell ⟨w.heap.size+1+1,0,none⟩ (.pointer<|some ⟨b,0,none⟩)) (some (w.heap.size+1+1)):=vI _ _ _ _;have Y:Hid (Below w.heap.size w<|u.setCell ⟨w.heap.size+1+1,0,none⟩ (.pointer<|some ⟨b,0,none⟩)):=U.setCell (by simp;omega) _;have y:=(G.block _ (bS M) (λe=>by have:=aJ e;omega)).trans M;have o:=(G.block _ (bS N) (λe=>by have:=aJ e;omega)).trans N;have s:=(G.block _ (bS O) (λe=>by have:=aJ e;omega)).trans O;have x:(u.setCell ⟨w.heap.size+1+1,0,none⟩ (.pointer<|some ⟨b,0,none⟩)).heap[w.heap.size+1+1]? =some (.cells #[.pointer<|some ⟨b,0,none⟩] 92 (0,0)):=by rw[eW k2];rfl
 clear q0 q1 A E l M N k2 O U G;generalize u.setCell ⟨w.heap.size+1+1,0,none⟩ (.pointer<|some ⟨b,0,none⟩)=g at*;have P:g.cell? ⟨w.heap.size+1+1,0,none⟩=some (.pointer<|some ⟨b,0,none⟩):=az x 0;have b0:g.cell? ⟨b,0,none⟩=some (.int .i64 c):=az s 0;have b1:g.cell? ⟨b,1,none⟩=some (.int .i64 a):=az s 1;have J:g.cell? ⟨b,2,none⟩=some (.iface 354 (.pointer<|some j)):=az s 2;have f1:g.cell? ⟨w.heap.size+1,1,none⟩=some (.int .i64 (-1)):=az o 1;have f2:g.cell? ⟨w.heap.size+1,2,none⟩=some (.int .i64 (-1)):=az o 2;have z1:g.frozen? ⟨w.heap.size+1,1,none⟩=false:=cB o 1;have z2:g.frozen? ⟨w.heap.size+1,2,none⟩=false:=cB o 2;have V:Hid (g.heap[w.heap.size]? =some (.cells #[.int .i64 0,.int .i64 0,.int .i64 0] 33 (0,0))/\g.heap[w.heap.size+1]? =some (.cells #[.int .i64 4,.int .i64 (-1),.int .i64 (-1)] 33 (0,0))/\g.heap[w.heap.size+1+1]? =some (.cells #[.pointer<|some ⟨b,0,none⟩] 92 (0,0))/\g.heap[b]? =some (.cells #[.int .i64 c,.int .i64 a,.iface 354 (.pointer<|some j)] 96 (0,0))):=⟨y,o,x,s⟩
 have n1:b≠w.heap.size+1:=by omega
 have n2:¬(w.heap.size+1=b):=by omega
 have n3:¬(b=w.heap.size+1):=by omega
 clear y o x s;generalize hz:w.heap.size=z at*;have F:=ah hz;clear hz;go_wp2
 go_region_held3 (λt=>t.cell? ⟨z+1+1,0,none⟩=some (.pointer<|some ⟨b,0,none⟩)/\t.cell? ⟨b,0,none⟩=some (.int .i64 c)/\t.cell? ⟨b,1,none⟩=some (.int .i64 a)) (go_keep) (fail)
 obtain⟨y,o,x,s⟩:=V.out;have k:((g.setCell ⟨z+1,1,none⟩ (.int .i64 c)).setCell ⟨z+1,2,none⟩ (.int .i64 a)).drew.heap[z]? =some (.cells #[.int .i64 0,.int .i64 0,.int .i64 0] 33 (0,0)):=(iF _ _ _ _ (by show z≠z+1;omega)).trans ((iF _ _ _ _ (by show z≠z+1;omega)).trans y);have i2:((g.setCell ⟨z+1,1,none⟩ (.int .i64 c)).setCell ⟨z+1,2,none⟩ (.int .i64 a)).drew.heap[z+1+1]? =some (.cells #[.pointer<|some ⟨b,0,none⟩] 92 (0,0)):=(iF _ _ _ _ (by show z+1+1≠z+1;omega)).trans ((iF _ _ _ _ (by show z+1+1≠z+1;omega)).trans x);have H:((g.setCell ⟨z+1,1,none⟩ (.int .i64 c)).setCell ⟨z+1,2,none⟩ (.int .i64 a)).drew.heap[b]? =some (.cells #[.int .i64 c,.int .i64 a,.iface 354 (.pointer<|some j)] 96 (0,0)):=(iF _ _ _ _ n1).trans ((iF _ _ _ _ n1).trans s);have m:((g.setCell ⟨z+1,1,none⟩ (.int .i64 c)).setCell ⟨z+1,2,none⟩ (.int .i64 a)).drew.heap[z+1]? =some (.cells #[.int .i64 4,.int .i64 c,.int .i64 a] 33 (0,0)):=by
  show((g.setCell ⟨z+1,1,none⟩ (.int .i64 c)).setCell ⟨z+1,2,none⟩ (.int .i64 a)).heap[z+1]? =_;have e1:(g.setCell ⟨z+1,1,none⟩ (.int .i64 c)).heap[z+1]? =some (.cells #[.int .i64 4,.int .i64 c,.int .i64 (-1)] 33 (0,0)):=by rw[eW o];rfl
  rw[eW e1];rfl
 have Z:Hid (Below z w ((g.setCell ⟨z+1,1,none⟩ (.int .i64 c)).setCell ⟨z+1,2,none⟩ (.int .i64 a)).drew):=((Y.out.setCell (l8 _) _).setCell (l8 _) _).drew;clear V Y y o x s b0 b1 J P f1 f2 z1 z2;generalize((g.setCell ⟨z+1,1,none⟩ (.int .i64 c)).setCell ⟨z+1,2,none⟩ (.int .i64 a)).drew=i at*;have P:i.cell? ⟨z+1+1,0,none⟩=some (.pointer<|some ⟨b,0,none⟩):=az i2 0;have J:i.cell? ⟨b,2,none⟩=some (.iface 354 (.pointer<|some j)):=az H 2;have X:Hid (∀n,Calls prog 57 #[.pointer<|some ⟨b,0,none⟩] (i.drewN n) λe t=>e= .returned (.iface 354 (.pointer<|some j))/\t=i.drewN n):=λn=>agP b _ _ _ (i.drewN n) H
 have I:Hid (i.heap[z]? =some (.cells #[.int .i64 0,.int .i64 0,.int .i64 0] 33 (0,0))/\i.heap[z+1]? =some (.cells #[.int .i64 4,.int .i64 c,.int .i64 a] 33 (0,0))/\i.heap[b]? =some (.cells #[.int .i64 c,.int .i64 a,.iface 354 (.pointer<|some j)] 96 (0,0))):=⟨k,m,H⟩
 have m1:=Tryz.anT;have m2:=Tryz.anU;clear k m i2 H;go_wp2_with fail;go_quiet(first|(go_at_call 57;refine BH<|X.out _));have f:Hid (∀W,Below z w W->W.heap[b]? =some (.cells #[.int .i64 c,.int .i64 a,.iface 354 (.pointer<|some j)] 96 (0,0))/\Env W aL r q):=λW l=>by
  rw[<-F.out]at l;exact⟨bq l T.out,p.out.below l⟩
 have k:(i.drewN nq).heap[z]? =some (.cells #[.int .i64 0,.int .i64 0,.int .i64 0] 33 (0,0)):=I.out.1;have m:(i.drewN nq).heap[z+1]? =some (.cells #[.int .i64 4,.int .i64 c,.int .i64 a] 33 (0,0)):=I.out.2.1;have d:Hid (Below z w<|i.drewN nq):=Z.out.trans ⟨rfl,rfl,rfl,au _,λ_ _=>rfl⟩;clear X I Z P J;generalize i.drewN nq=h at*;have K:z<h.heap.size:=bS k;have h1:z+1<h.heap.size:=bS m;have hl:=(f.out h d.out).2.long;have ht:=(f.out h d.out).2.text;have Ib:=(f.out h d.out).2.code;have Q:h.cell? ⟨z,0,none⟩=some (.int .i64 0):=az k 0;have R:h.cell? ⟨z,1,none⟩=some (.int .i64 0):=az k 1;have S:h.cell? ⟨z,2,none⟩=some (.int .i64 0):=az k 2;have s0:h.frozen? ⟨z,0,none⟩=false:=cB k 0;have s1:h.frozen? ⟨z,1,none⟩=false:=cB k 1;have s2:h.frozen? ⟨z,2,none⟩=false:=cB k 2;have f0:h.cell? ⟨z+1,0,none⟩=some (.int .i64 4):=az m 0;have f1:h.cell? ⟨z+1,1,none⟩=some (.int .i64 c):=az m 1;have f2:h.cell? ⟨z+1,2,none⟩=some (.int .i64 a):=az m 2;have g0:h.frozen? ⟨z+1,0,none⟩=false:=cB m 0;clear k m;go_wp2;refine fV 4 ?_;rcases HX.out with⟨rfl,rfl⟩|⟨rfl,rfl⟩|⟨rfl,rfl⟩
 .rw[bN];go_wp2_with fail;refine(Vu b (.int .i64 c) (.int .i64 a) aL _ ?_).mono ?_
  .exact(f.out _ (d.out.alloc (by omega) _)).1
  rintro e B ⟨rfl,rfl⟩;go_wp2;rw[bN];go_wp2_with fail;refine(Iw b (.int .i64 c) (.int .i64 a) aL r _ ?_ p.out.II ?_ ?_).mono ?_
  .exact(f.out _ ((d.out.setCell (l8 _) _).alloc (by simp;omega) _)).1
  .exact(f.out _ ((d.out.setCell (l8 _) _).alloc (by simp;omega) _)).2.AO
  .exact(f.out _ ((d.out.setCell (l8 _) _).alloc (by simp;omega) _)).2.AP
  rintro e C ⟨rfl,rfl⟩;go_wp2;rw[bN];go_wp2_with fail;refine(Iw b (.int .i64 c) (.int .i64 a) aL q _ ?_ p.out.IG ?_ ?_).mono ?_
  .exact(f.out _ ((d.out.setCell (l8 _) _).alloc (by simp;omega) _)).1
  .exact(f.out _ ((d.out.setCell (l8 _) _).alloc (by simp;omega) _)).2.AO
  .exact(f.out _ ((d.out.setCell (l8 _) _).alloc (by simp;omega) _)).2.AL
  rintro e D ⟨rfl,rfl⟩;go_wp2;rw[bN];go_wp2;refine cI (v:= .agg #[.int .i64 1,.int .i64 c,.int .i64 a]) (by simp[results,results36,go_sem,Q,R,S,K]) rfl ⟨rfl,?_⟩;rw[F.out];exact((((d.out.setCell (l8 _) _).setCell (au _) _).setCell (au _) _).setCell (au _) _).alloc (by simp;omega) _
 .rw[bN];go_wp2_with fail;refine(Iw b (.int .i64 c) (.int .i64 a) r aL _ ?_ p.out.II.symm ?_ ?_).mono ?_
  .exact(f.out _ (d.out.alloc (by omega) _)).1
  .exact(f.out _ (d.out.alloc (by omega) _)).2.AP
  .exact(f.out _ (d.out.alloc (by omega) _)).2.AO
  rintro e B ⟨rfl,rfl⟩;go_wp2;rw[bN];go_wp2_with fail;refine(Vu b (.int .i64 c) (.int .i64 a) r _ ?_).mono ?_
  .exact(f.out _ (d.out.alloc (by omega) _)).1
  rintro e C ⟨rfl,rfl⟩;go_wp2;rw[bN];go_wp2_with fail;refine(Iw b (.int .i64 c) (.int .i64 a) r q _ ?_ p.out.IJ ?_ ?_).mono ?_
  .exact(f.out _ ((d.out.setCell (l8 _) _).alloc (by simp;omega) _)).1
  .exact(f.out _ ((d.out.setCell (l8 _) _).alloc (by simp;omega) _)).2.AP
  .exact(f.out _ ((d.out.setCell (l8 _) _).alloc (by simp;omega) _)).2.AL
  rintro e D ⟨rfl,rfl⟩;go_wp2;rw[bN];go_wp2;refine cI (v:= .agg #[.int .i64 2,.int .i64 c,.int .i64 a]) (by simp[results,results36,go_sem,Q,R,S,K]) rfl ⟨rfl,?_⟩;rw[F.out];exact((((d.out.setCell (l8 _) _).setCell (au _) _).setCell (au _) _).setCell (au _) _).alloc (by simp;omega) _
 .rw[bN];go_wp2_with fail;refine(Iw b (.int .i64 c) (.int .i64 a) q aL _ ?_ p.out.IG.symm ?_ ?_).mono ?_
  .exact(f.out _ (d.out.alloc (by omega) _)).1
  .exact(f.out _ (d.out.alloc (by omega) _)).2.AL
  .exact(f.out _ (d.out.alloc (by omega) _)).2.AO
  rintro e B ⟨rfl,rfl⟩;go_wp2;rw[bN];go_wp2_with fail;refine(Iw b (.int .i64 c) (.int .i64 a) q r _ ?_ p.out.IJ.symm ?_ ?_).mono ?_
  .exact(f.out _ (d.out.alloc (by omega) _)).1
  .exact(f.out _ (d.out.alloc (by omega) _)).2.AL
  .exact(f.out _ (d.out.alloc (by omega) _)).2.AP
  rintro e C ⟨rfl,rfl⟩;go_wp2;rw[bN];go_wp2_with fail;refine(Vu b (.int .i64 c) (.int .i64 a) q _ ?_).mono ?_
  .exact(f.out _ (d.out.alloc (by omega) _)).1
  rintro e D ⟨rfl,rfl⟩;go_wp2;rw[bN];go_wp2;refine cI (v:= .agg #[.int .i64 3,.int .i64 c,.int .i64 a]) (by simp[results,results36,go_sem,Q,R,S,K]) rfl ⟨rfl,?_⟩;rw[F.out];exact((((d.out.setCell (l8 _) _).setCell (au _) _).setCell (au _) _).setCell (au _) _).alloc (by simp;omega) _
def akS(b:Nat)(f a e:Int)(j:e=1∨e=2∨e=3)(w:World)(aL d c:Addr)(g:Env w aL d c)(h:w.heap[b]? =some (.cells #[.int .i64 f,.int .i64 a,AX e aL d c] 96 (0,0))):
  Calls prog 36 #[.iface 92 (.pointer<|some ⟨b,0,none⟩)] w λi k=>i= .returned (.agg #[.int .i64 e,.int .i64 f,.int .i64 a])/\Below w.heap.size w k:=by
 rcases j with rfl|rfl|rfl
 .exact TB b f a w aL d c aL 1 (.inl ⟨rfl,rfl⟩) g h
 .exact TB b f a w aL d c d 2 (.inr (.inl ⟨rfl,rfl⟩)) g h
 .exact TB b f a w aL d c c 3 (.inr (.inr ⟨rfl,rfl⟩)) g h
end
def akT(i:Value)(B:Nat)(f:Int×Int×Int)(w:World)(aL c a:Addr)(g:Env w aL c a)(h:Jf w B i f aL c a):
  Calls prog 36 #[i] w λe m=>e= .returned (.agg #[.int .i64 f.1,.int .i64 f.2.1,.int .i64 f.2.2])/\Below w.heap.size w m:=by
 rcases h with⟨rfl,rfl⟩|⟨rfl,rfl⟩|⟨b,e,l,d,rfl,j,_,rfl,k⟩
 .exact DZ 0 (by omega) w aL c a g
 .exact DZ 1 (by omega) w aL c a g
 .exact akS b l d e k w aL c a g j
def Ew(s:ByteArray)(Q:List Ed×Int×Int):Value:= .agg #[.int .i64 (fE s Q).1,.int .i64 (fE s Q).2.1,.int .i64 (fE s Q).2.2]
def ao4(s:ByteArray)(w:World)(aL x u:Addr)(I:Env w aL x u)(Q:List Ed×Int×Int)
  (J:∀W,Below w.heap.size w W->Calls prog 38 #[.string s] W λe n=>∃t v q,e= .returned (.tuple #[.string t,v,q])/\Jf n W.heap.size q (fE s Q) aL x u/\((fE s Q).1≠0->t=⟨#[]⟩/\v= .slice none 0 0)/\((fE s Q).1=0->t=qg s Q.1/\n.ownsRow W.heap.size 66 3 v Q.1.length (bY Q.1))/\Below W.heap.size W n):
  Calls prog 21 #[.string s] w λe n=>∃t v,e= .returned (.tuple #[.string t,v,Ew s Q])/\((fE s Q).1≠0->t=⟨#[]⟩/\v= .slice none 0 0)/\((fE s Q).1=0->t=qg s Q.1/\n.ownsRow w.heap.size 66 3 v Q.1.length (bY Q.1))/\Below w.heap.size w n:=by
 have O:=ah I;have E:=ah J;clear I J;go_enter func21,ntmps21;go_wp2_with fail;have j:∀o:Obj,Below w.heap.size w (w.alloc o):=λo=>(aA _ _).alloc (au _) o
 refine(E.out _ (j _)).mono ?_;rintro e g ⟨t,v,q,rfl,N,i,l,d⟩;have z:Below w.heap.size w g:=(j _).trans (d.mono<|by simp);have D:Hid _:=akT q _ (fE s Q) g aL x u (O.out.below z) N;have K:g.cell? ⟨w.heap.size,0,none⟩=some (.int .i64 0):=by rw[d.cell (p:=⟨w.heap.size,0,none⟩)<|by simp];go_simp
 have L:g.cell? ⟨w.heap.size,1,none⟩=some (.int .i64 0):=by rw[d.cell (p:=⟨w.heap.size,1,none⟩)<|by simp];go_simp
 have M:g.cell? ⟨w.heap.size,2,none⟩=some (.int .i64 0):=by rw[d.cell (p:=⟨w.heap.size,2,none⟩)<|by simp];go_simp
 have f0:g.frozen? ⟨w.heap.size,0,none⟩=false:=by rw[d.frozen (p:=⟨w.heap.size,0,none⟩)<|by simp];go_simp
 have f1:g.frozen? ⟨w.heap.size,1,none⟩=false:=by rw[d.frozen (p:=⟨w.heap.size,1,none⟩)<|by simp];go_simp
 have f2:g.frozen? ⟨w.heap.size,2,none⟩=false:=by rw[d.frozen (p:=⟨w.heap.size,2,none⟩)<|by simp];go_simp
 have y:w.heap.size<g.heap.size:=by have:=d.size;simp at this;omega
 have G:=ah z;have F:Hid ((fE s Q).1=0->t=qg s Q.1/\g.ownsRow (w.heap.size+1) 66 3 v Q.1.length (bY Q.1)):=λh=>⟨(l h).1,Ej (l h).2 (by simp)⟩
 have P:=ah i;clear z d j l i E N;go_wp2_with fail;refine mM D.out ?_;rintro e m ⟨rfl,f⟩;obtain⟨A,B,C,hF⟩:∃a b c,fE s Q=(a,b,c):=⟨_,_,_,rfl⟩
 have r:Hid (Ew s Q= .agg #[.int .i64 A,.int .i64 B,.int .i64 C]):=by unfold Hid Ew;rw[hF]
 rw[hF];simp only;have T:m.cell? ⟨w.heap.size,0,none⟩=some (.int .i64 0):=eu f K;have U:m.cell? ⟨w.heap.size,1,none⟩=some (.int .i64 0):=eu f L;have V:m.cell? ⟨w.heap.size,2,none⟩=some (.int .i64 0):=eu f M;have X:m.frozen? ⟨w.heap.size,0,none⟩=false:=(f.frozen (p:=⟨w.heap.size,0,none⟩) y).trans f0;have g1:m.frozen? ⟨w.heap.size,1,none⟩=false:=(f.frozen (p:=⟨w.heap.size,1,none⟩) y).trans f1;have g2:m.frozen? ⟨w.heap.size,2,none⟩=false:=(f.frozen (p:=⟨w.heap.size,2,none⟩) y).trans f2;have R:=ah<|G.out.trans<|f.mono G.out.size;have H:Hid ((fE s Q).1=0->t=qg s Q.1/\m.ownsRow (w.heap.size+1) 66 3 v Q.1.length (bY Q.1)):=λh=>⟨(F.out h).1,nB (F.out h).2 λk o _ S=>bq f S⟩
 clear hF f K L M f0 f1 f2 D;go_wp2;refine cI (v:= .tuple #[.string t,v,.agg #[.int .i64 A,.int .i64 B,.int .i64 C]]) (by simp[results,results21,go_sem,T,U,V]) rfl ⟨t,v,by rw[r.out],P.out,λh=>⟨(H.out h).1,?_⟩,?_⟩
 .exact Ej (vD (vD (vD (H.out h).2 (by simp) _) (by simp) _) (by simp) _) (by simp)
 .exact((R.out.setCell (au _) _).setCell (au _) _).setCell (au _) _
structure RL(B:Nat)(W5:World)(v u:Value)(l:List Ed)(Wx:World):Prop where
 be:Below B W5 Wx
 own:Wx.ownsRow B 88 3 u l.length<|bY l
 row:∀k,v.ownBlock=some k->u.ownBlock≠some k/\Wx.heap[k]? =W5.heap[k]? /\k<Wx.heap.size
 sz:B<=Wx.heap.size
def RL.step {B:Nat}{m j b i:World}{v u a:Value}{l l':List Ed}(h:RL B m v u l j)(d:Below j.heap.size j b)(f:b.grownBy i u.ownBlock)(p:i.ownsRow B 88 3 a l'.length<|bY l')(c:a.ownBlock=u.ownBlock∨a.ownBlock=some b.heap.size):RL B m v a l' i:=by
 have q:=h.sz;have r:=d.size;have s:=f.size;refine⟨(h.be.trans<|d.mono q).grown f (by omega) (λk g=>(pQ h.own g).1),p,λk g=> ?_,by omega⟩;obtain⟨n,t,w⟩:=h.row k g;refine⟨?_,((f.block k (by omega) λe=>n e.symm).trans (d.block k w)).trans t,by omega⟩;rcases c with e|e
 .rw[e];exact n
 .rw[e];intro o;have:=aJ o;omega
def agk:∀(a:List ByteArray)(p i:Nat),i<a.length->(nJ a p).getD i 0=p+gJ (a.take i)
 |[],_,_,h=>by simp at h
 |l::a,p,0,_=>by simp[nJ,gJ]
 |l::a,p,i+1,h=>by
  have:=agk a (p+l.size+1) i (by simpa using h);rw[nJ,NA,this,Sz];have e:gJ (l::a.take i)=l.size+1+gJ (a.take i):=by unfold gJ;rw[mP,NP]
  rw[e];omega
def ark(a:List ByteArray)(i:Nat)(b:i<a.length):gJ (a.take<|i+1)=gJ (a.take i)+(a.getD i ⟨#[]⟩).size+1:=by
 rw[pG b,aO,aM b];unfold gJ;rw[fB,List.sum_append,mP,Dq,NP,List.sum_nil];simp only[tW];omega
def ags(a:List ByteArray)(i:Nat):gJ (a.take i)<=gJ a:=by
 have:gJ a=gJ (a.take i)+gJ (a.drop i):=by unfold gJ;rw[<-List.sum_append,<-fB,Sy]
 omega
def apD(s:ByteArray)(a:List Ed)(v:Value)(B n:Nat)(w:World)(c:n=a.length)(h:w.ownsRow B 88 3 v n<|bY a)(k:n<=1000000000)(j:s.size+jA a<=140737488355328):
  Calls prog 53 #[.string s,v] w λe i=>e= .returned (.string<|qg s a)/\Below w.heap.size w i:=by
 rcases h.2 with⟨rfl,rfl⟩|⟨g,b,d,rfl,_⟩
 .have f:a=[]:=JZ c.symm;subst f;have e:qg s []=(⟨#[]⟩:ByteArray)++s:=by
   unfold qg;rw[show s.extract (([]:List Ed).foldl (mS s) (⟨#[]⟩,0)).2 s.size=s by show s.extract 0 s.size=s;simp];rfl
  rw[e];exact apF s none 0 w (by omega)
 .exact apE s a g 0 n b w (by omega) c.symm (by omega) (KE h) (by omega)
def aea {s:ByteArray}(d:(gy s).1=0)(i:Nat)(g:i<(aR s 0 0).length):vA (eN s i) ((dY<|aR s 0 0).getD i []) (gA s i) []=eY (eN s i) (gA s i) []/\(eY (eN s i) (gA s i) []).1.length<=361200/\∀e∈(eY (eN s i) (gA s i) []).1,0<=e.a/\e.a<=3000:=by
 obtain⟨c,_,n⟩:=look_ok d;have h:∀x∈gA s i,x∈fD s/\x.line=i:=λx hx=>by
  obtain⟨a,b⟩:=tQ.1 (show x∈(fD s).filter _ from hx);exact⟨a,by simpa using b⟩
 have o:=Mm c i g;refine⟨aed _ _ (uw (n i g).1) _ _ λx hx=>⟨WJ c i x hx,aoV c (h x hx).1⟩,?_⟩;obtain⟨a,b⟩:=K2 (eN s i) (λe=>0<=e.a/\e.a<=3000) (gA s i) [] (by simp) λx hx=>by
  obtain⟨l,m⟩:=h x hx;obtain⟨_,_,j,_⟩:=Ww d l;rw[m]at j;obtain⟨p,k⟩:=Wv o j;exact⟨p,λe f=>⟨(k e f).1,(k e f).2.1⟩⟩
 refine⟨?_,b⟩;have:=Qc s i;simp only[jZ]at a;omega
def alO {p:Prop}(h:p):Hid p:=h
def AQ(i:Nat):Nat:=i*361200
def ai1(i:Nat):AQ i<=AQ (i+1):=by unfold AQ;omega
def aiZ(i:Nat){a b:Nat}(c:a<=AQ i)(d:b<=361200):a+b<=AQ (i+1):=by unfold AQ at*;omega
def ai0 {i N a b:Nat}(f:i<N)(c:N<=601)(d:a<=AQ i)(e:b<=361200):a+b<=300000000:=by unfold AQ at*;omega
def akb(s:ByteArray)(N i:Nat)(b:i<N)(a:List Ed):xW (nH s) (eN s) (nI s) (fD s) (N - i) i a=if nH s i=true then xW (nH s) (eN s) (nI s) (fD s) (N - (i+1)) (i+1) a else if 0<=(eY (eN s i) (gA s i) []).2 then([],(i:Int),(eY (eN s i) (gA s i) []).2)else xW (nH s) (eN s) (nI s) (fD s) (N - (i+1)) (i+1) (a++(eY (eN s i) (gA s i) []).1.map (pU<|nI s i)):=by
 rw[show N - i=(N - (i+1))+1 by omega,xW];rfl
def afw(s:ByteArray)(w:World):Calls prog 52 #[.string s] w λe l=>Below w.heap.size w l/\∃t v,e= .returned (.tuple #[.string t,v,Ew s<|eV s])/\((fE s<|eV s).1≠0->t=⟨#[]⟩/\v= .slice none 0 0)/\((fE s<|eV s).1=0->t=qg s (eV s).1/\l.ownsRow (w.heap.size+1) 88 3 v (eV s).1.length (bY (eV s).1)):=by
 obtain⟨iB,UJ,Vh,Vi,Vj⟩:=gu Tryz.Nl;have S:=anx s<|w.alloc (.cells #[.int .i64 0,.int .i64 0,.int .i64 0] 47);obtain⟨F1,F2,F3,hF⟩:∃a b c,gy s=(a,b,c):=⟨_,_,_,rfl⟩
 have HF:=ah hF;have hV:Mn s= .agg #[.int .i64 F1,.int .i64 F2,.int .i64 F3]:=by unfold Mn;rw[hF]
 rw[hV,hF]at S;simp only at S;clear hF hV;by_cases hE:F1=0
 .subst hE;have h0:(gy s).1=0:=by rw[HF.out]
  have dS:=ah h0;obtain⟨rfl,rfl⟩:F2=0/\F3=0:=by
   have:=(look_ok h0).2.1;rw[HF.out]at this;simpa using this
  have zM:=(look_ok h0).1;have GF:Hid (xW (nH s) (eN s) (nI s) (fD s) (aR s 0 0).length 0 []=eV s):=arF s zM _ _ _;have tH:=ah<|Tq s h0;have uK:Hid (fE s (eV s)=if(eV s).2.2= -1 then(0,0,0)else(3,(eV s).2.1,(eV s).2.2)):=by show _=_;unfold fE;rw[ai λh=>h h0]
  obtain⟨Q,hQ⟩:=ac<|eV s;rw[<-hQ]at GF tH uK ⊢;clear hQ;obtain⟨g,G⟩:=ac<|aR s 0 0;have Ng:=ah G;have aE:=ID s 0 0 (by omega);have M:=Xt zM;rw[<-G]at S aE GF M;have aW:=ah M;obtain⟨N,K⟩:=ac g.length;have HN:=ah K;rw[<-K]at aE GF;have Bd:(dY g).length=N:=by rw[K];simp[dY]
  have GA:=ah Bd;have xN:Hid (∀i,i<N->nH s i=Eu ((dY g).getD i []) (gA s i)):=λi I=>by
   have u:i<(aR s 0 0).length:=(by rw[<-G,<-K];exact I);unfold nH kI;rw[aO,jq,J2 u,G];rfl
  have Y5:Hid (∀(i:Nat) W v,qL W v (fD s)->Calls prog 79 #[v,.int .i64 i] W λe l=>∃v',e= .returned v'/\qL l v' (gA s i)/\Below W.heap.size W l):=λi W v hW=>(aoe (fD s) v i W (MF s) hW).mono λe l ⟨v',he,ho,H⟩=>⟨v',he,E3 ho,H⟩
  have aV:Hid (∀(i:Nat),i<N->∀W v1 q,jB W v1 ((dY g).getD i [])->qL W q (gA s i)->Calls prog 78 #[v1,q] W λe l=>e= .returned (.bool<|nH s i)/\Below W.heap.size W l):=λi I W v1 q h1 Z=>by
   have u:i<(aR s 0 0).length:=(by rw[<-G,<-K];exact I);have h3:=((look_ok dS.out).2.2 i u).2;have h4:=apj dS.out i u;rw[<-G]at h3 h4;rw[xN.out i I];exact aqn _ _ v1 q W (by omega) (Qc s i) h1 Z h4
  have aT:Hid (∀(i:Nat),i<N->∀W v1 q,jB W v1 ((dY g).getD i [])->qL W q (gA s i)->Calls prog 80 #[.string<|g.getD i ⟨#[]⟩,v1,q] W λe l=>∃v,e= .returned (.tuple #[v,.int .i64 (eY (eN s i) (gA s i) []).2])/\l.ownsRow W.heap.size 88 3 v (eY (eN s i) (gA s i) []).1.length (bY (eY (eN s i) (gA s i) []).1)/\Below W.heap.size W l):=λi I W v1 q h1 Z=>by
   have u:i<(aR s 0 0).length:=(by rw[<-G,<-K];exact I);obtain⟨h5,h3⟩:=(look_ok dS.out).2.2 i u;have h4:=Mm zM i u;have h6:=(aea dS.out i u).1;have h7:∀j,j<((dY<|aR s 0 0).getD i []).length->(dA 0<|(dY<|aR s 0 0).getD i []).getD j 0<=((aR s 0 0).getD i ⟨#[]⟩).size:=λj hj=>gF<|WN (uw h5) j hj
   rw[<-G]at h3 h4 h6 h7;have:=anF (g.getD i ⟨#[]⟩) ((dY g).getD i []) (gA s i) v1 q W (by omega) (by omega) (Qc s i) h1 Z h7;have e:eN s i=g.getD i ⟨#[]⟩:=(by unfold eN;rw[G]);rw[e]at h6 ⊢;rw[h6]at this;exact this
  have qN:Hid (∀i,i<N->(eY (eN s i) (gA s i) []).1.length<=361200/\∀e∈(eY (eN s i) (gA s i) []).1,0<=e.a/\e.a<=3000):=λi I=>(aea dS.out i<|by rw[<-G,<-K];exact I).2
  have qV:Hid (∀i,i<N->nI s i=gJ (g.take i)/\gJ (g.take<|i+1)=gJ (g.take i)+(g.getD i ⟨#[]⟩).size+1):=λi I=>by
   refine⟨?_,ark g i<|by rw[<-K];exact I⟩;unfold nI;rw[<-G,agk g 0 i<|by rw[<-K];exact I,fZ]
  have YR:Hid (∀W,Calls prog 23 #[.string s] W λe l=>∃v,e= .returned v/\l.ownsRow W.heap.size 9 1 v N (iX g)/\Below W.heap.size W l):=λW=>by
   have:=afv s W (by omega);rw[<-G,<-K]at this;exact this
  clear G K Bd h0 M;go_enter func52,ntmps52;go_wp2_with fail;refine S.mono ?_;clear S;rintro ev y ⟨m,rv,rfl,_,L⟩;have U8:=L (by first|rfl|trivial);have Rz:Hid (zq y (w.heap.size+1) rv<|dY g):=by
   obtain⟨vs,h1,Z⟩:=U8;exact⟨vs,Ek h1<|by simp,λj hj=>Ek (Z j hj)<|by simp⟩
  have pY:Hid (y.heap[w.heap.size]? =some (.cells #[.int .i64 0,.int .i64 0,.int .i64 0] 47 (0,0))):=bq m<|World.alloc_heap_new _ _;have aD:Hid (Below w.heap.size w y):=((aA _ _).alloc (au _) _).trans (m.mono<|by simp);have bb:w.heap.size<y.heap.size:=bS pY.out;have HP:=apH s<|y.alloc (.cells #[.int .i64 0,.int .i64 0,.int .i64 0] 47);rw[aj7]at HP;have xK:Hid _:=HP;have ba:=U8.elim λvs h=>iA h.1
  obtain⟨ra,rc,rfl⟩:=ba;rw[GA.out]at Rz ⊢;clear m L U8 HP;go_wp2_with fail;refine mM xK.out ?_;clear xK;rintro ev Z6 ⟨pv,rfl,aJ,B⟩;have Yz:=ah<|E3 aJ;have aq:Below y.heap.size y Z6:=((aA _ _).alloc (au _) _).trans (B.mono<|by simp);have QI:=ah aq;have YN:Hid (Z6.heap[y.heap.size]? =some (.cells #[.int .i64 0,.int .i64 0,.int .i64 0] 47 (0,0))):=bq B<|World.alloc_heap_new _ _;clear aJ B aq;go_wp2_with fail;refine mM (YR.out _) ?_;clear YR;rintro ev O ⟨lv,rfl,an,r⟩;obtain⟨la,lc,rfl⟩:=iA an;have p5:=ah an;have aN:=ah<|Yz.out.below r;have aI:=ah<|QI.out.trans<|r.mono QI.out.size;have pZ:=ah<|bq aI.out pY.out;have YM:=ah<|bq r YN.out;have gD:=ah<|Rz.out.below aI.out;have bs:y.heap.size<O.heap.size:=bS YM.out;clear an r YN QI Yz pY Rz;go_wp2;go_loopg [9,10,11] N (λgk ov bv gw W=>∃(i:Nat)(f:List Ed),i<=N/\gk=N - i/\gw= .int .i64 i/\bv= .int .i64 (gJ (g.take i):Nat)/\W.ownsRow O.heap.size 88 3 ov f.length (bY f)/\Below O.heap.size O W/\f.length<=AQ i/\xW (nH s) (eN s) (nI s) (fD s) (N - i) i f=Q);exact⟨0,[],by omega,rfl,rfl,by simp[gJ],gQ _ _ _ _,aA _ _,mQ _,GF.out⟩
  rename World=>wa
  obtain⟨i,f,I,rfl,rfl,rfl,x,H,aH,R⟩:=hrel;obtain⟨oa,oc,rfl⟩:=iA x;have HB:=ah H;have aC:=H.size;have p6:=ah aH;clear aH;by_cases o:i<N
  .rw[akb s N i o]at R;have a9:(i:Int)<(N:Int):=(by omega);have aQ:=ah<|aN.out.below H;obtain⟨vs,kZ,yx⟩:=gD.out.below H;rw[GA.out]at kZ yx;obtain⟨rg,rd,aK,bp,_,bk⟩:=nC kZ (by omega);simp only[pJ,oC]at aK;obtain⟨rfl,rfl⟩:=aK;have ak:wa.cell? ⟨rg,i,none⟩=some (vs.getD i undef):=by
    rw[di kZ i<|by omega];have br:vs.length=N:=(by have:=kZ.1;omega);rw[aM<|by omega,aO,aM<|by omega];rfl
   have UQ:=iZ p5.out H;obtain⟨lg,ld,aa,bm,_,bd⟩:=nC UQ (by omega);simp only[pJ,oC]at aa;obtain⟨rfl,rfl⟩:=aa;have a4:lg<O.heap.size:=by
    obtain⟨_,c,h⟩:=pQ p5.out rfl;exact bS h
   have ag:wa.cell? ⟨lg,i,none⟩=some (.string<|g.getD i ⟨#[]⟩):=by
    have a8:i<g.length:=(by rw[<-HN.out];exact o);rw[di UQ i<|by omega];simp[iX,a8]
   have pg:=ah ag;have Zt:=ah<|jB.Mx<|yx i o;have Zv:Hid (∀W q,Below wa.heap.size wa W->qL W q (gA s i)->Calls prog 78 #[vs.getD i undef,q] W λe l=>e= .returned (.bool<|nH s i)/\Below W.heap.size W l):=λW q hW Z=>aV.out i o W _ q (Zt.out.below hW) Z
   have YY:Hid (∀W q,Below wa.heap.size wa W->qL W q (gA s i)->Calls prog 80 #[.string<|g.getD i ⟨#[]⟩,vs.getD i undef,q] W λe l=>∃v,e= .returned (.tuple #[v,.int .i64 (eY (eN s i) (gA s i) []).2])/\l.ownsRow W.heap.size 88 3 v (eY (eN s i) (gA s i) []).1.length (bY (eY (eN s i) (gA s i) []).1)/\Below W.heap.size W l):=λW q hW Z=>aT.out i o W _ q (Zt.out.below hW) Z
   obtain⟨ao,ap⟩:=qN.out i o;obtain⟨av,Va⟩:=qV.out i o;have ar:=ags g i;have a6:=ags g<|i+1;have M:=aW.out;rw[av]at R;have a7:=iA<|yx i o;generalize vs.getD i undef=vi at*;generalize g.getD i ⟨#[]⟩=ln at*;generalize eY (eN s i) (gA s i) []=ME at*;generalize nH s i=ok at*;obtain⟨A,aB⟩:=ac<|gJ<|g.take i;rw[<-aB]at R Va ar ⊢;have bW:=ah Va;have az:A<=400000/\ln.size<=400000:=(by omega);obtain⟨az,bo⟩:=az;have y8:=ah x;have Q8:=ah ao;have YP:=ah ap;have Db:=ah R;clear kZ yx x H UQ av Va ar a6 M aB ao ap R p5;go_wp2_with fail;refine(Y5.out i _ _ aQ.out).mono ?_;rintro e w2 ⟨v',rfl,aw,ad⟩;have a2:=eu ad ak;have QT:=ah aw;have M7:=ah ad;clear aw ad;go_wp2_with fail;refine(Zv.out _ _ M7.out QT.out).mono ?_;rintro e w3 ⟨rfl,r⟩;have U:=ah<|M7.out.trans<|r.mono M7.out.size;have aP:=ah<|QT.out.below r;have a0:=eu U.out ag;have a3:=eu U.out ak;clear r M7 QT a2 ag ak Zv Y5;cases ok
   .simp only[M5,↓reduceIte]at Db;go_wp2
    go_region_with (go_at_call 80;refine(YY.out _ _ (U.out.drew) (aP.out.below<|(aA _ _).drew)).mono ?_;rintro e P ⟨bt,rfl,am,af⟩)
    all_goals
     have cT:Hid (Below wa.heap.size wa P):=U.out.drew.trans (af.mono<|by have:=U.out.size;simpa using this);have HD:=ah am;obtain⟨va,vc,rfl⟩:=iA am;obtain⟨D,z⟩:=ME;simp only at HD Db Q8 YP;have a1:=eu cT.out (show wa.cell? ⟨lg,i,none⟩=some (.string ln)from pg.out);have QJ:=ah<|HB.out.trans<|cT.out.mono aC;have uH:=ah<|iZ y8.out cT.out;have bi:wa.heap.size<=w3.heap.size:=U.out.size;have bj:w3.heap.size<=P.heap.size:=(by have:=af.size;simpa using this);clear am af a0 a3 YY;by_cases E:0<=z
     .have a5:z ≥ 0:=E;rw[aj E]at Db;have R:=Db.out;subst R;have HS:Hid (fE s ([],(i:Int),z)=(3,(i:Int),z)):=(by show _=_;rw[uK.out,ai<|by simp only;omega]);have d:=bq QJ.out pZ.out;have k0:=cell_of d 0;have k1:=cell_of d 1;have k2:=cell_of d 2;simp only[lI,p8,l6]at k0 k1 k2;have f0:=qu P w.heap.size 0 _ _ d;have f1:=qu P w.heap.size 1 _ _ d;have f2:=qu P w.heap.size 2 _ _ d;have T:Hid _:=TH d (.int .i64 3) (.int .i64 (i:Int)) (.int .i64 z);have kL:Hid (Below w.heap.size w P):=aD.out.trans<|(aI.out.trans<|QJ.out.mono<|by omega).mono (by omega);clear d GF tH uK;go_wp2;have q0:=cell_of T.out 0;have q1:=cell_of T.out 1;have q2:=cell_of T.out 2;simp only[lI,p8,l6]at q0 q1 q2;refine cI (v:= .tuple #[.string ⟨#[]⟩,.slice none 0 0,.agg #[.int .i64 3,.int .i64 (i:Int),.int .i64 z]]) (by simp only[results,results52];simp[go_sem,q0,q1,q2]) rfl ⟨((kL.out.setCell (au _) _).setCell (au _) _).setCell (au _) _,_,_,by rw[Ew,HS.out],λ_=>⟨rfl,rfl⟩,λh=> ?_⟩;rw[HS.out]at h;simp at h
     .have a5:¬z ≥ 0:=E;rw[ai E]at Db;have Fm:RL O.heap.size P (.slice va D.length vc) (.slice oa f.length oc) f P:=by
       refine⟨aA _ _,uH.out,λk hk=> ?_,by omega⟩;obtain⟨e1,c,e2⟩:=pQ HD.out hk;refine⟨λe=> ?_,rfl,bS e2⟩;obtain⟨_,c',e3⟩:=pQ y8.out e;have:=bS e3;simp at e1;omega
      obtain⟨n,hn⟩:=ac D.length;have YA:Hid (P.ownsRow w3.drew.heap.size 88 3 (.slice va n vc) n<|bY D):=(by rw[hn];exact HD.out);rw[<-hn]at Fm Q8 ⊢;have Ru:=ah Fm;have cN:=ah hn;have aF:n<=361200:=Q8.out;have Ri:=alO<|ai0 o (by omega) p6.out aF;clear hn Fm HD;go_wp2;go_loopg [9,16] n (λgk ov kv Wx=>∃k:Nat,k<=n/\gk=n - k/\kv= .int .i64 k/\RL O.heap.size P (.slice va n vc) ov (f++(D.take k).map (pU A)) Wx);exact⟨0,by omega,rfl,rfl,by simpa using Ru.out⟩
      rename World=>wx
      obtain⟨k,hk,rfl,rfl,J⟩:=hrel;obtain⟨ua,uc,rfl⟩:=iA J.own;obtain⟨lx,C⟩:=ac<|f++(D.take k).map (pU A);rw[<-C]at J ⊢;have S:=ah J;have bc:=ah C;by_cases a':k<n
      .have al:k<D.length:=(by rw[<-cN.out];exact a');have Ie:(k:Int)<(n:Int):=(by omega);obtain⟨vg,c2,e1,Pw,_,_⟩:=nC YA.out (by omega);simp only[pJ,oC]at e1;obtain⟨rfl,rfl⟩:=e1;obtain⟨r1,r2,r4⟩:=J.row vg rfl;obtain⟨x0,x1,x2⟩:=KE YA.out k al;simp only[fZ]at x0 x1 x2;rw[<-AV r2]at x0 x1 x2;obtain⟨Ic,UB⟩:=YP.out _ (pF al);have aL:D.take (k+1)=D.take k++[D[k]]:=pG al;have bn:lx.length<=300000000:=by
        rw[C];have:=Ri.out;simp only[bH,ja,r9];omega
       have tJ:Hid (f++(D.take<|k+1).map (pU A)=lx++[⟨D[k].a+(A:Int),D[k].c,D[k].n⟩]):=by
        show _=_;rw[aL,fB,<-dO,C];rfl
       generalize D[k]=e at*;obtain⟨V,X,Y⟩:=e;simp only at x0 x1 x2 Ic UB;have be:=J.sz;have own:=J.own;clear aL r1 r2 r4 J C;have nw:=Mr (wx.alloc (.cells #[.int .i64<|V+(A:Int),.int .i64 X,.string Y] 88)) (.int .i64<|V+(A:Int)) (.int .i64 X) (.string Y) 88;rw[show(wx.alloc (.cells #[.int .i64<|V+(A:Int),.int .i64 X,.string Y] 88)).heap.size=wx.heap.size+1 by simp]at nw;go_wp2_with(at_builtin;refine iM _ rfl _ _ 27 rfl O.heap.size 88 iB _ 3 32 underlying27 UJ Vh Vi Vj rfl (by decide) _ _ _ rfl ((own.alloc _).alloc _) ⟨wx.heap.size+1,0,none⟩ 1 1 [.int .i64<|V+(A:Int),.int .i64 X,.string Y] rfl rfl nw (by simp[Value.oneCell']) (by unfold maxLen;omega) (by omega) (by simp;omega) ?_);intro u' W9 ho hg _ ay;have b9:Below wx.heap.size wx ((wx.alloc (.cells #[.int .i64<|V+(A:Int),.int .i64 X,.string Y] 88)).alloc (.cells #[.int .i64<|V+(A:Int),.int .i64 X,.string Y] 88)):=((aA _ _).alloc (au _) _).alloc (by simp) _;have ax:=S.out.step (l':=lx++[⟨V+(A:Int),X,Y⟩]) b9 hg (by rw[bH];rw[show bY (lx++[⟨V+(A:Int),X,Y⟩])=bY lx++[.int .i64<|V+(A:Int),.int .i64 X,.string Y]by simp[bY,KD]];exact ho) (by simpa using ay);have QV:=ah ax;clear ho hg ay b9 own nw ax;go_wp2;go_roundg (n - (k+1));exact⟨k+1,by omega,rfl,by go_num,by rw[tJ.out];exact QV.out⟩;omega
      .obtain rfl:k=n:=(by omega);have Ie:¬(k:Int)<(k:Int):=(by omega);have aU:=ah J.own;have QK:=ah<|QJ.out.trans J.be;have bh:wx.cell? ⟨lg,i,none⟩=some (.string ln):=(J.be.cell (p:=⟨lg,i,none⟩) a4).trans a1;have ZB:Hid (lx=f++D.map (pU A)):=by
        show _=_;rw[C,ku<|by rw[<-cN.out];exact au _]
       have aS:Hid (lx.length<=AQ (i+1)):=by
        show _<=_;rw[ZB.out,bH,ja,<-cN.out];exact aiZ i p6.out aF
       clear J C;go_wp2;go_roundg (N - (i+1));exact⟨i+1,lx,by omega,rfl,by go_num,by rw[bW.out];go_num,aU.out,QK.out,aS.out,by rw[ZB.out];exact Db.out⟩;omega
   .simp only[↓reduceIte]at Db;have aX:Hid _:=iZ y8.out U.out;have aZ:=ah<|HB.out.trans<|U.out.mono aC;clear U;go_wp2;go_roundg (N - (i+1));exact⟨i+1,f,by omega,rfl,by go_num,by rw[bW.out];go_num,aX.out,aZ.out,bP p6.out<|ai1 i,Db.out⟩;omega
  .obtain rfl:i=N:=(by omega);have a9:¬(i:Int)<(i:Int):=(by omega);rw[oK,xW]at R;subst R;have HS:Hid (fE s (f,(-1:Int),(-1:Int))=(0,0,0)):=(by show _=_;rw[uK.out,aj rfl]);obtain⟨m,B,_⟩:=tH.out;simp only at m B;have d:=bq H pZ.out;have Ll:=bq H YM.out;have k0:=cell_of d 0;have k1:=cell_of d 1;have k2:=cell_of d 2;have l0:=cell_of Ll 0;have l1:=cell_of Ll 1;have l2:=cell_of Ll 2;simp only[lI,p8,l6]at k0 k1 k2 l0 l1 l2;have f0:=qu wa w.heap.size 0 _ _ d;have f1:=qu wa w.heap.size 1 _ _ d;have f2:=qu wa w.heap.size 2 _ _ d;have xD:Hid (∀W,W.ownsRow O.heap.size 88 3 (.slice oa f.length oc) f.length (bY f)->Calls prog 53 #[.string s,.slice oa f.length oc] W λe l=>e= .returned (.string<|qg s f)/\Below W.heap.size W l):=λW hW=>apD s f _ O.heap.size f.length W rfl hW (by omega) B
   have y8:=ah x;have kL:Hid (Below w.heap.size w wa):=aD.out.trans<|(aI.out.trans<|H.mono<|by omega).mono (by omega);have Dg:Hid (wa.heap[w.heap.size]? =some (.cells #[.int .i64 0,.int .i64 0,.int .i64 0] 47 (0,0))/\wa.heap[y.heap.size]? =some (.cells #[.int .i64 0,.int .i64 0,.int .i64 0] 47 (0,0))):=⟨d,Ll⟩
   obtain⟨n,hn⟩:=ac f.length;have cN:=ah hn;rw[<-hn]at xD y8 ⊢;clear hn;clear x H d Ll GF tH uK B;go_wp2;have aY:Hid (Calls prog 53 #[.string s,.slice oa n oc] wa.drew λe l=>e= .returned (.string<|qg s f)/\Below wa.heap.size wa l):=(xD.out wa.drew y8.out).mono λe l h=>⟨h.1,(show Below wa.heap.size wa wa.drew from(aA _ _).drew).trans h.2⟩
   go_region_with (go_at_call 53;refine aY.out.mono ?_;rintro e w5 ⟨rfl,F⟩;have j0:=eu F k0;have j1:=eu F k1;have j2:=eu F k2;have m0:=eu F l0;have m1:=eu F l1;have m2:=eu F l2;have g0:=qu w5 w.heap.size 0 _ _ (bq F Dg.out.1);have g1:=qu w5 w.heap.size 1 _ _ (bq F Dg.out.1);have g2:=qu w5 w.heap.size 2 _ _ (bq F Dg.out.1))
   all_goals
    have T:Hid _:=TH (bq F Dg.out.1) (.int .i64 0) (.int .i64 0) (.int .i64 0);have kM:Hid _:=iZ y8.out F;have bG:=ah<|kL.out.trans<|F.mono kL.out.size;clear F;go_wp2;have q0:=cell_of T.out 0;have q1:=cell_of T.out 1;have q2:=cell_of T.out 2;simp only[lI,p8,l6]at q0 q1 q2;refine cI (v:= .tuple #[.string<|qg s f,.slice oa n oc,.agg #[.int .i64 0,.int .i64 0,.int .i64 0]]) (by simp only[results,results52];simp[go_sem,q0,q1,q2]) rfl ⟨((bG.out.setCell (au _) _).setCell (au _) _).setCell (au _) _,_,_,by rw[Ew,HS.out],λh=> ?_,λ_=>⟨rfl,?_⟩⟩
    .rw[HS.out]at h;exact absurd rfl h
    .show World.ownsRow _ _ _ _ _ f.length _;rw[<-cN.out];exact Ek (vD (vD (vD kM.out (by simp;omega) _) (by simp;omega) _) (by simp;omega) _)<|by omega
 .have bl:=ae hE;have bf:(F1 !=0)=true:=by simpa using hE
  have HS:Hid (fE s (eV s)=(F1,F2,F3)):=by
   show _=_;unfold fE;rw[HF.out,aj hE]
  go_enter func52,ntmps52;go_wp2_with fail;refine S.mono ?_;clear S;rintro ev y ⟨m,v,rfl,ab,_⟩;have LY:=ab hE;subst LY;have d:=bq m<|World.alloc_heap_new _ _;have k0:=cell_of d 0;have k1:=cell_of d 1;have k2:=cell_of d 2;simp only[lI,p8,l6]at k0 k1 k2;have f0:=qu y w.heap.size 0 _ _ d;have f1:=qu y w.heap.size 1 _ _ d;have f2:=qu y w.heap.size 2 _ _ d;have aD:Hid (Below w.heap.size w y):=((aA _ _).alloc (au _) _).trans (m.mono<|by simp);have bb:w.heap.size<y.heap.size:=bS d;have HE:=ah hE;have T:Hid _:=ak2 d (.int .i64 F1) (.int .i64 F2) (.int .i64 F3) (.cells #[.int .i64 F1,.int .i64 F2,.int .i64 F3] 47);clear m ab d hE;go_wp2;go_region;go_wp2;obtain⟨q0,q1,q2⟩:=T.out;refine cI (v:= .tuple #[.string ⟨#[]⟩,.slice none 0 0,.agg #[.int .i64 F1,.int .i64 F2,.int .i64 F3]]) (by simp only[results,results52];simp[go_sem,q0,q1,q2]) rfl ⟨((((aD.out.setCell (au _) _).setCell (au _) _).setCell (au _) _).alloc (by simp;omega) _).drew,_,_,by rw[Ew,HS.out],λ_=>⟨rfl,rfl⟩,λh=> ?_⟩;rw[HS.out]at h;exact absurd h HE.out
