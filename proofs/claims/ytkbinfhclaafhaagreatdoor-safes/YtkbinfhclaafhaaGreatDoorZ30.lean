import Derived.Test.YtkbinfhclaafhaaGreatDoorZ29
import Derived.BigQuiet
import Derived.Test.YtkbinfhclaafhaaGreatDoorZ20
import Derived.Test.YtkbinfhclaafhaaGreatDoorZ19
import Derived.Test.YtkbinfhclaafhaaGreatDoorCards
import Derived.Test.YtkbinfhclaafhaaGreatDoorTie
import Derived.ProofKit
import Derived.OpenShut
import Derived.LaidMore
import Derived.LaidLaws
import Derived.LaidHandle
import Derived.LaidSub
import Derived.Lib.SmallJoins
import Derived.Deep.Slices
import Derived.Deep.Strs
import Derived.Stop.Joined
import Derived.SizedLaws
import Derived.Test.YtkbinfhclaafhaaGreatDoorRows
import Derived.Test.YtkbinfhclaafhaaGreatDoorShelfC
import Derived.Lib.LaidCaseMet
import Derived.PinnedBridge
import Derived.Lib.LaidIn
import Derived.Lib.LaidU8T
import Derived.Deep.DeepLaidRun
import Derived.Test.YtkbinfhclaafhaaGreatDoorZ10
import Derived.Lib.LaidU8
import Derived.Test.YtkbinfhclaafhaaGreatDoorZ23
import Derived.HandedShaped
import Derived.Shelf.Vars
namespace Go.Proofs.YtkbinfhclaafhaaGreatDoor
open Go.RowKit
open Go.Proofs.Tryz
set_option maxRecDepth 100000
set_option maxHeartbeats 32000000
set_option linter.all false
section
open Go.RowKit Go.Extern.Stop Go.Stop Go.Extern
theorem Tryz.afT:(prog.info? 92).map (·.comparable)=some true:=by kernel_rfl
theorem Tryz.ami:(prog.info? 96).map (·.size)=some 3:=by kernel_rfl
theorem Tryz.ajm(a:Addr)(w:World):(binOp .neq 53 (.iface 354 (.pointer (some a))) (.iface 354 (.pointer (some a)))).run prog w= .ok (.bool false) w:=by
 obtain⟨i,hi,hcmp⟩:=wT.1 Tryz.G9;obtain⟨j,hj,_⟩:=wT.1 Tryz.JU;simp only [binOp];simp [Op.equal,Op.maxDepth,alx w 9998 a underlying53 underlying354 hi hcmp hj]
theorem Tryz.ajn(a:Addr)(w:World):(binOp .neq 53 (.iface 92 (.pointer (some a))) (.iface 92 (.pointer (some a)))).run prog w= .ok (.bool false) w:=by
 obtain⟨i,hi,hcmp⟩:=wT.1 Tryz.afT;obtain⟨j,hj,_⟩:=wT.1 Tryz.ami;simp only [binOp];simp [Op.equal,Op.maxDepth,alx w 9998 a underlying53 underlying92 hi hcmp hj]
theorem aex(w:World)(a b c:Obj):(((w.alloc a).alloc b).alloc c).heap[w.heap.size]? =some a/\(((w.alloc a).alloc b).alloc c).heap[w.heap.size+1]? =some b/\(((w.alloc a).alloc b).alloc c).heap[w.heap.size+1+1]? =some c:=by
 have s1:(w.alloc a).heap.size=w.heap.size+1:=by simp
 have s2:((w.alloc a).alloc b).heap.size=w.heap.size+1+1:=by simp
 have n1:(w.alloc a).heap[w.heap.size]? =some a:=World.alloc_heap_new w a;have n2:((w.alloc a).alloc b).heap[w.heap.size+1]? =some b:=by have:=World.alloc_heap_new (w.alloc a) b;rw [s1]at this;exact this
 have n3:(((w.alloc a).alloc b).alloc c).heap[w.heap.size+1+1]? =some c:=by have:=World.alloc_heap_new ((w.alloc a).alloc b) c;rw [s2]at this;exact this
 exact⟨(dM _ _ _ (by omega)).trans ((dM _ _ _ (by omega)).trans n1),(dM _ _ _ (by omega)).trans n2,n3⟩
theorem PC(b:Nat)(ln at':Int)(w:World)(aL aT aC aX:Addr)(n:Int)(hX:aL=aX/\n=1∨aT=aX/\n=2∨aC=aX/\n=3)(hE:Env w aL aT aC)(hb:w.heap[b]? =some (.cells #[.int .i64 ln,.int .i64 at',.iface 354 (.pointer (some aX))] 96 (0,0))):
  Calls prog 36 #[.iface 92 (.pointer (some ⟨b,0,none⟩))] w fun e w'=>e= .returned (.agg #[.int .i64 n,.int .i64 ln,.int .i64 at'])/\Below w.heap.size w w':=by
 have HX:=ah hX;have HE:=ah hE;have Cz:=ah hb;have hbl:=eO hb;clear hE hb hX;go_enter func36,ntmps36;go_wp2_with fail;obtain⟨q0,q1,q2⟩:=aex w (.cells #[.int .i64 0,.int .i64 0,.int .i64 0] 33) (.cells #[.int .i64 4,.int .i64 (-1),.int .i64 (-1)] 33) (.cells #[.pointer none] 92);have B3:Below w.heap.size w (((w.alloc (.cells #[.int .i64 0,.int .i64 0,.int .i64 0] 33)).alloc (.cells #[.int .i64 4,.int .i64 (-1),.int .i64 (-1)] 33)).alloc (.cells #[.pointer none] 92)):=(((aA _ _).alloc (ay _) _).alloc (by simp) _).alloc (by simp;omega) _;refine(aeG _ _ _ (.pointer none) ?_ ?_ ?_ ?_).mono ?_
 .exact az q2 0
 .exact cH q2 0
 .exact eO q2
 .exact(HE.out.below B3).Lu
 rintro e w1 ⟨rfl,W',hW,rfl⟩;have k0:=cB hW q0;have k1:=cB hW q1;have k2:=cB hW q2;have kb:=cB hW (cB B3 Cz.out);have B4:Below w.heap.size w W':=B3.trans (hW.mono (by simp;omega));have g6:W'.grownBy (W'.setCell ⟨w.heap.size+1+1,0,none⟩ (.pointer (some ⟨b,0,none⟩))) (some (w.heap.size+1+1)):=Tn _ _ _ _;have aG:Hid (Below w.heap.size w (W'.setCell ⟨w.heap.size+1+1,0,none⟩ (.pointer (some ⟨b,0,none⟩)))):=B4.setCell (by simp;omega) _;have j0:=(g6.block _ (eO k0) (fun e=>by have:=aK e;omega)).trans k0;have j1:=(g6.block _ (eO k1) (fun e=>by have:=aK e;omega)).trans k1;have jb:=(g6.block _ (eO kb) (fun e=>by have:=aK e;omega)).trans kb;have j2:(W'.setCell ⟨w.heap.size+1+1,0,none⟩ (.pointer (some ⟨b,0,none⟩))).heap[w.heap.size+1+1]? =some (.cells #[.pointer (some ⟨b,0,none⟩)] 92 (0,0)):=by rw [fK k2];rfl
 clear q0 q1 q2 B3 hW k0 k1 k2 kb B4 g6;generalize W'.setCell ⟨w.heap.size+1+1,0,none⟩ (.pointer (some ⟨b,0,none⟩))=w1 at*;have l0:w1.cell? ⟨w.heap.size+1+1,0,none⟩=some (.pointer (some ⟨b,0,none⟩)):=az j2 0;have b0:w1.cell? ⟨b,0,none⟩=some (.int .i64 ln):=az jb 0;have b1:w1.cell? ⟨b,1,none⟩=some (.int .i64 at'):=az jb 1;have b2:w1.cell? ⟨b,2,none⟩=some (.iface 354 (.pointer (some aX))):=az jb 2;have f1:w1.cell? ⟨w.heap.size+1,1,none⟩=some (.int .i64 (-1)):=az j1 1;have f2:w1.cell? ⟨w.heap.size+1,2,none⟩=some (.int .i64 (-1)):=az j1 2;have z1:w1.frozen? ⟨w.heap.size+1,1,none⟩=false:=cH j1 1;have z2:w1.frozen? ⟨w.heap.size+1,2,none⟩=false:=cH j1 2;have HJ:Hid (w1.heap[w.heap.size]? =some (.cells #[.int .i64 0,.int .i64 0,.int .i64 0] 33 (0,0))/\w1.heap[w.heap.size+1]? =some (.cells #[.int .i64 4,.int .i64 (-1),.int .i64 (-1)] 33 (0,0))/\w1.heap[w.heap.size+1+1]? =some (.cells #[.pointer (some ⟨b,0,none⟩)] 92 (0,0))/\w1.heap[b]? =some (.cells #[.int .i64 ln,.int .i64 at',.iface 354 (.pointer (some aX))] 96 (0,0))):=⟨j0,j1,j2,jb⟩
 have n1:b≠w.heap.size+1:=by omega
 have n2:¬(w.heap.size+1=b):=by omega
 have n3:¬(b=w.heap.size+1):=by omega
 clear j0 j1 j2 jb;generalize hz:w.heap.size=z at*;have HZ:=ah hz;clear hz;go_wp2
 go_region_held3 (fun w'=>w'.cell? ⟨z+1+1,0,none⟩=some (.pointer (some ⟨b,0,none⟩))/\w'.cell? ⟨b,0,none⟩=some (.int .i64 ln)/\w'.cell? ⟨b,1,none⟩=some (.int .i64 at')) (go_keep) (fail)
 obtain⟨j0,j1,j2,jb⟩:=HJ.out;have i0:((w1.setCell ⟨z+1,1,none⟩ (.int .i64 ln)).setCell ⟨z+1,2,none⟩ (.int .i64 at')).drew.heap[z]? =some (.cells #[.int .i64 0,.int .i64 0,.int .i64 0] 33 (0,0)):=(gK _ _ _ _ (by show z≠z+1;omega)).trans ((gK _ _ _ _ (by show z≠z+1;omega)).trans j0);have i2:((w1.setCell ⟨z+1,1,none⟩ (.int .i64 ln)).setCell ⟨z+1,2,none⟩ (.int .i64 at')).drew.heap[z+1+1]? =some (.cells #[.pointer (some ⟨b,0,none⟩)] 92 (0,0)):=(gK _ _ _ _ (by show z+1+1≠z+1;omega)).trans ((gK _ _ _ _ (by show z+1+1≠z+1;omega)).trans j2);have ib:((w1.setCell ⟨z+1,1,none⟩ (.int .i64 ln)).setCell ⟨z+1,2,none⟩ (.int .i64 at')).drew.heap[b]? =some (.cells #[.int .i64 ln,.int .i64 at',.iface 354 (.pointer (some aX))] 96 (0,0)):=(gK _ _ _ _ n1).trans ((gK _ _ _ _ n1).trans jb);have i1:((w1.setCell ⟨z+1,1,none⟩ (.int .i64 ln)).setCell ⟨z+1,2,none⟩ (.int .i64 at')).drew.heap[z+1]? =some (.cells #[.int .i64 4,.int .i64 ln,.int .i64 at'] 33 (0,0)):=by
  show((w1.setCell ⟨z+1,1,none⟩ (.int .i64 ln)).setCell ⟨z+1,2,none⟩ (.int .i64 at')).heap[z+1]? =_;have e1:(w1.setCell ⟨z+1,1,none⟩ (.int .i64 ln)).heap[z+1]? =some (.cells #[.int .i64 4,.int .i64 ln,.int .i64 (-1)] 33 (0,0)):=by rw [fK j1];rfl
  rw [fK e1];rfl
 have aJ:Hid (Below z w ((w1.setCell ⟨z+1,1,none⟩ (.int .i64 ln)).setCell ⟨z+1,2,none⟩ (.int .i64 at')).drew):=((aG.out.setCell (kM _) _).setCell (kM _) _).drew;clear HJ aG j0 j1 j2 jb b0 b1 b2 l0 f1 f2 z1 z2;generalize((w1.setCell ⟨z+1,1,none⟩ (.int .i64 ln)).setCell ⟨z+1,2,none⟩ (.int .i64 at')).drew=w2 at*;have l0:w2.cell? ⟨z+1+1,0,none⟩=some (.pointer (some ⟨b,0,none⟩)):=az i2 0;have b2:w2.cell? ⟨b,2,none⟩=some (.iface 354 (.pointer (some aX))):=az ib 2;have HU:Hid (∀n,Calls prog 57 #[.pointer (some ⟨b,0,none⟩)] (w2.drewN n) fun e w'=>e= .returned (.iface 354 (.pointer (some aX)))/\w'=w2.drewN n):=fun n=>ac4 b _ _ _ (w2.drewN n) ib
 have HI:Hid (w2.heap[z]? =some (.cells #[.int .i64 0,.int .i64 0,.int .i64 0] 33 (0,0))/\w2.heap[z+1]? =some (.cells #[.int .i64 4,.int .i64 ln,.int .i64 at'] 33 (0,0))/\w2.heap[b]? =some (.cells #[.int .i64 ln,.int .i64 at',.iface 354 (.pointer (some aX))] 96 (0,0))):=⟨i0,i1,ib⟩
 have m1:=Tryz.ajm;have m2:=Tryz.ajn;clear i0 i1 i2 ib;go_wp2_with fail;go_quiet(first|(go_at_call 57;refine Cx (HU.out _)));have HL:Hid (∀W,Below z w W->W.heap[b]? =some (.cells #[.int .i64 ln,.int .i64 at',.iface 354 (.pointer (some aX))] 96 (0,0))/\Env W aL aT aC):=fun W hW=>by
  rw [<-HZ.out]at hW;exact⟨cB hW Cz.out,HE.out.below hW⟩
 have i0:(w2.drewN nq).heap[z]? =some (.cells #[.int .i64 0,.int .i64 0,.int .i64 0] 33 (0,0)):=HI.out.1;have i1:(w2.drewN nq).heap[z+1]? =some (.cells #[.int .i64 4,.int .i64 ln,.int .i64 at'] 33 (0,0)):=HI.out.2.1;have aI:Hid (Below z w (w2.drewN nq)):=aJ.out.trans ⟨rfl,rfl,rfl,ay _,fun _ _=>rfl⟩;clear HU HI aJ l0 b2;generalize w2.drewN nq=w3 at*;have h0:z<w3.heap.size:=eO i0;have h1:z+1<w3.heap.size:=eO i1;have hl:=(HL.out w3 aI.out).2.long;have ht:=(HL.out w3 aI.out).2.text;have EY:=(HL.out w3 aI.out).2.code;have r0:w3.cell? ⟨z,0,none⟩=some (.int .i64 0):=az i0 0;have r1:w3.cell? ⟨z,1,none⟩=some (.int .i64 0):=az i0 1;have r2:w3.cell? ⟨z,2,none⟩=some (.int .i64 0):=az i0 2;have s0:w3.frozen? ⟨z,0,none⟩=false:=cH i0 0;have s1:w3.frozen? ⟨z,1,none⟩=false:=cH i0 1;have s2:w3.frozen? ⟨z,2,none⟩=false:=cH i0 2;have f0:w3.cell? ⟨z+1,0,none⟩=some (.int .i64 4):=az i1 0;have f1:w3.cell? ⟨z+1,1,none⟩=some (.int .i64 ln):=az i1 1;have f2:w3.cell? ⟨z+1,2,none⟩=some (.int .i64 at'):=az i1 2;have g0:w3.frozen? ⟨z+1,0,none⟩=false:=cH i1 0;clear i0 i1;go_wp2;refine dw 4 ?_;rcases HX.out with⟨rfl,rfl⟩|⟨rfl,rfl⟩|⟨rfl,rfl⟩
 .rw [aY];go_wp2_with fail;refine(Rt b (.int .i64 ln) (.int .i64 at') aL _ ?_).mono ?_
  .exact(HL.out _ (aI.out.alloc (by omega) _)).1
  rintro e wq0 ⟨rfl,rfl⟩;go_wp2;rw [aY];go_wp2_with fail;refine(Fe b (.int .i64 ln) (.int .i64 at') aL aT _ ?_ HE.out.Fm ?_ ?_).mono ?_
  .exact(HL.out _ ((aI.out.setCell (kM _) _).alloc (by simp;omega) _)).1
  .exact(HL.out _ ((aI.out.setCell (kM _) _).alloc (by simp;omega) _)).2.yJ
  .exact(HL.out _ ((aI.out.setCell (kM _) _).alloc (by simp;omega) _)).2.yK
  rintro e wq1 ⟨rfl,rfl⟩;go_wp2;rw [aY];go_wp2_with fail;refine(Fe b (.int .i64 ln) (.int .i64 at') aL aC _ ?_ HE.out.Fl ?_ ?_).mono ?_
  .exact(HL.out _ ((aI.out.setCell (kM _) _).alloc (by simp;omega) _)).1
  .exact(HL.out _ ((aI.out.setCell (kM _) _).alloc (by simp;omega) _)).2.yJ
  .exact(HL.out _ ((aI.out.setCell (kM _) _).alloc (by simp;omega) _)).2.yI
  rintro e wq2 ⟨rfl,rfl⟩;go_wp2;rw [aY];go_wp2;refine cG (v:= .agg #[.int .i64 1,.int .i64 ln,.int .i64 at']) (by simp [results,results36,go_sem,r0,r1,r2,h0]) rfl ⟨rfl,?_⟩;rw [HZ.out];exact((((aI.out.setCell (kM _) _).setCell (ay _) _).setCell (ay _) _).setCell (ay _) _).alloc (by simp;omega) _
 .rw [aY];go_wp2_with fail;refine(Fe b (.int .i64 ln) (.int .i64 at') aT aL _ ?_ HE.out.Fm.symm ?_ ?_).mono ?_
  .exact(HL.out _ (aI.out.alloc (by omega) _)).1
  .exact(HL.out _ (aI.out.alloc (by omega) _)).2.yK
  .exact(HL.out _ (aI.out.alloc (by omega) _)).2.yJ
  rintro e wq0 ⟨rfl,rfl⟩;go_wp2;rw [aY];go_wp2_with fail;refine(Rt b (.int .i64 ln) (.int .i64 at') aT _ ?_).mono ?_
  .exact(HL.out _ (aI.out.alloc (by omega) _)).1
  rintro e wq1 ⟨rfl,rfl⟩;go_wp2;rw [aY];go_wp2_with fail;refine(Fe b (.int .i64 ln) (.int .i64 at') aT aC _ ?_ HE.out.Fp ?_ ?_).mono ?_
  .exact(HL.out _ ((aI.out.setCell (kM _) _).alloc (by simp;omega) _)).1
  .exact(HL.out _ ((aI.out.setCell (kM _) _).alloc (by simp;omega) _)).2.yK
  .exact(HL.out _ ((aI.out.setCell (kM _) _).alloc (by simp;omega) _)).2.yI
  rintro e wq2 ⟨rfl,rfl⟩;go_wp2;rw [aY];go_wp2;refine cG (v:= .agg #[.int .i64 2,.int .i64 ln,.int .i64 at']) (by simp [results,results36,go_sem,r0,r1,r2,h0]) rfl ⟨rfl,?_⟩;rw [HZ.out];exact((((aI.out.setCell (kM _) _).setCell (ay _) _).setCell (ay _) _).setCell (ay _) _).alloc (by simp;omega) _
 .rw [aY];go_wp2_with fail;refine(Fe b (.int .i64 ln) (.int .i64 at') aC aL _ ?_ HE.out.Fl.symm ?_ ?_).mono ?_
  .exact(HL.out _ (aI.out.alloc (by omega) _)).1
  .exact(HL.out _ (aI.out.alloc (by omega) _)).2.yI
  .exact(HL.out _ (aI.out.alloc (by omega) _)).2.yJ
  rintro e wq0 ⟨rfl,rfl⟩;go_wp2;rw [aY];go_wp2_with fail;refine(Fe b (.int .i64 ln) (.int .i64 at') aC aT _ ?_ HE.out.Fp.symm ?_ ?_).mono ?_
  .exact(HL.out _ (aI.out.alloc (by omega) _)).1
  .exact(HL.out _ (aI.out.alloc (by omega) _)).2.yI
  .exact(HL.out _ (aI.out.alloc (by omega) _)).2.yK
  rintro e wq1 ⟨rfl,rfl⟩;go_wp2;rw [aY];go_wp2_with fail;refine(Rt b (.int .i64 ln) (.int .i64 at') aC _ ?_).mono ?_
  .exact(HL.out _ (aI.out.alloc (by omega) _)).1
  rintro e wq2 ⟨rfl,rfl⟩;go_wp2;rw [aY];go_wp2;refine cG (v:= .agg #[.int .i64 3,.int .i64 ln,.int .i64 at']) (by simp [results,results36,go_sem,r0,r1,r2,h0]) rfl ⟨rfl,?_⟩;rw [HZ.out];exact((((aI.out.setCell (kM _) _).setCell (ay _) _).setCell (ay _) _).setCell (ay _) _).alloc (by simp;omega) _
theorem agK(b:Nat)(ln at' e:Int)(he:e=1∨e=2∨e=3)(w:World)(aL aT aC:Addr)(hE:Env w aL aT aC)(hb:w.heap[b]? =some (.cells #[.int .i64 ln,.int .i64 at',Hr e aL aT aC] 96 (0,0))):
  Calls prog 36 #[.iface 92 (.pointer (some ⟨b,0,none⟩))] w fun ev w'=>ev= .returned (.agg #[.int .i64 e,.int .i64 ln,.int .i64 at'])/\Below w.heap.size w w':=by
 rcases he with rfl|rfl|rfl
 .exact PC b ln at' w aL aT aC aL 1 (.inl ⟨rfl,rfl⟩) hE hb
 .exact PC b ln at' w aL aT aC aT 2 (.inr (.inl ⟨rfl,rfl⟩)) hE hb
 .exact PC b ln at' w aL aT aC aC 3 (.inr (.inr ⟨rfl,rfl⟩)) hE hb
end
theorem agL(ev:Value)(B:Nat)(f:Int×Int×Int)(w:World)(aL aT aC:Addr)(hE:Env w aL aT aC)(h:J9 w B ev f aL aT aC):
  Calls prog 36 #[ev] w fun e w'=>e= .returned (.agg #[.int .i64 f.1,.int .i64 f.2.1,.int .i64 f.2.2])/\Below w.heap.size w w':=by
 rcases h with⟨rfl,rfl⟩|⟨rfl,rfl⟩|⟨b,e,ln,at',rfl,hb,_,rfl,he⟩
 .exact Xz 0 (by omega) w aL aT aC hE
 .exact Xz 1 (by omega) w aL aT aC hE
 .exact agK b ln at' e he w aL aT aC hE hb
theorem aku(s:ByteArray)(w:World)(aL aT aC:Addr)(hE:Env w aL aT aC)(hBr:Br w)(hM:zY w)(env:nL w)(h20:10<=w.heap.size):
  Calls prog 22 #[.string s] w fun e w'=>∃v,e= .returned (.tuple #[v,AB s])/\((dS s).1≠0->v= .slice none 0 0)/\((dS s).1=0->w'.ownsRow w.heap.size 4 1 v (fA s).length (lD (fA s)))/\Below w.heap.size w w':=by
 have HE:=ah hE;have HG:Hid (∀W,Below w.heap.size w W->Calls prog 39 #[.string s] W fun e w'=>∃v ev,e= .returned (.tuple #[v,ev])/\J9 w' W.heap.size ev (dS s) aL aT aC/\((dS s).1≠0->v= .slice none 0 0)/\((dS s).1=0->w'.ownsRow W.heap.size 4 1 v (fA s).length (lD (fA s)))/\Below W.heap.size W w'):=fun W hW=>ag7 s W aL aT aC (hE.below hW) (hBr.below hW) (hM.below hW) (env.below h20 hW) (bU h20 hW.size)
 clear hE hBr hM env h20;go_enter func22,ntmps22;go_wp2_with fail;have hb0:∀o:Obj,Below w.heap.size w (w.alloc o):=fun o=>(aA _ _).alloc (ay _) o
 refine(HG.out _ (hb0 _)).mono ?_;rintro e w1 ⟨v,ev,rfl,xw,hnil,hsl,hb1⟩;have pz:Below w.heap.size w w1:=(hb0 _).trans (hb1.mono (by simp));have HF:Hid _:=agL ev _ (dS s) w1 aL aT aC (HE.out.below pz) xw;have k0:w1.cell? ⟨w.heap.size,0,none⟩=some (.int .i64 0):=by rw [hb1.cell (p:=⟨w.heap.size,0,none⟩) (by simp)];go_simp
 have k1:w1.cell? ⟨w.heap.size,1,none⟩=some (.int .i64 0):=by rw [hb1.cell (p:=⟨w.heap.size,1,none⟩) (by simp)];go_simp
 have k2:w1.cell? ⟨w.heap.size,2,none⟩=some (.int .i64 0):=by rw [hb1.cell (p:=⟨w.heap.size,2,none⟩) (by simp)];go_simp
 have f0:w1.frozen? ⟨w.heap.size,0,none⟩=false:=by rw [hb1.frozen (p:=⟨w.heap.size,0,none⟩) (by simp)];go_simp
 have f1:w1.frozen? ⟨w.heap.size,1,none⟩=false:=by rw [hb1.frozen (p:=⟨w.heap.size,1,none⟩) (by simp)];go_simp
 have f2:w1.frozen? ⟨w.heap.size,2,none⟩=false:=by rw [hb1.frozen (p:=⟨w.heap.size,2,none⟩) (by simp)];go_simp
 have hz:w.heap.size<w1.heap.size:=by have:=hb1.size;simp at this;omega
 have aG:=ah pz;have HS:Hid ((dS s).1=0->w1.ownsRow (w.heap.size+1) 4 1 v (fA s).length (lD (fA s))):=fun h=>(hsl h).low (by simp)
 have HN:=ah hnil;clear pz hb1 hb0 hsl hnil HG xw;go_wp2_with fail;refine zy HF.out ?_;rintro e w2 ⟨rfl,hb2⟩;obtain⟨F1,F2,F3,hF⟩:∃a b c,dS s=(a,b,c):=⟨_,_,_,rfl⟩
 have HFV:Hid (AB s= .agg #[.int .i64 F1,.int .i64 F2,.int .i64 F3]):=by unfold Hid AB;rw [hF]
 rw [hF];simp only;have j0:w2.cell? ⟨w.heap.size,0,none⟩=some (.int .i64 0):=jf hb2 k0;have j1:w2.cell? ⟨w.heap.size,1,none⟩=some (.int .i64 0):=jf hb2 k1;have j2:w2.cell? ⟨w.heap.size,2,none⟩=some (.int .i64 0):=jf hb2 k2;have g0:w2.frozen? ⟨w.heap.size,0,none⟩=false:=(hb2.frozen (p:=⟨w.heap.size,0,none⟩) hz).trans f0;have g1:w2.frozen? ⟨w.heap.size,1,none⟩=false:=(hb2.frozen (p:=⟨w.heap.size,1,none⟩) hz).trans f1;have g2:w2.frozen? ⟨w.heap.size,2,none⟩=false:=(hb2.frozen (p:=⟨w.heap.size,2,none⟩) hz).trans f2;have aJ:=ah (aG.out.trans (hb2.mono aG.out.size));have cW:Hid ((dS s).1=0->w2.ownsRow (w.heap.size+1) 4 1 v (fA s).length (lD (fA s))):=fun h=>nC (HS.out h) fun k o _ ho=>cB hb2 ho
 clear hF hb2 k0 k1 k2 f0 f1 f2 HF;go_wp2;refine cG (v:= .tuple #[v,.agg #[.int .i64 F1,.int .i64 F2,.int .i64 F3]]) (by simp [results,results22,go_sem,j0,j1,j2]) rfl ⟨v,by rw [HFV.out],HN.out,fun h=> ?_,?_⟩
 .exact ajY (xL (xL (xL (cW.out h) (by simp) _) (by simp) _) (by simp) _)
 .exact((aJ.out.setCell (ay _) _).setCell (ay _) _).setCell (ay _) _
def zx(w:World)(v:Value)(l:List Bool):Prop:=∃x c,v= .slice x l.length c/\(0<l.length->∃g,x=some ⟨g,0,none⟩/\l.length<=c/\∀i,i<l.length->w.cell? ⟨g,i,none⟩=some (.bool (l.getD i false)))
theorem zx.below {w w':World}{v:Value}{l:List Bool}(h:zx w v l)(hb:Below w.heap.size w w'):zx w' v l:=by
 obtain⟨x,c,rfl,hg⟩:=h;exact⟨x,c,rfl,fun hl=>(hg hl).imp fun g ⟨h1,h2,h3⟩=>⟨h1,h2,fun i hi=>jf hb (h3 i hi)⟩⟩
theorem Wf {w:World}{B:Nat}{e:TypeId}{v:Value}{l:List Bool}(h:w.ownsRow B e 1 v l.length (lD l)):zx w v l:=by
 rcases h.2 with⟨rfl,h0⟩|⟨g,cap,cur,rfl,_,_,hc,_⟩
 .exact⟨none,0,by rw [h0],fun hl=>by omega⟩
 .refine⟨_,cap,rfl,fun _=>⟨g,rfl,hc,fun i hi=> ?_⟩⟩;rw [dg h i (by omega)];simp [lD,hi]
theorem ae8(w:World):zx w (.slice none 0 0) []:=⟨none,0,rfl,fun h=>by simp at h⟩
theorem aiM(s:ByteArray)(w:World)(F1 F2 F3:Int)(L:List Bool)(hL:L.length<=1000)(h1:F1≠0->L=[])
  (hP:∀W,Below w.heap.size w W->Calls prog 22 #[.string s] W fun e w'=>∃v,e= .returned (.tuple #[v,.agg #[.int .i64 F1,.int .i64 F2,.int .i64 F3]])/\(F1≠0->v= .slice none 0 0)/\zx w' v L/\Below W.heap.size W w')
  (hR:∀W,Calls prog 51 #[.string s] W fun e w'=>∃v,e= .returned (.tuple #[v,.agg #[.int .i64 F1,.int .i64 F2,.int .i64 F3]])/\(F1≠0->v= .slice none 0 0)/\zx w' v L/\Below W.heap.size W w'):
  Calls prog 32 #[.string s] w fun e w'=>e= .returned (.bool true)/\Below w.heap.size w w':=by
 have HP:=ah hP;have HR:=ah hR;have H1:=ah h1;clear hP hR h1;go_enter func32,ntmps32;go_wp2_with fail;refine zy (HP.out w (aA _ _)) ?_;clear HP;rintro e w1 ⟨v1,rfl,Zr,hs1,hb1⟩;have mS:=ah Zr;have bD:=ah hs1;have aG:=ah hb1;clear Zr hs1 hb1;go_wp2_with fail;refine zy (HR.out _) ?_;clear HR;rintro e w2 ⟨v2,rfl,hn2,hs2,hb2⟩;have hz2:w1.heap.size<w2.heap.size:=by have:=hb2.size;simp at this;omega
 have a0:w2.cell? ⟨w1.heap.size,0,none⟩=some (.int .i64 F1):=by rw [hb2.cell (p:=⟨w1.heap.size,0,none⟩) (by simp)];go_simp
 have a1:w2.cell? ⟨w1.heap.size,1,none⟩=some (.int .i64 F2):=by rw [hb2.cell (p:=⟨w1.heap.size,1,none⟩) (by simp)];go_simp
 have a2:w2.cell? ⟨w1.heap.size,2,none⟩=some (.int .i64 F3):=by rw [hb2.cell (p:=⟨w1.heap.size,2,none⟩) (by simp)];go_simp
 have bq:Below w1.heap.size w1 w2:=((aA _ _).alloc (ay _) _).trans (hb2.mono (by simp));have jB:=ah (bD.out.below bq);have uP:=ah hs2;have aJ:=ah (aG.out.trans (bq.mono aG.out.size));have mV:=ah hn2;clear hb2 hs2 hn2 bq;go_wp2_with fail;refine(ano F1 F2 F3 _).mono ?_;rintro e w3 ⟨rfl,hb3⟩;have cV:Below w2.heap.size w2 w3:=((aA _ _).alloc (ay _) _).trans (hb3.mono (by simp));have c0:w3.cell? ⟨w2.heap.size,0,none⟩=some (.int .i64 F1):=by rw [hb3.cell (p:=⟨w2.heap.size,0,none⟩) (by simp)];go_simp
 have fC:=ah (jB.out.below cV);have qO:=ah (uP.out.below cV);have aI:=ah (aJ.out.trans (cV.mono aJ.out.size));clear cV hb3 bD jB uP a0 a1 a2;by_cases hF:F1=0
 .subst hF;clear mS mV H1;obtain⟨x,cx,rfl,hx⟩:=fC.out;obtain⟨y,cy,rfl,hy⟩:=qO.out;obtain⟨n,hn⟩:∃n,n=L.length:=⟨_,rfl⟩
  rw [<-hn]at hx hy hL ⊢;by_cases h0:n=0
  .subst h0;clear hx hy fC qO hn;go_wp2;refine dw 1 ?_;rw [aY];go_wp2;go_ret;exact⟨rfl,aI.out⟩
  .obtain⟨gx,rfl,Y3,hx⟩:=hx (by omega);obtain⟨gy,rfl,hcy,hy⟩:=hy (by omega);have HX:=ah hx;have HY:=ah hy;clear hx hy fC qO hn;go_wp2;go_loopw [8] (fun i wr=>∃k m:Nat,k<=n/\i= .int .i64 k/\wr=w3.drewN m) (fun i _=>n - (intOf i).toNat);case atStart=>exact⟨0,0,rY _,rfl,rfl⟩
   case round=>
    obtain⟨k,m,hk,rfl,rfl⟩:=hrel;by_cases hlt:k<n
    .have h1:=HX.out k hlt;have h2:=HY.out k hlt;generalize L.getD k false=bo at h1 h2;have hlt':(k:Int)<(n:Int):=by omega
     have rD:(bo !=bo)=false:=by simp
     go_wp2_with fail;go_quiet(fail);go_wp2;go_roundw;case rel=>exact⟨k+1,_,by omega,by go_num,rfl⟩
     case measure=>simp [intOf];omega
    .go_wp2;go_ret;exact⟨rfl,aI.out.trans ⟨rfl,rfl,rfl,ay _,fun _ _=>rfl⟩⟩
 .have e1:=mS.out hF;have e2:=mV.out hF;subst e1;subst e2;have hF':(F1 !=0)=true:=by simpa using hF
  clear fC qO mS mV H1 hF;go_wp2;refine dw 1 ?_;rw [aY];go_wp2;go_ret;exact⟨rfl,aI.out⟩
theorem aiL(s:ByteArray)(w:World)(aL aT aC:Addr)(hE:Env w aL aT aC)(hBr:Br w)(hM:zY w)(env:nL w)(h20:10<=w.heap.size):
  Calls prog 32 #[.string s] w fun e w'=>e= .returned (.bool true)/\Below w.heap.size w w':=by
 have nl:∀(w':World)(v:Value),((dS s).1≠0->v= .slice none 0 0)->((dS s).1=0->zx w' v (fA s))->zx w' v (if(dS s).1=0 then fA s else []):=fun w' v h1 h2=>by
  by_cases h:(dS s).1=0
  .rw [aj h];exact h2 h
  .rw [ai h,h1 h];exact ae8 w'
 refine aiM s w (dS s).1 (dS s).2.1 (dS s).2.2 (if(dS s).1=0 then fA s else []) ?_ ?_ ?_ ?_
 .by_cases h:(dS s).1=0
  .rw [aj h];have h6:=(look_ok h).1;have:=Jq s 0 0 (by omega);simp [fA];omega
  .rw [ai h];simp
 .intro h;rw [ai h]
 .intro W hW;refine(aku s W aL aT aC (hE.below hW) (hBr.below hW) (hM.below hW) (env.below h20 hW) (bU h20 hW.size)).mono ?_;rintro e w' ⟨v,rfl,hn,hs,hb⟩;exact⟨v,rfl,hn,nl w' v hn (fun h=>Wf (hs h)),hb⟩
 .intro W;refine(ak6 s W).mono ?_;rintro e w' ⟨hb,v,rfl,hn,hs⟩;exact⟨v,rfl,hn,nl w' v hn (fun h=>Wf (hs h)),hb⟩
section
open Go.ChangeShapes Go.WideShapes Go.ChangeAt Go.RowKit Go.Deep Go.Lib
theorem own:ownKnob prog.godebug=none:=by kernel_rfl
theorem K4:prog.cellsOf 9=1:=by kernel_rfl
def Mr:List (String×DataW Unit):=[("bidiguard/parts.lineComment",Rows.laid_bidiguard_parts_lineComment),("bidiguard/parts.blockBegins",Rows.laid_bidiguard_parts_blockBegins),("bidiguard/parts.blockEnds",Rows.laid_bidiguard_parts_blockEnds),("math/bits.deBruijn32tab",Rows.laid_math_bits_deBruijn32tab),("math/bits.deBruijn64tab",Rows.laid_math_bits_deBruijn64tab),("internal/strconv.uint64pow10",Rows.laid_internal_strconv_uint64pow10),("unicode/utf8.acceptRanges",Rows.laid_unicode_utf8_acceptRanges),("bidiguard/bidi.bracketPairs",Rows.laid_bidiguard_bidi_bracketPairs),("bidiguard/bidi.spans",Rows.laid_bidiguard_bidi_spans),("bidiguard/guard.ErrLong",Rows.laid_bidiguard_guard_ErrLong),("bidiguard/guard.ErrText",Rows.laid_bidiguard_guard_ErrText),("bidiguard/guard.ErrCode",Rows.laid_bidiguard_guard_ErrCode),("unicode.CaseRanges",Rows.laid_unicode_CaseRanges),("unicode/utf8.first",Rows.laid_unicode_utf8_first)]
end
section
open Go.ChangeShapes Go.WideShapes Go.ChangeAt Go.RowKit Go.Deep Go.Lib
theorem Wq:prog.cellsOf 29=4:=by kernel_rfl
theorem Wp:prog.cellsOf 3=1:=by kernel_rfl
theorem afw:prog.cellsOf 27=1:=by kernel_rfl
theorem afp:prog.bytesOf 29=56:=by kernel_rfl
theorem laidOut:laidOutB prog=true:=by kernel_rfl
theorem ajK {H:Type}{enc:TypeId×Value->H}{w:World}{base:Nat}{sp:Nat->Bool}{held:Bool}{fuel:Nat}{cs:List Value}{x:DataW H×List MemPlace}
  (h:DataW.trod enc prog w base sp held fuel 29 cs=some x):∃k a s ao n c,cs=[.int .i64 k,.int .i64 a,.string s,.slice ao n c]/\s.size<=maxLen:=by
 obtain⟨y0,y1,y2,y3,n,hx,hl,h0,h1,h2,h3⟩:=Joins.trod_struct4 underlying29 h;rw [Wq]at hl
 match cs,hl with
 |[c0,c1,c2,c3],_=>
  obtain⟨a,e0,_,_⟩:=A4 underlying3 (by simpa [Wp]using h0);obtain⟨b,e1,_,_⟩:=A4 underlying3 (by simpa [Wp]using h1);obtain⟨s,e2,_,hs⟩:=DataW.trod_string underlying9 (by simpa [K4]using h2);obtain⟨ao,l,c,e3⟩:=Joins.slice_form underlying27 (by simpa [afw]using h3);simp at e0 e1 e2 e3;subst e0 e1 e2 e3;exact⟨a,b,s,ao,l,c,rfl,hs⟩
theorem ajM {H:Type}{enc:TypeId×Value->H}{W:World}{fuel:Nat}{cs:List Value}{x:DataW H×List MemPlace}
  (h:DataW.trod enc prog W 0 (fun _=>true) true fuel 22 cs=some x):
  (∃ao cap,cs=[.slice ao 0 cap])∨∃b off len cap,∃ops:List wS,cs=[.slice (some ⟨b,off,none⟩) len cap]/\ops.length=len/\Ev W b off ops/\(∀o∈ops,o.s.size<=9223372036854775807)/\
   ∃elems spare ps,x=(.slice elems spare,ps)/\elems.length=len:=by
 rcases open_slice underlying22 h with⟨rfl,_⟩|⟨a,len,cap,m,n,D,Pl,rfl,_,hlc,_,hm,rfl,hel⟩
 .exact .inl ⟨_,_,rfl⟩
 .by_cases h0:len=0
  .subst h0;exact .inl ⟨_,_,rfl⟩
  right;have hm':m=cap:=by simpa using hm
  subst hm';rw [Wq]at hel;obtain⟨b,off,spot⟩:=a;have hone:∀i,i<len->∃o:wS,W.cell? ((⟨b,off,spot⟩:Addr).add (i*4))=some (.int .i64 o.k)/\W.cell? ((⟨b,off,spot⟩:Addr).add (i*4+1))=some (.int .i64 o.a)/\W.cell? ((⟨b,off,spot⟩:Addr).add (i*4+2))=some (.string o.s)/\W.cell? ((⟨b,off,spot⟩:Addr).add (i*4+3))=some o.e/\(∃ao n c,o.e= .slice ao n c)/\o.s.size<=9223372036854775807:=by
   intro i hi;obtain⟨cs',hcs,ht⟩:=hel i (by omega);obtain⟨k,a,s,ao,n',c,rfl,hs⟩:=ajK ht;obtain⟨_,_,hc⟩:=World.cells?_some hcs;refine⟨⟨k,a,s,.slice ao n' c⟩,?_,?_,?_,?_,⟨_,_,_,rfl⟩,by unfold maxLen at hs;omega⟩
   .have:=hc 0 (by omega);rw [add_add]at this;simpa using this
   .have:=hc 1 (by omega);rw [add_add]at this;simpa using this
   .have:=hc 2 (by omega);rw [add_add]at this;simpa using this
   .have:=hc 3 (by omega);rw [add_add]at this;simpa using this
  have hspot:spot=none:=by
   obtain⟨o,h1,_⟩:=hone 0 (by omega);simpa [Addr.add]using World.cell?_spot h1
  subst hspot;obtain⟨ops,hlen,Zz⟩:∃ops:List wS,ops.length=len/\∀i (hi:i<ops.length),W.cell? ⟨b,off+i*4,none⟩=some (.int .i64 ops[i].k)/\W.cell? ⟨b,off+i*4+1,none⟩=some (.int .i64 ops[i].a)/\W.cell? ⟨b,off+i*4+2,none⟩=some (.string ops[i].s)/\W.cell? ⟨b,off+i*4+3,none⟩=some ops[i].e/\(∃ao n c,ops[i].e= .slice ao n c)/\ops[i].s.size<=9223372036854775807:=by
   have hall:∀k,k<=len->∃ops:List wS,ops.length=k/\∀i (hi:i<ops.length),W.cell? ⟨b,off+i*4,none⟩=some (.int .i64 ops[i].k)/\W.cell? ⟨b,off+i*4+1,none⟩=some (.int .i64 ops[i].a)/\W.cell? ⟨b,off+i*4+2,none⟩=some (.string ops[i].s)/\W.cell? ⟨b,off+i*4+3,none⟩=some ops[i].e/\(∃ao n c,ops[i].e= .slice ao n c)/\ops[i].s.size<=9223372036854775807:=by
    intro k
    induction k with
    |zero=>intro _;exact⟨[],rfl,fun i hi=>absurd hi (by simp)⟩
    |succ k ih=>
     intro hk;obtain⟨ops,hl,ho⟩:=ih (by omega);obtain⟨o,h1,h2,h3,h4,h5,h6⟩:=hone k (by omega);refine⟨ops++[o],by simp [hl],fun i hi=> ?_⟩;by_cases hik:i<ops.length
     .rw [List.getElem_append_left hik];exact ho i hik
     .have hik':i=k:=by simp at hi;omega
      subst hik';have e:(ops++[o])[i]'hi=o:=by
       rw [List.getElem_append_right (by omega)];simp [hl]
      rw [e];rw [add_plain]at h1 h2 h3 h4;exact⟨h1,by rw [GJ];exact h2,by rw [GJ];exact h3,by rw [GJ];exact h4,h5,h6⟩
   exact hall len (ay _)
  refine⟨b,off,len,m,ops,rfl,hlen,fun i hi=> ?_,fun o ho=> ?_,_,_,_,rfl,by simp⟩
  .obtain⟨h1,h2,h3,h4,h5,_⟩:=Zz i hi;exact⟨h1,h2,h3,h4,h5⟩
  .obtain⟨i,hi,rfl⟩:=List.mem_iff_getElem.1 ho;exact(Zz i hi).2.2.2.2.2
end
section
open Go.ChangeShapes Go.WideShapes Go.ChangeAt Go.RowKit Go.Deep Go.Lib
def Jl(w:World):World:={w with heap:=w.heap.modify 5 fun
 | .cells _ t fr=> .cells ((Lib.firstTab.map fun z=>Value.int .u8 z).toArray) t fr
 |o=>o}
def Ms(w:World):World:={w with heap:=(w.heap.push (.cells Lib.caseCells5 351 (0,0))).modify 12 fun
 | .cells _ t fr=> .cells #[.slice (some ⟨w.heap.size,0,none⟩) 336 336] t fr
 |o=>o}
theorem Oz {P:Program}{w:World}:∀{l l':List (String×DataW Unit)}{ps:List MemPlace},DataW.LaidVars P w (l++l') ps->∃p q,DataW.LaidVars P w l p/\DataW.LaidVars P w l' q/\ps=p++q
 |[],_,ps,h=>⟨[],ps,rfl,h,rfl⟩
 |(n,d)::r,l',ps,h=>by
  obtain⟨g,t,cs,fuel,p,q,h1,h2,h3,h4,h5,rfl⟩:=h;obtain⟨p',q',h6,h7,rfl⟩:=Oz h5;exact⟨_,q',⟨g,t,cs,fuel,p,p',h1,h2,h3,h4,h6,rfl⟩,h7,by simp [eV]⟩
theorem aiH {P:Program}{w:World}{a b c:List (String×DataW Unit)}(h:laidMet P (a++b++c) w):laidMet P (a++c++b) w:=by
 obtain⟨ps,hV,hn,hc⟩:=h;obtain⟨pab,pc,h1,h2,rfl⟩:=Oz hV;obtain⟨pa,pb,h3,h4,rfl⟩:=Oz h1;have hp:(pa++pb++pc).Perm (pa++pc++pb):=by
  rw [eV,eV];exact List.Perm.append_left pa aej
 exact⟨pa++pc++pb,LaidVars_append (LaidVars_append h3 h2) h4,hp.nodup_iff.1 hn,fun b off hm=>hc b off (hp.mem_iff.2 hm)⟩
def JD:List (String×DataW Unit):=Rows.classesRow.laid.filter fun x=>x.2.handleName?.isNone
theorem ajW:JD=JD.take 12++[("unicode.CaseRanges",Lib.caseData)]++JD.drop 13:=by
 rw [<-Pinned.caseRanges_eq];rfl
theorem anS(os:Os)(args:Array Value):laidMet prog (JD.take 12++JD.drop 13++[("unicode.CaseRanges",Lib.caseData)]) ((Ms (Jl (World.doorLaid prog 200 os))).forCall (fun _ _=>0) ⟨#[],args,[]⟩).memory:=
 laidMet_with_case (ρ:=Tryz.lays203_ren) {Tryz.lays203 with} Tryz.lays203.t206 ⟨by kernel_rfl,by kernel_rfl,by kernel_rfl,by kernel_rfl,by kernel_rfl,by kernel_rfl⟩
  8 (by kernel_rfl) (by kernel_rfl) (by kernel_rfl) (Jl (World.doorLaid prog 200 default)).heap.size 351 (Jz (by kernel_rfl)) (by kernel_rfl) (by kernel_rfl) (by kernel_rfl)
theorem anT(os:Os)(args:Array Value):laidMetH prog Rows.classesRow.laid ((Ms (Jl (World.doorLaid prog 200 os))).forCall (fun _ _=>0) ⟨#[],args,[]⟩).memory:=
 laidMetH_of_parts3 (fuel:=8) (by
  have:=aiH (anS os args);rw [<-ajW]at this;exact this) (by kernel_rfl) (by kernel_rfl)
end
section
open Go.ChangeShapes Go.WideShapes Go.ChangeAt Go.RowKit Go.Deep Go.Lib
theorem ag0:prog.globalNamed "bidiguard/guard.ErrLong" =some 0:=by kernel_rfl
theorem ag1:prog.globalNamed "bidiguard/guard.ErrText" =some 1:=by kernel_rfl
theorem agZ:prog.globalNamed "bidiguard/guard.ErrCode" =some 2:=by kernel_rfl
theorem am9:(prog.globals[0]?).map (·.type)=some 53:=by kernel_rfl
theorem anb:(prog.globals[1]?).map (·.type)=some 53:=by kernel_rfl
theorem am8:(prog.globals[2]?).map (·.type)=some 53:=by kernel_rfl
theorem Pj:prog.cellsOf 372=1:=by kernel_rfl
theorem star: "*" ++ "errors.errorString" = "*errors.errorString" :=by decide
theorem S3(u:TypeId)(h:prog.typeName? 3 u=some "*errors.errorString"):u=354:=
 typeName_ptr_named (nm:= "errors.errorString") (by rw [star];kernel_rfl) (by kernel_rfl) (by decide) u (by rw [star];exact h)
def Xt:List (String×DataW Unit):=[("bidiguard/guard.ErrLong",Rows.laid_bidiguard_guard_ErrLong),("bidiguard/guard.ErrText",Rows.laid_bidiguard_guard_ErrText),("bidiguard/guard.ErrCode",Rows.laid_bidiguard_guard_ErrCode)]
theorem ajH {W:World}(h:laidMet prog Xt W):
  ∃(a0 a1 a2:Addr)(c0 c1 c2:Array Value)(t0 t1 t2:TypeId),
   W.cell? ⟨0,0,none⟩=some (.iface 354 (.pointer (some a0)))/\W.cell? ⟨1,0,none⟩=some (.iface 354 (.pointer (some a1)))/\W.cell? ⟨2,0,none⟩=some (.iface 354 (.pointer (some a2)))/\
   a0≠a1/\a1≠a2/\a0≠a2/\
   W.heap[a0.block]? =some (.cells c0 t0 (0,0))/\W.heap[a1.block]? =some (.cells c1 t1 (0,0))/\W.heap[a2.block]? =some (.cells c2 t2 (0,0)):=by
 obtain⟨ps,⟨g0,t0,cs0,f0,p0,q0,hg0,ht0,hv0,hd0,⟨g1,t1,cs1,f1,p1,q1,hg1,ht1,hv1,hd1,⟨g2,t2,cs2,f2,p2,q2,hg2,ht2,hv2,hd2,hq2,e2⟩,e1⟩,e0⟩,hnd,hrows⟩:=h;obtain rfl:=aK (ag0.symm.trans hg0);obtain rfl:=aK (ag1.symm.trans hg1);obtain rfl:=aK (agZ.symm.trans hg2);obtain rfl:=aK (am9.symm.trans ht0);obtain rfl:=aK (anb.symm.trans ht1);obtain rfl:=aK (am8.symm.trans ht2);have ahK:q2=[]:=hq2;subst ahK;subst e2;subst e1;subst e0;obtain⟨l0⟩:=cs0;obtain⟨l1⟩:=cs1;obtain⟨l2⟩:=cs2;have ok0:∀u v,l0=[.iface u v]->Value.okWide prog W .any 0 u v:=fun u v e=>by
  subst e;exact(hrows 0 0 (by simp [MemPlace.row])).2 u v (by simpa using Ex hg0 hv0 0)
 have ok1:∀u v,l1=[.iface u v]->Value.okWide prog W .any 0 u v:=fun u v e=>by
  subst e;exact(hrows 1 0 (by simp [MemPlace.row])).2 u v (by simpa using Ex hg1 hv1 0)
 have ok2:∀u v,l2=[.iface u v]->Value.okWide prog W .any 0 u v:=fun u v e=>by
  subst e;exact(hrows 2 0 (by simp [MemPlace.row])).2 u v (by simpa using Ex hg2 hv2 0)
 obtain⟨a0,s0,rfl,hc0,hs0,hz0,rfl⟩:=Xr underlying53 S3 underlying354 underlying372 rfl rfl underlying9 Pj K4 hd0 ok0;obtain⟨a1,s1,rfl,hc1,hs1,hz1,rfl⟩:=Xr underlying53 S3 underlying354 underlying372 rfl rfl underlying9 Pj K4 hd1 ok1;obtain⟨a2,s2,rfl,hc2,hs2,hz2,rfl⟩:=Xr underlying53 S3 underlying354 underlying372 rfl rfl underlying9 Pj K4 hd2 ok2;obtain⟨c0,t0,hb0⟩:=(hrows a0.block a0.off (by simp [MemPlace.row])).1;obtain⟨c1,t1,hb1⟩:=(hrows a1.block a1.off (by simp [MemPlace.row])).1;obtain⟨c2,t2,hb2⟩:=(hrows a2.block a2.off (by simp [MemPlace.row])).1;refine⟨a0,a1,a2,c0,c1,c2,t0,t1,t2,by simpa using Ex hg0 hv0 0,by simpa using Ex hg1 hv1 0,by simpa using Ex hg2 hv2 0,?_,?_,?_,hb0,hb1,hb2⟩
 .rintro rfl;simp [MemPlace.row]at hnd
 .rintro rfl;simp [MemPlace.row]at hnd
 .rintro rfl;simp [MemPlace.row]at hnd
theorem XV:prog.globalNamed "bidiguard/bidi.spans" =some 4:=by kernel_rfl
theorem ana:(prog.globals[4]?).map (·.type)=some 176:=by kernel_rfl
theorem Ws:prog.cellsOf 175=3:=by kernel_rfl
theorem KZ:prog.cellsOf 21=1:=by kernel_rfl
theorem afv:prog.cellsOf 108=1:=by kernel_rfl
theorem afy:prog.cellsOf 176=108:=by kernel_rfl
def JZ {H:Type}(x:Int×Int×Int):DataW H:= .agg [.lit (.int .i32 x.1),.lit (.int .i32 x.2.1),.lit (.int .i64 x.2.2)]
theorem amR:Rows.laid_bidiguard_bidi_spans (H:=Unit)= .agg (lX.map JZ):=by kernel_rfl
def JY(x:Int×Int×Int):List Value:=[.int .i32 x.1,.int .i32 x.2.1,.int .i64 x.2.2]
theorem amQ:(lX.flatMap JY).toArray=AX:=by kernel_rfl
theorem amP {H:Type}{enc:TypeId×Value->H}{w:World}{base:Nat}{sp:Nat->Bool}{held:Bool}{fuel:Nat}{cs:List Value}{x:Int×Int×Int}{p:List MemPlace}
  (h:DataW.trod enc prog w base sp held fuel 175 cs=some (JZ x,p)):cs=JY x:=by
 obtain⟨y0,y1,y2,n,hx,hl,h0,h1,h2⟩:=trod_struct3 underlying175 h;rw [Ws]at hl
 match cs,hl with
 |[c0,c1,c2],_=>
  obtain⟨a,e0,rfl,_⟩:=A4 underlying21 (by simpa [KZ]using h0);obtain⟨b,e1,rfl,_⟩:=A4 underlying21 (by simpa [KZ]using h1);obtain⟨c,e2,rfl,_⟩:=A4 underlying108 (by simpa [afv]using h2);simp [JZ]at hx e0 e1 e2;obtain⟨⟨r0,r1,r2⟩,_⟩:=hx;subst e0 e1 e2;simp [JY,r0,r1,r2]
theorem XK(f:Int×Int×Int->List Value)(hf:∀x,(f x).length=3)(L:List (Int×Int×Int))(cs:List Value)(h:∀i (hi:i<L.length),(cs.drop (i*3)).take 3=f L[i]):
  ∀i,i<=L.length->cs.take (i*3)=(L.take i).flatMap f
 |0,_=>by simp
 |i+1,hi=>by
  have ih:=XK f hf L cs h i (by omega);rw [show(i+1)*3=i*3+3 by omega,List.take_add,ih,h i (by omega),pZ (by omega),OE];simp
theorem amS {W:World}(h:VarReads prog W "bidiguard/bidi.spans" Rows.laid_bidiguard_bidi_spans):∃t fr,W.heap[4]? =some (.cells AX t fr):=by
 obtain⟨g,t,cs,fuel,p,hg,hty,hvar,hd⟩:=h;obtain rfl:=aK (XV.symm.trans hg);obtain rfl:=aK (ana.symm.trans hty);rw [amR]at hd;obtain⟨xs,m,_,hx,hlen,hxl,hel⟩:=Ul underlying176 hd;rw [afy]at hlen;rw [Ws]at hel;have BX:xs.map (·.1)=lX.map JZ:=by
  have:=congrArg Prod.fst hx;simpa using this.symm
 have hsl:lX.length=36:=rfl;have hcs:cs.toList=lX.flatMap JY:=by
  have:=XK JY (fun _=>rfl) lX cs.toList (fun i hi=>by
   have ahp:i<36:=by omega
   have he:=hel i ahp;rw [aQ (by omega)]at he;have h1:xs[i].1=JZ lX[i]:=by
    have:=congrArg (fun l:List (DataW Unit)=>l[i]?) BX;simp only [jO,aQ (show i<xs.length by omega),aQ hi,GP,Bo]at this;exact this
   exact amP (p:=xs[i].2) (by rw [he];exact congrArg some (Prod.ext h1 rfl))) 36 (by omega)
  rw [lB (by omega),lB (by omega)]at this;exact this
 have hca:cs=AX:=by
  rw [<-amQ,<-hcs]
 subst hca;unfold World.var? at hvar;rw [XV]at hvar;simp only [VN]at hvar;split at hvar
 .rename_i c t' fr hh;cases hvar;exact⟨t',fr,hh⟩
 .cases hvar
theorem agC:(Mr.filter fun x=>x.1== "bidiguard/guard.ErrLong" ||x.1== "bidiguard/guard.ErrText" ||x.1== "bidiguard/guard.ErrCode")=Xt:=by kernel_rfl
theorem agQ:Rows.laid_unicode_utf8_first=firstData:=by kernel_rfl
theorem aeu:Rows.laid_unicode_utf8_acceptRanges (H:=Unit)=acceptData:=by kernel_rfl
theorem etG:prog.globalNamed "errors.errorType" =some 3:=by kernel_rfl
theorem rtT:(prog.cutTypes.find? (·.1== "internal/reflectlite.rtype")).map (·.2)=some 223:=by kernel_rfl
theorem ajJ:((List.range 383).filter fun t=>prog.rowNamed t [101,114,114,111,114])=[53]:=by kernel_rfl
theorem ajl:prog.types.size=383:=by kernel_rfl
theorem agy {W:World}(h:laidMetH prog Rows.classesRow.laid W):∃aL aT aC,Env W aL aT aC:=by
 have h':laidMet prog Mr W/\handlesMet prog [("errors.errorType",Rows.laid_errors_errorType)] W:=h;obtain⟨h7,hh⟩:=h';have hE:=h7.filter fun x=>x.1== "bidiguard/guard.ErrLong" ||x.1== "bidiguard/guard.ErrText" ||x.1== "bidiguard/guard.ErrCode"
 rw [agC]at hE;obtain⟨a0,a1,a2,c0,c1,c2,t0,t1,t2,hc0,hc1,hc2,EM,h12,h02,hb0,hb1,hb2⟩:=ajH hE;have htab:Lib.Utf8Tabs (Tryz.lays196_ren.g 3) (Tryz.lays196_ren.g 4) W:=
  utf8Tabs_of_readsT (U8Types.of196 Tryz.lays196) ⟨by kernel_rfl,by kernel_rfl,by kernel_rfl,by kernel_rfl,by kernel_rfl,by kernel_rfl,by kernel_rfl⟩
   (agQ▸Lib.laidMet.reads h7 (.tail _ (.tail _ (.tail _ (.tail _ (.tail _ (.tail _ (.tail _ (.tail _ (.tail _ (.tail _ (.tail _ (.tail _ (.tail _ (.head _)))))))))))))))
   (aeu▸Lib.laidMet.reads h7 (.tail _ (.tail _ (.tail _ (.tail _ (.tail _ (.tail _ (.head _))))))))
 have hsp:=amS (Lib.laidMet.reads h7 (.tail _ (.tail _ (.tail _ (.tail _ (.tail _ (.tail _ (.tail _ (.tail _ (.head _))))))))));have het:W.cell? ⟨3,0,none⟩=some (.iface 223 (.agg #[.pointer (some ⟨16,53,none⟩)])):=by
  obtain⟨name,u,ty,e1,e2,e3,e4,e5⟩:=hh _ (pY.2 rfl);have en:name=[101,114,114,111,114]:=(aK e1).symm;subst en;obtain rfl:=aK (rtT.symm.trans e2);have hm:ty∈(List.range 383).filter fun t=>prog.rowNamed t [101,114,114,111,114]:=uW.2 ⟨GG.2 (by rw [<-ajl];exact e3),e4⟩
  rw [ajJ]at hm;obtain rfl:=pY.1 hm;have hty:typeHandle prog 53= .pointer (some ⟨16,53,none⟩):=by kernel_rfl
  rw [hty]at e5;simpa using Ex etG e5 0
 exact⟨a0,a1,a2,hc0,hc1,hc2,het,htab,hsp,EM,h12,h02,⟨c0,t0,hb0⟩,⟨c1,t1,hb1⟩,⟨c2,t2,hb2⟩⟩
end
section
open Go.ChangeShapes Go.WideShapes Go.ChangeAt Go.RowKit Go.Deep Go.Lib
theorem XU:prog.globalNamed "bidiguard/bidi.bracketPairs" =some 11:=by kernel_rfl
theorem am7:(prog.globals[11]?).map (·.type)=some 304:=by kernel_rfl
theorem Wo:prog.cellsOf 303=2:=by kernel_rfl
theorem afs:prog.cellsOf 304=8:=by kernel_rfl
theorem aft:prog.cellsOf 21=1:=by kernel_rfl
def CY:List (Int×Int):=[(40,41),(91,93),(123,125),(12296,12297)]
def G3 {H:Type}(x:Int×Int):DataW H:= .agg [.lit (.int .i32 x.1),.lit (.int .i32 x.2)]
theorem afe:Rows.laid_bidiguard_bidi_bracketPairs (H:=Unit)= .agg (CY.map G3):=by kernel_rfl
def G0(x:Int×Int):List Value:=[.int .i32 x.1,.int .i32 x.2]
theorem afd:(CY.flatMap G0).toArray=rz:=by kernel_rfl
theorem afg {H:Type}{enc:TypeId×Value->H}{w:World}{base:Nat}{sp:Nat->Bool}{held:Bool}{fuel:Nat}{cs:List Value}{x:Int×Int}{p:List MemPlace}
  (h:DataW.trod enc prog w base sp held fuel 303 cs=some (G3 x,p)):cs=G0 x:=by
 obtain⟨xs,m,_,hx,hlen,hxl,hel⟩:=Ul underlying303 h;rw [Wo]at hlen;rw [aft]at hel;have BX:xs.map (·.1)=[.lit (.int .i32 x.1),.lit (.int .i32 x.2)]:=by
  have:=congrArg Prod.fst hx;simpa [G3]using this.symm
 match cs,hlen with
 |[c0,c1],_=>
  have e0:=hel 0 (by omega);have e1:=hel 1 (by omega);rw [aQ (by omega)]at e0 e1;have f0:xs[0].1= .lit (.int .i32 x.1):=by
   have:=congrArg (fun l:List (DataW H)=>l[0]?) BX;simpa [jO,aQ (show 0<xs.length by omega)]using this
  have f1:xs[1].1= .lit (.int .i32 x.2):=by
   have:=congrArg (fun l:List (DataW H)=>l[1]?) BX;simpa [jO,aQ (show 1<xs.length by omega)]using this
  obtain⟨a,q0,r0,_⟩:=A4 underlying21 (by simpa using e0);obtain⟨b,q1,r1,_⟩:=A4 underlying21 (by simpa using e1);rw [r0]at f0;rw [r1]at f1;simp at q0 q1 f0 f1;subst q0 q1;simp [G0,f0,f1]
theorem XL(f:Int×Int->List Value)(hf:∀x,(f x).length=2)(L:List (Int×Int))(cs:List Value)(h:∀i (hi:i<L.length),(cs.drop (i*2)).take 2=f L[i]):
  ∀i,i<=L.length->cs.take (i*2)=(L.take i).flatMap f
 |0,_=>by simp
 |i+1,hi=>by
  have ih:=XL f hf L cs h i (by omega);rw [show(i+1)*2=i*2+2 by omega,List.take_add,ih,h i (by omega),pZ (by omega),OE];simp
theorem afi {W:World}(h:VarReads prog W "bidiguard/bidi.bracketPairs" Rows.laid_bidiguard_bidi_bracketPairs):Br W:=by
 obtain⟨g,t,cs,fuel,p,hg,hty,hvar,hd⟩:=h;obtain rfl:=aK (XU.symm.trans hg);obtain rfl:=aK (am7.symm.trans hty);rw [afe]at hd;obtain⟨xs,m,_,hx,hlen,hxl,hel⟩:=Ul underlying304 hd;rw [afs]at hlen;rw [Wo]at hel;have BX:xs.map (·.1)=CY.map G3:=by
  have:=congrArg Prod.fst hx;simpa using this.symm
 have hsl:CY.length=4:=rfl;have hcs:cs.toList=CY.flatMap G0:=by
  have:=XL G0 (fun _=>rfl) CY cs.toList (fun i hi=>by
   have hi4:i<4:=by omega
   have he:=hel i hi4;rw [aQ (by omega)]at he;have h1:xs[i].1=G3 CY[i]:=by
    have:=congrArg (fun l:List (DataW Unit)=>l[i]?) BX;simp only [jO,aQ (show i<xs.length by omega),aQ hi,GP,Bo]at this;exact this
   exact afg (p:=xs[i].2) (by rw [he];exact congrArg some (Prod.ext h1 rfl))) 4 (by omega)
  rw [lB (by omega),lB (by omega)]at this;exact this
 have hca:cs=rz:=by
  rw [<-afd,<-hcs]
 subst hca;unfold World.var? at hvar;rw [XU]at hvar;simp only [VN]at hvar;split at hvar
 .rename_i c t' fr hh;cases hvar;exact⟨t',fr,hh⟩
 .cases hvar
theorem afh {W:World}(h:laidMetH prog Rows.classesRow.laid W):Br W:=by
 have h':laidMet prog Mr W/\handlesMet prog [("errors.errorType",Rows.laid_errors_errorType)] W:=h;exact afi (Lib.laidMet.reads h'.1 (.tail _ (.tail _ (.tail _ (.tail _ (.tail _ (.tail _ (.tail _ (.head _)))))))))
end
section
open Go.ChangeShapes Go.WideShapes Go.ChangeAt Go.RowKit Go.Deep Go.Lib
theorem afx:prog.cellsOf 246=2:=by kernel_rfl
theorem Wt:prog.cellsOf 5=1:=by kernel_rfl
theorem Tq {W:World}{name:String}{gv:Nat}{a b:Int}(hn:prog.globalNamed name=some gv)(ht:(prog.globals[gv]?).map (·.type)=some 246)(h:VarReads prog W name (.agg [.lit (.int .u8 a),.lit (.int .u8 b)])):∃t f,W.heap[gv]? =some (.cells #[.int .u8 a,.int .u8 b] t f):=by
 obtain⟨g,t,cs,fuel,p,hg,hty,hvar,hd⟩:=h;obtain rfl:=aK (hn.symm.trans hg);obtain rfl:=aK (ht.symm.trans hty);obtain⟨y0,y1,n,hx,hl,h0,h1⟩:=trod_struct2 underlying246 hd;rw [afx]at hl;have hcs:cs=#[.int .u8 a,.int .u8 b]:=by
  obtain⟨l⟩:=cs
  match l,hl with
  |[c0,c1],_=>
   obtain⟨a',e0,rfl,_⟩:=A4 underlying5 (by simpa [Wt]using h0);obtain⟨b',e1,rfl,_⟩:=A4 underlying5 (by simpa [Wt]using h1);simp at hx e0 e1;obtain⟨⟨r0,r1⟩,_⟩:=hx;subst e0 e1;simp [r0,r1]
 subst hcs;unfold World.var? at hvar;rw [hn]at hvar;simp only [VN]at hvar;split at hvar
 .rename_i c t' fr hh;cases hvar;exact⟨t',fr,hh⟩
 .cases hvar
theorem akr {W:World}(h:laidMetH prog Rows.partsRow.laid W):nL W:=by
 have h':laidMet prog Mr W/\handlesMet prog [("errors.errorType",Rows.laid_errors_errorType)] W:=h;exact⟨Tq (by kernel_rfl) (by kernel_rfl) (Lib.laidMet.reads h'.1 (.head _)),Tq (by kernel_rfl) (by kernel_rfl) (Lib.laidMet.reads h'.1 (.tail _ (.head _))),Tq (by kernel_rfl) (by kernel_rfl) (Lib.laidMet.reads h'.1 (.tail _ (.tail _ (.head _))))⟩
end
section
variable{H:Type}{enc:TypeId×Value->H}
theorem ag9 {a:Assume}{C:Checked}{os:Os}{f:FuncId}{fn:Func}{s:ChangeSpec}{conds:List PathCond}{apart fresh handsOn again:Bool}{X:World->Array Value->Prop}
  (hX:∀(w w':World)(args:Array Value),w.heap=w'.heap->X w args->X w' args)
  (own:ownKnob C.prog.godebug=none) (started:os.Started) (noInit:C.prog.inits.idxOf? f=none) (hfn:C.prog.funcs[f]? =some fn)
  (witness:∃(w:World)(tape:Tape)(i:Input),w.os=os/\(w.forCall tape i).Shaped C.prog/\i.vars=[]/\Input.okWide C.prog (w.forCall tape i) .any w.heap.size f i/\
   ((s.pre enc C.prog fn conds apart (w.forCall tape i).memory i.args/\X (w.forCall tape i).memory i.args)/\sizedMet enc C.prog fn (OpenSpec.ofChange s) apart (w.forCall tape i).memory i.args)/\a.holds C.prog (lone (Frame.enter C.prog f i.args .normal) [] (w.forCall tape i)))
  (contract:∀(W:World)(base:Nat)(args:Array Value)(ds gs:List (DataW H))(before:List MemPlace),
   (∀(j:Nat) t v,fn.params[j]? =some t->args[j]? =some v->Value.okWide C.prog W .any base t v)->
   DataW.Whole enc C.prog fn.params.toList s.vars apart W args.toList ds gs before->
   conds.all (PathCond.test C.prog ⟨fn.params.toList,ds,s.plain.varTypes C.prog,gs⟩)=true->
   (DataW.weightsEach C.prog (fn.params.toList++s.plain.varTypes C.prog) (ds++gs)).all (·<=reachBytes)=true->X W args->W.ShapedOpen C.prog->
   a.holds C.prog (lone (Frame.enter C.prog f args .normal) [] W)->
   Calls C.prog f args W fun e W'=>∃v,e= .returned v/\s.post enc C.prog fn apart fresh handsOn again W args v W'):
  ReturnsInHanded a C os f .any (fun w args=>(s.pre enc C.prog fn conds apart w args/\X w args)/\sizedMet enc C.prog fn (OpenSpec.ofChange s) apart w args) (s.post enc C.prog fn apart fresh handsOn again):=by
 refine returnsInHanded_of_calls own started noInit witness ?_;intro w tape i _ hsh _ hok hpre hholds;obtain⟨_,_,_,fn',hfn',_,_,_,_,hval⟩:=hok;obtain rfl:fn'=fn:=aK (hfn'.symm.trans hfn);obtain⟨⟨⟨ds,gs,before,hw,hc⟩,hx⟩,hz⟩:=hpre;refine(contract (w.forCall tape i) w.heap.size i.args ds gs before hval (DataW.Whole.of_heap (w':=w.forCall tape i) (by rfl) hw) hc (hz.weights hw) (hX _ _ _ (by rfl) hx) hsh hholds).mono ?_;rintro e W' ⟨v,rfl,hp⟩;exact ChangeSpec.post_blind hp
theorem aja {W:World}(h:W.ShapedOpen prog):zY W:=by
 exact cell_of_shapedOpen_int (P:=prog) (g:=10) (t:=3) (zero:=#[.int .i64 0]) h (Jz (by kernel_rfl)) (by kernel_rfl) rfl (by kernel_rfl) (by kernel_rfl) underlying3
end
