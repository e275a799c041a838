import Derived.Test.YtkbinfhclaafhaaGreatDoorH18
import Derived.Test.YtkbinfhclaafhaaGreatDoorH19
import Derived.Test.YtkbinfhclaafhaaGreatDoorH01
import Derived.Test.YtkbinfhclaafhaaGreatDoorH17
import Derived.Test.YtkbinfhclaafhaaGreatDoorShelf
import Derived.Lib.IndexAny
import Derived.LaidEql
import Derived.Stop.Asserts
import Derived.RowKitTokens
namespace Go.Proofs.YtkbinfhclaafhaaGreatDoor
open Go.RowKit
open Go.Proofs.Tryz
set_option maxRecDepth 100000
set_option maxHeartbeats 32000000
section
attribute [local go_sem ↓] Go.wp_at_zero Go.wp_at_succ
theorem af1(w:World):(Instr.makeSlice 139 (.int .i64 0) (.int .i64 0)).run prog w= .ok (.slice (some ⟨w.heap.size,0,none⟩) 0 0) (w.alloc (.cells (madeCells #[.int .i64 0] 0) 108)):=
 run_make_row' (P:=prog) 139 108 (.int .i64 0) 8 underlying139 Tryz.BO rfl .i64 .i64 0 (by omega) (by omega) w
def kU(W:World)(lb gc gl gm:Nat)(p:Int):Prop:=LB W lb (.slice none 0 0) (.slice none 0 0) (.slice (some ⟨gc,0,none⟩) 0 0) (.slice (some ⟨gl,0,none⟩) 0 0) (.slice (some ⟨gm,0,none⟩) 0 0) (.int .i64 p)
theorem afT(w:World):Calls prog 140 #[.slice none 0 0] w fun e w'=>∃g,e= .returned (.slice (some ⟨g,0,none⟩) 0 0)/\Below w.heap.size w w':=by
 have hmk:=Nu;go_enter func140,ntmps140;go_wp2;refine wp_loop_rounds 1 ?_;rw [rounds_succ];go_wp2;go_ret;exact⟨_,rfl,((Below.refl _ _).alloc (Nat.le_refl _) _).alloc (by simp) _⟩
theorem ads(w:World)(lb:Nat):Calls prog 199 #[.pointer (some ⟨lb,0,none⟩),.int .i64 0,.int .i64 0] w fun e w'=>e= .returned (.int .i64 0)/\w'=w:=by
 go_enter func199,ntmps199;go_wp2;refine wp_loop_rounds 1 ?_;rw [rounds_succ];go_wp2;go_ret;exact⟨rfl,rfl⟩
theorem ag4(w:World)(lb:Nat)(a0 a2 a3 a4 a5:Value)(h:LB w lb a0 (.slice none 0 0) a2 a3 a4 a5)(d:Int):Calls prog 141 #[.pointer (some ⟨lb,0,none⟩),.int .i64 d] w fun e w'=>e= .returned (.int .i64 (dO [] d))/\w'=w:=by
 have c1:=h.c1;clear h;by_cases h0:d=0
 .subst h0;go_enter func141,ntmps141;go_wp2;go_ret;exact⟨rfl,rfl⟩
 by_cases h1:d=1
 .subst h1;go_enter func141,ntmps141;go_wp2;go_ret;exact⟨rfl,rfl⟩
 have q0:(d==0)=false:=by simpa using h0
 have q1:(d==1)=false:=by simpa using h1
 have HP:Hid (dO [] d=0):=by show _=_;rw [dO,if_neg (by omega)];rfl
 have HF:Hid (∀W,Calls prog 199 #[.pointer (some ⟨lb,0,none⟩),.int .i64 0,.int .i64 0] W fun e w'=>e= .returned (.int .i64 0)/\w'=W):=fun W=>ads W lb
 clear h0 h1;go_enter func141,ntmps141;go_wp2_with fail;refine(HF.out _).mono ?_;rintro ev wx ⟨rfl,hx⟩;have hx':=hx.symm;subst hx';go_wp2;go_ret;exact⟨kM (by rw [HP.out]),rfl⟩
theorem Xl(s:ByteArray)(d:Int)(w:World)(hs:s.size=0):
  Calls prog 84 #[.string s,.int .i64 d] w fun e w'=>∃lb gc gl gm,e= .returned (.pointer (some ⟨lb,0,none⟩))/\kU w' lb gc gl gm (dO [] d)/\w.heap.size<=lb/\Below w.heap.size w w':=by
 have aep:=af1;have Mq:=Nu;have hcp:∀(W:World)(g:Nat),(Builtin.copy_ #[139,139] 3 #[.slice (some ⟨g,0,none⟩) 0 0,.slice none 0 0]).run prog W= .ok (goInt 0) W:=fun W g=>run_copy_none (P:=prog) W 139 139 3 108 _ _ 0 0 0 0 underlying139 Tryz.OT rfl
 obtain⟨W0,hW0⟩:∃W0,W0=w.alloc (.cells #[.slice none 0 0,.slice none 0 0,.slice none 0 0,.slice none 0 0,.slice none 0 0,.int .i64 0] 141):=⟨_,rfl⟩
 have hb0:Below w.heap.size w W0:=by rw [hW0];exact(Below.refl _ _).alloc (Nat.le_refl _) _
 have DI:W0.heap[w.heap.size]? =some (.cells #[.slice none 0 0,.slice none 0 0,.slice none 0 0,.slice none 0 0,.slice none 0 0,.int .i64 0] 141 (0,0)):=by rw [hW0];exact Array.getElem?_push_size
 have h0z:W0.heap.size=w.heap.size+1:=by rw [hW0];simp
 have Fz:Hid (∀(W:World)(lb:Nat)(a0 a2 a3 a4 a5:Value),LB W lb a0 (.slice none 0 0) a2 a3 a4 a5->Calls prog 141 #[.pointer (some ⟨lb,0,none⟩),.int .i64 d] W fun e w'=>e= .returned (.int .i64 (dO [] d))/\w'=W):=fun W lb a0 a2 a3 a4 a5 h=>ag4 W lb a0 a2 a3 a4 a5 h d
 generalize dO [] d=pp at*;go_enter func84,ntmps84;go_wp2;rw [<-hW0];obtain⟨W1,hW1⟩:∃W1,W1=(W0.iter s 0):=⟨_,rfl⟩
 have hbi:Below W0.heap.size W0 (W0.iter s 0):=(Below.refl _ _).alloc (Nat.le_refl _) _;have nR:Hid (LB W1 w.heap.size (.slice none 0 0) (.slice none 0 0) (.slice none 0 0) (.slice none 0 0) (.slice none 0 0) (.int .i64 0)/\W1.heap[w.heap.size+1]? =some (.stringIter s 0)/\Below w.heap.size w W1):=by
  rw [hW1];exact⟨aR hbi DI,by rw [<-h0z];exact World.iter_heap _ _ _,hb0.alloc hb0.size _⟩
 rw [<-hW1];clear hW1 hW0 hb0 DI h0z hbi;obtain⟨lb,hlb⟩:∃lb,lb=w.heap.size:=⟨_,rfl⟩
 obtain⟨it,hit⟩:∃it,it=w.heap.size+1:=⟨_,rfl⟩
 have oC:Hid (w.heap.size<=lb):=by show _<=_;omega
 have nS:Hid (LB W1 lb (.slice none 0 0) (.slice none 0 0) (.slice none 0 0) (.slice none 0 0) (.slice none 0 0) (.int .i64 0)/\W1.heap[it]? =some (.stringIter s 0)/\Below w.heap.size w W1):=by rw [hlb,hit];exact nR.out
 rw [<-hit,<-hlb];clear nR hlb hit;go_loopg [7] 0 (fun gk _ W=>gk=0/\LB W lb (.slice none 0 0) (.slice none 0 0) (.slice none 0 0) (.slice none 0 0) (.slice none 0 0) (.int .i64 0)/\W.heap[it]? =some (.stringIter s 0)/\Below w.heap.size w W);case atStart=>exact⟨rfl,nS.out.1,nS.out.2.1,nS.out.2.2⟩
 case round=>
  clear nS;obtain⟨rfl,tY,Uj,hB⟩:=hrel;have hnx:∀ty,(Instr.next (.pointer (some ⟨it,0,none⟩)) true ty).run prog wr= .ok (.tuple #[.bool false]) wr:=fun ty=>Lib.run_next_end_at wr it s 0 ty Uj (by omega)
  have c1:=tY.c1;have hL1:LB (wr.alloc (.cells (madeCells #[.int .i64 0] 0) 108)) lb _ _ _ _ _ _:=tY.grown (yj wr _ none) (by simp);obtain⟨d2,e2⟩:=hL1.c2;have hL2:=hL1.s2 (.slice (some ⟨wr.heap.size,0,none⟩) 0 0);have hB2:Below w.heap.size w ((wr.alloc (.cells (madeCells #[.int .i64 0] 0) 108)).setCell ⟨lb,2,none⟩ (.slice (some ⟨wr.heap.size,0,none⟩) 0 0)):=(hB.alloc hB.size _).setCell (p:=⟨lb,2,none⟩) oC.out _;have H2:Hid _:=And.intro hL2 hB2;clear tY hL1 hL2 hB2 hB Uj;obtain⟨gc,hgc⟩:∃gc,gc=wr.heap.size:=⟨_,rfl⟩
  go_wp2;generalize((wr.alloc (.cells (madeCells #[.int .i64 0] 0) 108)).setCell ⟨lb,2,none⟩ (.slice (some ⟨wr.heap.size,0,none⟩) 0 0))=W2 at*;rw [<-hgc]at H2 ⊢;clear hgc c1 d2 e2 hnx;obtain⟨hL2,hB2⟩:=H2.out;clear H2;obtain⟨c2,_⟩:=hL2.c2;have c1:=hL2.c1;have H3:Hid (LB W2 lb _ _ _ _ _ _/\Below w.heap.size w W2):=⟨hL2,hB2⟩
  clear hL2 hB2;go_region;all_goals
   clear c1 c2;have hL3:LB W2.drew lb _ _ _ _ _ _:=H3.out.1;have hB3:Below w.heap.size w W2.drew:=H3.out.2.drew;clear H3;generalize W2.drew=W3 at*;have hL4:LB (W3.alloc (.cells (madeCells #[.int .i64 0] 0) 3)) lb _ _ _ _ _ _:=hL3.grown (yj W3 _ none) (by simp);have c1:=hL3.c1;obtain⟨d3,e3⟩:=hL4.c3;have hL5:=hL4.s3 (.slice (some ⟨W3.heap.size,0,none⟩) 0 0);have KA:=hL5.c1;have jf:Below w.heap.size w ((W3.alloc (.cells (madeCells #[.int .i64 0] 0) 3)).setCell ⟨lb,3,none⟩ (.slice (some ⟨W3.heap.size,0,none⟩) 0 0)):=(hB3.alloc hB3.size _).setCell (p:=⟨lb,3,none⟩) oC.out _;have H5:Hid _:=And.intro hL5 jf;clear hL3 hB3 hL4 hL5 jf;obtain⟨gl,hgl⟩:∃gl,gl=W3.heap.size:=⟨_,rfl⟩
   go_wp2_with fail;generalize((W3.alloc (.cells (madeCells #[.int .i64 0] 0) 3)).setCell ⟨lb,3,none⟩ (.slice (some ⟨W3.heap.size,0,none⟩) 0 0))=W5 at*;rw [<-hgl]at H5 ⊢;clear hgl c1 d3 e3 KA;refine(afT W5).mono ?_;rintro ev W6 ⟨gm,rfl,hb6⟩;have hL6:=H5.out.1.below hb6;obtain⟨d4,e4⟩:=hL6.c4;have hL7:=hL6.s4 (.slice (some ⟨gm,0,none⟩) 0 0);have yD:Below w.heap.size w (W6.setCell ⟨lb,4,none⟩ (.slice (some ⟨gm,0,none⟩) 0 0)):=(H5.out.2.trans (hb6.mono H5.out.2.size)).setCell (p:=⟨lb,4,none⟩) oC.out _;have H7:Hid _:=And.intro hL7 yD;have QB:Hid (Calls prog 141 #[.pointer (some ⟨lb,0,none⟩),.int .i64 d] (W6.setCell ⟨lb,4,none⟩ (.slice (some ⟨gm,0,none⟩) 0 0)) fun e w'=>e= .returned (.int .i64 pp)/\w'=(W6.setCell ⟨lb,4,none⟩ (.slice (some ⟨gm,0,none⟩) 0 0))):=Fz.out _ _ _ _ _ _ _ hL7;clear hL6 hL7 yD hb6 H5;go_wp2_with fail;generalize(W6.setCell ⟨lb,4,none⟩ (.slice (some ⟨gm,0,none⟩) 0 0))=W7 at*;refine QB.out.mono ?_;rintro ev wx ⟨rfl,hx⟩;have hx':=hx.symm;subst hx';clear QB d4 e4;obtain⟨d5,e5⟩:=H7.out.1.c5;have HF:Hid (kU (W7.setCell ⟨lb,5,none⟩ (.int .i64 pp)) lb gc gl gm pp/\Below w.heap.size w (W7.setCell ⟨lb,5,none⟩ (.int .i64 pp))):=⟨H7.out.1.s5 (.int .i64 pp),H7.out.2.setCell (p:=⟨lb,5,none⟩) oC.out _⟩
   clear H7;go_wp2;go_ret;exact⟨lb,gc,gl,gm,rfl,HF.out.1,oC.out,HF.out.2⟩
theorem aiw(w:World)(lb gc gl gm:Nat)(p:Int)(h:kU w lb gc gl gm p):
  Calls prog 85 #[.pointer (some ⟨lb,0,none⟩)] w fun e w'=>e= .returned (.tuple #[])/\Below w.heap.size w w':=by
 obtain⟨s,hs⟩:∃s,s=w.heap.size:=⟨_,rfl⟩
 have hb1:Below w.heap.size w (w.alloc (.cells #[.pointer (some ⟨lb,0,none⟩),.slice none 0 0,.int .i64 0,.int .i64 0,.int .i64 0] 212)):=(Below.refl _ _).alloc (Nat.le_refl _) _;have HW1:Hid (bD (w.alloc (.cells #[.pointer (some ⟨lb,0,none⟩),.slice none 0 0,.int .i64 0,.int .i64 0,.int .i64 0] 212)) w.heap.size s (.slice none 0 0) (.pointer (some ⟨lb,0,none⟩)) ⟨[],0,0,0⟩):=
  ⟨by rw [hs];exact Array.getElem?_push_size,⟨rfl,.inl ⟨rfl,rfl⟩⟩,by rw [hs];exact Nat.le_refl _⟩
 have c5:(w.alloc (.cells #[.pointer (some ⟨lb,0,none⟩),.slice none 0 0,.int .i64 0,.int .i64 0,.int .i64 0] 212)).cell? ⟨lb,5,none⟩=some (.int .i64 p):=(LB.below h hb1).c5.1;have HB1:Hid (Below w.heap.size w (w.alloc (.cells #[.pointer (some ⟨lb,0,none⟩),.slice none 0 0,.int .i64 0,.int .i64 0,.int .i64 0] 212))):=hb1;have HX:Hid (∀W,Below w.heap.size w W->kU W lb gc gl gm p):=fun W hb=>LB.below h hb
 clear h hb1;go_enter func85,ntmps85;go_wp2_with fail;rw [<-hs];clear hs;refine(Iz _ w.heap.size s _ _ _ p (-1) false HW1.out (by simp)).mono ?_;rintro ev w2 ⟨rfl,v2,hW,hF⟩;have HB2:Hid (Below w.heap.size w w2):=hF.Bn HW1.out HB1.out;have a1:w2.cell? ⟨lb,1,none⟩=some (.slice none 0 0):=(HX.out w2 HB2.out).c1;clear hW hF HW1 HB1 c5;go_wp2;refine wp_loop_rounds 1 ?_;rw [rounds_succ];go_wp2;go_end0;exact⟨rfl,HB2.out⟩
theorem afp(w:World)(lb gc gl gm:Nat)(p:Int)(h:kU w lb gc gl gm p):
  Calls prog 218 #[.pointer (some ⟨lb,0,none⟩)] w fun e w'=>e= .returned (.slice none 0 0)/\w'=w:=by
 have c1:=LB.c1 h;clear h;go_enter func218,ntmps218;go_wp2;refine wp_loop_rounds 1 ?_;rw [rounds_succ];go_wp2;go_ret;exact⟨rfl,rfl⟩
theorem aim(w:World)(lb gc gl gm:Nat)(p:Int)(h:kU w lb gc gl gm p):
  Calls prog 154 #[.pointer (some ⟨lb,0,none⟩)] w fun e w'=>e= .returned (.slice none 0 0)/\w'=w:=by
 have HL:Hid (kU w lb gc gl gm p):=h;clear h;go_enter func154,ntmps154;go_wp2_with fail;refine(afp w lb gc gl gm p HL.out).mono ?_;rintro ev wx ⟨rfl,hx⟩;have hx':=hx.symm;subst hx';go_wp2;refine wp_loop_rounds 1 ?_;rw [rounds_succ];go_wp2;go_ret;exact⟨rfl,rfl⟩
theorem ait(w:World)(lb gc gl gm:Nat)(p:Int)(h:kU w lb gc gl gm p):
  Calls prog 87 #[.pointer (some ⟨lb,0,none⟩)] w fun e w'=>e= .returned (.slice none 0 0)/\Below w.heap.size w w':=by
 have hmm:=@run_makeMap prog;have BI:∀(fn:Fn)(first cap:Array Value)(w:World),(Instr.makeFunc fn first cap).run prog w= .ok (.func fn first cap) w:=fun _ _ _ _=>rfl
 have HL:Hid (kU (w.alloc (.cells #[.pointer (some ⟨lb,0,none⟩)] 136)) lb gc gl gm p):=LB.below h ((Below.refl _ _).alloc (Nat.le_refl _) _);clear h;go_enter func87,ntmps87;go_wp2_with fail;refine(aim _ lb gc gl gm p HL.out).mono ?_;rintro ev wx ⟨rfl,hx⟩;subst hx;clear HL;go_wp2;refine wp_loop_rounds 1 ?_;rw [rounds_succ];go_wp2;refine wp_loop_rounds 1 ?_;rw [rounds_succ];go_wp2;go_ret;exact⟨rfl,(((Below.refl _ _).alloc (Nat.le_refl _) _).alloc (by simp) _).alloc (by simp;omega) _⟩
theorem acI(f g:Value)(w:World):Calls prog 97 #[.int .i64 0,f,g] w fun e w'=>e= .returned (.tuple #[])/\w'=w:=by
 go_enter func97,ntmps97;go_wp2;refine wp_loop_rounds 1 ?_;rw [rounds_succ];go_wp2;go_end0;exact⟨rfl,rfl⟩
theorem adi(w:World)(lb gc gl gm:Nat)(p:Int)(h:kU w lb gc gl gm p)(go:Nat):
  Calls prog 164 #[.pointer (some ⟨lb,0,none⟩),.slice (some ⟨go,0,none⟩) 0 0] w fun e w'=>e= .returned (.tuple #[])/\w'=w:=by
 have c5:=(LB.c5 h).1;clear h;go_enter func164,ntmps164;go_wp2;refine wp_loop_rounds 1 ?_;rw [rounds_succ];go_wp2;go_end0;exact⟨rfl,rfl⟩
theorem afk(w:World)(lb gc gl gm:Nat)(p:Int)(h:kU w lb gc gl gm p)(go:Nat):
  Calls prog 89 #[.pointer (some ⟨lb,0,none⟩),.slice (some ⟨go,0,none⟩) 0 0] w fun e w'=>e= .returned (.tuple #[])/\Below w.heap.size w w':=by
 have BI:∀(fn:Fn)(first cap:Array Value)(w:World),(Instr.makeFunc fn first cap).run prog w= .ok (.func fn first cap) w:=fun _ _ _ _=>rfl
 have hb:Below w.heap.size w ((w.alloc (.cells #[.pointer (some ⟨lb,0,none⟩)] 136)).alloc (.cells #[.slice (some ⟨go,0,none⟩) 0 0] 31)):=((Below.refl _ _).alloc (Nat.le_refl _) _).alloc (by simp) _;have hL:kU ((w.alloc (.cells #[.pointer (some ⟨lb,0,none⟩)] 136)).alloc (.cells #[.slice (some ⟨go,0,none⟩) 0 0] 31)) lb gc gl gm p:=LB.below h hb;have c1:=LB.c1 hL;have HL:Hid _:=hL;have HB:Hid _:=hb;have HE:Hid (∀(f g:Value)(W:World),Calls prog 97 #[.int .i64 0,f,g] W fun e w'=>e= .returned (.tuple #[])/\w'=W):=acI;clear h hL hb;go_enter func89,ntmps89;go_wp2;refine wp_loop_rounds 1 ?_;rw [rounds_succ];go_wp2_with fail;refine(HE.out _ _ _).mono ?_;rintro ev wx ⟨rfl,hx⟩;subst hx;go_wp2_with fail;refine(adi _ lb gc gl gm p HL.out go).mono ?_;rintro ev wx ⟨rfl,hx⟩;subst hx;go_wp2;go_end0;exact⟨rfl,HB.out⟩
theorem aa6(s:ByteArray)(d:Int)(w:World)(hs:s.size=0):
  Calls prog 55 #[.string s,.int .i64 d] w fun e w'=>∃g,e= .returned (.slice (some ⟨g,0,none⟩) 0 0)/\aK w' w.heap.size 3 g 0 (iv [])/\Below w.heap.size w w':=by
 have Mq:=Nu;have hcp:∀(W:World)(g g1:Nat),(Builtin.copy_ #[31,31] 3 #[.slice (some ⟨g,0,none⟩) 0 0,.slice (some ⟨g1,0,none⟩) 0 0]).run prog W= .ok (goInt 0) W:=fun W g g1=>run_copy_none (P:=prog) W 31 31 3 3 _ _ 0 0 0 0 underlying31 Tryz.Zn rfl
 have wu:Hid (Calls prog 84 #[.string s,.int .i64 d] w fun e w'=>∃lb gc gl gm,e= .returned (.pointer (some ⟨lb,0,none⟩))/\kU w' lb gc gl gm (dO [] d)/\w.heap.size<=lb/\Below w.heap.size w w'):=Xl s d w hs;clear hs;generalize dO [] d=pp at*;go_enter func55,ntmps55;go_wp2_with fail;refine wu.out.mono ?_;rintro ev w1 ⟨lb,gc,gl,gm,rfl,hL1,_,hb1⟩;have Js:Hid (kU w1 lb gc gl gm pp):=hL1;have HB1:Hid (Below w.heap.size w w1):=hb1;clear wu hL1 hb1;go_wp2_with fail;refine(aiw w1 lb gc gl gm pp Js.out).mono ?_;rintro ev w2 ⟨rfl,hb2⟩;have hL2:kU w2 lb gc gl gm pp:=LB.below Js.out hb2;have hB2:Below w.heap.size w w2:=HB1.out.trans (hb2.mono HB1.out.size);have c3:=(LB.c3 hL2).1;have hb3:Below w2.heap.size w2 (w2.alloc (.cells (madeCells #[.int .i64 0] 0) 3)):=(Below.refl _ _).alloc (Nat.le_refl _) _;have hL3:kU (w2.alloc (.cells (madeCells #[.int .i64 0] 0) 3)) lb gc gl gm pp:=LB.below hL2 hb3;have FQ:=(LB.c3 hL3).1;have pK:Hid (aK (w2.alloc (.cells (madeCells #[.int .i64 0] 0) 3)) w.heap.size 3 w2.heap.size 0 (List.replicate 0 (.int .i64 0))):=aK.made hB2.size (by omega);have H3:Hid (kU (w2.alloc (.cells (madeCells #[.int .i64 0] 0) 3)) lb gc gl gm pp/\Below w.heap.size w (w2.alloc (.cells (madeCells #[.int .i64 0] 0) 3))):=⟨hL3,hB2.trans (hb3.mono hB2.size)⟩
 clear hL2 hB2 hb2 hb3 hL3 Js HB1;obtain⟨go,hgo⟩:∃go,go=w2.heap.size:=⟨_,rfl⟩
 go_wp2_with fail;generalize w2.alloc (.cells (madeCells #[.int .i64 0] 0) 3)=W3 at*;rw [<-hgo]at pK ⊢;clear hgo c3 FQ Mq hcp;refine(YM W3).mono ?_;rintro ev W4 ⟨g,rfl,_,_,_,hb4⟩;have Jt:Hid (kU W4 lb gc gl gm pp):=LB.below H3.out.1 hb4;have dL:Hid (Below w.heap.size w W4):=H3.out.2.trans (hb4.mono H3.out.2.size);have xY:Hid (aK W4 w.heap.size 3 go 0 (List.replicate 0 (.int .i64 0))):=own_below pK.out hb4;clear H3 pK hb4;go_wp2_with fail;refine(ait W4 lb gc gl gm pp Jt.out).mono ?_;rintro ev W5 ⟨rfl,hb5⟩;have Qe:Hid (kU W5 lb gc gl gm pp):=LB.below Jt.out hb5;have bW:Hid (Below w.heap.size w W5):=dL.out.trans (hb5.mono dL.out.size);have uQ:Hid (aK W5 w.heap.size 3 go 0 (List.replicate 0 (.int .i64 0))):=own_below xY.out hb5;clear Jt dL xY hb5;go_wp2;refine wp_loop_rounds 1 ?_;rw [rounds_succ];go_wp2_with fail;refine(afk W5 lb gc gl gm pp Qe.out go).mono ?_;rintro ev W6 ⟨rfl,hb6⟩;have HF:Hid (aK W6 w.heap.size 3 go 0 (List.replicate 0 (.int .i64 0))/\Below w.heap.size w W6):=⟨own_below uQ.out hb6,bW.out.trans (hb6.mono bW.out.size)⟩
 clear Qe bW uQ hb6;go_wp2;go_ret;exact⟨go,rfl,HF.out.1,HF.out.2⟩
end
theorem agS {w:World}{B n z:Nat}{v:Value}{e:TypeId}{xs:List Value}(h:w.ownsRow (B+1) e z v n xs):w.ownsRow B e z v n xs:=by
 refine⟨h.1,?_⟩;rcases h.2 with h|⟨g,c,cur,e1,h3,h4⟩
 .exact .inl h
 .exact .inr ⟨g,c,cur,e1,by omega,h4⟩
structure zA where
 k:Int
 a:Int
 s:ByteArray
 e:Value
def Bc(w:World)(b off:Nat)(ops:List zA):Prop:=∀i (h:i<ops.length),w.cell? ⟨b,off+i*4,none⟩=some (.int .i64 ops[i].k)/\w.cell? ⟨b,off+i*4+1,none⟩=some (.int .i64 ops[i].a)/\w.cell? ⟨b,off+i*4+2,none⟩=some (.string ops[i].s)/\w.cell? ⟨b,off+i*4+3,none⟩=some ops[i].e/\∃ao n c,ops[i].e= .slice ao n c
theorem Bc.below {w w':World}{b off:Nat}{ops:List zA}(h:Bc w b off ops)(hb:Below w.heap.size w w'):Bc w' b off ops:=fun i hi=>
 let⟨h1,h2,h3,h4,h5⟩:=h i hi
 ⟨cO hb h1,cO hb h2,cO hb h3,cO hb h4,h5⟩
def dR:List (Int×Int×Int):=[(1488,1514,1),(8207,8207,1),(1575,1610,2),(1564,1564,2),(48,57,3),(43,43,4),(45,45,4),(35,37,5),(8364,8364,5),(1632,1641,6),(44,44,7),(46,47,7),(58,58,7),(768,879,8),(1611,1618,8),(173,173,9),(8203,8203,9),(9,9,10),(32,32,11),(8195,8195,11),(33,34,12),(38,42,12),(59,64,12),(91,96,12),(123,126,12),(9001,9002,12),(12296,12297,12),(8234,8234,13),(8235,8235,14),(8237,8237,15),(8238,8238,16),(8236,8236,17),(8294,8294,18),(8295,8295,19),(8296,8296,20),(8297,8297,21)]
def qz:Array Value:=(dR.flatMap fun x=>[.int .i32 x.1,.int .i32 x.2.1,.int .i64 x.2.2]).toArray
theorem aeG:∀(k:Nat)(_hk:k<36)(w:World),(Instr.index 176 (.agg qz) (.int .i64 k)).run prog w= .ok (.agg #[.int .i32 (dR.getD k (0,0,0)).1,.int .i32 (dR.getD k (0,0,0)).2.1,.int .i64 (dR.getD k (0,0,0)).2.2]) w:=by
 intro k hk w
 iterate 36 (rcases k with _|k;· kernel_rfl)
 omega
theorem agC:Kz {data:=#[33,34,38,39,40,41,42,59,60,61,62,63,64,91,92,93,94,95,96,123,124,125,126]}=[33,34,38,39,40,41,42,59,60,61,62,63,64,91,92,93,94,95,96,123,124,125,126]:=by decide
theorem ach:∀(k:Fin 36)(d:Fin 6),(dR.getD k (0,0,0)).1+((d:Nat):Int)<=(dR.getD k (0,0,0)).2.1->cls ((dR.getD k (0,0,0)).1+((d:Nat):Int))=(dR.getD k (0,0,0)).2.2:=by decide+kernel
theorem acf(r:Int)(k:Nat)(hk:k<36)(h1:(dR.getD k (0,0,0)).1<=r)(h2:r<=(dR.getD k (0,0,0)).2.1):cls r=(dR.getD k (0,0,0)).2.2:=by
 by_cases h:r - (dR.getD k (0,0,0)).1<6
 .have e:r=(dR.getD k (0,0,0)).1+(((r - (dR.getD k (0,0,0)).1).toNat:Nat):Int):=by omega
  have:=ach ⟨k,hk⟩ ⟨(r - (dR.getD k (0,0,0)).1).toNat,by omega⟩;simp only at this;rw [<-e]at this;exact this h2
 iterate 36 (rcases k with _|k;· (simp only [dR,List.getD_cons_succ,List.getD_cons_zero]at h1 h2 h ⊢;first|(exfalso;omega)|exact abZ (by omega)|exact ab0 (by omega)|exact ab1 (by omega)|exact ab2 (by omega)|exact ab3 (by omega)|exact ab4 (by omega)|exact ab5 (by omega)|exact ab6 (by omega)|exact ab7 (by omega)|exact(ab8 (by omega)).trans (by omega)))
 omega
theorem FK {r:Int}{l:List Int}(h:∀x∈l,r≠x):oM r l=false:=by
 unfold oM;rw [List.contains_eq_mem,decide_eq_false_iff_not];exact fun hm=>h r hm rfl
theorem acg(r:Int)(h:∀k,k<36->¬((dR.getD k (0,0,0)).1<=r/\r<=(dR.getD k (0,0,0)).2.1)):cls r=0:=by
 have g0:¬((1488:Int)<=r/\r<=1514):=h 0 (by decide);have g1:¬((8207:Int)<=r/\r<=8207):=h 1 (by decide);have g2:¬((1575:Int)<=r/\r<=1610):=h 2 (by decide);have g3:¬((1564:Int)<=r/\r<=1564):=h 3 (by decide);have g4:¬((48:Int)<=r/\r<=57):=h 4 (by decide);have g5:¬((43:Int)<=r/\r<=43):=h 5 (by decide);have g6:¬((45:Int)<=r/\r<=45):=h 6 (by decide);have g7:¬((35:Int)<=r/\r<=37):=h 7 (by decide);have g8:¬((8364:Int)<=r/\r<=8364):=h 8 (by decide);have g9:¬((1632:Int)<=r/\r<=1641):=h 9 (by decide);have g10:¬((44:Int)<=r/\r<=44):=h 10 (by decide);have g11:¬((46:Int)<=r/\r<=47):=h 11 (by decide);have g12:¬((58:Int)<=r/\r<=58):=h 12 (by decide);have g13:¬((768:Int)<=r/\r<=879):=h 13 (by decide);have g14:¬((1611:Int)<=r/\r<=1618):=h 14 (by decide);have g15:¬((173:Int)<=r/\r<=173):=h 15 (by decide);have g16:¬((8203:Int)<=r/\r<=8203):=h 16 (by decide);have g17:¬((9:Int)<=r/\r<=9):=h 17 (by decide);have g18:¬((32:Int)<=r/\r<=32):=h 18 (by decide);have g19:¬((8195:Int)<=r/\r<=8195):=h 19 (by decide);have g20:¬((33:Int)<=r/\r<=34):=h 20 (by decide);have g21:¬((38:Int)<=r/\r<=42):=h 21 (by decide);have g22:¬((59:Int)<=r/\r<=64):=h 22 (by decide);have g23:¬((91:Int)<=r/\r<=96):=h 23 (by decide);have g24:¬((123:Int)<=r/\r<=126):=h 24 (by decide);have g25:¬((9001:Int)<=r/\r<=9002):=h 25 (by decide);have g26:¬((12296:Int)<=r/\r<=12297):=h 26 (by decide);have g27:¬((8234:Int)<=r/\r<=8234):=h 27 (by decide);have g28:¬((8235:Int)<=r/\r<=8235):=h 28 (by decide);have g29:¬((8237:Int)<=r/\r<=8237):=h 29 (by decide);have g30:¬((8238:Int)<=r/\r<=8238):=h 30 (by decide);have g31:¬((8236:Int)<=r/\r<=8236):=h 31 (by decide);have g32:¬((8294:Int)<=r/\r<=8294):=h 32 (by decide);have g33:¬((8295:Int)<=r/\r<=8295):=h 33 (by decide);have g34:¬((8296:Int)<=r/\r<=8296):=h 34 (by decide);have g35:¬((8297:Int)<=r/\r<=8297):=h 35 (by decide);clear h;have hB:Between r:=by unfold Between;omega
 rw [ace hB,agC];have a1:oM r [35,36,37,8364]=false:=FK (by simp only [List.mem_cons,List.not_mem_nil,or_false,forall_eq_or_imp,forall_eq];omega);have a2:oM r [44,46,47,58]=false:=FK (by simp only [List.mem_cons,List.not_mem_nil,or_false,forall_eq_or_imp,forall_eq];omega);have a3:oM r [33,34,38,39,40,41,42,59,60,61,62,63,64,91,92,93,94,95,96,123,124,125,126]=false:=FK (by simp only [List.mem_cons,List.not_mem_nil,or_false,forall_eq_or_imp,forall_eq];omega);have a4:oM r [9001,9002,12296,12297]=false:=FK (by simp only [List.mem_cons,List.not_mem_nil,or_false,forall_eq_or_imp,forall_eq];omega);rw [a1,a2,a3,a4,if_neg (by decide),if_neg (by decide),if_neg (by decide),if_neg (by omega),if_neg (by omega),if_neg (by omega),if_neg (by omega),if_neg (by omega)]
structure Env(w:World)(aL aT aC:Addr):Prop where
 long:w.cell? ⟨0,0,none⟩=some (.iface 354 (.pointer (some aL)))
 text:w.cell? ⟨1,0,none⟩=some (.iface 354 (.pointer (some aT)))
 code:w.cell? ⟨2,0,none⟩=some (.iface 354 (.pointer (some aC)))
 Gq:w.cell? ⟨3,0,none⟩=some (.iface 223 (.agg #[.pointer (some ⟨16,53,none⟩)]))
 tabs:Lib.Utf8Tabs (Tryz.lays196_ren.g 3) (Tryz.lays196_ren.g 4) w
 spans:∃t fr,w.heap[4]? =some (.cells qz t fr)
 Cb:aL≠aT
 Cc:aT≠aC
 Ca:aL≠aC
 uV:∃c t,w.heap[aL.block]? =some (.cells c t (0,0))
 uW:∃c t,w.heap[aT.block]? =some (.cells c t (0,0))
 uU:∃c t,w.heap[aC.block]? =some (.cells c t (0,0))
theorem Env.below {w w':World}{aL aT aC:Addr}(h:Env w aL aT aC)(hb:Below w.heap.size w w'):Env w' aL aT aC where
 long:=cO hb h.long
 text:=cO hb h.text
 code:=cO hb h.code
 Gq:=cO hb h.Gq
 tabs:=Utf8Tabs_below h.tabs hb
 spans:=by obtain⟨t,fr,h⟩:=h.spans;exact⟨t,fr,aR hb h⟩
 Cb:=h.Cb
 Cc:=h.Cc
 Ca:=h.Ca
 uV:=by obtain⟨c,t,h⟩:=h.uV;exact⟨c,t,aR hb h⟩
 uW:=by obtain⟨c,t,h⟩:=h.uW;exact⟨c,t,aR hb h⟩
 uU:=by obtain⟨c,t,h⟩:=h.uU;exact⟨c,t,aR hb h⟩
theorem Tryz.aiI:(prog.info? 176).map (·.size)=some qz.size:=by kernel_rfl
theorem RZ(r:Int)(w:World)(t:TypeId)(fr:Nat×Nat)(hsp:w.heap[4]? =some (.cells qz t fr)):
  Calls prog 66 #[.int .i32 r] w fun e w'=>e= .returned (.int .i64 (cls r))/\Below w.heap.size w w':=by
 have hnd:∀(k:Nat)(_:k<36)(wx:World),(Instr.index 176 (.agg qz) (.int .i64 k)).run prog wx= .ok (.agg #[.int .i32 (dR.getD k (0,0,0)).1,.int .i32 (dR.getD k (0,0,0)).2.1,.int .i64 (dR.getD k (0,0,0)).2.2]) wx:=aeG;have HI:Hid (∀(k:Nat)(_:k<36)(wx:World),(Instr.index 176 (.agg qz) (.int .i64 k)).run prog wx= .ok (.agg #[.int .i32 (dR.getD k (0,0,0)).1,.int .i32 (dR.getD k (0,0,0)).2.1,.int .i64 (dR.getD k (0,0,0)).2.2]) wx):=hnd;have HH:Hid (w.heap[4]? =some (.cells qz t fr)):=hsp;have HZ:=Tryz.aiI;clear hnd hsp;generalize qz=sv at HI HH HZ;go_enter func66,ntmps66;go_wp2_with(refine wpList_load_row rfl 176 _ rfl 4 rfl t _ fr _ HH.out underlying176 rfl HZ ?_);go_loopw [6] (fun i wr=>∃k:Nat,k<=36/\i= .int .i64 k/\(∀j,j<k->¬((dR.getD j (0,0,0)).1<=r/\r<=(dR.getD j (0,0,0)).2.1))/\Below w.heap.size w wr) (fun i _=>36 - (intOf i).toNat);case atStart=>exact⟨0,Nat.zero_le _,rfl,fun j h=>absurd h (by omega),Below.refl _ _⟩
 case round=>
  obtain⟨k,hk,rfl,hno,hb⟩:=hrel;have HN:Hid (∀j,j<k->¬((dR.getD j (0,0,0)).1<=r/\r<=(dR.getD j (0,0,0)).2.1)):=hno;have hbz:=hb.size;clear hno;by_cases hlt:k<36
  .have hlt':(k:Int)<36:=by omega
   have hix:=fun wx=>HI.out k hlt wx
   have HC:Hid _:=acf r k hlt;obtain⟨a,b,c,LY⟩:∃a b c,dR.getD k (0,0,0)=(a,b,c):=⟨_,_,_,rfl⟩
   simp only [LY]at hix;have HA:Hid (dR.getD k (0,0,0)=(a,b,c)):=LY;clear LY;by_cases h1:a<=r
   .by_cases h2:r<=b
    .go_wp2;go_ret;refine⟨kM ?_,hb.alloc hbz _⟩;have:=HC.out;rw [HA.out]at this;exact(this h1 h2).symm
    .have h2':decide (r<=b)=false:=by simpa using h2
     go_wp2;go_roundw;case rel=>
      refine⟨k+1,by omega,by go_num,fun j hj=> ?_,hb.alloc hbz _⟩;by_cases hjk:j<k
      .exact HN.out j hjk
      .obtain rfl:j=k:=by omega
       rw [HA.out];show¬(a<=r/\r<=b);omega
     case measure=>simp [intOf];omega
   .have h1':decide (a<=r)=false:=by simpa using h1
    go_wp2;go_roundw;case rel=>
     refine⟨k+1,by omega,by go_num,fun j hj=> ?_,hb.alloc hbz _⟩;by_cases hjk:j<k
     .exact HN.out j hjk
     .obtain rfl:j=k:=by omega
      rw [HA.out];show¬(a<=r/\r<=b);omega
    case measure=>simp [intOf];omega
  .go_wp2;go_ret;exact⟨kM (acg r fun j hj=>HN.out j (by omega)).symm,hb⟩
def tQ(e:Int)(aL aT aC:Addr):Value:=if e=0 then .nilIface else if e=1 then .iface 354 (.pointer (some aL))else if e=2 then .iface 354 (.pointer (some aT))else .iface 354 (.pointer (some aC))
theorem acp(s:ByteArray)(w:World)(hs:s.size<9223372036854775807):
  Calls prog 83 #[.string s] w fun e w'=>e= .returned (.int .i64 (Lib.runeCount s))/\Below w.heap.size w w':=
 (Any.utf8_RuneCountInString Tryz.lays195 s w hs).mono fun e w' ⟨he,pos,hw⟩=>⟨he,by subst hw;exact(Below.refl _ _).alloc (Nat.le_refl _) _⟩
section
open Go.RowKit Go.Extern.Stop Go.Stop Go.Extern
theorem Tryz.aai(t:Addr)(w:World):(ReflectliteValue.unpack (.iface 94 (.pointer (some t)))).run prog w
  = .ok (.agg #[.pointer (some ⟨16,94,none⟩),.pointer (some ⟨w.heap.size,0,none⟩),.int .u64 150]) (w.alloc (.cells #[.pointer (some t)] 94)):=by kernel_rfl
theorem Tryz.aaa(a:Addr)(w:World):(ReflectliteValue.methodAny (ReflectliteValue.valueError "reflectlite.Value.Type" 0) (fun t _ _ _=>ReflectliteType.toType t) #[.agg #[.pointer (some ⟨16,94,none⟩),.pointer (some a),.int .u64 150]]).run prog w
  = .ok (.iface 223 (.agg #[.pointer (some ⟨16,94,none⟩)])) w:=by kernel_rfl
theorem Tryz.Wd(w:World):((ReflectliteType.abiMethod fun t=>(fun a:Nat=>Value.int IntKind.u8 (a:Int))<$>Rtype.kind t) #[.pointer (some ⟨16,94,none⟩)]).run prog w= .ok (.int .u8 22) w:=by kernel_rfl
theorem Tryz.V8(w:World):((ReflectliteType.abiMethod fun t=>(fun a:Nat=>Value.int IntKind.u8 (a:Int))<$>Rtype.kind t) #[.pointer (some ⟨16,92,none⟩)]).run prog w= .ok (.int .u8 22) w:=by kernel_rfl
theorem YK(z:Sem Value)(f:TypeId->Addr->Nat->Nat->Sem Value)(v:Value):
  ReflectliteValue.method z f #[v]=(do match<-ReflectliteValue.parts v with|none=>z|some (t,a,fl)=>f t a fl (fl%32)):=rfl
theorem Tryz.Yd(a:Addr)(w:World):(ReflectliteValue.parts (.agg #[.pointer (some ⟨16,94,none⟩),.pointer (some a),.int .u64 150])).run prog w= .ok (some (94,a,150)) w:=by kernel_rfl
theorem Tryz.VW(a p:Addr)(W:World)(ha:W.cell? a=some (.pointer (some p))):
  (ReflectliteValue.method (ReflectliteValue.valueError "reflectlite.Value.IsNil" 0) ReflectliteValue.isNil #[.agg #[.pointer (some ⟨16,94,none⟩),.pointer (some a),.int .u64 150]]).run prog W= .ok (.bool false) W:=by
 rw [YK];simp only [Sem.run_bind,Tryz.Yd,Result.andThen];simp [ReflectliteValue.isNil,loadVar,isAgg,underlying,underlying94,ha,Result.andThen]
theorem Tryz.SN(w:World):(ReflectliteType.method ReflectliteType.elem #[.agg #[.pointer (some ⟨16,94,none⟩)]]).run prog w= .ok (.iface 223 (.agg #[.pointer (some ⟨16,92,none⟩)])) w:=by kernel_rfl
theorem Tryz.VQ(w:World):(ReflectliteType.relation "Implements" ReflectliteType.implements_ #[.agg #[.pointer (some ⟨16,92,none⟩)],.iface 223 (.agg #[.pointer (some ⟨16,53,none⟩)])]).run prog w= .ok (.bool true) w:=by kernel_rfl
theorem Tryz.Pd(v:Value)(w:World):(ReflectliteType.typeOf #[.iface 354 v]).run prog w= .ok (.iface 223 (.agg #[.pointer (some ⟨16,354,none⟩)])) w:=by kernel_rfl
theorem Tryz.aa0(w:World):(ReflectliteType.relation "AssignableTo" ReflectliteType.assignableTo #[.agg #[.pointer (some ⟨16,354,none⟩)],.iface 223 (.agg #[.pointer (some ⟨16,92,none⟩)])]).run prog w= .ok (.bool false) w:=by kernel_rfl
theorem Tryz.Xb(h:Value)(w:World):(Go.method 483 223 (.agg #[h]) "Kind").run prog w= .ok (323,h) w:=by kernel_rfl
theorem Tryz.WZ(h:Value)(w:World):(Go.method 483 223 (.agg #[h]) "Elem").run prog w= .ok (334,.agg #[h]) w:=by kernel_rfl
theorem Tryz.Xa(h:Value)(w:World):(Go.method 483 223 (.agg #[h]) "Implements").run prog w= .ok (335,.agg #[h]) w:=by kernel_rfl
theorem Tryz.WX(h:Value)(w:World):(Go.method 483 223 (.agg #[h]) "AssignableTo").run prog w= .ok (332,.agg #[h]) w:=by kernel_rfl
theorem Tryz.WY(h:Value)(w:World):(Go.method 483 223 (.agg #[h]) "Comparable").run prog w= .ok (333,.agg #[h]) w:=by kernel_rfl
theorem Tryz.ago(v:Value)(xT:TypeId)(w:World):(Instr.typeAssert (.iface 354 v) xT 227 true).run prog w= .ok (.tuple #[.nilIface,.bool false]) w:=run_typeAssert_lacksB underlying227 (by kernel_rfl) (by kernel_rfl) v xT w
theorem Tryz.Xy(v:Value)(xT:TypeId)(w:World):(Instr.typeAssert (.iface 354 v) xT 233 true).run prog w= .ok (.tuple #[.nilIface,.bool false]) w:=run_typeAssert_lacksB underlying233 (by kernel_rfl) (by kernel_rfl) v xT w
theorem Tryz.NF(v:Value)(xT:TypeId)(w:World):(Instr.typeAssert (.iface 354 v) xT 230 true).run prog w= .ok (.tuple #[.nilIface,.bool false]) w:=run_typeAssert_lacksB underlying230 (by kernel_rfl) (by kernel_rfl) v xT w
theorem Tryz.NG(v:Value)(xT:TypeId)(w:World):(Instr.typeAssert (.iface 354 v) xT 231 true).run prog w= .ok (.tuple #[.nilIface,.bool false]) w:=run_typeAssert_lacksB underlying231 (by kernel_rfl) (by kernel_rfl) v xT w
end
section
open Go.RowKit Go.Extern.Stop Go.Stop Go.Extern
theorem aaX(e t:Addr)(w:World)(hg:w.cell? ⟨3,0,none⟩=some (.iface 223 (.agg #[.pointer (some ⟨16,53,none⟩)]))):
  Calls prog 56 #[.iface 354 (.pointer (some e)),.iface 94 (.pointer (some t))] w fun ev w'=>ev= .returned (.bool false)/\Below w.heap.size w w':=by
 have h6:=@run_callFunc_extern prog 90 _ (fun args=>ReflectliteValue.unpack (args.getD 0 (.tuple #[]))) func90 (by kernel_rfl) (by kernel_rfl) (by kernel_rfl) (by kernel_rfl);have h7:=@run_callFunc_extern prog 91 _ (ReflectliteValue.methodAny (ReflectliteValue.valueError "reflectlite.Value.Type" 0) (fun t _ _ _=>ReflectliteType.toType t)) func91 (by kernel_rfl) (by kernel_rfl) (by kernel_rfl) (by kernel_rfl);have h8:=@run_callFunc_extern prog 92 _ (ReflectliteValue.method (ReflectliteValue.valueError "reflectlite.Value.IsNil" 0) ReflectliteValue.isNil) func92 (by kernel_rfl) (by kernel_rfl) (by kernel_rfl) (by kernel_rfl);have h27:=@run_callFunc_extern prog 323 _ (ReflectliteType.abiMethod fun t=>do pure (.int .u8 (<-Rtype.kind t))) func323 (by kernel_rfl) (by kernel_rfl) (by kernel_rfl) (by kernel_rfl);have h37:=@run_callFunc_extern prog 334 _ (ReflectliteType.method ReflectliteType.elem) func334 (by kernel_rfl) (by kernel_rfl) (by kernel_rfl) (by kernel_rfl);have h38:=@run_callFunc_extern prog 335 _ (ReflectliteType.relation "Implements" ReflectliteType.implements_) func335 (by kernel_rfl) (by kernel_rfl) (by kernel_rfl) (by kernel_rfl);have h10:=@run_callFunc_extern prog 94 _ ReflectliteType.typeOf func94 (by kernel_rfl) (by kernel_rfl) (by kernel_rfl) (by kernel_rfl);have Ud:=@run_callFunc_extern prog 332 _ (ReflectliteType.relation "AssignableTo" ReflectliteType.assignableTo) func332 (by kernel_rfl) (by kernel_rfl) (by kernel_rfl) (by kernel_rfl);have tO:=Tryz.Pd;have a25:=Tryz.aa0;have f6:=Tryz.aai;have q1:=Tryz.ago;have q2:=Tryz.NF;have q3:=Tryz.NG;have mK:=Tryz.Xb;have mE:=Tryz.WZ;have mI:=Tryz.Xa;have mA:=Tryz.WX;have f7:=Tryz.aaa;have k27:=Tryz.Wd;have k25:=Tryz.V8;have e27:=Tryz.SN;have i25:=Tryz.VQ;have n8:=Tryz.VW ⟨w.heap.size,0,none⟩ t ((w.alloc (.cells #[.pointer (some t)] 94)).alloc (.cells #[.pointer (some ⟨16,94,none⟩),.pointer (some ⟨w.heap.size,0,none⟩),.int .u64 150] 152)) (by simp);have hlt:3<w.heap.size:=by
  rcases Nat.lt_or_ge 3 w.heap.size with h|h
  .exact h
  .simp [World.cell?,Array.getElem?_eq_none h]at hg
 have hg2:((w.alloc (.cells #[.pointer (some t)] 94)).alloc (.cells #[.pointer (some ⟨16,94,none⟩),.pointer (some ⟨w.heap.size,0,none⟩),.int .u64 150] 152)).cell? ⟨3,0,none⟩=some (.iface 223 (.agg #[.pointer (some ⟨16,53,none⟩)])):=by
  rw [World.cell?_alloc_lt _ _ ⟨3,0,none⟩ (by simp;omega),World.cell?_alloc_lt _ _ ⟨3,0,none⟩ hlt];exact hg
 go_enter func56,ntmps56;go_wp2;refine wp_loop_rounds 1 ?_;rw [rounds_succ];go_wp2;go_ret;exact⟨rfl,(((Below.refl _ _).alloc (Nat.le_refl _) _).alloc (by simp) _).alloc (by simp;omega) _⟩
end
section
open Go.RowKit Go.Extern.Stop Go.Stop Go.Extern
theorem Tryz.Dv:(prog.info? 354).map (·.comparable)=some true:=by kernel_rfl
theorem Tryz.E5:(prog.info? 372).map (·.size)=some 1:=by kernel_rfl
theorem Tryz.R9(w:World):(ReflectliteType.method (fun t=>do Rtype.noPackHeld "Comparable" t;(fun a:TypeInfo=>Value.bool a.comparable)<$>typeInfo t) #[.agg #[.pointer (some ⟨16,354,none⟩)]]).run prog w= .ok (.bool true) w:=by kernel_rfl
theorem VX(a b:Addr)(q:Bool)(w:World)
  (he:(binOp .eql 53 (.iface 354 (.pointer (some a))) (.iface 354 (.pointer (some b)))).run prog w= .ok (.bool q) w):
  Calls prog 58 #[.iface 354 (.pointer (some a)),.iface 354 (.pointer (some b))] w fun ev w'=>ev= .returned (.bool q)/\w'=w:=by
 have h10:=@run_callFunc_extern prog 94 _ ReflectliteType.typeOf func94 (by kernel_rfl) (by kernel_rfl) (by kernel_rfl) (by kernel_rfl);have h11:=@run_callFunc_extern prog 333 _ (ReflectliteType.method fun t=>do Rtype.noPackHeld "Comparable" t;pure (.bool (<-typeInfo t).comparable)) func333 (by kernel_rfl) (by kernel_rfl) (by kernel_rfl) (by kernel_rfl);have tO:=Tryz.Pd;have mC:=Tryz.WY;have cS:=Tryz.R9;have q1:=Tryz.Xy;have q2:=Tryz.NF;have q3:=Tryz.NG;cases q
 .go_enter func58,ntmps58;go_wp2;refine wp_loop_rounds 1 ?_;rw [rounds_succ];go_wp2;go_ret;exact⟨rfl,rfl⟩
 .go_enter func58,ntmps58;go_wp2;refine wp_loop_rounds 1 ?_;rw [rounds_succ];go_wp2;go_ret;exact⟨rfl,rfl⟩
theorem MR(a:Addr)(w:World):
  Calls prog 58 #[.iface 354 (.pointer (some a)),.iface 354 (.pointer (some a))] w fun ev w'=>ev= .returned (.bool true)/\w'=w:=by
 obtain⟨i,hi,hcmp⟩:=Option.map_eq_some_iff.1 Tryz.Dv;obtain⟨j,hj,_⟩:=Option.map_eq_some_iff.1 Tryz.E5;exact VX a a true w (run_eql_iface_ptr_same w a underlying53 underlying354 hi hcmp hj)
theorem BQ(a b:Addr)(w:World)(hne:a≠b)(ha:∃c t,w.heap[a.block]? =some (.cells c t (0,0)))(hb:∃c t,w.heap[b.block]? =some (.cells c t (0,0))):
  Calls prog 58 #[.iface 354 (.pointer (some a)),.iface 354 (.pointer (some b))] w fun ev w'=>ev= .returned (.bool false)/\w'=w:=by
 obtain⟨i,hi,hcmp⟩:=Option.map_eq_some_iff.1 Tryz.Dv;obtain⟨j,hj,hjs⟩:=Option.map_eq_some_iff.1 Tryz.E5;obtain⟨_,_,ha⟩:=ha;obtain⟨_,_,hb⟩:=hb;exact VX a b false w (run_eql_iface_ptr_other w underlying53 underlying354 hi hcmp hj (by rw [hjs];decide) hne ha hb)
end
