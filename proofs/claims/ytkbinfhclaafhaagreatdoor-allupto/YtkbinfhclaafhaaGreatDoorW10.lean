import Derived.Test.YtkbinfhclaafhaaGreatDoorW09
import Derived.Test.YtkbinfhclaafhaaGreatDoorShelf
import Derived.Lib.IndexAny
import Derived.Stop.Asserts
namespace Go.Proofs.YtkbinfhclaafhaaGreatDoor
open Go.RowKit
open Go.Proofs.Tryz
set_option maxRecDepth 100000
set_option maxHeartbeats 32000000
set_option linter.all false
open Go.Value renaming int->Y,slice->R,string->cd,bool->ce,tuple->de,agg->df
open Go.IntKind renaming i64->Z
open Option renaming none->U,some->V
open Go.Addr renaming mk->S
open Go.Obj renaming cells->bi
open Go.Ending renaming returned->bj
open Go renaming World->cw,Value->cJ,Calls->cP
open Go.RowKit renaming Below->cD,Hid->dd
open Bool renaming false->da,true->db
section
attribute [local go_sem ↓] Go.wp_at_zero Go.wp_at_succ
def apo(w:cw):(Instr.makeSlice 139 (Y Z 0)<|Y Z 0).run prog w= .ok (.slice (V<|S w.1.size 0 U) 0 0) (w.alloc<|bi (madeCells #[Y Z 0] 0) 108):=
 run_make_row' (P:=prog) 139 108 (Y Z 0) 8 underlying139 Tryz.JQ rfl .i64 .i64 0 (by omega) (by omega) w
def uP(W:cw)(d a b c:Nat)(p:Int):Prop:=LB W d (R U 0 0) (R U 0 0) (.slice (V<|S a 0 U) 0 0) (.slice (V<|S b 0 U) 0 0) (.slice (V<|S c 0 U) 0 0)<|Y Z p
def apj(w:cw):cP prog 140 #[R U 0 0] w λe b=>∃g,e=bj (.slice (V<|S g 0 U) 0 0)/\cD w.1.size w b:=by have a:=NN;go_enter func140,ntmps140;go_wp2;refine dN 1 ?_;rw[bB];go_wp2;go_ret;exact⟨_,rfl,((aA _ _).alloc (au _) _).alloc (by simp) _⟩
def amJ(w:cw)(a:Nat):cP prog 199 #[.pointer<|V<|S a 0 U,Y Z 0,Y Z 0] w λe b=>e=bj (Y Z 0)/\b=w:=by go_enter func199,ntmps199;go_wp2;refine dN 1 ?_;rw[bB];go_wp2;go_ret;exact⟨rfl,rfl⟩
def aqw(w:cw)(a:Nat)(k l m n o:cJ)(h:LB w a k (R U 0 0) l m n o)(d:Int):cP prog 141 #[.pointer<|V<|S a 0 U,Y Z d] w λe g=>e=bj (Y Z<|gT [] d)/\g=w:=by
 have p:=h.c1;clear h;by_cases b:d=0
 .subst b;go_enter func141,ntmps141;go_wp2;go_ret;exact⟨rfl,rfl⟩
 by_cases c:d=1
 .subst c;go_enter func141,ntmps141;go_wp2;go_ret;exact⟨rfl,rfl⟩
 have r:=ae b;have s:=ae c;have j:dd (gT [] d=0):=by show _=_;rw[gT,ai<|by omega];rfl
 have i:dd (∀W,cP prog 199 #[.pointer<|V<|S a 0 U,Y Z 0,Y Z 0] W λe g=>e=bj (Y Z 0)/\g=W):=λW=>amJ W a
 clear b c;go_enter func141,ntmps141;go_wp2_with fail;refine(i _).mono ?_;rintro q t ⟨rfl,hx⟩;have f:=hx.symm;subst f;go_wp2;go_ret;exact⟨dX<|by rw[j.out],rfl⟩
def aft(s:bc)(d:Int)(w:cw)(hs:s.size=0):cP prog 84 #[cd s,Y Z d] w λe r=>∃a F G f,e=bj (.pointer<|V<|S a 0 U)/\uP r a F G f (gT [] d)/\w.1.size<=a/\cD w.1.size w r:=by
 have ad:=apo;have Wt:=NN;have pE:∀(W:cw)(g:Nat),(Builtin.copy_ #[139,139] 3 #[.slice (V<|S g 0 U) 0 0,R U 0 0]).run prog W= .ok (goInt 0) W:=λW g=>nX (P:=prog) W 139 139 3 108 _ _ 0 0 0 0 underlying139 Tryz.Y6 rfl
 obtain⟨j,c⟩:=ac<|w.alloc<|bi #[R U 0 0,R U 0 0,R U 0 0,R U 0 0,R U 0 0,Y Z 0] 141;have n:cD w.1.size w j:=by rw[c];exact(aA _ _).alloc (au _) _
 have Ml:j.1[w.1.size]? =V (bi #[R U 0 0,R U 0 0,R U 0 0,R U 0 0,R U 0 0,Y Z 0] 141 (0,0)):=by rw[c];exact pM
 have Mm:j.1.size=w.1.size+1:=by rw[c];simp
 have OP:dd (∀(W:cw)(a:Nat)(O Q T X a5:cJ),LB W a O (R U 0 0) Q T X a5->cP prog 141 #[.pointer<|V<|S a 0 U,Y Z d] W λe r=>e=bj (Y Z<|gT [] d)/\r=W):=λW a O Q T X a5 h=>aqw W a O Q T X a5 h d
 generalize gT [] d=B at*;go_enter func84,ntmps84;go_wp2;rw[<-c];obtain⟨q,m⟩:=ac<|(j.iter s 0);have EJ:cD j.1.size j (j.iter s 0):=(aA _ _).alloc (au _) _;have mD:dd (LB q w.1.size (R U 0 0) (R U 0 0) (R U 0 0) (R U 0 0) (R U 0 0) (Y Z 0)/\q.1[w.1.size+1]? =V (.stringIter s 0)/\cD w.1.size w q):=by rw[m];exact⟨aR EJ Ml,by rw[<-Mm];exact F7 _ _ _,n.alloc n.size _⟩
 rw[<-m];clear m c n Ml Mm EJ;obtain⟨a,o⟩:=ac w.1.size;obtain⟨H,hit⟩:=ac<|w.1.size+1;have C:dd (w.1.size<=a):=by show _<=_;omega
 have I:dd (LB q a (R U 0 0) (R U 0 0) (R U 0 0) (R U 0 0) (R U 0 0) (Y Z 0)/\q.1[H]? =V (.stringIter s 0)/\cD w.1.size w q):=by rw[o,hit];exact mD.out
 rw[<-hit,<-o];clear mD o hit;go_loopg [7] 0 (λgk _ W=>gk=0/\LB W a (R U 0 0) (R U 0 0) (R U 0 0) (R U 0 0) (R U 0 0) (Y Z 0)/\W.1[H]? =V (.stringIter s 0)/\cD w.1.size w W);exact⟨rfl,I.out.1,I.out.2.1,I.out.2.2⟩;clear I;obtain⟨rfl,K,z,hB⟩:=hrel;have aa:∀ty,(Instr.next (.pointer<|V<|S H 0 U) db ty).run prog wr= .ok (de #[ce da]) wr:=λty=>FY wr H s 0 ty z<|by omega
 have y:=K.c1;have L:LB (wr.alloc<|bi (madeCells #[Y Z 0] 0) 108) a _ _ _ _ _ _:=K.grown (En wr _ U) (by simp);obtain⟨d2,e2⟩:=L.c2;have b:=L.s2 (.slice (V<|S wr.1.size 0 U) 0 0);have x:cD w.1.size w ((wr.alloc<|bi (madeCells #[Y Z 0] 0) 108).setCell (S a 2 U) (.slice (V<|S wr.1.size 0 U) 0 0)):=(hB.alloc hB.size _).setCell (p:=(S a 2 U)) C.out _;have M:dd _:=And.intro b x;clear K L b x hB z;obtain⟨F,kR⟩:=ac wr.1.size;go_wp2;generalize((wr.alloc<|bi (madeCells #[Y Z 0] 0) 108).setCell (S a 2 U) (.slice (V<|S wr.1.size 0 U) 0 0))=v at*;rw[<-kR]at M ⊢;clear kR y d2 e2 aa;obtain⟨b,x⟩:=M.out;clear M;obtain⟨c2,_⟩:=b.c2;have y:=b.c1;have N:dd (LB v a _ _ _ _ _ _/\cD w.1.size w v):=⟨b,x⟩
 clear b x;go_region;all_goals
  clear y c2;have k:LB v.drew a _ _ _ _ _ _:=N.out.1;have cA:cD w.1.size w v.drew:=N.out.2.drew;clear N;generalize v.drew=i at*;have l:LB (i.alloc<|bi (madeCells #[Y Z 0] 0) 3) a _ _ _ _ _ _:=k.grown (En i _ U) (by simp);have y:=k.c1;obtain⟨d3,e3⟩:=l.c3;have qH:=l.s3 (.slice (V<|S i.1.size 0 U) 0 0);have UO:=qH.c1;have kO:cD w.1.size w ((i.alloc<|bi (madeCells #[Y Z 0] 0) 3).setCell (S a 3 U) (.slice (V<|S i.1.size 0 U) 0 0)):=(cA.alloc cA.size _).setCell (p:=(S a 3 U)) C.out _;have t:dd _:=And.intro qH kO;clear k cA l qH kO;obtain⟨G,A⟩:=ac i.1.size;go_wp2_with fail;generalize((i.alloc<|bi (madeCells #[Y Z 0] 0) 3).setCell (S a 3 U) (.slice (V<|S i.1.size 0 U) 0 0))=W5 at*;rw[<-A]at t ⊢;clear A y d3 e3 UO;refine(apj W5).mono ?_;rintro ev E ⟨f,rfl,gz⟩;have J:=t.out.1.below gz;obtain⟨d4,e4⟩:=J.c4;have yQ:=J.s4 (.slice (V<|S f 0 U) 0 0);have ED:cD w.1.size w (E.setCell (S a 4 U) (.slice (V<|S f 0 U) 0 0)):=(t.out.2.trans<|gz.mono t.out.2.size).setCell (p:=(S a 4 U)) C.out _;have D:dd _:=And.intro yQ ED;have u:dd (cP prog 141 #[.pointer<|V<|S a 0 U,Y Z d] (E.setCell (S a 4 U) (.slice (V<|S f 0 U) 0 0)) λe r=>e=bj (Y Z B)/\r=(E.setCell (S a 4 U) (.slice (V<|S f 0 U) 0 0))):=OP.out _ _ _ _ _ _ _ yQ;clear J yQ ED gz t;go_wp2_with fail;generalize(E.setCell (S a 4 U) (.slice (V<|S f 0 U) 0 0))=W7 at*;refine u.out.mono ?_;rintro ev wx ⟨rfl,hx⟩;have ab:=hx.symm;subst ab;clear u d4 e4;obtain⟨d5,e5⟩:=D.out.1.c5;have HF:dd (uP (W7.setCell (S a 5 U)<|Y Z B) a F G f B/\cD w.1.size w (W7.setCell (S a 5 U)<|Y Z B)):=⟨D.out.1.s5<|Y Z B,D.out.2.setCell (p:=(S a 5 U)) C.out _⟩
  clear D;go_wp2;go_ret;exact⟨a,F,G,f,rfl,HF.out.1,C,HF.out.2⟩
def asw(w:cw)(a i j k:Nat)(p:Int)(h:uP w a i j k p):cP prog 85 #[.pointer<|V<|S a 0 U] w λe r=>e=bj (de #[])/\cD w.1.size w r:=by
 obtain⟨s,c⟩:=ac w.1.size;have b:cD w.1.size w (w.alloc<|bi #[.pointer<|V<|S a 0 U,R U 0 0,Y Z 0,Y Z 0,Y Z 0] 212):=(aA _ _).alloc (au _) _;have d:dd (cN (w.alloc<|bi #[.pointer<|V<|S a 0 U,R U 0 0,Y Z 0,Y Z 0,Y Z 0] 212) w.1.size s (R U 0 0) (.pointer<|V<|S a 0 U) ⟨[],0,0,0⟩):=
  ⟨by rw[c];exact pM,⟨rfl,.inl ⟨rfl,rfl⟩⟩,by rw[c];exact au _⟩
 have n:(w.alloc<|bi #[.pointer<|V<|S a 0 U,R U 0 0,Y Z 0,Y Z 0,Y Z 0] 212).cell? (S a 5 U)=V (Y Z p):=(LB.below h b).c5.1;have f:=ah b;have m:dd (∀W,cD w.1.size w W->uP W a i j k p):=λW q=>LB.below h q
 clear h b;go_enter func85,ntmps85;go_wp2_with fail;rw[<-c];clear c;refine(RN _ w.1.size s _ _ _ p (-1) da d.out (by simp)).mono ?_;rintro u l ⟨rfl,v,o,hF⟩;have g:=ah<|hF.I7 d f;have t:l.cell? (S a 1 U)=V (R U 0 0):=(m l g).c1;clear o hF d f n;go_wp2;refine dN 1 ?_;rw[bB];go_wp2;go_end0;exact⟨rfl,g⟩
def ao2(w:cw)(a b c d:Nat)(p:Int)(h:uP w a b c d p):cP prog 218 #[.pointer<|V<|S a 0 U] w λe f=>e=bj (R U 0 0)/\f=w:=by have g:=LB.c1 h;clear h;go_enter func218,ntmps218;go_wp2;refine dN 1 ?_;rw[bB];go_wp2;go_ret;exact⟨rfl,rfl⟩
def asf(w:cw)(b c d f:Nat)(p:Int)(h:uP w b c d f p):cP prog 154 #[.pointer<|V<|S b 0 U] w λe i=>e=bj (R U 0 0)/\i=w:=by have g:=ah h;clear h;go_enter func154,ntmps154;go_wp2_with fail;refine(ao2 w b c d f p g).mono ?_;rintro j k ⟨rfl,hx⟩;have a:=hx.symm;subst a;go_wp2;refine dN 1 ?_;rw[bB];go_wp2;go_ret;exact⟨rfl,rfl⟩
def aso(w:cw)(b c d f:Nat)(p:Int)(h:uP w b c d f p):cP prog 87 #[.pointer<|V<|S b 0 U] w λe k=>e=bj (R U 0 0)/\cD w.1.size w k:=by
 have j:=@mV prog;have l:∀(i:Fn)(first a:Array cJ)(w:cw),(Instr.makeFunc i first a).run prog w= .ok (.func i first a) w:=λ_ _ _ _=>rfl
 have g:dd (uP (w.alloc<|bi #[.pointer<|V<|S b 0 U] 136) b c d f p):=LB.below h<|(aA _ _).alloc (au _) _;clear h;go_enter func87,ntmps87;go_wp2_with fail;refine(asf _ b c d f p g).mono ?_;rintro m n ⟨rfl,hx⟩;subst hx;clear g;go_wp2;refine dN 1 ?_;rw[bB];go_wp2;refine dN 1 ?_;rw[bB];go_wp2;go_ret;exact⟨rfl,(((aA _ _).alloc (au _) _).alloc (by simp) _).alloc (by simp;omega) _⟩
def alL(f g:cJ)(w:cw):cP prog 97 #[Y Z 0,f,g] w λe a=>e=bj (de #[])/\a=w:=by go_enter func97,ntmps97;go_wp2;refine dN 1 ?_;rw[bB];go_wp2;go_end0;exact⟨rfl,rfl⟩
def amy(w:cw)(a b c d:Nat)(p:Int)(h:uP w a b c d p)(f:Nat):cP prog 164 #[.pointer<|V<|S a 0 U,.slice (V<|S f 0 U) 0 0] w λe g=>e=bj (de #[])/\g=w:=by have i:=(LB.c5 h).1;clear h;go_enter func164,ntmps164;go_wp2;refine dN 1 ?_;rw[bB];go_wp2;go_end0;exact⟨rfl,rfl⟩
def aoT(w:cw)(a d f g:Nat)(p:Int)(h:uP w a d f g p)(c:Nat):cP prog 89 #[.pointer<|V<|S a 0 U,.slice (V<|S c 0 U) 0 0] w λe q=>e=bj (de #[])/\cD w.1.size w q:=by
 have s:∀(k:Fn)(first b:Array cJ)(w:cw),(Instr.makeFunc k first b).run prog w= .ok (.func k first b) w:=λ_ _ _ _=>rfl
 have j:cD w.1.size w ((w.alloc<|bi #[.pointer<|V<|S a 0 U] 136).alloc (bi #[.slice (V<|S c 0 U) 0 0] 31)):=((aA _ _).alloc (au _) _).alloc (by simp) _;have i:uP ((w.alloc<|bi #[.pointer<|V<|S a 0 U] 136).alloc (bi #[.slice (V<|S c 0 U) 0 0] 31)) a d f g p:=LB.below h j;have t:=LB.c1 i;have n:=ah i;have l:=ah j;have m:=ah alL;clear h i j;go_enter func89,ntmps89;go_wp2;refine dN 1 ?_;rw[bB];go_wp2_with fail;refine(m _ _ _).mono ?_;rintro o r ⟨rfl,hx⟩;subst hx;go_wp2_with fail;refine(amy _ a d f g p n c).mono ?_;rintro o r ⟨rfl,hx⟩;subst hx;go_wp2;go_end0;exact⟨rfl,l⟩
def akh(s:bc)(d:Int)(w:cw)(I:s.size=0):cP prog 55 #[cd s,Y Z d] w λe L=>∃g,e=bj (.slice (V<|S g 0 U) 0 0)/\aW L w.1.size 3 g 0 (iv [])/\cD w.1.size w L:=by
 have T:=NN;have pE:∀(W:cw)(g g1:Nat),(Builtin.copy_ #[31,31] 3 #[.slice (V<|S g 0 U) 0 0,.slice (V<|S g1 0 U) 0 0]).run prog W= .ok (goInt 0) W:=λW g g1=>nX (P:=prog) W 31 31 3 3 _ _ 0 0 0 0 underlying31 Tryz.RZ rfl
 have M:=ah<|aft s d w I;clear I;generalize gT [] d=n at*;go_enter func55,ntmps55;go_wp2_with fail;refine M.out.mono ?_;rintro u w1 ⟨m,j,k,l,rfl,E,_,o⟩;have x:=ah E;have y:=ah o;clear M E o;go_wp2_with fail;refine(asw w1 m j k l n x).mono ?_;rintro u a ⟨rfl,h⟩;have c:uP a m j k l n:=LB.below x h;have r:cD w.1.size w a:=y.out.trans<|h.mono y.out.size;have X:=(LB.c3 c).1;have i:cD a.1.size a (a.alloc<|bi (madeCells #[Y Z 0] 0) 3):=(aA _ _).alloc (au _) _;have f:uP (a.alloc<|bi (madeCells #[Y Z 0] 0) 3) m j k l n:=LB.below c i;have N:=(LB.c3 f).1;have D:dd (aW (a.alloc<|bi (madeCells #[Y Z 0] 0) 3) w.1.size 3 a.1.size 0<|List.replicate 0<|Y Z 0):=aW.made r.size (by omega);have q:dd (uP (a.alloc<|bi (madeCells #[Y Z 0] 0) 3) m j k l n/\cD w.1.size w (a.alloc<|bi (madeCells #[Y Z 0] 0) 3)):=⟨f,r.trans<|i.mono r.size⟩
 clear c r h i f x y;obtain⟨B,p⟩:=ac a.1.size;go_wp2_with fail;generalize a.alloc (bi (madeCells #[Y Z 0] 0) 3)=O at*;rw[<-p]at D ⊢;clear p X N T pE;refine(agL O).mono ?_;rintro u Q ⟨g,rfl,_,_,_,b⟩;have v:=ah<|LB.below q.out.1 b;have A:=ah<|q.out.2.trans<|b.mono q.out.2.size;have K:=ah<|fS D b;clear q D b;go_wp2_with fail;refine(aso Q m j k l n v).mono ?_;rintro u R ⟨rfl,t⟩;have G:=ah<|LB.below v t;have z:=ah<|A.out.trans<|t.mono A.out.size;have J:=ah<|fS K t;clear v A K t;go_wp2;refine dN 1 ?_;rw[bB];go_wp2_with fail;refine(aoT R m j k l n G B).mono ?_;rintro u H ⟨rfl,C⟩;have F:dd (aW H w.1.size 3 B 0 (List.replicate 0<|Y Z 0)/\cD w.1.size w H):=⟨fS J C,z.out.trans<|C.mono z.out.size⟩
 clear G z J C;go_wp2;go_ret;exact⟨B,rfl,F.out.1,F.out.2⟩
end
def fA(s:bc)(d:Int):aw:=if bu s=0 then fQ (iF s) ((iF s).map cls) d else []
def N0 {w:cw}{B n z:Nat}{v:cJ}{e:TypeId}{b:List cJ}(h:w.ownsRow (B+1) e z v n b):w.ownsRow B e z v n b:=by refine⟨h.1,?_⟩;rcases h.2 with h|⟨g,c,a,d,i,f⟩;exact .inl h;exact .inr ⟨g,c,a,d,by omega,f⟩
def arx(s:bc)(d:Int)(w:cw)(k:bu s≠0):cP prog 29 #[cd s,Y Z d] w λe y=>e=bj (de #[R U 0 0,jm<|bu s])/\cD w.1.size w y:=by
 go_enter func29,ntmps29;go_wp2_with fail;refine(UC s _).mono ?_;rintro e b ⟨f,v,rfl,j,_⟩;obtain⟨g,h⟩:=uW f;obtain⟨a,m,i,c⟩:∃a m,jm (bu s)=df #[Y Z a,Y Z m,Y Z m]/\a=bu s:=⟨_,_,rfl,rfl⟩
 have n:=ah i;have A:(a !=0)=db:=by rw[c];simpa using k
 rw[i];clear i c k;have l:dd (cD w.1.size w b):=((aA _ _).alloc (au _) _).trans (f.mono<|by simp);have z:w.1.size<b.1.size:=by have:=f.size;simp at this;omega
 have t:=(g w.1.size 0<|by simp).trans (show _=V (Y Z 0)by simp);have u:=(g w.1.size 1<|by simp).trans (show _=V (Y Z 0)by simp);have x:=(g w.1.size 2<|by simp).trans (show _=V (Y Z 0)by simp);have f0:=(h w.1.size 0<|by simp).trans (show _=da by simp);have f1:=(h w.1.size 1<|by simp).trans (show _=da by simp);have f2:=(h w.1.size 2<|by simp).trans (show _=da by simp);clear j f g h;go_wp2;go_region;go_wp2;have o:((((b.setCell (S w.1.size 0 U)<|Y Z a).setCell (S w.1.size 1 U) (Y Z m)).setCell (S w.1.size 2 U) (Y Z m)).alloc (bi #[Y Z a,Y Z m,Y Z m] 47)).cell? (S w.1.size 0 U)=(((b.setCell (S w.1.size 0 U)<|Y Z a).setCell (S w.1.size 1 U) (Y Z m)).setCell (S w.1.size 2 U) (Y Z m)).cell? (S w.1.size 0 U):=gW _ _ (S w.1.size 0 U) (by simp;omega);have q:((((b.setCell (S w.1.size 0 U)<|Y Z a).setCell (S w.1.size 1 U) (Y Z m)).setCell (S w.1.size 2 U) (Y Z m)).alloc (bi #[Y Z a,Y Z m,Y Z m] 47)).cell? (S w.1.size 1 U)=(((b.setCell (S w.1.size 0 U)<|Y Z a).setCell (S w.1.size 1 U) (Y Z m)).setCell (S w.1.size 2 U) (Y Z m)).cell? (S w.1.size 1 U):=gW _ _ (S w.1.size 1 U) (by simp;omega);have r:((((b.setCell (S w.1.size 0 U)<|Y Z a).setCell (S w.1.size 1 U) (Y Z m)).setCell (S w.1.size 2 U) (Y Z m)).alloc (bi #[Y Z a,Y Z m,Y Z m] 47)).cell? (S w.1.size 2 U)=(((b.setCell (S w.1.size 0 U)<|Y Z a).setCell (S w.1.size 1 U) (Y Z m)).setCell (S w.1.size 2 U) (Y Z m)).cell? (S w.1.size 2 U):=gW _ _ (S w.1.size 2 U) (by simp;omega);refine bU (v:=de #[R U 0 0,df #[Y Z a,Y Z m,Y Z m]]) (by simp[results,results29,go_sem,o,q,r,t,u,x]) rfl ⟨by rw[n.out],?_⟩;exact((((l.out.setCell (p:=(S w.1.size 0 U)) (au _) _).setCell (p:=(S w.1.size 1 U)) (au _) _).setCell (p:=(S w.1.size 2 U)) (au _) _).alloc (by simp;omega) _).drew
def ary(s:bc)(d:Int)(w:cw)(k:bu s=0):cP prog 29 #[cd s,Y Z d] w λe i=>cD w.1.size w i/\∃v,e=bj (de #[v,jm<|bu s])/\i.ownsRow w.1.size 3 1 v (fA s d).length (iv<|fA s d):=by
 have I:=LK s;obtain⟨LV,q⟩:=ac<|fA s d;rw[<-q];have B:dd (LV=fQ (iF s) ((iF s).map cls) d):=by show _=_;rw[q,fA,aj k]
 clear q;go_enter func29,ntmps29;go_wp2_with fail;refine(UC s _).mono ?_;rintro e y ⟨n,v,rfl,l,_⟩;obtain⟨o,G⟩:=uW n;have r:jm (bu s)=df #[Y Z 0,Y Z 0,Y Z 0]:=by rw[k];rfl
 have D:=ah r;rw[r];clear r k;have A:dF (y.alloc<|bi #[Y Z 0,Y Z 0,Y Z 0] 47) v (iF s):=l.below<|(aA _ _).alloc (au _) _;have C:dd (∀W,dF W v (iF s)->w.1.size+1<=W.1.size->cP prog 48 #[v,Y Z d] W λe i=>∃f,e=bj f/\i.ownsRow (w.1.size+1) 3 1 f LV.length (iv LV)/\cD W.1.size W i):=λW h N=>
  (WQ _ d v W (by omega) h).mono λe i ⟨g,c,k,p,t⟩=>by rw[<-B.out]at p;have H:LV.length=(iF s).length:=(by have:=p.1;rw[oC]at this;omega);exact⟨_,k,by rw[H];exact afU p<|by have:=(p.lt g rfl).1;omega,t⟩
 have E:=ah A;have z:dd (cD w.1.size w y):=((aA _ _).alloc (au _) _).trans (n.mono<|by simp);have x:w.1.size<y.1.size:=by have:=n.size;simp at this;omega
 clear l A n;go_wp2_with fail
 go_region_with (go_at_call 48;refine(C _ ?_ ?_).mono ?_;exact E.out;(simp;omega);rintro e m ⟨f,rfl,b,j⟩;obtain⟨a,u⟩:=uW j)
 all_goals
  have F:cD w.1.size w (((m.setCell (S w.1.size 0 U)<|Y Z 0).setCell (S w.1.size 1 U) (Y Z 0)).setCell (S w.1.size 2 U) (Y Z 0)):=
   (((((z.out.alloc z.out.size _).drew).trans (j.mono<|by simp;omega)).setCell (au _) _).setCell (au _) _).setCell (au _) _
  have J:(((m.setCell (S w.1.size 0 U)<|Y Z 0).setCell (S w.1.size 1 U) (Y Z 0)).setCell (S w.1.size 2 U) (Y Z 0)).ownsRow w.1.size 3 1 f LV.length (iv LV):=
   N0 (gA (gA (gA b (by simp) _) (by simp) _) (by simp) _)
  have K:m.cell? (S w.1.size 0 U)=V (Y Z 0):=(a _ _ (by simp;omega)).trans ((gW _ _ (S w.1.size 0 U) x).trans ((o _ _ (by simp)).trans (by simp)));have L:m.cell? (S w.1.size 1 U)=V (Y Z 0):=(a _ _ (by simp;omega)).trans ((gW _ _ (S w.1.size 1 U) x).trans ((o _ _ (by simp)).trans (by simp)));have M:m.cell? (S w.1.size 2 U)=V (Y Z 0):=(a _ _ (by simp;omega)).trans ((gW _ _ (S w.1.size 2 U) x).trans ((o _ _ (by simp)).trans (by simp)));clear a u o G;go_wp2;exact bU (v:=de #[f,df #[Y Z 0,Y Z 0,Y Z 0]]) (by simp[results,results29,go_sem,K,L,M]) rfl ⟨F,f,by rw[D.out],J⟩
def agD(s:bc)(d:Int)(w:cw):cP prog 29 #[cd s,Y Z d] w λe b=>cD w.1.size w b/\∃v,e=bj (de #[v,jm<|bu s])/\b.ownsRow w.1.size 3 1 v (fA s d).length (iv<|fA s d):=by by_cases a:bu s=0;exact ary s d w a;refine(arx s d w a).mono ?_;rintro e b ⟨rfl,c⟩;refine⟨c,_,rfl,?_⟩;rw[fA,ai a];exact⟨rfl,.inl ⟨rfl,rfl⟩⟩
structure o6 where
 k:Int
 a:Int
 s:bc
 e:Value
def qK(o:o6):cJ:=df #[Y Z o.k,Y Z o.a,cd o.s,o.e]
def F5(w:cw)(b f:Nat)(d:List o6):Prop:=∀i (h:i<d.length),w.cell? (S b (f+i*4) U)=V (Y Z d[i].k)/\w.cell? (S b (f+i*4+1) U)=V (Y Z d[i].a)/\w.cell? (S b (f+i*4+2) U)=V (cd d[i].s)/\w.cell? (S b (f+i*4+3) U)=V d[i].e/\∃g n c,d[i].e=R g n c
def F5.below {w e:cw}{b a:Nat}{c:List o6}(h:F5 w b a c)(d:cD w.1.size w e):F5 e b a c:=λi f=>
 let⟨h1,h2,h3,h4,h5⟩:=h i f
 ⟨cU d h1,cU d h2,cU d h3,cU d h4,h5⟩
def Uj(w:cw)(o:o6):Prop:=∀W,cD w.1.size w W->cP prog 18 #[qK o] W λe a=>e=bj (ce db)/\cD W.1.size W a
def atI(a:List o6)(b x z n:Nat)(p l:Int)(w:cw)(K:a.length=n)(hn:n<=1000000000000000)(I:F5 w b x a) (L:∀o∈a,p<=o.k->o.k<=l->Uj w o):cP prog 13 #[.slice (V<|S b x U) n z,Y Z p,Y Z l] w λe w'=>e=bj (Y Z (-1))/\cD w.1.size w w':=by
 have N:=ah I;have O:=ah K;have P:=ah L;clear I K L;go_enter func13,ntmps13;go_wp2;go_loopw [7] (λi wr=>∃k:Nat,k<=n/\i=Y Z k/\cD w.1.size w wr) (λi _=>n - (intOf i).toNat);case atStart=>exact⟨0,lB _,rfl,aA _ _⟩
 case round=>
  obtain⟨k,hk,rfl,f⟩:=hrel;have d:=f.size;have T:(k:Int)<1152921504606846976:=by omega
  by_cases B:k<n
  .have v:(k:Int)<(n:Int):=(by omega);have g:k<a.length:=(by rw[O.out];exact B);obtain⟨C,D,E,F,h,m,j,J⟩:=(N.out.below f) k g;have s:dd (p<=a[k].k->a[k].k<=l->Uj w a[k]):=P.out a[k] (nP g);generalize a[k]=o at*;obtain⟨c,q,r,oe⟩:=o;simp only at C D E F J;subst J;have y:dd (p<=c->c<=l->Uj w ⟨c,q,r,R h m j⟩):=s;clear s g;by_cases G:p<=c
   .by_cases H:c<=l
    .have t:cD w.1.size w (wr.alloc<|bi #[Y Z c,Y Z q,cd r,R h m j] 29):=f.alloc d _;have M:dd (cP prog 18 #[qK ⟨c,q,r,R h m j⟩] (wr.alloc<|bi #[Y Z c,Y Z q,cd r,R h m j] 29) λe Q=>e=bj (ce db)/\cD (wr.alloc<|bi #[Y Z c,Y Z q,cd r,R h m j] 29).1.size (wr.alloc<|bi #[Y Z c,Y Z q,cd r,R h m j] 29) Q):=y.out G H _ t;clear y t;go_wp2_with fail;refine M.out.mono ?_;rintro e w3 ⟨rfl,u⟩;have A:cD w.1.size w w3:=(f.alloc d _).trans (u.mono<|by simp;omega);clear u M C D E F;go_wp2;go_roundw;case rel=>exact⟨k+1,by omega,by go_num,A⟩
     case measure=>simp[intOf];omega
    .have X:decide (c<=l)=da:=(by simpa using H);clear y;go_wp2;go_roundw;case rel=>exact⟨k+1,by omega,by go_num,f.alloc d _⟩
     case measure=>simp[intOf];omega
   .have W:decide (p<=c)=da:=(by simpa using G);clear y;go_wp2;go_roundw;case rel=>exact⟨k+1,by omega,by go_num,f.alloc d _⟩
    case measure=>simp[intOf];omega
  have v:¬(k:Int)<(n:Int):=(by omega);go_wp2;go_ret;exact⟨rfl,f⟩
def atJ(b:Option Addr)(a:Nat)(d c:Int)(w:cw):cP prog 13 #[R b 0 a,Y Z d,Y Z c] w λe f=>e=bj (Y Z (-1))/\cD w.1.size w f:=by go_enter func13,ntmps13;go_wp2;refine dN 1 ?_;rw[bB];go_wp2;go_ret;exact⟨rfl,aA _ _⟩
def jB:List (Int×Int×Int):=[(1488,1514,1),(8207,8207,1),(1575,1610,2),(1564,1564,2),(48,57,3),(43,43,4),(45,45,4),(35,37,5),(8364,8364,5),(1632,1641,6),(44,44,7),(46,47,7),(58,58,7),(768,879,8),(1611,1618,8),(173,173,9),(8203,8203,9),(9,9,10),(32,32,11),(8195,8195,11),(33,34,12),(38,42,12),(59,64,12),(91,96,12),(123,126,12),(9001,9002,12),(12296,12297,12),(8234,8234,13),(8235,8235,14),(8237,8237,15),(8238,8238,16),(8236,8236,17),(8294,8294,18),(8295,8295,19),(8296,8296,20),(8297,8297,21)]
def AP:Array cJ:=(jB.flatMap λx=>[Y .i32 x.1,Y .i32 x.2.1,Y Z x.2.2]).toArray
def aoc:∀(k:Nat)(_hk:k<36)(w:cw),(Instr.index 176 (.agg AP)<|Y Z k).run prog w= .ok (df #[Y .i32 (jB.getD k (0,0,0)).1,Y .i32 (jB.getD k (0,0,0)).2.1,Y Z (jB.getD k (0,0,0)).2.2]) w:=by
 intro k a w
 iterate 36 (rcases k with _|k;· kernel_rfl)
 omega
def ap0:zX {data:=#[33,34,38,39,40,41,42,59,60,61,62,63,64,91,92,93,94,95,96,123,124,125,126]}=[33,34,38,39,40,41,42,59,60,61,62,63,64,91,92,93,94,95,96,123,124,125,126]:=by decide
def alo:∀(k:Fin 36)(d:Fin 6),(jB.getD k (0,0,0)).1+((d:Nat):Int)<=(jB.getD k (0,0,0)).2.1->cls ((jB.getD k (0,0,0)).1+((d:Nat):Int))=(jB.getD k (0,0,0)).2.2:=by decide+kernel
def alm(r:Int)(k:Nat)(c:k<36)(b:(jB.getD k (0,0,0)).1<=r)(a:r<=(jB.getD k (0,0,0)).2.1):cls r=(jB.getD k (0,0,0)).2.2:=by
 by_cases h:r - (jB.getD k (0,0,0)).1<6
 .have e:r=(jB.getD k (0,0,0)).1+(((r - (jB.getD k (0,0,0)).1).toNat:Nat):Int):=by omega
  have:=alo ⟨k,c⟩ ⟨(r - (jB.getD k (0,0,0)).1).toNat,by omega⟩;simp only at this;rw[<-e]at this;exact this a
 iterate 36 (rcases k with _|k;· (simp only[jB,Pf,mz]at b a h ⊢;first|(exfalso;omega)|exact AO (by omega)|exact A8 (by omega)|exact BS (by omega)|exact CE (by omega)|exact CR (by omega)|exact CW (by omega)|exact Db (by omega)|exact Dc (by omega)|exact Df (by omega)|exact(Dl<|by omega).trans (by omega)))
 omega
def Pw {r:Int}{l:aw}(h:∀x∈l,r≠x):fH r l=da:=by unfold fH;rw[l6,C2];exact λa=>h r a rfl
def aln(r:Int)(h:∀k,k<36->¬((jB.getD k (0,0,0)).1<=r/\r<=(jB.getD k (0,0,0)).2.1)):cls r=0:=by
 have I:¬((1488:Int)<=r/\r<=1514):=h 0 (by decide);have g1:¬((8207:Int)<=r/\r<=8207):=h 1 (by decide);have g2:¬((1575:Int)<=r/\r<=1610):=h 2 (by decide);have g3:¬((1564:Int)<=r/\r<=1564):=h 3 (by decide);have g4:¬((48:Int)<=r/\r<=57):=h 4 (by decide);have g5:¬((43:Int)<=r/\r<=43):=h 5 (by decide);have J:¬((45:Int)<=r/\r<=45):=h 6 (by decide);have g7:¬((35:Int)<=r/\r<=37):=h 7 (by decide);have K:¬((8364:Int)<=r/\r<=8364):=h 8 (by decide);have L:¬((1632:Int)<=r/\r<=1641):=h 9 (by decide);have e:¬((44:Int)<=r/\r<=44):=h 10 (by decide);have f:¬((46:Int)<=r/\r<=47):=h 11 (by decide);have g:¬((58:Int)<=r/\r<=58):=h 12 (by decide);have i:¬((768:Int)<=r/\r<=879):=h 13 (by decide);have j:¬((1611:Int)<=r/\r<=1618):=h 14 (by decide);have l:¬((173:Int)<=r/\r<=173):=h 15 (by decide);have m:¬((8203:Int)<=r/\r<=8203):=h 16 (by decide);have n:¬((9:Int)<=r/\r<=9):=h 17 (by decide);have o:¬((32:Int)<=r/\r<=32):=h 18 (by decide);have p:¬((8195:Int)<=r/\r<=8195):=h 19 (by decide);have q:¬((33:Int)<=r/\r<=34):=h 20 (by decide);have s:¬((38:Int)<=r/\r<=42):=h 21 (by decide);have t:¬((59:Int)<=r/\r<=64):=h 22 (by decide);have u:¬((91:Int)<=r/\r<=96):=h 23 (by decide);have v:¬((123:Int)<=r/\r<=126):=h 24 (by decide);have w:¬((9001:Int)<=r/\r<=9002):=h 25 (by decide);have x:¬((12296:Int)<=r/\r<=12297):=h 26 (by decide);have y:¬((8234:Int)<=r/\r<=8234):=h 27 (by decide);have z:¬((8235:Int)<=r/\r<=8235):=h 28 (by decide);have A:¬((8237:Int)<=r/\r<=8237):=h 29 (by decide);have B:¬((8238:Int)<=r/\r<=8238):=h 30 (by decide);have C:¬((8236:Int)<=r/\r<=8236):=h 31 (by decide);have D:¬((8294:Int)<=r/\r<=8294):=h 32 (by decide);have E:¬((8295:Int)<=r/\r<=8295):=h 33 (by decide);have F:¬((8296:Int)<=r/\r<=8296):=h 34 (by decide);have G:¬((8297:Int)<=r/\r<=8297):=h 35 (by decide);clear h;have H:qV r:=by unfold qV;omega
 rw[Dm H,ap0];have a:fH r [35,36,37,8364]=da:=Pw (by simp only[gI,Lv,Hg,Vn,Vm];omega);have b:fH r [44,46,47,58]=da:=Pw (by simp only[gI,Lv,Hg,Vn,Vm];omega);have c:fH r [33,34,38,39,40,41,42,59,60,61,62,63,64,91,92,93,94,95,96,123,124,125,126]=da:=Pw (by simp only[gI,Lv,Hg,Vn,Vm];omega);have d:fH r [9001,9002,12296,12297]=da:=Pw (by simp only[gI,Lv,Hg,Vn,Vm];omega);rw[a,b,c,d,ai<|by decide,ai<|by decide,ai<|by decide,ai<|by omega,ai<|by omega,ai<|by omega,ai<|by omega,ai<|by omega]
structure Env(w:World)(aL aT aC:Addr):Prop where
 long:w.cell? ⟨0,0,none⟩=some (.iface 354 (.pointer<|some aL))
 text:w.cell? ⟨1,0,none⟩=some (.iface 354 (.pointer<|some aT))
 code:w.cell? ⟨2,0,none⟩=some (.iface 354 (.pointer<|some aC))
 Qm:w.cell? ⟨3,0,none⟩=some (.iface 223 (.agg #[.pointer<|some ⟨16,53,none⟩]))
 tabs:Lib.Utf8Tabs (Tryz.lays196_ren.g 3) (Tryz.lays196_ren.g 4) w
 Hx:∃t fr,w.1[4]? =some (.cells AP t fr)
 J1:aL≠aT
 J2:aT≠aC
 JZ:aL≠aC
 Bx:∃c t,w.1[aL.block]? =some (.cells c t (0,0))
 Bz:∃c t,w.1[aT.block]? =some (.cells c t (0,0))
 Bw:∃c t,w.1[aC.block]? =some (.cells c t (0,0))
def Env.below {w e:cw}{aL d b:Addr}(h:Env w aL d b)(a:cD w.1.size w e):Env e aL d b where
 long:=cU a h.long
 text:=cU a h.text
 code:=cU a h.code
 Qm:=cU a h.Qm
 tabs:=Utf8Tabs_below h.tabs a
 Hx:=by obtain⟨t,f,h⟩:=h.Hx;exact⟨t,f,aR a h⟩
 J1:=h.J1
 J2:=h.J2
 JZ:=h.JZ
 Bx:=by obtain⟨c,t,h⟩:=h.Bx;exact⟨c,t,aR a h⟩
 Bz:=by obtain⟨c,t,h⟩:=h.Bz;exact⟨c,t,aR a h⟩
 Bw:=by obtain⟨c,t,h⟩:=h.Bw;exact⟨c,t,aR a h⟩
def Tryz.asH:(prog.info? 176).map (·.size)=V AP.size:=by kernel_rfl
def U0(r:Int)(w:cw)(t:TypeId)(z:Nat×Nat)(o:w.1[4]? =V (bi AP t z)):cP prog 66 #[Y .i32 r] w λe I=>e=bj (Y Z<|cls r)/\cD w.1.size w I:=by
 have m:∀(k:Nat)(_:k<36)(p:cw),(Instr.index 176 (.agg AP)<|Y Z k).run prog p= .ok (df #[Y .i32 (jB.getD k (0,0,0)).1,Y .i32 (jB.getD k (0,0,0)).2.1,Y Z (jB.getD k (0,0,0)).2.2]) p:=aoc;have x:=ah m;have v:=ah o;have y:=Tryz.asH;clear m o;generalize AP=K at x v y;go_enter func66,ntmps66;go_wp2_with(refine ZO rfl 176 _ rfl 4 rfl t _ z _ v.out underlying176 rfl y ?_);go_loopw [6] (λi wr=>∃k:Nat,k<=36/\i=Y Z k/\(∀j,j<k->¬((jB.getD j (0,0,0)).1<=r/\r<=(jB.getD j (0,0,0)).2.1))/\cD w.1.size w wr) (λi _=>36 - (intOf i).toNat);case atStart=>exact⟨0,lB _,rfl,λj h=>absurd h<|by omega,aA _ _⟩
 case round=>
  obtain⟨k,J,rfl,n,g⟩:=hrel;have s:=ah n;have d:=g.size;clear n;by_cases l:k<36
  .have D:(k:Int)<36:=(by omega);have F:=λp=>x.out k l p
   have E:dd _:=alm r k l;obtain⟨a,b,c,u⟩:∃a b c,jB.getD k (0,0,0)=(a,b,c):=⟨_,_,_,rfl⟩
   simp only[u]at F;have q:=ah u;clear u;by_cases A:a<=r
   .by_cases B:r<=b
    .go_wp2;go_ret;refine⟨dX ?_,g.alloc d _⟩;have:=E.out;rw[q.out]at this;exact(this A B).symm
    .have H:decide (r<=b)=da:=(by simpa using B);go_wp2;go_roundw;case rel=>
      refine⟨k+1,by omega,by go_num,λj C=> ?_,g.alloc d _⟩;by_cases f:j<k;exact s.out j f;obtain rfl:j=k:=(by omega);rw[q.out];show¬(a<=r/\r<=b);omega
     case measure=>simp[intOf];omega
   .have G:decide (a<=r)=da:=(by simpa using A);go_wp2;go_roundw;case rel=>
     refine⟨k+1,by omega,by go_num,λj C=> ?_,g.alloc d _⟩;by_cases f:j<k;exact s.out j f;obtain rfl:j=k:=(by omega);rw[q.out];show¬(a<=r/\r<=b);omega
    case measure=>simp[intOf];omega
  go_wp2;go_ret;exact⟨dX (aln r λj C=>s.out j<|by omega).symm,g⟩
def jF(e:Int)(aL b a:Addr):cJ:=if e=0 then .nilIface else if e=1 then .iface 354 (.pointer<|V aL)else if e=2 then .iface 354 (.pointer<|V b)else .iface 354 (.pointer<|V a)
def atL(s:bc)(w:cw)(b:s.size<=9223372036854775807)(a:Lib.Utf8Tabs (Tryz.lays196_ren.g 3) (Tryz.lays196_ren.g 4) w):cP prog 81 #[cd s] w λe c=>e=bj (ce (cK s).isSome)/\cD w.1.size w c:=by have:=Any.utf8_ValidString Tryz.lays196 s w b a;rw[valid_eq]at this;exact this
def U1(s:bc)(w:cw):cP prog 82 #[cd s,cd ⟨#[10]⟩] w λe a=>e=bj (ce<|s.data.toList.contains 10)/\a=w:=by have:=Any.strings_Contains_one Tryz.lays144 s 10 w;rw[<-Lib.contains_iff_indexByte]at this;exact this
def U3(s:bc)(w:cw)(c:s.size<9223372036854775807):cP prog 83 #[cd s] w λe a=>e=bj (Y Z<|Lib.runeCount s)/\cD w.1.size w a:=
 (Any.utf8_RuneCountInString Tryz.lays195 s w c).mono λe a ⟨b,f,d⟩=>⟨b,by subst d;exact(aA _ _).alloc (au _) _⟩
def PO(s:bc)(w:cw)(aL c g:Addr)(C:s.size<=9223372036854775807)(i:Env w aL c g):cP prog 54 #[cd s] w λe p=>e=bj (jF (bu s) aL c g)/\cD w.1.size w p:=by
 by_cases o:600<s.size
 .have a:jF (bu s) aL c g= .iface 354 (.pointer<|V aL):=by rw[Py o];rfl
  rw[a];have v:=i.long;have u:(600:Int)<(s.size:Int):=by omega
  clear a;go_enter func54,ntmps54;go_wp2;go_ret;exact⟨rfl,aA _ _⟩
 have u:(s.size:Int)<=600:=by omega
 have j:=atL s w C i.tabs;cases hr:cK s with
 |none=>
  have a:jF (bu s) aL c g= .iface 354 (.pointer<|V c):=by rw[Pz o hr];rfl
  rw[a];have n:dd (cP prog 81 #[cd s] w λe p=>e=bj (ce da)/\cD w.1.size w p):=by rw[hr]at j;exact j
  have q:=ah i;clear a hr j i;go_enter func54,ntmps54;go_wp2_with fail;refine n.out.mono ?_;rintro e k ⟨rfl,b⟩;have v:=(q.out.below b).text;go_wp2;go_ret;exact⟨rfl,b⟩
 |some l=>
  have n:dd (cP prog 81 #[cd s] w λe p=>e=bj (ce db)/\cD w.1.size w p):=by rw[hr]at j;exact j
  have q:=ah i;have m:=ah<|amw hr;have r:=ah hr;clear hr j i;by_cases d:fH 10 l=db
  .have a:jF (bu s) aL c g= .iface 354 (.pointer<|V c):=(by rw[Uz o r.out d];rfl);rw[a];rw[d]at m;clear a d;go_enter func54,ntmps54;go_wp2_with fail;refine n.out.mono ?_;rintro e k ⟨rfl,b⟩;have v:=(q.out.below b).text;go_wp2_with fail;refine(U1 s k).mono ?_;rintro e B ⟨rfl,rfl⟩;rw[m.out];go_wp2;go_ret;exact⟨rfl,b⟩
  have y:=ah d;have d:fH 10 l=da:=(by simpa using d);rw[d]at m;have z:=ah<|runeCount_eq r;by_cases A:300<l.length
  .have a:jF (bu s) aL c g= .iface 354 (.pointer<|V aL):=(by rw[UA o r.out y.out A];rfl);rw[a];have t:(300:Int)<(l.length:Int):=(by omega);clear a d;go_enter func54,ntmps54;go_wp2_with fail;refine n.out.mono ?_;rintro e k ⟨rfl,b⟩;go_wp2_with fail;refine(U1 s k).mono ?_;rintro e B ⟨rfl,rfl⟩;rw[m.out];go_wp2_with fail;refine(U3 s _ (by omega)).mono ?_;rintro e x ⟨rfl,h⟩;rw[z.out];have f:cD w.1.size w x:=b.trans<|h.mono b.size;have v:=(q.out.below f).long;go_wp2;go_ret;exact⟨rfl,f⟩
  have a:jF (bu s) aL c g= .nilIface:=(by rw[UB o r.out y.out A];rfl);rw[a];have t:¬(300:Int)<(l.length:Int):=(by omega);clear a d;go_enter func54,ntmps54;go_wp2_with fail;refine n.out.mono ?_;rintro e k ⟨rfl,b⟩;go_wp2_with fail;refine(U1 s k).mono ?_;rintro e B ⟨rfl,rfl⟩;rw[m.out];go_wp2_with fail;refine(U3 s _ (by omega)).mono ?_;rintro e x ⟨rfl,h⟩;rw[z.out];have f:cD w.1.size w x:=b.trans<|h.mono b.size;go_wp2;go_ret;exact⟨rfl,f⟩
section
open Go.RowKit Go.Extern.Stop Go.Stop Go.Extern
def Tryz.ah4(t:Addr)(w:cw):(ReflectliteValue.unpack (.iface 94 (.pointer<|V t))).run prog w = .ok (df #[.pointer<|V<|S 16 94 U,.pointer<|V<|S w.1.size 0 U,Y .u64 150]) (w.alloc<|bi #[.pointer<|V t] 94):=by kernel_rfl
def Tryz.ahY(a:Addr)(w:cw):(ReflectliteValue.methodAny (ReflectliteValue.valueError "reflectlite.Value.Type" 0) (λt _ _ _=>ReflectliteType.toType t) #[df #[.pointer<|V<|S 16 94 U,.pointer<|V a,Y .u64 150]]).run prog w
  = .ok (.iface 223<|df #[.pointer<|V<|S 16 94 U]) w:=by kernel_rfl
def Tryz.aeR(w:cw):((ReflectliteType.abiMethod λt=>(λa:Nat=>Value.int IntKind.u8 (a:Int))<$>Rtype.kind t) #[.pointer<|V<|S 16 94 U]).run prog w= .ok (Y .u8 22) w:=by kernel_rfl
def Tryz.aeQ(w:cw):((ReflectliteType.abiMethod λt=>(λa:Nat=>Value.int IntKind.u8 (a:Int))<$>Rtype.kind t) #[.pointer<|V<|S 16 92 U]).run prog w= .ok (Y .u8 22) w:=by kernel_rfl
def rlm(z:Sem cJ)(f:TypeId->Addr->Nat->Nat->Sem cJ)(v:cJ):ReflectliteValue.method z f #[v]=(do match<-ReflectliteValue.parts v with|none=>z|some (t,a,fl)=>f t a fl<|fl%32):=rfl
def Tryz.af8(a:Addr)(w:cw):(ReflectliteValue.parts<|df #[.pointer<|V<|S 16 94 U,.pointer<|V a,Y .u64 150]).run prog w= .ok (V (94,a,150)) w:=by kernel_rfl
def Tryz.aeG(a p:Addr)(W:cw)(b:W.cell? a=V (.pointer<|V p)):(ReflectliteValue.method (ReflectliteValue.valueError "reflectlite.Value.IsNil" 0) ReflectliteValue.isNil #[df #[.pointer<|V<|S 16 94 U,.pointer<|V a,Y .u64 150]]).run prog W= .ok (ce da) W:=by rw[rlm];simp only[IU,Tryz.af8,Result.andThen];simp[ReflectliteValue.isNil,loadVar,isAgg,underlying,underlying94,b,Result.andThen]
def Tryz.za(w:cw):(ReflectliteType.method ReflectliteType.elem #[df #[.pointer<|V<|S 16 94 U]]).run prog w= .ok (.iface 223<|df #[.pointer<|V<|S 16 92 U]) w:=by kernel_rfl
def Tryz.aev(w:cw):(ReflectliteType.relation "Implements" ReflectliteType.implements_ #[df #[.pointer<|V<|S 16 92 U],.iface 223<|df #[.pointer<|V<|S 16 53 U]]).run prog w= .ok (ce db) w:=by kernel_rfl
def Tryz.Zy(v:cJ)(w:cw):(ReflectliteType.typeOf #[.iface 354 v]).run prog w= .ok (.iface 223<|df #[.pointer<|V<|S 16 354 U]) w:=by kernel_rfl
def Tryz.akc(w:cw):(ReflectliteType.relation "AssignableTo" ReflectliteType.assignableTo #[df #[.pointer<|V<|S 16 354 U],.iface 223<|df #[.pointer<|V<|S 16 92 U]]).run prog w= .ok (ce da) w:=by kernel_rfl
def Tryz.afm(h:cJ)(w:cw):(Go.method 483 223 (df #[h]) "Kind").run prog w= .ok (323,h) w:=by kernel_rfl
def Tryz.afk(h:cJ)(w:cw):(Go.method 483 223 (df #[h]) "Elem").run prog w= .ok (334,df #[h]) w:=by kernel_rfl
def Tryz.afl(h:cJ)(w:cw):(Go.method 483 223 (df #[h]) "Implements").run prog w= .ok (335,df #[h]) w:=by kernel_rfl
def Tryz.afi(h:cJ)(w:cw):(Go.method 483 223 (df #[h]) "AssignableTo").run prog w= .ok (332,df #[h]) w:=by kernel_rfl
def Tryz.afj(h:cJ)(w:cw):(Go.method 483 223 (df #[h]) "Comparable").run prog w= .ok (333,df #[h]) w:=by kernel_rfl
def Tryz.apM(v:cJ)(a:TypeId)(w:cw):(Instr.typeAssert (.iface 354 v) a 227 db).run prog w= .ok (de #[.nilIface,ce da]) w:=run_typeAssert_lacksB underlying227 (by kernel_rfl) (by kernel_rfl) v a w
def Tryz.afB(v:cJ)(a:TypeId)(w:cw):(Instr.typeAssert (.iface 354 v) a 233 db).run prog w= .ok (de #[.nilIface,ce da]) w:=run_typeAssert_lacksB underlying233 (by kernel_rfl) (by kernel_rfl) v a w
def Tryz.XW(v:cJ)(a:TypeId)(w:cw):(Instr.typeAssert (.iface 354 v) a 230 db).run prog w= .ok (de #[.nilIface,ce da]) w:=run_typeAssert_lacksB underlying230 (by kernel_rfl) (by kernel_rfl) v a w
def Tryz.XX(v:cJ)(a:TypeId)(w:cw):(Instr.typeAssert (.iface 354 v) a 231 db).run prog w= .ok (de #[.nilIface,ce da]) w:=run_typeAssert_lacksB underlying231 (by kernel_rfl) (by kernel_rfl) v a w
end
section
open Go.RowKit Go.Extern.Stop Go.Stop Go.Extern
def aj7(e t:Addr)(w:cw)(b:w.cell? (S 3 0 U)=V (.iface 223<|df #[.pointer<|V<|S 16 53 U])):cP prog 56 #[.iface 354 (.pointer<|V e),.iface 94 (.pointer<|V t)] w λf q=>f=bj (ce da)/\cD w.1.size w q:=by
 have r:=@oH prog 90 _ (λargs=>ReflectliteValue.unpack<|args.getD 0<|de #[]) func90 (by kernel_rfl) (by kernel_rfl) (by kernel_rfl) (by kernel_rfl);have s:=@oH prog 91 _ (ReflectliteValue.methodAny (ReflectliteValue.valueError "reflectlite.Value.Type" 0) λt _ _ _=>ReflectliteType.toType t) func91 (by kernel_rfl) (by kernel_rfl) (by kernel_rfl) (by kernel_rfl);have u:=@oH prog 92 _ (ReflectliteValue.method (ReflectliteValue.valueError "reflectlite.Value.IsNil" 0) ReflectliteValue.isNil) func92 (by kernel_rfl) (by kernel_rfl) (by kernel_rfl) (by kernel_rfl);have i:=@oH prog 323 _ (ReflectliteType.abiMethod λt=>do pure (Y .u8 (<-Rtype.kind t))) func323 (by kernel_rfl) (by kernel_rfl) (by kernel_rfl) (by kernel_rfl);have k:=@oH prog 334 _ (ReflectliteType.method ReflectliteType.elem) func334 (by kernel_rfl) (by kernel_rfl) (by kernel_rfl) (by kernel_rfl);have l:=@oH prog 335 _ (ReflectliteType.relation "Implements" ReflectliteType.implements_) func335 (by kernel_rfl) (by kernel_rfl) (by kernel_rfl) (by kernel_rfl);have g:=@oH prog 94 _ ReflectliteType.typeOf func94 (by kernel_rfl) (by kernel_rfl) (by kernel_rfl) (by kernel_rfl);have j:=@oH prog 332 _ (ReflectliteType.relation "AssignableTo" ReflectliteType.assignableTo) func332 (by kernel_rfl) (by kernel_rfl) (by kernel_rfl) (by kernel_rfl);have E:=Tryz.Zy;have c:=Tryz.akc;have f6:=Tryz.ah4;have B:=Tryz.apM;have C:=Tryz.XW;have D:=Tryz.XX;have z:=Tryz.afm;have x:=Tryz.afk;have y:=Tryz.afl;have v:=Tryz.afi;have f7:=Tryz.ahY;have p:=Tryz.aeR;have o:=Tryz.aeQ;have d:=Tryz.za;have n:=Tryz.aev;have A:=Tryz.aeG (S w.1.size 0 U) t ((w.alloc<|bi #[.pointer<|V t] 94).alloc (bi #[.pointer<|V<|S 16 94 U,.pointer<|V<|S w.1.size 0 U,Y .u64 150] 152)) (by simp);have a:3<w.1.size:=by rcases dc 3 w.1.size with h|h;exact h;simp[World.cell?,sV h]at b
 have m:((w.alloc<|bi #[.pointer<|V t] 94).alloc (bi #[.pointer<|V<|S 16 94 U,.pointer<|V<|S w.1.size 0 U,Y .u64 150] 152)).cell? (S 3 0 U)=V (.iface 223<|df #[.pointer<|V<|S 16 53 U]):=by rw[gW _ _ (S 3 0 U) (by simp;omega),gW _ _ (S 3 0 U) a];exact b
 go_enter func56,ntmps56;go_wp2;refine dN 1 ?_;rw[bB];go_wp2;go_ret;exact⟨rfl,(((aA _ _).alloc (au _) _).alloc (by simp) _).alloc (by simp;omega) _⟩
end
section
open Go.RowKit Go.Extern.Stop Go.Stop Go.Extern
def Tryz.L5:(prog.info? 354).map (·.comparable)=V db:=by kernel_rfl
def Tryz.Ob:(prog.info? 372).map (·.size)=V 1:=by kernel_rfl
def Tryz.Dt(w:cw):(ReflectliteType.method (λt=>do Rtype.noPackHeld "Comparable" t;(λa:TypeInfo=>Value.bool a.comparable)<$>typeInfo t) #[df #[.pointer<|V<|S 16 354 U]]).run prog w= .ok (ce db) w:=by kernel_rfl
def aeH(a b:Addr)(q:Bool)(w:cw) (h:(binOp .eql 53 (.iface 354 (.pointer<|V a)) (.iface 354 (.pointer<|V b))).run prog w= .ok (ce q) w):cP prog 58 #[.iface 354 (.pointer<|V a),.iface 354 (.pointer<|V b)] w λc f=>c=bj (ce q)/\f=w:=by
 have d:=@oH prog 94 _ ReflectliteType.typeOf func94 (by kernel_rfl) (by kernel_rfl) (by kernel_rfl) (by kernel_rfl);have e:=@oH prog 333 _ (ReflectliteType.method λt=>do Rtype.noPackHeld "Comparable" t;pure (ce (<-typeInfo t).comparable)) func333 (by kernel_rfl) (by kernel_rfl) (by kernel_rfl) (by kernel_rfl);have m:=Tryz.Zy;have i:=Tryz.afj;have g:=Tryz.Dt;have j:=Tryz.afB;have k:=Tryz.XW;have l:=Tryz.XX;cases q
 .go_enter func58,ntmps58;go_wp2;refine dN 1 ?_;rw[bB];go_wp2;go_ret;exact⟨rfl,rfl⟩
 go_enter func58,ntmps58;go_wp2;refine dN 1 ?_;rw[bB];go_wp2;go_ret;exact⟨rfl,rfl⟩
def Xh(a:Addr)(w:cw):cP prog 58 #[.iface 354 (.pointer<|V a),.iface 354 (.pointer<|V a)] w λc f=>c=bj (ce db)/\f=w:=by obtain⟨i,d,b⟩:=yI.1 Tryz.L5;obtain⟨j,e,_⟩:=yI.1 Tryz.Ob;exact aeH a a db w<|arZ w a underlying53 underlying354 d b e
def JT(a b:Addr)(w:cw)(h:a≠b)(e:∃c t,w.1[a.block]? =V (bi c t (0,0)))(f:∃c t,w.1[b.block]? =V (bi c t (0,0))):cP prog 58 #[.iface 354 (.pointer<|V a),.iface 354 (.pointer<|V b)] w λk n=>k=bj (ce da)/\n=w:=by obtain⟨i,l,d⟩:=yI.1 Tryz.L5;obtain⟨j,m,g⟩:=yI.1 Tryz.Ob;obtain⟨_,_,e⟩:=e;obtain⟨_,_,f⟩:=f;exact aeH a b da w<|arY w underlying53 underlying354 l d m (by rw[g];decide) h e f
end
def amu(w:cw):cP prog 36 #[.nilIface] w λe a=>e=bj (jm 0)/\cD w.1.size w a:=by go_enter func36,ntmps36;go_wp2;exact bU (v:=df #[Y Z 0,Y Z 0,Y Z 0]) (by simp[results,results36,go_sem]) rfl ⟨rfl,(aA _ _).alloc (au _) _⟩
def Vg(w:cw)(aL g f h:Addr)(n:Int)(r:aL=h/\n=1∨g=h/\n=2∨f=h/\n=3)(q:Env w aL g f):cP prog 36 #[.iface 354 (.pointer<|V h)] w λe z=>e=bj (jm n)/\cD w.1.size w z:=by
 have x:=ah r;have a:=ah q;clear q r;go_enter func36,ntmps36;go_wp2_with fail;refine(aj7 _ _ _ ?_).mono ?_;exact(a.out.below<|(((aA _ _).alloc (au _) _).alloc (by simp) _).alloc (by simp;omega) _).Qm;rintro e c ⟨rfl,d⟩;have i:cD w.1.size w c:=((((aA _ _).alloc (au _) _).alloc (by simp) _).alloc (by simp;omega) _).trans (d.mono<|by simp;omega);have b:=ah i;have y:w.1.size+3<=c.1.size:=by have:=d.size;simp at this;omega
 have k:=ah<|a.out.below i;have D:=k.out.long;have E:=k.out.text;have A:=k.out.code;have l:c.cell? (S w.1.size 0 U)=V (Y Z 0):=by rw[d.cell (p:=(S w.1.size 0 U))<|by simp<;>omega];go_simp
 have F:c.frozen? (S w.1.size 0 U)=da:=by rw[d.frozen (p:=(S w.1.size 0 U))<|by simp<;>omega];go_simp
 have f0:c.cell? ⟨w.1.size+1,0,U⟩=V (Y Z 4):=by rw[d.cell (p:=⟨w.1.size+1,0,U⟩)<|by simp<;>omega];go_simp
 have m:c.cell? (S w.1.size 1 U)=V (Y Z 0):=by rw[d.cell (p:=(S w.1.size 1 U))<|by simp<;>omega];go_simp
 have G:c.frozen? (S w.1.size 1 U)=da:=by rw[d.frozen (p:=(S w.1.size 1 U))<|by simp<;>omega];go_simp
 have f1:c.cell? ⟨w.1.size+1,1,U⟩=V (Y Z (-1)):=by rw[d.cell (p:=⟨w.1.size+1,1,U⟩)<|by simp<;>omega];go_simp
 have o:c.cell? (S w.1.size 2 U)=V (Y Z 0):=by rw[d.cell (p:=(S w.1.size 2 U))<|by simp<;>omega];go_simp
 have H:c.frozen? (S w.1.size 2 U)=da:=by rw[d.frozen (p:=(S w.1.size 2 U))<|by simp<;>omega];go_simp
 have f2:c.cell? ⟨w.1.size+1,2,U⟩=V (Y Z (-1)):=by rw[d.cell (p:=⟨w.1.size+1,2,U⟩)<|by simp<;>omega];go_simp
 have B:c.frozen? ⟨w.1.size+1,0,U⟩=da:=by rw[d.frozen (p:=⟨w.1.size+1,0,U⟩)<|by simp<;>omega];go_simp
 have j:w.1.size<c.1.size:=by omega
 have C:w.1.size+1<c.1.size:=by omega
 clear i d y;go_wp2;refine dN 4 ?_;rcases x.out with⟨rfl,rfl⟩|⟨rfl,rfl⟩|⟨rfl,rfl⟩
 .rw[bB];go_wp2_with fail;refine(Xh aL _).mono ?_;rintro e s ⟨rfl,rfl⟩;go_wp2;rw[bB];go_wp2_with fail;refine(JT aL g _ a.out.J1 ?_ ?_).mono ?_;exact(a.out.below<|(b.out.setCell (nk _) _).alloc (by simp;omega) _).Bx;exact(a.out.below<|(b.out.setCell (nk _) _).alloc (by simp;omega) _).Bz;rintro e t ⟨rfl,rfl⟩;go_wp2;rw[bB];go_wp2_with fail;refine(JT aL f _ a.out.JZ ?_ ?_).mono ?_;exact(a.out.below<|(b.out.setCell (nk _) _).alloc (by simp;omega) _).Bx;exact(a.out.below<|(b.out.setCell (nk _) _).alloc (by simp;omega) _).Bw;rintro e u ⟨rfl,rfl⟩;go_wp2;rw[bB];go_wp2;refine bU (v:=df #[Y Z 1,Y Z (-1),Y Z (-1)]) (by simp[results,results36,go_sem,l,m,o,j]) rfl ⟨rfl,?_⟩;exact((((b.out.setCell (nk _) _).setCell (au _) _).setCell (au _) _).setCell (au _) _).alloc (by simp;omega) _
 .rw[bB];go_wp2_with fail;refine(JT g aL _ a.out.J1.symm ?_ ?_).mono ?_;exact(a.out.below<|b.out.alloc (by omega) _).Bz;exact(a.out.below<|b.out.alloc (by omega) _).Bx;rintro e s ⟨rfl,rfl⟩;go_wp2;rw[bB];go_wp2_with fail;refine(Xh g _).mono ?_;rintro e t ⟨rfl,rfl⟩;go_wp2;rw[bB];go_wp2_with fail;refine(JT g f _ a.out.J2 ?_ ?_).mono ?_;exact(a.out.below<|(b.out.setCell (nk _) _).alloc (by simp;omega) _).Bz;exact(a.out.below<|(b.out.setCell (nk _) _).alloc (by simp;omega) _).Bw;rintro e u ⟨rfl,rfl⟩;go_wp2;rw[bB];go_wp2;refine bU (v:=df #[Y Z 2,Y Z (-1),Y Z (-1)]) (by simp[results,results36,go_sem,l,m,o,j]) rfl ⟨rfl,?_⟩;exact((((b.out.setCell (nk _) _).setCell (au _) _).setCell (au _) _).setCell (au _) _).alloc (by simp;omega) _
 rw[bB];go_wp2_with fail;refine(JT f aL _ a.out.JZ.symm ?_ ?_).mono ?_;exact(a.out.below<|b.out.alloc (by omega) _).Bw;exact(a.out.below<|b.out.alloc (by omega) _).Bx;rintro e s ⟨rfl,rfl⟩;go_wp2;rw[bB];go_wp2_with fail;refine(JT f g _ a.out.J2.symm ?_ ?_).mono ?_;exact(a.out.below<|b.out.alloc (by omega) _).Bw;exact(a.out.below<|b.out.alloc (by omega) _).Bz;rintro e t ⟨rfl,rfl⟩;go_wp2;rw[bB];go_wp2_with fail;refine(Xh f _).mono ?_;rintro e u ⟨rfl,rfl⟩;go_wp2;rw[bB];go_wp2;refine bU (v:=df #[Y Z 3,Y Z (-1),Y Z (-1)]) (by simp[results,results36,go_sem,l,m,o,j]) rfl ⟨rfl,?_⟩;exact((((b.out.setCell (nk _) _).setCell (au _) _).setCell (au _) _).setCell (au _) _).alloc (by simp;omega) _
def Mi(c:Int)(h:c=0∨c=1∨c=2∨c=3)(w:cw)(aL b a:Addr)(d:Env w aL b a):cP prog 36 #[jF c aL b a] w λe f=>e=bj (jm c)/\cD w.1.size w f:=by rcases h with rfl|rfl|rfl|rfl;exact amu w;exact Vg w aL b a aL 1 (.inl ⟨rfl,rfl⟩) d;exact Vg w aL b a b 2 (.inr (.inl ⟨rfl,rfl⟩)) d;exact Vg w aL b a a 3 (.inr (.inr ⟨rfl,rfl⟩)) d
def amY(s:bc)(w:cw)(aL b d:Addr)(j:s.size<=9223372036854775807)(g:Env w aL b d)(c:bu s=1∨bu s=2):cP prog 44 #[cd s] w λe k=>e=bj (de #[R U 0 0,jF (bu s) aL b d])/\cD w.1.size w k:=by
 have f:=ah<|PO s w aL b d j g;obtain⟨a,h⟩:∃a,jF (bu s) aL b d= .iface 354 (.pointer<|V a):=by
  rcases c with c|c<;>rw[c]
  .exact⟨aL,rfl⟩
  exact⟨b,rfl⟩
 rw[h]at f ⊢;clear h c g;go_enter func44,ntmps44;go_wp2_with fail;refine f.out.mono ?_;rintro e l ⟨rfl,i⟩;go_wp2;go_ret2;exact⟨rfl,i⟩
def amZ(s:bc)(l:aw)(w:cw)(aL aT aC:Addr)(hs:s.size<=600)(W:Env w aL aT aC)(he:bu s=0)(hr:cK s=V l):cP prog 44 #[cd s] w λe P=>∃v,e=bj (de #[v,.nilIface])/\P.ownsRow w.1.size 3 1 v l.length ((l.map cls).map (Value.int .i64))/\cD w.1.size w P:=by
 obtain⟨i0,hi,H,I,J⟩:=fP Tryz.Dp;have HC:dd (cP prog 54 #[cd s] w λe P=>e=bj .nilIface/\cD w.1.size w P):=by have:=PO s w aL aT aC (by omega) W;rw[he]at this;exact this
 have HE:=ah W;have HR:=ah hr;clear he W hr;go_enter func44,ntmps44;go_wp2_with fail;refine HC.out.mono ?_;rintro e w1 ⟨rfl,D⟩;have QI:=D.size;go_wp2_with(at_make;refine wpList_make_own _ rfl _ _ 31 rfl w.1.size 3 i0 (Y Z 0) 1 underlying31 hi H I .i64 .i64 _ s.size rfl rfl (by omega) (by rw[J];omega) (by unfold maxLen;omega) (by omega) ?_);intro a t X;have j:cD w.1.size w a:=D.grown X QI (λk F=>by cases F);have Jr:=j.size;have eY:=ah<|HE.out.below j;go_wp2;go_loopw [5] (λv wr=>∃(p:Nat)(q:aw),p<=s.size/\nQ s p q/\wr.1[a.1.size]? =V (.stringIter s p)/\wr.ownsRow w.1.size 3 1 v q.length ((q.map cls).map (Value.int .i64))/\cD w.1.size w wr/\a.1.size<wr.1.size) (λ_ wr=>s.size - wr.iterPos a.1.size);case atStart=>
  refine⟨0,[],lB _,nQ.start s,F7 _ _ _,?_,j.alloc Jr _,by simp[World.iter]⟩;exact t.alloc _
 case round=>
  obtain⟨p,q,hp,x,hit,g,N,ad⟩:=hrel;have QK:=N.size;have WG:q.length<=p:=by obtain⟨f,_,h,_⟩:=x;exact h
  have i:wr.iterPos a.1.size=p:=iterPos_of hit;by_cases b:p<s.size
  .have O:aQ s p≠0:=(by intro h0;have:=x.bad b h0;rw[HR.out]at this;cases this);have HS:=ah<|x.step b O;have aa:p+aQ s p<=s.size:=by rcases zk s p b O with⟨T,_⟩|⟨T,hn,_⟩|⟨T,hn,_⟩|⟨T,hn,_⟩<;>omega
   have WU:0<aQ s p:=(by omega);have hw:=Fu s p O;have m:∀u,(Instr.next (.pointer<|V<|S a.1.size 0 U) db u).run prog wr= .ok (de #[ce db,Y Z p,Y .i32<|fK s p]) (wr.iterAt a.1.size s<|p+aQ s p):=λu=>by rw[Pc wr a.1.size s p u hit b,hw];rfl
   have y:=ah hit;have HP:=ah i;have HO:=ah g;clear x O hw hit g i;generalize aQ s p=n at*;generalize fK s p=r at*;obtain⟨wi,c⟩:=ac<|wr.iterAt a.1.size s<|p+n;have A:wi.1[a.1.size]? =V (.stringIter s<|p+n):=(by rw[c];exact Pb wr _ s p _ y.out);have ab:wi.1.size=wr.1.size:=(by rw[c];exact Lib.iterAt_size _ _ _ _);have L:cD w.1.size w wi:=(by rw[c];exact O8 N Jr _ _);have jf:wi.ownsRow w.1.size 3 1 _ q.length ((q.map cls).map (Value.int .i64)):=kS HO λk o F ho=>by rw[c,FX];exact ho;rintro rfl;exact zh HO y F
   rw[<-c]at m;clear c;obtain⟨tt,fr,G⟩:=(HE.out.below L).Hx;have Q:=ah G;clear G;go_wp2_with fail;refine(U0 r wi tt fr Q).mono ?_;rintro e w3 ⟨rfl,d⟩;have B:=ah<|aR d A;have K:w3.ownsRow w.1.size 3 1 _ q.length ((q.map cls).map (Value.int .i64)):=kS jf λk o _ ho=>aR d ho
   have E:cD w.1.size w w3:=L.trans<|d.mono L.size;have R:=E.size;have sP:a.1.size<w3.1.size:=(by have:=d.size;omega);clear m A L jf d N;go_wp2_with(at_builtin;refine rT _ rfl _ _ 31 rfl w.1.size 3 i0 (Y Z 0) 8 underlying31 hi H I J rfl (by decide) _ _ _ rfl K _ _ rfl rfl (by omega) (by omega) ?_);intro v' w5 cG M;have C:w5.1[a.1.size]? =V (.stringIter s<|p+n):=(by rw[M.block _ sP (zh K B.out).symm];exact B.out);have z:=ah C;have bV:cD w.1.size w w5:=E.grown M R λk F=>(K.lt k F).1
   have iJ:a.1.size<w5.1.size:=(by have:=M.size;omega);clear K C M;go_wp2;go_roundw;case rel=>exact⟨p+n,q++[r],aa,HS,z,by simpa using cG,bV,iJ⟩
   case measure=>rw[HP.out,iterPos_of z.out];omega
  .have m:∀u,(Instr.next (.pointer<|V<|S a.1.size 0 U) db u).run prog wr= .ok (de #[ce da]) wr:=λu=>FY wr a.1.size s p u hit b
   have hq:q=l:=(by have:=x.stop b;rw[HR.out]at this;exact(aI this).symm);have HQ:=ah hq;clear hq hit x i;go_wp2;go_ret2;refine⟨_,rfl,?_,N⟩;rw[<-HQ.out];exact g
def I3(s:bc):bu s=0∨bu s=1∨bu s=2:=by
 by_cases a:600<s.size;exact .inr (.inl<|Py a);cases hr:cK s with
 |none=>exact .inr (.inr<|Pz a hr)
 |some l=>by_cases b:fH 10 l=db;exact .inr (.inr<|Uz a hr b);by_cases c:300<l.length;exact .inr (.inl<|UA a hr b c);exact .inl<|UB a hr b c
def wB {s:bc}(h:bu s=0):s.size<=600/\∃l,cK s=V l/\iF s=l/\l.length<=300:=by
 have a:¬600<s.size:=λa=>by rw[Py a]at h;cases h
 cases hr:cK s with
 |none=>rw[Pz a hr]at h;cases h
 |some l=>exact⟨by omega,l,rfl,Uy h hr,Uy h hr▸LK s⟩
def amX(s:bc)(w:cw)(aL d c:Addr)(n:s.size<=9223372036854775807)(i:Env w aL d c):cP prog 44 #[cd s] w λe f=>∃v,e=bj (de #[v,jF (bu s) aL d c])/\f.ownsRow w.1.size 3 1 v ((iF s).map cls).length (((iF s).map cls).map (Value.int .i64))/\(bu s≠0->v=R U 0 0)/\cD w.1.size w f:=by by_cases a:bu s=0;obtain⟨j,l,m,k,o⟩:=wB a;refine(amZ s l w aL d c j i a m).mono ?_;rintro e f ⟨v,rfl,b,g⟩;refine⟨v,by rw[a];rfl,?_,λh=>absurd a h,g⟩;rw[k];simpa using b;refine(amY s w aL d c n i<|by have:=I3 s;omega).mono ?_;rintro e f ⟨rfl,g⟩;exact⟨_,rfl,by rw[LI a];exact fh _ _ _ _,λ_=>rfl,g⟩
def aqK(s:bc)(w:cw)(aL l j:Addr)(L:s.size<=9223372036854775807)(A:Env w aL l j):cP prog 26 #[cd s] w λe n=>∃v,e=bj (de #[v,jm<|bu s])/\dF n v ((iF s).map cls)/\(bu s≠0->v=R U 0 0)/\cD w.1.size w n:=by
 have x:=ah A;have J:=I3 s;clear A;go_enter func26,ntmps26;go_wp2_with fail;have f:∀o:Obj,cD w.1.size w (w.alloc o):=λo=>(aA _ _).alloc (au _) o
 refine(amX s _ aL l j L (x.out.below<|f _)).mono ?_;rintro e c ⟨v,rfl,i,d,a⟩;have r:cD w.1.size w c:=(f _).trans (a.mono<|by simp);have P:=ah<|x.out.below r;obtain⟨I,g⟩:=ac<|jF (bu s) aL l j;rw[<-g];have y:dd (cP prog 36 #[I] c λe n=>e=bj (jm<|bu s)/\cD c.1.size c n):=by rw[g];exact Mi _ (by omega) c aL l j P
 have B:c.cell? (S w.1.size 0 U)=V (Y Z 0):=by rw[a.cell (p:=(S w.1.size 0 U))<|by simp];go_simp
 have C:c.cell? (S w.1.size 1 U)=V (Y Z 0):=by rw[a.cell (p:=(S w.1.size 1 U))<|by simp];go_simp
 have D:c.cell? (S w.1.size 2 U)=V (Y Z 0):=by rw[a.cell (p:=(S w.1.size 2 U))<|by simp];go_simp
 have f0:c.frozen? (S w.1.size 0 U)=da:=by rw[a.frozen (p:=(S w.1.size 0 U))<|by simp];go_simp
 have f1:c.frozen? (S w.1.size 1 U)=da:=by rw[a.frozen (p:=(S w.1.size 1 U))<|by simp];go_simp
 have f2:c.frozen? (S w.1.size 2 U)=da:=by rw[a.frozen (p:=(S w.1.size 2 U))<|by simp];go_simp
 have u:w.1.size<c.1.size:=by have:=a.size;simp at this;omega
 have z:=ah r;have F:dd (c.ownsRow (w.1.size+1) 3 1 v ((iF s).map cls).length (((iF s).map cls).map (Value.int .i64))):=i.low (by simp);have E:=ah d;clear g r a f i d;go_wp2_with fail;refine y.out.mono ?_;rintro e h ⟨rfl,b⟩;obtain⟨q,m,t⟩:∃q m,jm (bu s)=df #[Y Z q,Y Z m,Y Z m]:=⟨_,_,rfl⟩
 have Q:=ah t;rw[t];have M:h.cell? (S w.1.size 0 U)=V (Y Z 0):=cU b B;have N:h.cell? (S w.1.size 1 U)=V (Y Z 0):=cU b C;have O:h.cell? (S w.1.size 2 U)=V (Y Z 0):=cU b D;have T:h.frozen? (S w.1.size 0 U)=da:=(b.frozen (p:=(S w.1.size 0 U)) u).trans f0;have g1:h.frozen? (S w.1.size 1 U)=da:=(b.frozen (p:=(S w.1.size 1 U)) u).trans f1;have g2:h.frozen? (S w.1.size 2 U)=da:=(b.frozen (p:=(S w.1.size 2 U)) u).trans f2;have G:=ah<|z.out.trans<|b.mono z.out.size;have H:dd (h.ownsRow (w.1.size+1) 3 1 v ((iF s).map cls).length (((iF s).map cls).map (Value.int .i64))):=kS F λk o _ K=>aR b K
 clear t b B C D f0 f1 f2 y;go_wp2;refine bU (v:=de #[v,df #[Y Z q,Y Z m,Y Z m]]) (by simp[results,results26,go_sem,M,N,O]) rfl ⟨v,by rw[Q.out],?_,E,?_⟩;exact dF.uo<|gA (gA (gA H (by simp) _) (by simp) _) (by simp) _;exact((G.out.setCell (au _) _).setCell (au _) _).setCell (au _) _
def aqQ(o:o6)(w:cw)(aL A y:Addr)(D:o.k=1)(E:o.s.size<=9223372036854775807)(C:Env w aL A y):cP prog 18 #[qK o] w λe T=>e=bj (ce db)/\cD w.1.size w T:=by
 obtain⟨k,a,s,P⟩:=o;simp only at D E;subst D;unfold qK;have F:=ah C;have K:=LK s;clear C;go_enter func18,ntmps18;go_wp2_with fail;have i:cD w.1.size w (w.alloc<|bi #[Y Z 1,Y Z a,cd s,P] 29):=(aA _ _).alloc (au _) _;refine(aqK s _ aL A y E (F.out.below i)).mono ?_;rintro e c ⟨v,rfl,n,f,d⟩;have B:cD w.1.size w c:=i.trans (d.mono<|by simp);have N:c.cell? (S w.1.size 2 U)=V (cd s):=by rw[d.cell (p:=(S w.1.size 2 U))<|by simp];go_simp
 have L:w.1.size<c.1.size:=by have:=d.size;simp at this;omega
 have z:=ah B;have I:=ah n;have G:=ah f;obtain⟨l,m,q⟩:∃l m,jm (bu s)=df #[Y Z l,Y Z m,Y Z m]/\l=bu s:=⟨_,_,rfl,rfl⟩
 have Q:=ah q.1;have H:=ah q.2;rw[q.1];clear q d i B n f;go_wp2_with fail;refine(arv s _).mono ?_;rintro e g ⟨b,R,rfl,x⟩;rw[Q.out];have M:c.1.size<g.1.size:=by have:=b.size;simp at this;omega
 have W:g.cell? (S c.1.size 0 U)=V (Y Z l):=by rw[b.cell (p:=(S c.1.size 0 U))<|by simp];go_simp
 have X:g.cell? (S c.1.size 1 U)=V (Y Z m):=by rw[b.cell (p:=(S c.1.size 1 U))<|by simp];go_simp
 have a2:g.cell? (S c.1.size 2 U)=V (Y Z m):=by rw[b.cell (p:=(S c.1.size 2 U))<|by simp];go_simp
 have t:cD c.1.size c g:=((aA _ _).alloc (au _) _).trans (b.mono<|by simp);have J:=ah<|I.out.below t;have O:=ah x;have r:=ah<|z.out.trans<|t.mono z.out.size;clear b x t N;go_wp2_with fail;have j:∀o:Obj,cD g.1.size g (g.alloc o):=λo=>(aA _ _).alloc (au _) o
 refine(X5 l m m _ v R _ (by simp;omega) (J.out.below<|j _) (O.out.below<|j _) (λh=>G.out<|by rw[<-H.out];exact h)).mono ?_;rintro e w3 ⟨rfl,u⟩;go_wp2;go_ret;exact⟨rfl,(r.out.trans<|(j _).mono r.out.size).trans (u.mono<|by have:=r.out.size;simp;omega)⟩
def aoJ {p:Prop} [Decidable p] {a b:Int}(c:p->0<=a/\a<=21)(d:0<=b/\b<=21):0<=(if p then a else b)/\(if p then a else b)<=21:=by by_cases h:p;rw[aj h];exact c h;rw[ai h];exact d
def Gc(r:Int):0<=cls r/\cls r<=21:=by
 unfold cls
 repeat (refine aoJ (λh=>by omega) ?_)
 omega
def ag3 {s:bc}{l:aw}(a:cK s=V l)(h:0<s.size):l≠[]:=by
 unfold cK at a;obtain⟨n,b⟩:∃n,s.size=n+1:=⟨s.size - 1,by omega⟩
 rw[b,runesFrom,aj h]at a;split at a;cases a;cases hx:runesFrom s n (0+aQ s 0)with
 |none=>rw[hx]at a;cases a
 |some q=>rw[hx]at a;rintro rfl;simp at a
def ag4 {s:bc}{l:aw}(a:cK s=V l)(h:s.size=0):l=[]:=by unfold cK at a;rw[h,runesFrom]at a;exact(aI a).symm
def sD(s:bc)(l:aw)(d:Int)(w:cw)(aL j i:Addr)(q:s.size<=600)(a:cK s=V l)(u:l.length<=300)(n:Env w aL j i)(m:Br w):cP prog 55 #[cd s,Y Z d] w λe h=>∃g,e=bj (.slice (V<|S g 0 U) l.length l.length)/\aW h w.1.size 3 g l.length (iv<|fQ l (l.map cls) d)/\cD w.1.size w h:=by by_cases f:s.size=0;obtain rfl:=ag4 a f;exact akh s d w f;refine aki akQ s l d w q a (ag3 a<|by omega) (by omega) m (λc p=> ?_) (λr W o=> ?_);obtain⟨r,_,rfl⟩:=jX.1 p;exact Gc r;obtain⟨t,k,b⟩:=(n.below o).Hx;exact U0 r W t k b
def Kc(s:bc)(d:Int)(w:cw)(aL b f:Addr)(k:s.size<=9223372036854775807)(h:Env w aL b f)(c:bu s=1∨bu s=2):cP prog 35 #[cd s,Y Z d] w λe l=>e=bj (de #[R U 0 0,jF (bu s) aL b f])/\cD w.1.size w l:=by
 have g:=ah<|PO s w aL b f k h;obtain⟨a,i⟩:∃a,jF (bu s) aL b f= .iface 354 (.pointer<|V a):=by
  rcases c with c|c<;>rw[c]
  .exact⟨aL,rfl⟩
  exact⟨b,rfl⟩
 rw[i]at g ⊢;clear i c h;go_enter func35,ntmps35;go_wp2_with fail;refine g.out.mono ?_;rintro e m ⟨rfl,j⟩;go_wp2;go_ret2;exact⟨rfl,j⟩
def am0(s:bc)(l:aw)(d:Int)(w:cw)(aL j i:Addr)(x:s.size<=600)(k:Env w aL j i)(p:Br w)(r:bu s=0)(t:cK s=V l)(v:l.length<=300):cP prog 35 #[cd s,Y Z d] w λe a=>∃g,e=bj (de #[.slice (V<|S g 0 U) l.length l.length,.nilIface])/\aW a w.1.size 3 g l.length (iv<|fQ l (l.map cls) d)/\cD w.1.size w a:=by
 have n:dd (cP prog 54 #[cd s] w λe a=>e=bj .nilIface/\cD w.1.size w a):=by have:=PO s w aL j i (by omega) k;rw[r]at this;exact this
 have o:dd (∀W,cD w.1.size w W->cP prog 55 #[cd s,Y Z d] W λe a=>∃g,e=bj (.slice (V<|S g 0 U) l.length l.length)/\aW a W.1.size 3 g l.length (iv<|fQ l (l.map cls) d)/\cD W.1.size W a):=λW q=>sD s l d W aL j i x t v (k.below q)<|p.below q
 clear r k t p;go_enter func35,ntmps35;go_wp2_with fail;refine n.out.mono ?_;rintro e y ⟨rfl,c⟩;have b:=ah c;clear c n;go_wp2_with fail;refine(o y b).mono ?_;rintro e u ⟨g,rfl,h,f⟩;have m:dd (aW u w.1.size 3 g l.length (iv<|fQ l (l.map cls) d)/\cD w.1.size w u):=⟨AE h b.out.size,b.out.trans<|f.mono b.out.size⟩
 clear h f o b;go_wp2;go_ret2;exact⟨g,rfl,m.out.1,m.out.2⟩
def apc {s:bc}{l:aw}(d:Int)(h:bu s=0)(a:iF s=l):fA s d=fQ l (l.map cls) d:=by rw[fA,aj h,a]
def Ka(s:bc)(d:Int)(w:cw)(aL f c:Addr)(t:s.size<=9223372036854775807)(m:Env w aL f c)(o:Br w):cP prog 35 #[cd s,Y Z d] w λe i=>∃v,e=bj (de #[v,jF (bu s) aL f c])/\i.ownsRow w.1.size 3 1 v (fA s d).length (iv<|fA s d)/\(bu s≠0->v=R U 0 0)/\(bu s=0->∃g,v= .slice (V<|S g 0 U) (fA s d).length (fA s d).length)/\cD w.1.size w i:=by
 by_cases b:bu s=0
 .obtain⟨n,l,r,p,q⟩:=wB b;refine(am0 s l d w aL f c n m o b r q).mono ?_;rintro e i ⟨g,rfl,a,j⟩;have k:(fQ l (l.map cls) d).length=l.length:=by have:=a.1;simpa [iv]using this
  rw[apc d b p,k];exact⟨_,by rw[b];rfl,a,λh=>absurd b h,λ_=>⟨g,rfl⟩,j⟩
 refine(Kc s d w aL f c t m<|by have:=I3 s;omega).mono ?_;rintro e i ⟨rfl,j⟩;refine⟨_,rfl,?_,λ_=>rfl,λh=>absurd h b,j⟩;rw[fA,ai b];exact fh _ _ _ _
def aqL(s:bc)(d:Int)(w:cw)(aL q n:Addr)(Q:s.size<=9223372036854775807)(E:Env w aL q n)(r:Br w):cP prog 19 #[cd s,Y Z d] w λe j=>∃v,e=bj (de #[v,jm<|bu s])/\j.ownsRow w.1.size 3 1 v (fA s d).length (iv<|fA s d)/\(bu s≠0->v=R U 0 0)/\cD w.1.size w j:=by
 have A:=ah E;have kA:=ah r;have O:=I3 s;have C:dd (∀W,cD w.1.size w W->cP prog 35 #[cd s,Y Z d] W λe j=>∃v,e=bj (de #[v,jF (bu s) aL q n])/\j.ownsRow W.1.size 3 1 v (fA s d).length (iv<|fA s d)/\(bu s≠0->v=R U 0 0)/\(bu s=0->∃g,v= .slice (V<|S g 0 U) (fA s d).length (fA s d).length)/\cD W.1.size W j):=λW F=>Ka s d W aL q n Q (A.out.below F)<|kA.out.below F
 clear E r;generalize fA s d=LV at*;go_enter func19,ntmps19;go_wp2_with fail;have h:∀o:Obj,cD w.1.size w (w.alloc o):=λo=>(aA _ _).alloc (au _) o
 refine(C _ (h _)).mono ?_;rintro e c ⟨v,rfl,t,f,_,a⟩;have x:cD w.1.size w c:=(h _).trans (a.mono<|by simp);have kB:=ah<|A.out.below x;obtain⟨N,i⟩:=ac<|jF (bu s) aL q n;rw[<-i];have B:dd (cP prog 36 #[N] c λe j=>e=bj (jm<|bu s)/\cD c.1.size c j):=by rw[i];exact Mi _ (by omega) c aL q n kB
 have G:c.cell? (S w.1.size 0 U)=V (Y Z 0):=by rw[a.cell (p:=(S w.1.size 0 U))<|by simp];go_simp
 have H:c.cell? (S w.1.size 1 U)=V (Y Z 0):=by rw[a.cell (p:=(S w.1.size 1 U))<|by simp];go_simp
 have I:c.cell? (S w.1.size 2 U)=V (Y Z 0):=by rw[a.cell (p:=(S w.1.size 2 U))<|by simp];go_simp
 have f0:c.frozen? (S w.1.size 0 U)=da:=by rw[a.frozen (p:=(S w.1.size 0 U))<|by simp];go_simp
 have f1:c.frozen? (S w.1.size 1 U)=da:=by rw[a.frozen (p:=(S w.1.size 1 U))<|by simp];go_simp
 have f2:c.frozen? (S w.1.size 2 U)=da:=by rw[a.frozen (p:=(S w.1.size 2 U))<|by simp];go_simp
 have z:w.1.size<c.1.size:=by have:=a.size;simp at this;omega
 have D:=ah x;have K:dd (c.ownsRow (w.1.size+1) 3 1 v LV.length<|iv LV):=t.low (by simp);have J:=ah f;clear i x a h t f C;go_wp2_with fail;refine B.out.mono ?_;rintro e l ⟨rfl,b⟩;obtain⟨u,m,y⟩:∃u m,jm (bu s)=df #[Y Z u,Y Z m,Y Z m]:=⟨_,_,rfl⟩
 have sY:=ah y;rw[y];have T:l.cell? (S w.1.size 0 U)=V (Y Z 0):=cU b G;have X:l.cell? (S w.1.size 1 U)=V (Y Z 0):=cU b H;have j2:l.cell? (S w.1.size 2 U)=V (Y Z 0):=cU b I;have g0:l.frozen? (S w.1.size 0 U)=da:=(b.frozen (p:=(S w.1.size 0 U)) z).trans f0;have g1:l.frozen? (S w.1.size 1 U)=da:=(b.frozen (p:=(S w.1.size 1 U)) z).trans f1;have g2:l.frozen? (S w.1.size 2 U)=da:=(b.frozen (p:=(S w.1.size 2 U)) z).trans f2;have L:=ah<|D.out.trans<|b.mono D.out.size;have M:dd (l.ownsRow (w.1.size+1) 3 1 v LV.length<|iv LV):=kS K λk o _ P=>aR b P
 clear y b G H I f0 f1 f2 B;go_wp2;refine bU (v:=de #[v,df #[Y Z u,Y Z m,Y Z m]]) (by simp[results,results19,go_sem,T,X,j2]) rfl ⟨v,by rw[sY.out],?_,J,?_⟩;exact N0<|gA (gA (gA M (by simp) _) (by simp) _) (by simp) _;exact((L.out.setCell (au _) _).setCell (au _) _).setCell (au _) _
def Ng(a:Int):∀(d e:aw)(b:Int),d.length=e.length->(nS a b d e).length=d.length
 |[],_,_,_=>rfl
 |_::_,[],_,h=>by simp at h
 |c::d,o::e,b,h=>by rw[nS,eU,eU,Ng a d e _ (by simpa using h)]
def ahi:∀(a:List<|Nat×Int×Int)(l:aw),(a.foldl mo l).length=l.length
 |[],_=>rfl
 |x::a,l=>by rw[rZ,ahi a];simp[mo]
def aeZ(b a:aw)(d:Int):(fQ b a d).length=a.length:=by unfold fQ;exact Ng _ _ _ _ (by rw[ahi,ZR])
def Rl(s:bc)(d:Int):(fA s d).length<=300:=by unfold fA;split;rw[aeZ,jh];exact LK s;simp
def aqR(o:o6)(w:cw)(aL F D:Addr)(J:o.k=2)(K:o.s.size<=9223372036854775807)(H:Env w aL F D)(q:Br w):cP prog 18 #[qK o] w λe l=>e=bj (ce db)/\cD w.1.size w l:=by
 obtain⟨k,a,s,oe⟩:=o;simp only at J K;subst J;unfold qK;have GK:=Rl s a;have A:dd (∀W,cD w.1.size w W->cP prog 19 #[cd s,Y Z a] W λe l=>∃v,e=bj (de #[v,jm<|bu s])/\l.ownsRow W.1.size 3 1 v (fA s a).length (iv<|fA s a)/\(bu s≠0->v=R U 0 0)/\cD W.1.size W l):=λW I=>aqL s a W aL F D K (H.below I)<|q.below I
 have B:dd (∀W,cP prog 29 #[cd s,Y Z a] W λe l=>cD W.1.size W l/\∃v,e=bj (de #[v,jm<|bu s])/\l.ownsRow W.1.size 3 1 v (fA s a).length (iv<|fA s a)):=λW=>agD s a W
 clear H q;generalize fA s a=LV at*;go_enter func18,ntmps18;go_wp2_with fail;have i:cD w.1.size w (w.alloc<|bi #[Y Z 2,Y Z a,cd s,oe] 29):=(aA _ _).alloc (au _) _;refine(A _ i).mono ?_;rintro e b ⟨v,rfl,C,f,d⟩;have r:dF b v LV:=dF.uo C;have G:cD w.1.size w b:=i.trans (d.mono<|by simp);have T:b.cell? (S w.1.size 1 U)=V (Y Z a):=by rw[d.cell (p:=(S w.1.size 1 U))<|by simp];go_simp
 have X:b.cell? (S w.1.size 2 U)=V (cd s):=by rw[d.cell (p:=(S w.1.size 2 U))<|by simp];go_simp
 have P:w.1.size<b.1.size:=by have:=d.size;simp at this;omega
 have E:=ah G;have N:=ah r;have L:=ah f;obtain⟨n,m,t⟩:∃n m,jm (bu s)=df #[Y Z n,Y Z m,Y Z m]/\n=bu s:=⟨_,_,rfl,rfl⟩
 have sY:=ah t.1;have M:=ah t.2;rw[t.1];clear t d i G r C f A;go_wp2_with fail;refine(B _).mono ?_;rintro e g ⟨c,v2,rfl,z⟩;rw[sY.out];have Q:b.1.size<g.1.size:=by have:=c.size;simp at this;omega
 have a0:g.cell? (S b.1.size 0 U)=V (Y Z n):=by rw[c.cell (p:=(S b.1.size 0 U))<|by simp];go_simp
 have a1:g.cell? (S b.1.size 1 U)=V (Y Z m):=by rw[c.cell (p:=(S b.1.size 1 U))<|by simp];go_simp
 have a2:g.cell? (S b.1.size 2 U)=V (Y Z m):=by rw[c.cell (p:=(S b.1.size 2 U))<|by simp];go_simp
 have x:cD b.1.size b g:=((aA _ _).alloc (au _) _).trans (c.mono<|by simp);have O:=ah<|N.out.below x;have nN:=ah<|dF.uo z;have u:=ah<|E.out.trans<|x.mono E.out.size;clear c z x T X B;go_wp2_with fail;have j:∀o:Obj,cD g.1.size g (g.alloc o):=λo=>(aA _ _).alloc (au _) o
 refine(X5 n m m _ v v2 _ (by omega) (O.out.below<|j _) (nN.out.below<|j _) (λh=>L.out<|by rw[<-M.out];exact h)).mono ?_;rintro e w3 ⟨rfl,y⟩;go_wp2;go_ret;exact⟨rfl,(u.out.trans<|(j _).mono u.out.size).trans (y.mono<|by have:=u.out.size;simp;omega)⟩
section
variable{α β:Type}
def fD:List Bool->List α->List α->List α
 |[],_,acc=>acc
 |_::_,[],acc=>acc
 |true::bs,x::xs,acc=>fD bs xs (x::acc)
 |false::bs,x::xs,acc=>acc++x::fD bs xs []
def Zq:∀(c:List Bool)(b a:List α),c.length=b.length->(fD c b a).length=a.length+b.length
 |[],[],a,_=>rfl
 |[],_::_,_,h=>by simp at h
 |_::_,[],_,h=>by simp at h
 |true::c,x::b,a,h=>by rw[fD,Zq c b _ (by simpa using h)];simp;omega
 |false::c,x::b,a,h=>by rw[fD,bG,eU,Zq c b _ (by simpa using h)];simp
def Zt:∀(d:List Bool)(c b:List α),d.length=c.length->(fD d c b).Perm (b++c)
 |[],[],b,_=>by rw[fD,mH]
 |[],_::_,_,h=>by simp at h
 |_::_,[],_,h=>by simp at h
 |true::d,x::c,b,h=>by rw[fD];refine(Zt d c _ (by simpa using h)).trans ?_;exact(ajp (l₁:=b) (a:=x) (l₂:=c)).symm
 |false::d,x::c,b,h=>by rw[fD];exact(((Zt d c []<|by simpa using h).cons x)).append_left b
def Zr(f:α->β):∀(b:List Bool)(c a:List α),(fD b c a).map f=fD b (c.map f) (a.map f)
 |[],_,a=>rfl
 |_::_,[],a=>rfl
 |true::b,x::c,a=>by rw[fD,ni,fD,Zr f b c];rfl
 |false::b,x::c,a=>by rw[fD,ni,fD,gu,ni,Zr f b c];rfl
def Sc(c:List Bool)(d:List α):∀(b a:List α),fD (List.replicate b.length db++c) (b++d) a=fD c d (b.reverse++a)
 |[],a=>by simp
 |y::b,a=>by rw[eU,IK,uL,uL,fD,Sc c d b];simp
def atz:∀(c:List Bool)(d a:List α),(c=[]/\d=[])∨(∃b,c=da::b)->fD c d a=a++fD c d []
 |_,_,a,.inl ⟨h1,h2⟩=>by subst h1;subst h2;simp[fD]
 |_,[],a,.inr ⟨b,h⟩=>by subst h;simp[fD]
 |_,x::d,a,.inr ⟨b,h⟩=>by subst h;simp[fD]
def Zv:∀(b:List Bool)(c a:List α),b.length=c.length->fD (List.replicate a.length db++b) (fD b c a) []=a.reverse++c
 |[],[],a,_=>by have:=Sc [] [] a [];simp only[mH]at this ⊢;rw[fD,this];simp[fD]
 |[],_::_,_,h=>by simp at h
 |_::_,[],_,h=>by simp at h
 |true::b,x::c,a,h=>by have ih:=Zv b c (x::a) (by simpa using h);rw[fD];rw[eU,Pr,dY]at ih;simpa using ih
 |false::b,x::c,a,h=>by have ih:=Zv b c [] (by simpa using h);rw[fD,Sc,fD];simp only[kW,Lx,r8,ajr]at ih;rw[ih];simp
def Zu:∀(b a:List Bool)(k:Nat),b.length=a.length->(∀j:Nat,b[j]? =V db->a[j]? =V db)->fD b a (List.replicate k db)=List.replicate k db++a
 |[],[],k,_,_=>by simp[fD]
 |[],_::_,_,h,_=>by simp at h
 |_::_,[],_,h,_=>by simp at h
 |true::b,c::a,k,h,hs=>by
  have e:c=db:=by have:=hs 0 rfl;simpa using this
  subst e;rw[fD];have:=Zu b a (k+1) (by simpa using h) (λj d=>hs (j+1) d);rw[IK]at this;rw[this,<-IK,Pr];simp
 |false::b,c::a,k,h,hs=>by rw[fD];have:=Zu b a 0 (by simpa using h) (λj d=>hs (j+1) d);simp only[Lx,r8]at this;rw[this]
def o9(d:List Bool)(a:List α)(i:Nat)(c:List α):Prop:=∃b,b.length=i/\c=b++a.drop i/\fD d a []=b++fD (d.drop i) (a.drop i) []
variable{bs:List Bool}{a cur:List α}{i j:Nat}
def o9.start(b:List Bool)(a:List α):o9 b a 0 a:=⟨[],rfl,by simp,by simp⟩
def o9.stop(h:o9 bs a i cur)(f:bs.length=a.length)(d:a.length<=i):cur=fD bs a []:=by obtain⟨e,_,b,c⟩:=h;rw[c,b,lu d,lu<|by omega];simp[fD]
def Qc {a:Type}{l:List a}{i:Nat}(h:i<l.length):∃x,l.drop i=x::l.drop (i+1)/\l[i]? =V x:=⟨l[i],lV h,aK h⟩
def o9.skip(h:o9 bs a i cur)(o:bs.length=a.length)(n:i<a.length)(m:bs[i]? =V da):o9 bs a (i+1) cur:=by obtain⟨c,g,j,k⟩:=h;obtain⟨x,d,_⟩:=Qc n;obtain⟨b,f,e⟩:=Qc (l:=bs) (i:=i) (by omega);rw[m]at e;obtain rfl:da=b:=aI e;refine⟨c++[x],by simp[g],?_,?_⟩;rw[j,d];simp;rw[k,d,f,fD];simp
def wE {a:List Bool}:∀(m i:Nat),i+m<=a.length->(∀q,i<=q->q<i+m->a[q]? =V db)->a.drop i=List.replicate m db++a.drop (i+m)
 |0,i,_,_=>by simp
 |m+1,i,h,hr=>by obtain⟨b,d,c⟩:=Qc (l:=a) (i:=i) (by omega);rw[hr i (au _)<|by omega]at c;obtain rfl:db=b:=aI c;rw[d,wE m (i+1) (by omega) λq e f=>hr q (by omega)<|by omega,show i+1+m=i+(m+1)by omega,IK];rfl
def nI(l:List α)(i j:Nat):List α:=l.take i++((l.take j).drop i).reverse++l.drop j
def o9.turn(h:o9 bs a i cur)(y:bs.length=a.length)(v:i<=j)(x:j<=a.length)(w:∀q,i<=q->q<j->bs[q]? =V db)(u:j<a.length->bs[j]? =V da):o9 bs a j (nI cur i j):=by
 obtain⟨e,d,g,t⟩:=h;have p:=wE (j - i) i (by omega) (λq d g=>w q d<|by omega);rw[show i+(j - i)=j by omega]at p;have s:a.drop i=(a.drop i).take (j - i)++a.drop j:=by
  conv=>lhs;rw[<-Ug (j - i) (a.drop i)]
  rw[Pe,show i+(j - i)=j by omega]
 have c:((a.drop i).take (j - i)).length=j - i:=by rw[tM,Pm];omega
 refine⟨e++((a.drop i).take (j - i)).reverse,by rw[bG,Ub,c];omega,?_,?_⟩
 .have r:cur.take i=e:=by rw[g,<-d,List.take_left]
  have k:(cur.take j).drop i=(a.drop i).take (j - i):=by rw[g,List.drop_take,ai8<|by omega,<-d,aja];simp
  have f:cur.drop j=a.drop j:=by rw[g,List.drop_append,Pe,lu<|by omega,d,show i+(j - i)=j by omega];rfl
  unfold nI;rw[r,k,f]
 have o:=Sc (bs.drop j) (a.drop j) ((a.drop i).take (j - i)) [];rw[c,<-p,<-s,mH]at o;rw[t,o,atz];rw[dY];rcases dc j a.length with n|m;right;obtain⟨b,k,f⟩:=Qc (l:=bs) (i:=j) (by omega);rw[u n]at f;obtain rfl:da=b:=aI f;exact⟨_,k⟩;exact .inl ⟨lu<|by omega,lu m⟩
def o9.length(h:o9 bs a i cur)(e:i<=a.length):cur.length=a.length:=by obtain⟨c,d,b,_⟩:=h;rw[b,bG,Pm];omega
def YI(l:List α)(i j k:Nat)(c:i<=j)(d:j<=l.length):(nI l i j)[k]? =if i<=k/\k<j then l[i+j - 1 - k]? else l[k]? :=by
 unfold nI;have l1:(l.take i).length=i:=by rw[tM];omega
 have b:((l.take j).drop i).length=j - i:=by rw[Pm,tM];omega
 rcases dc k i with h|h;rw[ai<|by omega,dY,uM<|by omega,Pj h];rcases dc k j with a|a;rw[aj ⟨h,a⟩,dY,tH<|by omega,l1,uM<|by rw[Ub];omega,List.getElem?_reverse<|by omega,b,zS,Pj<|by omega];congr 1;omega;rw[ai<|by omega,tH<|by rw[bG,Ub];omega,bG,Ub,l1,b,zS];congr 1;omega
def YJ(l:List α)(i j:Nat)(a:i<=j)(b:j<=l.length)(h:j<=i+1):nI l i j=l:=by apply Lr;intro k;rw[YI l i j k a b];split;congr 1;omega;rfl
def DK(l:List α)(a b:Nat)(d:α):List α:=(l.set a<|l.getD b d).set b (l.getD a d)
def agI(l:List α)(i j:Nat)(d:α)(n:i+1<j)(o:j<=l.length):nI (DK l i (j - 1) d) (i+1) (j - 1)=nI l i j:=by
 apply Lr;intro k;have c:(DK l i (j - 1) d).length=l.length:=by simp[DK]
 have g:∀q,(DK l i (j - 1) d)[q]? =if q=j - 1 then l[i]? else if q=i then l[j - 1]? else l[q]? :=λq=>by
  unfold DK;rw[Pg,Pg,mE];have h:l.getD i d=l[i]'(by omega):=by rw[aN,aK<|by omega];rfl
  have m:l.getD (j - 1) d=l[j - 1]'(by omega):=by rw[aN,aK<|by omega];rfl
  by_cases a:j - 1=q;rw[aj a,aj<|by omega,aj a.symm,h,aK<|by omega];rw[ai a,ai (show¬q=j - 1 from λe=>a e.symm)];by_cases b:i=q;rw[aj b,aj<|by omega,aj b.symm,m,aK<|by omega];rw[ai b,ai (show¬q=i from λe=>b e.symm)]
 rw[YI _ _ _ _ (by omega) (by rw[c];omega),YI _ _ _ _ (by omega) o];by_cases a:i+1<=k/\k<j - 1;rw[aj a,aj<|by omega,g,ai<|by omega,ai<|by omega];congr 1;omega;rw[ai a,g];by_cases b:k=j - 1;rw[aj b,aj<|by omega];congr 1;omega;rw[ai b];by_cases f:k=i;rw[aj f,aj<|by omega];congr 1;omega;rw[ai f,ai<|by omega]
end
def mask(v:Int)(a:aw):List Bool:=a.map λl=>decide (v<=l)
def Ax(v:Int)(a:aw):(mask v a).length=a.length:=by simp[mask]
def G8(v:Int)(a:aw)(j:Nat)(b:j<a.length):(mask v a)[j]? =V (decide (v<=a.getD j 0)):=by simp[mask,aN,aK b]
def gF(b:aw):Nat->Int->aw->aw
 |0,_,a=>a
 |n+1,v,a=>gF b n (v - 1)<|fD (mask v b) a []
def Sd(b:aw):∀(n:Nat)(v:Int)(a:aw),gF b (n+1) v a=fD (mask (v - n) b) (gF b n v a) []
 |0,v,a=>by simp[gF]
 |n+1,v,a=>by rw[gF,Sd b n<|v - 1,gF,show v - 1 - (n:Int)=v - ((n+1:Nat):Int)by omega]
def ahU(b:aw):∀(m n:Nat)(v:Int)(a:aw),gF b (m+n) v a=gF b n (v - m) (gF b m v a)
 |0,n,v,a=>by simp[gF]
 |m+1,n,v,a=>by rw[show m+1+n=(m+n)+1 by omega,gF,ahU b m n<|v - 1,gF,show v - 1 - (m:Int)=v - ((m+1:Nat):Int)by omega]
def Kr(b:aw):∀(n:Nat)(v:Int)(a:aw),a.length=b.length->(gF b n v a).length=b.length
 |0,_,_,h=>h
 |n+1,v,a,h=>by rw[gF];exact Kr b n _ _ (by rw[Zq _ _ _ (by rw[Ax,h])];simpa using h)
def Zx(b:aw):∀(n:Nat)(v:Int)(a:aw),a.length=b.length->(gF b n v a).Perm a
 |0,_,_,_=>T5 _
 |n+1,v,a,h=>by rw[gF];have c:=Zt (mask v b) a [] (by rw[Ax,h]);rw[r8]at c;exact(Zx b n _ _ (by rw[c.length_eq];exact h)).trans c
def Zw(b:aw):∀(m:Nat)(a:aw),a.length=b.length->(∀l∈b,l%2=1->2*(m:Int)<l)->gF b (2*m) (2*m) a=a
 |0,_,_,_=>rfl
 |m+1,a,h,hl=>by
  have e:mask (2*((m+1:Nat):Int) - 1) b=mask (2*((m+1:Nat):Int)) b:=by
   unfold mask;refine Lt λl c=> ?_
   have:=hl l c;simp only[decide_eq_decide];omega
  rw[show 2*(m+1)=(2*m+1)+1 by omega,gF,gF,e];have d:=Zv (mask (2*((m+1:Nat):Int)) b) a [] (by rw[Ax,h]);simp only[kW,Lx,r8,ajr]at d;rw[d,show 2*((m+1:Nat):Int) - 1 - 1=2*(m:Int)by omega];exact Zw b m a h λl c f=>by have:=hl l c f;omega
def eO(n:Nat):aw:=(List.range n).map λ(i:Nat)=>(i:Int)
def Ap(n:Nat):(eO n).length=n:=by simp[eO]
def lS(a:aw):Int:=a.foldl max 0
def Vl:∀(b:aw)(x:Int),x<=b.foldl max x/\(∀l∈b,l<=b.foldl max x)/\(b.foldl max x=x∨b.foldl max x∈b)
 |[],x=>⟨O6 _,by simp,.inl rfl⟩
 |a::b,x=>by obtain⟨f,e,c⟩:=Vl b<|max x a;rw[rZ];refine⟨by omega,λl d=> ?_,?_⟩;rcases gI.1 d with rfl|d;omega;exact e l d;rcases c with c|c;rcases Int.le_total x a with h|h;right;rw[c,Int.max_eq_right h];simp;left;rw[c,Int.max_eq_left h];right;simp[c]
def p9(a:aw):Int:=a.foldl (λx l=>if l%2=1 then min x l else x) 127
def Vk:∀(c:aw)(x:Int),c.foldl (λx l=>if l%2=1 then min x l else x) x<=x/\(∀l∈c,l%2=1->c.foldl (λx l=>if l%2=1 then min x l else x) x<=l)/\(c.foldl (λx l=>if l%2=1 then min x l else x) x=x∨(c.foldl (λx l=>if l%2=1 then min x l else x) x∈c/\(c.foldl (λx l=>if l%2=1 then min x l else x) x)%2=1))
 |[],x=>⟨O6 _,by simp,.inl rfl⟩
 |a::c,x=>by obtain⟨i,e,b⟩:=Vk c (if a%2=1 then min x a else x);rw[rZ];by_cases f:a%2=1;rw[aj f]at i e b ⊢;refine⟨by omega,λl d g=> ?_,?_⟩;rcases gI.1 d with rfl|d;omega;exact e l d g;rcases b with b|b;rcases Int.le_total x a with h|h;left;rw[b,Int.min_eq_left h];right;rw[b,Int.min_eq_right h];exact⟨by simp,f⟩;right;exact⟨by simp[b.1],b.2⟩;rw[ai f]at i e b ⊢;refine⟨i,λl d g=> ?_,?_⟩;rcases gI.1 d with rfl|d;exact absurd g f;exact e l d g;rcases b with b|b;exact .inl b;right;exact⟨by simp[b.1],b.2⟩
def kY(a:aw):aw:=gF a (lS a).toNat (lS a) (eO a.length)
def J4(a:aw):aw:=gF a (lS a - p9 a+1).toNat (lS a) (eO a.length)
def afQ {a:aw}(h:∀l∈a,0<=l/\l<=126):J4 a=kY a:=by
 unfold J4 kY;obtain⟨t1,t2,t3⟩:=Vl a 0;obtain⟨o,d,k⟩:=Vk a 127;change 0<=lS a at t1;change∀l∈a,l<=lS a at t2;change lS a=0∨lS a∈a at t3;change p9 a<=127 at o;change∀l∈a,l%2=1->p9 a<=l at d;change p9 a=127∨(p9 a∈a/\p9 a%2=1)at k;have j:lS a<=126:=by rcases t3 with e|e;omega;exact(h _ e).2
 have f:lS a%2=1->lS a∈a:=λc=>by rcases t3 with e|e;omega;exact e
 generalize lS a=T at*;have p:p9 a%2=1/\0<=p9 a:=by rcases k with e|e;omega;exact⟨e.2,(h _ e.1).1⟩
 generalize p9 a=O at*;by_cases g:O<=T
 .obtain⟨m,i⟩:∃m:Nat,O=2*(m:Int)+1:=⟨(O / 2).toNat,by omega⟩
  have n:T.toNat=(T - O+1).toNat+2*m:=by omega
  rw[n,ahU,show T - ((T - O+1).toNat:Int)=2*(m:Int)by omega];exact(Zw a m _ (Kr _ _ _ _ (Ap _)) (λl b c=>by have:=d l b c;omega)).symm
 rw[show(T - O+1).toNat=0 by omega];have q:T%2=0:=by rcases Int.emod_two_eq T with e|e;exact e;exact absurd (d T (f e) e) g
 obtain⟨m,i⟩:∃m:Nat,T=2*(m:Int):=⟨(T / 2).toNat,by omega⟩
 rw[show T.toNat=2*m by omega,i];exact(Zw a m _ (Ap _) (λl b c=>by have:=d l b c;have:=t2 l b;omega)).symm
def I4(b a:aw)(v:Int):List Bool:=a.map λp=>decide (v<=b.getD p.toNat 0)
def vP(b a:aw)(v:Int):Prop:=∀u,u<=v->I4 b a u=mask u b
def vP.start(b:aw)(v:Int):vP b (eO b.length) v:=λu _=>by unfold I4 eO mask;rw[Po];apply Lr;intro k;rw[jC,jC];rcases dc k b.length with a|a;rw[IB a,aK a];simp[aK a];rw[tI<|by simpa using a,tI a];rfl
def vP.turn {b a:aw}{v:Int}(h:vP b a v)(_hl:a.length=b.length):vP b (fD (mask v b) a []) v:=λu f=>by
 unfold I4;rw[Zr];have e:=h u f;unfold I4 at e;rw[e];have:=Zu (mask v b) (mask u b) 0 (by rw[Ax,Ax]) (λj c=>by
  have d:j<b.length:=by have:=(tJ.1 c).1;rwa [Ax]at this
  rw[G8 _ _ _ d]at c ⊢;have:=aI c;simp at this ⊢;omega)
 simpa using this
def vP.mono {b a:aw}{v c:Int}(h:vP b a v)(e:c<=v):vP b a c:=λu d=>h u<|by omega
def vP.at {b a:aw}{v:Int}(h:vP b a v)(f:a.length=b.length)(j:Nat)(d:j<b.length):decide (v<=b.getD (a.getD j 0).toNat 0)=decide (v<=b.getD j 0):=by
 have e:=h v<|O6 _;have c:(I4 b a v)[j]? =V (decide (v<=b.getD (a.getD j 0).toNat 0)):=by rw[I4,jC,aK<|by omega,aN (l:=a),aK<|by omega];rfl
 rw[e,G8 _ _ _ d]at c;exact(aI c).symm
def aet(k:Nat):eO (k+1)=eO k++[(k:Int)]:=by simp[eO,IJ]
def ahK(a:aw)(k:Nat)(b:k<a.length):lS (a.take<|k+1)=max (lS<|a.take k) (a.getD k 0):=by unfold lS;rw[uO,aK b,CY,aN,aK b];rfl
def apg(a:aw)(k:Nat)(b:k<a.length):p9 (a.take<|k+1)=if a.getD k 0%2=1 then min (p9<|a.take k) (a.getD k 0)else p9 (a.take k):=by unfold p9;rw[uO,aK b,CY,aN,aK b];rfl
def Sa {lv:aw}(h:∀l∈lv,l<=1000):0<=lS lv/\lS lv<=1000:=by obtain⟨t1,_,t3⟩:=Vl lv 0;refine⟨t1,?_⟩;rcases t3 with e|e;show lv.foldl max 0<=1000;omega;exact h _ e
def afg {lv:aw}(h:∀l∈lv,0<=l):0<=p9 lv/\p9 lv<=127:=by obtain⟨t1,_,t3⟩:=Vk lv 127;refine⟨?_,t1⟩;rcases t3 with e|e;show 0<=lv.foldl _ 127;rw[e];decide;exact h _ e.1
def agh {a:aw}{n:Nat}(h:a.Perm<|eO n)(j:Nat)(d:j<n):∃p:Nat,p<n/\a.getD j 0=(p:Int):=by
 have f:a.length=n:=by rw[h.length_eq,Ap]
 have b:a.getD j 0∈eO n:=h.mem_iff.1 (dP<|by omega);unfold eO at b;obtain⟨p,c,e⟩:=jX.1 b;exact⟨p,IG.1 c,e.symm⟩
def o9.at {c:List Bool}{a b:aw}{i:Nat}(h:o9 c a i b)(q:Nat)(g:i<=q):b.getD q 0=a.getD q 0:=by obtain⟨f,d,e,_⟩:=h;rw[e,aN,tH<|by omega,d,zS,show i+(q - i)=q by omega,aN]
def ahV {lv:aw}{T:Int}:∀(m:Nat),vP lv (gF lv m T<|eO lv.length) (T - m)
 |0=>(vP.start lv T).mono (by omega)
 |m+1=>by rw[Sd];exact((ahV m).turn (Kr _ _ _ _ (Ap _))).mono (by omega)
def bI.swap {w:cw}{B g n c:Nat}{t:aw}(h:bI w B g n c t)(a b:Nat):bI ((w.setCell (S g a U)<|Y Z<|t.getD b 0).setCell (S g b U) (Y Z<|t.getD a 0)) B g n c (DK t a b 0):=(h.set a _).set b _
def agF(o:aw)(b P aC n:Nat)(w:cw)(hl:o.length=n)(hn:n<=1000)(hc:bJ w b P o)(aj:∀l∈o,0<=l/\l<=1000):cP prog 49 #[.slice (V<|S b P U) n aC] w λe w'=>∃v',e=bj v'/\w'.ownsRow w.1.size 3 1 v' n (iv<|kY o)/\cD w.1.size w w':=by
 obtain⟨iI,gZ,ia,ic,ig⟩:=fP Tryz.sQ;have HC:dd (∀W,cD w.1.size w W->bJ W b P o):=λW r=>hc.below r
 have E:=ah hl;have HV:=ah aj;have ad:=Sa (lv:=o) (λl h=>(aj l h).2);have al:dd (lS o=0∨0<n):=by by_cases h0:0<n;exact .inr h0;left;have:o=[]:=Ua.1 (by omega);rw[this];rfl
 obtain⟨T,hT⟩:=ac<|lS o;have HT:=ah hT;rw[<-hT]at ad al;obtain⟨aa,hR⟩:=ac<|kY o;have HR:dd (aa=gF o T.toNat T (eO n)):=by show aa=_;rw[hR,kY,hT,<-hl]
 rw[<-hR];clear hc hl aj hT hR;go_enter func49,ntmps49;go_wp2;go_loopg [3,4,5] n (λgk av tv gD W=>∃(k:Nat)(t:Int),k<=n/\gk=n - k/\gD=Y Z k/\tv=Y Z t/\t=lS (o.take k)/\W.ownsRow w.1.size 3 1 av k (iv<|eO k)/\cD w.1.size w W);exact⟨0,0,by omega,rfl,rfl,rfl,by simp[lS],fh _ _ _ _,aA _ _⟩;obtain⟨k,t,hk,rfl,rfl,rfl,ht,f,r⟩:=hrel;obtain⟨qa,qc,rfl⟩:=eV f;by_cases O:k<n
 .have N:k<o.length:=by rw[E.out];exact O
  have D:=HC.out wr r k N;have hs:=ahK o k N;rw[<-ht]at hs;have Re:=HV.out _ (dP (d:=0) N);obtain⟨x,hx⟩:=ac<|o.getD k 0;rw[<-hx]at D hs Re;have HS:=ah hs;have u:=ah r;have aO:=Sa (lv:=o.take k) (λl h=>(HV l<|Lu h).2);rw[<-ht]at aO;have an:=r.size;have aK:(k:Int)<(n:Int):=by omega
  clear hs hx ht r N;go_wp2_with(at_builtin;refine rT _ rfl _ _ 31 rfl w.1.size 3 iI (Y Z 0) 8 underlying31 gZ ia ic ig rfl (by decide) _ _ _ rfl f _ _ rfl rfl (by omega) an ?_);intro v2 w2 I ao;have bN:cD w.1.size w w2:=u.out.grown ao an (λy hy=>(f.lt y hy).1);have MG:w2.cell? (S b (P+k) U)=V (Y Z x):=by have F:=HC.out wr u k (by rw[E.out];exact O);have X:=HC.out w2 bN k (by rw[E.out];exact O);rw[X,<-F];exact D
  have aG:=ah bN;have J:dd (w2.ownsRow w.1.size 3 1 v2 (k+1)<|iv<|eO<|k+1):=by show World.ownsRow _ _ _ _ _ _ _;rw[aet];have e:iv (eO k++[(k:Int)])=iv (eO k)++[Y Z (k:Int)]:=(by simp[iv]);rw[e];exact I
  clear f I ao bN D u;by_cases aV:t<x
  .have HM:dd (x=lS (o.take<|k+1)):=(by show x=_;rw[HS.out];omega);go_wp2;go_roundg (n - (k+1));exact⟨k+1,x,by omega,rfl,by go_num,rfl,HM,J,aG⟩;omega
  have HM:dd (t=lS (o.take<|k+1)):=(by show t=_;rw[HS.out];omega);go_wp2;go_roundg (n - (k+1));exact⟨k+1,t,by omega,rfl,by go_num,rfl,HM,J,aG⟩;omega
 obtain rfl:k=n:=by omega
 have aK:¬(k:Int)<(k:Int):=by omega
 have aN:t=T:=by rw[ht,HT.out,jY<|by rw[E.out];exact au _]
 subst aN;have H:=ah f;have u:=ah r;clear f r ht HT;obtain⟨t0,t1⟩:=ad;go_wp2;go_loopg [6] t.toNat (λgk vv W=>∃(m:Nat),m<=t.toNat/\gk=t.toNat - m/\vv=Y Z (t - m)/\W.ownsRow w.1.size 3 1 (R qa k qc) k (iv<|gF o m t<|eO k)/\cD w.1.size w W);exact⟨0,by omega,rfl,by simp,H,u⟩;clear H u;obtain⟨m,hm,rfl,rfl,f,r⟩:=hrel;obtain⟨a,ha⟩:=ac<|gF o m t<|eO k;rw[<-ha]at f;by_cases O:m<t.toNat
 .have aJ:0<k:=by rcases al.out with h|h;omega;exact h
  obtain⟨g,aB,ax,_,MN,ap⟩:=iq f aJ;have GQ:qa=V (S g 0 U):=(show qa=V (S g 0 U)/\qc=aB by simpa using ax).1;subst GQ;have L:a.length=k:=(by rw[ha];exact(Kr o m t _ (by rw[Ap,E.out])).trans E);have ak:dd (a.Perm<|eO k):=(by show a.Perm _;rw[ha];exact Zx o m t _ (by rw[Ap,E.out]));have S8:dd (vP o a<|t - m):=by have:=ahV (lv:=o) (T:=t) m;rw[E.out,<-ha]at this;exact this
  have uG:dd (gF o (m+1) t (eO k)=fD (mask (t - m) o) a []):=(by show _=_;rw[Sd,<-ha]);have KS:dd ((mask (t - m) o).length=a.length/\a.length=k):=⟨by rw[Ax,E.out,L],L⟩
  obtain⟨v,hv⟩:=ac<|t - (m:Int);have TP:=ah hv;have aX:0<v:=(by omega);have aY:v<=1000:=(by omega);rw[<-hv]at S8 uG KS ⊢;have H:=ah f;have u:=ah r;have am:=ah ap;obtain⟨K,ae⟩:=ac<|mask v o;have yx:dd (∀j,j<k->K[j]? =V (decide (v<=o.getD (a.getD j 0).toNat 0))):=λj B=>by rw[ae,G8 _ _ _ (by rw[E.out];exact B),S8.out.at (by rw[L,E.out]) j<|by rw[E.out];exact B]
  rw[<-ae]at uG KS;clear f r ha hv L ae ax MN ap S8;go_wp2;go_loopg [7] (k+1) (λgk gD W=>∃(i:Nat)(A:aw),i<=k+1/\gk=k+1 - i/\gD=Y Z i/\bI W w.1.size g k qc A/\cD w.1.size w W/\o9 K a (min i k) A);exact⟨0,a,by omega,rfl,rfl,H,u,by rw[LF];exact o9.start K a⟩;clear H u;obtain⟨i,A,hi,rfl,rfl,C,r,Jp⟩:=hrel;by_cases aq:i<k
  .rw[kG<|by omega]at Jp;have aE:=C.len;have H:=ah C;have u:=ah r;have O0:=ah Jp;have ar:(i:Int)<(k:Int):=(by omega);clear C r Jp;obtain⟨W1,aD⟩:=ac wr;subst aD;go_wp2;go_loopg [8] (k - i) (λgk jv W=>∃(j:Nat),i<=j/\j<=k/\gk=k - j/\jv=Y Z j/\W=W1/\∀q,i<=q->q<j->K[q]? =V db);exact⟨i,by omega,by omega,rfl,rfl,rfl,λq F X=>by omega⟩;obtain⟨j,ag,aF,rfl,rfl,hW,ab⟩:=hrel;subst hW;have HA:=ah ab;clear ab;by_cases af:j<k/\K[j]? =V db
   .obtain⟨B,MD⟩:=af;have Q:=yx.out j B;obtain⟨p,hp,G⟩:=agh ak.out j B;have De:wr.cell? (S g j U)=V (Y Z (p:Int)):=(by rw[H.out.cell j B,O0.out.at j ag,G]);have aL:=HC.out wr u p (by rw[E.out];exact hp);rw[G,Bg,MD]at Q;have aP:v<=o.getD p 0:=(by have:=aI Q;simpa using this.symm);have Ie:dd (∀q,i<=q->q<j+1->K[q]? =V db):=λq F X=>by by_cases e:q=j;rw[e];exact MD;exact HA.out q F<|by omega
    generalize o.getD p 0=y at*;have ai:(j:Int)<(k:Int):=(by omega);have aM:(p:Int)<(k:Int):=(by omega);clear Q MD G;go_wp2;go_roundg (k - (j+1));exact⟨j+1,by omega,by omega,rfl,by go_num,rfl,Ie⟩;omega
   have HE:dd (j<k->K[j]? =V da):=λB=>by
    have Q:=yx.out j B;cases hd:decide (v<=o.getD (a.getD j 0).toNat 0)with
    |true=>rw[hd]at Q;exact absurd ⟨B,Q⟩ af
    |false=>rw[hd]at Q;exact Q
   have aH:¬(j<k)∨∃p:Nat,j<k/\p<k/\wr.cell? (S g j U)=V (Y Z (p:Int))/\¬v<=o.getD p 0:=(by by_cases B:j<k;right;obtain⟨p,hp,G⟩:=agh ak.out j B;refine⟨p,B,hp,by rw[H.out.cell j B,O0.out.at j ag,G],?_⟩;have F:=HE.out B;rw[yx.out j B,G,Bg]at F;simpa using aI F;exact .inl B);have A7:dd _:=u;clear af;rcases aH with B|⟨p,B,hp,De,aP⟩;all_goals
    first
    |have ai:¬(j:Int)<(k:Int):=by omega
    |have aL:=HC.out wr u p (by rw[E.out];exact hp)
     generalize o.getD p 0=y at*;have ai:(j:Int)<(k:Int):=(by omega);have aM:(p:Int)<(k:Int):=by omega
    go_wp2;clear ai;go_loopg [9,10] (j - i) (λgk av bv W=>∃(s:Nat)(z:Int)(c:aw),i+s+s<=j/\gk=j - i - s/\av=Y Z ((i+s:Nat):Int)/\bv=Y Z z/\z=(j:Int) - s - 1/\bI W w.1.size g k qc c/\cD w.1.size w W/\nI c (i+s) (j - s)=nI A i j);exact⟨0,(j:Int) - 1,A,by omega,by omega,rfl,rfl,by omega,H,u,rfl⟩;clear H u A7;obtain⟨s,z,c,hs,rfl,rfl,rfl,hz,C,r,jq⟩:=hrel;have Js:=C.len;by_cases JB:i+s+1<j - s
    .obtain⟨y,rfl⟩:∃y:Nat,z=(y:Int):=⟨z.toNat,by omega⟩
     have hy:y=j - s - 1:=(by omega);obtain⟨x,hx⟩:=ac<|i+s;rw[<-hx]at jq ⊢;have GV:=agI c x (j - s) 0 (by omega) (by omega);rw[<-hy,jq]at GV;have aQ:x<k:=(by omega);have ay:y<k:=(by omega);have cx:=C.cell x aQ;have cy:=C.cell y ay;have fx:=C.frozen x;have aT:=(C.set x<|c.getD y 0).cell y ay;have aU:=(C.set x<|c.getD y 0).frozen y;have J:=ah<|C.swap x y;have aG:dd (cD w.1.size w<|(wr.setCell (S g x U)<|Y Z<|c.getD y 0).setCell (S g y U) (Y Z<|c.getD x 0)):=(r.setCell (p:=(S g x U)) am.out _).setCell (p:=(S g y U)) am.out _;have Ty:dd (nI (DK c x y 0) (i+(s+1)) (j - (s+1))=nI A i j):=(by show _=_;rw[show i+(s+1)=x+1 by omega,show j - (s+1)=y by omega];exact GV);have D9:dd (x=i+s/\y=j - s - 1/\i+s+1<j - s):=⟨hx,hy,JB⟩
     have aZ:(x:Int)<(y:Int):=(by omega);have aR:(x:Int)<(k:Int):=(by omega);have aS:(y:Int)<(k:Int):=(by omega);have a1:(1:Int)<=(y:Int):=(by omega);clear C r jq GV hx hy hz hs JB Js;generalize c.getD x 0=ux at*;generalize c.getD y 0=uy at*;go_wp2;go_roundg (j - i - (s+1));exact⟨s+1,(y:Int) - 1,_,by have:=D9.out;omega,rfl,by have:=D9.out;rw[show i+(s+1)=x+1 by omega];go_num,rfl,by have:=D9.out;omega,J.out,aG.out,Ty.out⟩;have:=D9.out;omega
    have a0:¬((i+s:Nat):Int)<z:=(by omega);have M:c=nI A i j:=(by rw[<-jq,YJ c (i+s) (j - s) (by omega) (by omega)<|by omega]);have J:=ah C;have aG:=ah r;have yB:=ah KS.out;by_cases aW:i<j
    .have TK:dd (o9 K a (min (j+1) k) c):=(by have F:=O0.out.turn yB.out.1 ag (by rw[yB.out.2];exact aF) HA.out (λh=>HE.out<|by rw[<-yB.out.2];exact h);rw[<-M]at F;by_cases X:j<k;rw[kG<|by omega];exact F.skip yB.out.1 (by rw[yB.out.2];exact X)<|HE X;rw[IM<|by omega];have:j=k:=(by omega);rw[<-this];exact F);have az:(i:Int)<(j:Int):=(by omega);clear C r jq M hz Js;generalize((i+s:Nat):Int)=xs at*;go_wp2;go_roundg (k+1 - (j+1));exact⟨j+1,c,by omega,rfl,by go_num,J,aG,TK⟩;omega
    have QU:j=i:=(by omega);have TK:dd (o9 K a (min (i+1) k) c):=(by rw[kG<|by omega];have F:=O0.out.skip yB.out.1 (by rw[yB.out.2];exact aq) (by rw[<-QU];exact HE.out<|by rw[QU];exact aq);have X:c=A:=(by rw[M,QU];exact YJ A i i (au _) (by have:=aE;omega)<|by omega);rw[X];exact F);have az:¬(i:Int)<(j:Int):=(by omega);clear C r jq M hz Js QU;generalize((i+s:Nat):Int)=xs at*;go_wp2;go_roundg (k+1 - (i+1));exact⟨i+1,c,by omega,rfl,by go_num,J,aG,TK⟩;omega
  have ar:¬(i:Int)<(k:Int):=(by omega);rw[IM<|by omega]at Jp;have he:=Jp.stop KS.out.1 (by rw[KS.out.2];exact au _);have J:dd (wr.ownsRow w.1.size 3 1 (.slice (V<|S g 0 U) k qc) k<|iv<|gF o (m+1) t<|eO k):=by show World.ownsRow _ _ _ _ _ _ _;rw[uG.out,<-he];exact C
  have u:=ah r;clear C r Jp he;go_wp2;go_roundg (t.toNat - (m+1));exact⟨m+1,by omega,rfl,by rw[TP.out];go_num,J.out,u.out⟩;omega
 obtain rfl:m=t.toNat:=(by omega);have hv:¬0<t - (t.toNat:Int):=(by omega);have H:dd (wr.ownsRow w.1.size 3 1 (R qa k qc) k<|iv aa):=(by show World.ownsRow _ _ _ _ _ _ _;rw[HR.out,<-ha];exact f);have u:=ah r;generalize t - (t.toNat:Int)=z at*;clear f r ha;go_wp2;go_ret;exact⟨_,rfl,H,u⟩
def arD(w:cw)(B g n c u i j:Nat)(b:aw)(k:i<=j)(m:j<=n)(hn:n<=1000)(h:bI w B g n c b):cP prog 100 #[.slice (V<|S g i U) (j - i) u] w λe G=>e=bj (de #[])/\bI G B g n c (nI b i j)/\w.grownBy G (V g):=by
 have A:=ah h;clear h;obtain⟨l,v⟩:=ac<|j - i;rw[<-v];have N:l<=1000:=by omega
 have H:dd (l=j - i/\i<=j/\j<=n):=⟨v,k,m⟩
 clear v k m;go_enter func100,ntmps100;go_wp2;go_loopg [2,3] l (λgk L bv W=>∃(s:Nat)(z:Int)(a:aw),s+s<=l/\gk=l - s/\L=Y Z ((s:Nat):Int)/\bv=Y Z z/\z=(l:Int) - s - 1/\bI W B g n c a/\w.grownBy W (V g)/\nI a (i+s) (j - s)=nI b i j);exact⟨0,(l:Int) - 1,b,by omega,by omega,rfl,rfl,by omega,A,kI _ _,rfl⟩;clear A;obtain⟨s,z,a,P,rfl,rfl,rfl,F,d,o,p⟩:=hrel;have D:=d.len;have E:=H.out;by_cases C:s+1<l - s
 .obtain⟨y,rfl⟩:∃y:Nat,z=(y:Int):=⟨z.toNat,by omega⟩
  have r:=agI a (i+s) (j - s) 0 (by omega) (by omega);rw[show j - s - 1=i+y by omega,p]at r;have X:=d.cell (i+s) (by omega);have cy:=d.cell (i+y) (by omega);have fx:=d.frozen<|i+s;have fy:=d.frozen<|i+y;have O:i+s≠i+y:=by omega
  have M:dd (bI ((wr.setCell (S g (i+s) U)<|Y Z<|a.getD (i+y) 0).setCell (S g (i+y) U) (Y Z<|a.getD (i+s) 0)) B g n c<|DK a (i+s) (i+y) 0):=d.swap (i+s)<|i+y;have t:dd (w.grownBy ((wr.setCell (S g (i+s) U)<|Y Z<|a.getD (i+y) 0).setCell (S g (i+y) U) (Y Z<|a.getD (i+s) 0))<|V g):=(o.trans<|d.grown (i+s) _).trans ((d.set (i+s) _).grown (i+y) _);have I:dd (nI (DK a (i+s) (i+y) 0) (i+(s+1)) (j - (s+1))=nI b i j):=by show _=_;rw[show i+(s+1)=i+s+1 by omega,show j - (s+1)=i+y by omega];exact r
  have q:dd (y=l - s - 1/\s+1<l - s):=⟨by omega,C⟩
  have Q:(s:Int)<(y:Int):=by omega
  have J:(s:Int)<(l:Int):=by omega
  have K:(y:Int)<(l:Int):=by omega
  have T:(1:Int)<=(y:Int):=by omega
  clear d o p r F P C D E;generalize a.getD (i+s) 0=ux at*;generalize a.getD (i+y) 0=uy at*;go_wp2;go_region;all_goals
   go_wp2;go_roundg (l - (s+1));exact⟨s+1,(y:Int) - 1,_,by have:=q.out;omega,rfl,by go_num,rfl,by have:=q.out;omega,IW M.out,t.out.trans C3,I.out⟩;have:=q.out;omega
 have R:¬((s:Nat):Int)<z:=by omega
 have f:a=nI b i j:=by rw[<-p,YJ a (i+s) (j - s) (by omega) (by omega)<|by omega]
 have x:dd (bI wr B g n c (nI b i j)/\w.grownBy wr (V g)):=by rw[<-f];exact⟨d,o⟩
 clear d o p f F D E;go_wp2;go_end0;exact⟨rfl,x.out.1,x.out.2⟩
