import Derived.Test.YtkbinfhclaafhaaGreatDoorP18
import Derived.Test.YtkbinfhclaafhaaGreatDoorShelf
import Derived.Lib.IndexAny
import Derived.Stop.Asserts
namespace Go.Proofs.YtkbinfhclaafhaaGreatDoor
open Go.RowKit
open Go.Proofs.Tryz
set_option maxRecDepth 100000
set_option maxHeartbeats 32000000
set_option linter.all false
section
attribute [local go_sem ↓] Go.wp_at_zero Go.wp_at_succ
def anH(w:World):(Instr.makeSlice 139 (.int .i64 0) (.int .i64 0)).run prog w= .ok (.slice (some ⟨w.heap.size,0,none⟩) 0 0) (w.alloc (.cells (madeCells #[.int .i64 0] 0) 108)):=
 run_make_row' (P:=prog) 139 108 (.int .i64 0) 8 underlying139 Tryz.Iu rfl .i64 .i64 0 (by omega) (by omega) w
def tR(W:World)(d a b c:Nat)(p:Int):Prop:=LB W d (.slice none 0 0) (.slice none 0 0) (.slice (some ⟨a,0,none⟩) 0 0) (.slice (some ⟨b,0,none⟩) 0 0) (.slice (some ⟨c,0,none⟩) 0 0) (.int .i64 p)
def anC(w:World):Calls prog 140 #[.slice none 0 0] w λe b=>∃g,e= .returned (.slice (some ⟨g,0,none⟩) 0 0)/\Below w.heap.size w b:=by
 have a:=Mq;go_enter func140,ntmps140;go_wp2;refine fV 1 ?_;rw[bN];go_wp2;go_ret;exact⟨_,rfl,((aA _ _).alloc (au _) _).alloc (by simp) _⟩
def ak8(w:World)(a:Nat):Calls prog 199 #[.pointer<|some ⟨a,0,none⟩,.int .i64 0,.int .i64 0] w λe b=>e= .returned (.int .i64 0)/\b=w:=by
 go_enter func199,ntmps199;go_wp2;refine fV 1 ?_;rw[bN];go_wp2;go_ret;exact⟨rfl,rfl⟩
def aoN(w:World)(a:Nat)(k l m n o:Value)(h:LB w a k (.slice none 0 0) l m n o)(d:Int):Calls prog 141 #[.pointer<|some ⟨a,0,none⟩,.int .i64 d] w λe g=>e= .returned (.int .i64<|gX [] d)/\g=w:=by
 have p:=h.c1;clear h;by_cases b:d=0
 .subst b;go_enter func141,ntmps141;go_wp2;go_ret;exact⟨rfl,rfl⟩
 by_cases c:d=1
 .subst c;go_enter func141,ntmps141;go_wp2;go_ret;exact⟨rfl,rfl⟩
 have r:=ae b;have s:=ae c;have j:Hid (gX [] d=0):=by show _=_;rw[gX,ai<|by omega];rfl
 have i:Hid (∀W,Calls prog 199 #[.pointer<|some ⟨a,0,none⟩,.int .i64 0,.int .i64 0] W λe g=>e= .returned (.int .i64 0)/\g=W):=λW=>ak8 W a
 clear b c;go_enter func141,ntmps141;go_wp2_with fail;refine(i.out _).mono ?_;rintro q t ⟨rfl,hx⟩;have f:=hx.symm;subst f;go_wp2;go_ret;exact⟨dM<|by rw[j.out],rfl⟩
def aeu(s:ByteArray)(d:Int)(w:World)(hs:s.size=0):
  Calls prog 84 #[.string s,.int .i64 d] w λe r=>∃a E F f,e= .returned (.pointer<|some ⟨a,0,none⟩)/\tR r a E F f (gX [] d)/\w.heap.size<=a/\Below w.heap.size w r:=by
 have aa:=anH;have UW:=Mq;have kj:∀(W:World)(g:Nat),(Builtin.copy_ #[139,139] 3 #[.slice (some ⟨g,0,none⟩) 0 0,.slice none 0 0]).run prog W= .ok (goInt 0) W:=λW g=>iG (P:=prog) W 139 139 3 108 _ _ 0 0 0 0 underlying139 Tryz.Xn rfl
 obtain⟨j,c⟩:=ac<|w.alloc (.cells #[.slice none 0 0,.slice none 0 0,.slice none 0 0,.slice none 0 0,.slice none 0 0,.int .i64 0] 141);have n:Below w.heap.size w j:=by rw[c];exact(aA _ _).alloc (au _) _
 have KI:j.heap[w.heap.size]? =some (.cells #[.slice none 0 0,.slice none 0 0,.slice none 0 0,.slice none 0 0,.slice none 0 0,.int .i64 0] 141 (0,0)):=by rw[c];exact oD
 have KJ:j.heap.size=w.heap.size+1:=by rw[c];simp
 have Nk:Hid (∀(W:World)(a:Nat)(M N O Q R:Value),LB W a M (.slice none 0 0) N O Q R->Calls prog 141 #[.pointer<|some ⟨a,0,none⟩,.int .i64 d] W λe r=>e= .returned (.int .i64<|gX [] d)/\r=W):=λW a M N O Q R h=>aoN W a M N O Q R h d
 generalize gX [] d=A at*;go_enter func84,ntmps84;go_wp2;rw[<-c];obtain⟨q,m⟩:=ac<|(j.iter s 0);have H9:Below j.heap.size j (j.iter s 0):=(aA _ _).alloc (au _) _;have oH:Hid (LB q w.heap.size (.slice none 0 0) (.slice none 0 0) (.slice none 0 0) (.slice none 0 0) (.slice none 0 0) (.int .i64 0)/\q.heap[w.heap.size+1]? =some (.stringIter s 0)/\Below w.heap.size w q):=by
  rw[m];exact⟨bq H9 KI,by rw[<-KJ];exact GZ _ _ _,n.alloc n.size _⟩
 rw[<-m];clear m c n KI KJ H9;obtain⟨a,o⟩:=ac w.heap.size;obtain⟨G,hit⟩:=ac<|w.heap.size+1;have B:Hid (w.heap.size<=a):=by show _<=_;omega
 have H:Hid (LB q a (.slice none 0 0) (.slice none 0 0) (.slice none 0 0) (.slice none 0 0) (.slice none 0 0) (.int .i64 0)/\q.heap[G]? =some (.stringIter s 0)/\Below w.heap.size w q):=by rw[o,hit];exact oH.out
 rw[<-hit,<-o];clear oH o hit;go_loopg [7] 0 (λgk _ W=>gk=0/\LB W a (.slice none 0 0) (.slice none 0 0) (.slice none 0 0) (.slice none 0 0) (.slice none 0 0) (.int .i64 0)/\W.heap[G]? =some (.stringIter s 0)/\Below w.heap.size w W);exact⟨rfl,H.out.1,H.out.2.1,H.out.2.2⟩;clear H;obtain⟨rfl,zG,y,U⟩:=hrel;have V:∀Z,(Instr.next (.pointer<|some ⟨G,0,none⟩) true Z).run prog wr= .ok (.tuple #[.bool false]) wr:=λZ=>GK wr G s 0 Z y<|by omega
 have x:=zG.c1;have I:LB (wr.alloc (.cells (madeCells #[.int .i64 0] 0) 108)) a _ _ _ _ _ _:=zG.grown (Dz wr _ none) (by simp);obtain⟨d2,e2⟩:=I.c2;have b:=I.s2 (.slice (some ⟨wr.heap.size,0,none⟩) 0 0);have v:Below w.heap.size w ((wr.alloc (.cells (madeCells #[.int .i64 0] 0) 108)).setCell ⟨a,2,none⟩ (.slice (some ⟨wr.heap.size,0,none⟩) 0 0)):=(U.alloc U.size _).setCell (p:=⟨a,2,none⟩) B.out _;have K:Hid _:=And.intro b v;clear zG I b v U y;obtain⟨E,kY⟩:=ac wr.heap.size;go_wp2;generalize((wr.alloc (.cells (madeCells #[.int .i64 0] 0) 108)).setCell ⟨a,2,none⟩ (.slice (some ⟨wr.heap.size,0,none⟩) 0 0))=u at*;rw[<-kY]at K ⊢;clear kY x d2 e2 V;obtain⟨b,v⟩:=K.out;clear K;obtain⟨c2,_⟩:=b.c2;have x:=b.c1;have L:Hid (LB u a _ _ _ _ _ _/\Below w.heap.size w u):=⟨b,v⟩
 clear b v;go_region;all_goals
  clear x c2;have k:LB u.drew a _ _ _ _ _ _:=L.out.1;have S:Below w.heap.size w u.drew:=L.out.2.drew;clear L;generalize u.drew=i at*;have l:LB (i.alloc (.cells (madeCells #[.int .i64 0] 0) 3)) a _ _ _ _ _ _:=k.grown (Dz i _ none) (by simp);have x:=k.c1;obtain⟨d3,e3⟩:=l.c3;have Y:=l.s3 (.slice (some ⟨i.heap.size,0,none⟩) 0 0);have S6:=Y.c1;have kW:Below w.heap.size w ((i.alloc (.cells (madeCells #[.int .i64 0] 0) 3)).setCell ⟨a,3,none⟩ (.slice (some ⟨i.heap.size,0,none⟩) 0 0)):=(S.alloc S.size _).setCell (p:=⟨a,3,none⟩) B.out _;have t:Hid _:=And.intro Y kW;clear k S l Y kW;obtain⟨F,z⟩:=ac i.heap.size;go_wp2_with fail;generalize((i.alloc (.cells (madeCells #[.int .i64 0] 0) 3)).setCell ⟨a,3,none⟩ (.slice (some ⟨i.heap.size,0,none⟩) 0 0))=W5 at*;rw[<-z]at t ⊢;clear z x d3 e3 S6;refine(anC W5).mono ?_;rintro ev D ⟨f,rfl,T⟩;have J:=t.out.1.below T;obtain⟨d4,e4⟩:=J.c4;have x8:=J.s4 (.slice (some ⟨f,0,none⟩) 0 0);have DN:Below w.heap.size w (D.setCell ⟨a,4,none⟩ (.slice (some ⟨f,0,none⟩) 0 0)):=(t.out.2.trans<|T.mono t.out.2.size).setCell (p:=⟨a,4,none⟩) B.out _;have C:Hid _:=And.intro x8 DN;have Zj:Hid (Calls prog 141 #[.pointer<|some ⟨a,0,none⟩,.int .i64 d] (D.setCell ⟨a,4,none⟩ (.slice (some ⟨f,0,none⟩) 0 0)) λe r=>e= .returned (.int .i64 A)/\r=(D.setCell ⟨a,4,none⟩ (.slice (some ⟨f,0,none⟩) 0 0))):=Nk.out _ _ _ _ _ _ _ x8;clear J x8 DN T t;go_wp2_with fail;generalize(D.setCell ⟨a,4,none⟩ (.slice (some ⟨f,0,none⟩) 0 0))=W7 at*;refine Zj.out.mono ?_;rintro ev wx ⟨rfl,hx⟩;have X:=hx.symm;subst X;clear Zj d4 e4;obtain⟨d5,e5⟩:=C.out.1.c5;have HF:Hid (tR (W7.setCell ⟨a,5,none⟩ (.int .i64 A)) a E F f A/\Below w.heap.size w (W7.setCell ⟨a,5,none⟩ (.int .i64 A))):=⟨C.out.1.s5 (.int .i64 A),C.out.2.setCell (p:=⟨a,5,none⟩) B.out _⟩
  clear C;go_wp2;go_ret;exact⟨a,E,F,f,rfl,HF.out.1,B.out,HF.out.2⟩
def aqM(w:World)(a i j k:Nat)(p:Int)(h:tR w a i j k p):
  Calls prog 85 #[.pointer<|some ⟨a,0,none⟩] w λe r=>e= .returned (.tuple #[])/\Below w.heap.size w r:=by
 obtain⟨s,c⟩:=ac w.heap.size;have b:Below w.heap.size w (w.alloc (.cells #[.pointer<|some ⟨a,0,none⟩,.slice none 0 0,.int .i64 0,.int .i64 0,.int .i64 0] 212)):=(aA _ _).alloc (au _) _;have d:Hid (bQ (w.alloc (.cells #[.pointer<|some ⟨a,0,none⟩,.slice none 0 0,.int .i64 0,.int .i64 0,.int .i64 0] 212)) w.heap.size s (.slice none 0 0) (.pointer<|some ⟨a,0,none⟩) ⟨[],0,0,0⟩):=
  ⟨by rw[c];exact oD,⟨rfl,.inl ⟨rfl,rfl⟩⟩,by rw[c];exact au _⟩
 have n:(w.alloc (.cells #[.pointer<|some ⟨a,0,none⟩,.slice none 0 0,.int .i64 0,.int .i64 0,.int .i64 0] 212)).cell? ⟨a,5,none⟩=some (.int .i64 p):=(LB.below h b).c5.1;have f:=ah b;have m:Hid (∀W,Below w.heap.size w W->tR W a i j k p):=λW q=>LB.below h q
 clear h b;go_enter func85,ntmps85;go_wp2_with fail;rw[<-c];clear c;refine(F7 _ w.heap.size s _ _ _ p (-1) false d.out (by simp)).mono ?_;rintro u l ⟨rfl,v,o,hF⟩;have g:=ah<|hF.Hf d.out f.out;have t:l.cell? ⟨a,1,none⟩=some (.slice none 0 0):=(m.out l g.out).c1;clear o hF d f n;go_wp2;refine fV 1 ?_;rw[bN];go_wp2;go_end0;exact⟨rfl,g.out⟩
def anh(w:World)(a b c d:Nat)(p:Int)(h:tR w a b c d p):
  Calls prog 218 #[.pointer<|some ⟨a,0,none⟩] w λe f=>e= .returned (.slice none 0 0)/\f=w:=by
 have g:=LB.c1 h;clear h;go_enter func218,ntmps218;go_wp2;refine fV 1 ?_;rw[bN];go_wp2;go_ret;exact⟨rfl,rfl⟩
def aqj(w:World)(b c d f:Nat)(p:Int)(h:tR w b c d f p):
  Calls prog 154 #[.pointer<|some ⟨b,0,none⟩] w λe i=>e= .returned (.slice none 0 0)/\i=w:=by
 have g:=ah h;clear h;go_enter func154,ntmps154;go_wp2_with fail;refine(anh w b c d f p g.out).mono ?_;rintro j k ⟨rfl,hx⟩;have a:=hx.symm;subst a;go_wp2;refine fV 1 ?_;rw[bN];go_wp2;go_ret;exact⟨rfl,rfl⟩
def aqE(w:World)(b c d f:Nat)(p:Int)(h:tR w b c d f p):
  Calls prog 87 #[.pointer<|some ⟨b,0,none⟩] w λe k=>e= .returned (.slice none 0 0)/\Below w.heap.size w k:=by
 have j:=@iH prog;have l:∀(i:Fn)(first a:Array Value)(w:World),(Instr.makeFunc i first a).run prog w= .ok (.func i first a) w:=λ_ _ _ _=>rfl
 have g:Hid (tR (w.alloc (.cells #[.pointer<|some ⟨b,0,none⟩] 136)) b c d f p):=LB.below h<|(aA _ _).alloc (au _) _;clear h;go_enter func87,ntmps87;go_wp2_with fail;refine(aqj _ b c d f p g.out).mono ?_;rintro m n ⟨rfl,hx⟩;subst hx;clear g;go_wp2;refine fV 1 ?_;rw[bN];go_wp2;refine fV 1 ?_;rw[bN];go_wp2;go_ret;exact⟨rfl,(((aA _ _).alloc (au _) _).alloc (by simp) _).alloc (by simp;omega) _⟩
def aka(f g:Value)(w:World):Calls prog 97 #[.int .i64 0,f,g] w λe a=>e= .returned (.tuple #[])/\a=w:=by
 go_enter func97,ntmps97;go_wp2;refine fV 1 ?_;rw[bN];go_wp2;go_end0;exact⟨rfl,rfl⟩
def akX(w:World)(a b c d:Nat)(p:Int)(h:tR w a b c d p)(f:Nat):
  Calls prog 164 #[.pointer<|some ⟨a,0,none⟩,.slice (some ⟨f,0,none⟩) 0 0] w λe g=>e= .returned (.tuple #[])/\g=w:=by
 have i:=(LB.c5 h).1;clear h;go_enter func164,ntmps164;go_wp2;refine fV 1 ?_;rw[bN];go_wp2;go_end0;exact⟨rfl,rfl⟩
def ana(w:World)(a d f g:Nat)(p:Int)(h:tR w a d f g p)(c:Nat):
  Calls prog 89 #[.pointer<|some ⟨a,0,none⟩,.slice (some ⟨c,0,none⟩) 0 0] w λe q=>e= .returned (.tuple #[])/\Below w.heap.size w q:=by
 have s:∀(k:Fn)(first b:Array Value)(w:World),(Instr.makeFunc k first b).run prog w= .ok (.func k first b) w:=λ_ _ _ _=>rfl
 have j:Below w.heap.size w ((w.alloc (.cells #[.pointer<|some ⟨a,0,none⟩] 136)).alloc (.cells #[.slice (some ⟨c,0,none⟩) 0 0] 31)):=((aA _ _).alloc (au _) _).alloc (by simp) _;have i:tR ((w.alloc (.cells #[.pointer<|some ⟨a,0,none⟩] 136)).alloc (.cells #[.slice (some ⟨c,0,none⟩) 0 0] 31)) a d f g p:=LB.below h j;have t:=LB.c1 i;have n:=ah i;have l:=ah j;have m:=ah aka;clear h i j;go_enter func89,ntmps89;go_wp2;refine fV 1 ?_;rw[bN];go_wp2_with fail;refine(m.out _ _ _).mono ?_;rintro o r ⟨rfl,hx⟩;subst hx;go_wp2_with fail;refine(akX _ a d f g p n.out c).mono ?_;rintro o r ⟨rfl,hx⟩;subst hx;go_wp2;go_end0;exact⟨rfl,l.out⟩
def aiI(s:ByteArray)(d:Int)(w:World)(J:s.size=0):
  Calls prog 55 #[.string s,.int .i64 d] w λe M=>∃g,e= .returned (.slice (some ⟨g,0,none⟩) 0 0)/\aY M w.heap.size 3 g 0 (iv [])/\Below w.heap.size w M:=by
 have O:=Mq;have U:∀(W:World)(g g1:Nat),(Builtin.copy_ #[31,31] 3 #[.slice (some ⟨g,0,none⟩) 0 0,.slice (some ⟨g1,0,none⟩) 0 0]).run prog W= .ok (goInt 0) W:=λW g g1=>iG (P:=prog) W 31 31 3 3 _ _ 0 0 0 0 underlying31 Tryz.Ql rfl
 have F:=ah<|aeu s d w J;clear J;generalize gX [] d=n at*;go_enter func55,ntmps55;go_wp2_with fail;refine F.out.mono ?_;rintro u V ⟨m,j,k,l,rfl,E,_,o⟩;have v:=ah E;have x:=ah o;clear F E o;go_wp2_with fail;refine(aqM V m j k l n v.out).mono ?_;rintro u a ⟨rfl,h⟩;have c:tR a m j k l n:=LB.below v.out h;have t:Below w.heap.size w a:=x.out.trans<|h.mono x.out.size;have T:=(LB.c3 c).1;have i:Below a.heap.size a (a.alloc (.cells (madeCells #[.int .i64 0] 0) 3)):=(aA _ _).alloc (au _) _;have f:tR (a.alloc (.cells (madeCells #[.int .i64 0] 0) 3)) m j k l n:=LB.below c i;have N:=(LB.c3 f).1;have C:Hid (aY (a.alloc (.cells (madeCells #[.int .i64 0] 0) 3)) w.heap.size 3 a.heap.size 0<|List.replicate 0 (.int .i64 0)):=aY.made t.size (by omega);have q:Hid (tR (a.alloc (.cells (madeCells #[.int .i64 0] 0) 3)) m j k l n/\Below w.heap.size w (a.alloc (.cells (madeCells #[.int .i64 0] 0) 3))):=⟨f,t.trans<|i.mono t.size⟩
 clear c t h i f v x;obtain⟨B,p⟩:=ac a.heap.size;go_wp2_with fail;generalize a.alloc (.cells (madeCells #[.int .i64 0] 0) 3)=Q at*;rw[<-p]at C ⊢;clear p T N O U;refine(afB Q).mono ?_;rintro u R ⟨g,rfl,_,_,_,b⟩;have D:=ah<|LB.below q.out.1 b;have z:=ah<|q.out.2.trans<|b.mono q.out.2.size;have L:=ah<|fu C.out b;clear q C b;go_wp2_with fail;refine(aqE R m j k l n D.out).mono ?_;rintro u S ⟨rfl,r⟩;have G:=ah<|LB.below D.out r;have y:=ah<|z.out.trans<|r.mono z.out.size;have K:=ah<|fu L.out r;clear D z L r;go_wp2;refine fV 1 ?_;rw[bN];go_wp2_with fail;refine(ana S m j k l n G.out B).mono ?_;rintro u I ⟨rfl,A⟩;have H:Hid (aY I w.heap.size 3 B 0 (List.replicate 0 (.int .i64 0))/\Below w.heap.size w I):=⟨fu K.out A,y.out.trans<|A.mono y.out.size⟩
 clear G y K A;go_wp2;go_ret;exact⟨B,rfl,H.out.1,H.out.2⟩
end
structure zm where
 k:Int
 a:Int
 s:ByteArray
 e:Value
def PU(o:zm):Value:= .agg #[.int .i64 o.k,.int .i64 o.a,.string o.s,o.e]
def GW(w:World)(b f:Nat)(d:List zm):Prop:=∀i (h:i<d.length),w.cell? ⟨b,f+i*4,none⟩=some (.int .i64 d[i].k)/\w.cell? ⟨b,f+i*4+1,none⟩=some (.int .i64 d[i].a)/\w.cell? ⟨b,f+i*4+2,none⟩=some (.string d[i].s)/\w.cell? ⟨b,f+i*4+3,none⟩=some d[i].e/\∃g n c,d[i].e= .slice g n c
def GW.below {w e:World}{b a:Nat}{c:List zm}(h:GW w b a c)(d:Below w.heap.size w e):GW e b a c:=λi f=>
 let⟨h1,h2,h3,h4,h5⟩:=h i f
 ⟨eu d h1,eu d h2,eu d h3,eu d h4,h5⟩
def SC(w:World)(o:zm):Prop:=∀W,Below w.heap.size w W->Calls prog 18 #[PU o] W λe a=>e= .returned (.bool true)/\Below W.heap.size W a
def ar5(a:List zm)(b v y n:Nat)(p l:Int)(w:World)(K:a.length=n)(X:n<=1000000000000000)(I:GW w b v a)
  (L:∀o∈a,p<=o.k->o.k<=l->SC w o):
  Calls prog 13 #[.slice (some ⟨b,v,none⟩) n y,.int .i64 p,.int .i64 l] w λe U=>e= .returned (.int .i64 (-1))/\Below w.heap.size w U:=by
 have N:=ah I;have O:=ah K;have P:=ah L;clear I K L;go_enter func13,ntmps13;go_wp2;go_loopw [7] (λi wr=>∃k:Nat,k<=n/\i= .int .i64 k/\Below w.heap.size w wr) (λi _=>n - (intOf i).toNat);case atStart=>exact⟨0,mQ _,rfl,aA _ _⟩
 case round=>
  obtain⟨k,W,rfl,f⟩:=hrel;have d:=f.size;have R:(k:Int)<1152921504606846976:=by omega
  by_cases A:k<n
  .have u:(k:Int)<(n:Int):=(by omega);have g:k<a.length:=(by rw[O.out];exact A);obtain⟨C,D,E,F,h,m,j,J⟩:=(N.out.below f) k g;have B:Hid (p<=a[k].k->a[k].k<=l->SC w a[k]):=P.out a[k] (pF g);generalize a[k]=o at*;obtain⟨c,q,r,Y⟩:=o;simp only at C D E F J;subst J;have x:Hid (p<=c->c<=l->SC w ⟨c,q,r,.slice h m j⟩):=B;clear B g;by_cases G:p<=c
   .by_cases H:c<=l
    .have s:Below w.heap.size w (wr.alloc (.cells #[.int .i64 c,.int .i64 q,.string r,.slice h m j] 29)):=f.alloc d _;have M:Hid (Calls prog 18 #[PU ⟨c,q,r,.slice h m j⟩] (wr.alloc (.cells #[.int .i64 c,.int .i64 q,.string r,.slice h m j] 29)) λe Q=>e= .returned (.bool true)/\Below (wr.alloc (.cells #[.int .i64 c,.int .i64 q,.string r,.slice h m j] 29)).heap.size (wr.alloc (.cells #[.int .i64 c,.int .i64 q,.string r,.slice h m j] 29)) Q):=x.out G H _ s;clear x s;go_wp2_with fail;refine M.out.mono ?_;rintro e V ⟨rfl,t⟩;have z:Below w.heap.size w V:=(f.alloc d _).trans (t.mono<|by simp;omega);clear t M C D E F;go_wp2;go_roundw;case rel=>exact⟨k+1,by omega,by go_num,z⟩
     case measure=>simp[intOf];omega
    .have T:decide (c<=l)=false:=(by simpa using H);clear x;go_wp2;go_roundw;case rel=>exact⟨k+1,by omega,by go_num,f.alloc d _⟩
     case measure=>simp[intOf];omega
   .have S:decide (p<=c)=false:=(by simpa using G);clear x;go_wp2;go_roundw;case rel=>exact⟨k+1,by omega,by go_num,f.alloc d _⟩
    case measure=>simp[intOf];omega
  .have u:¬(k:Int)<(n:Int):=(by omega);go_wp2;go_ret;exact⟨rfl,f⟩
def ar6(b:Option Addr)(a:Nat)(d c:Int)(w:World):
  Calls prog 13 #[.slice b 0 a,.int .i64 d,.int .i64 c] w λe f=>e= .returned (.int .i64 (-1))/\Below w.heap.size w f:=by
 go_enter func13,ntmps13;go_wp2;refine fV 1 ?_;rw[bN];go_wp2;go_ret;exact⟨rfl,aA _ _⟩
def i7:List (Int×Int×Int):=[(1488,1514,1),(8207,8207,1),(1575,1610,2),(1564,1564,2),(48,57,3),(43,43,4),(45,45,4),(35,37,5),(8364,8364,5),(1632,1641,6),(44,44,7),(46,47,7),(58,58,7),(768,879,8),(1611,1618,8),(173,173,9),(8203,8203,9),(9,9,10),(32,32,11),(8195,8195,11),(33,34,12),(38,42,12),(59,64,12),(91,96,12),(123,126,12),(9001,9002,12),(12296,12297,12),(8234,8234,13),(8235,8235,14),(8237,8237,15),(8238,8238,16),(8236,8236,17),(8294,8294,18),(8295,8295,19),(8296,8296,20),(8297,8297,21)]
def Aa:Array Value:=(i7.flatMap λx=>[.int .i32 x.1,.int .i32 x.2.1,.int .i64 x.2.2]).toArray
def amu:∀(k:Nat)(_hk:k<36)(w:World),(Instr.index 176 (.agg Aa) (.int .i64 k)).run prog w= .ok (.agg #[.int .i32 (i7.getD k (0,0,0)).1,.int .i32 (i7.getD k (0,0,0)).2.1,.int .i64 (i7.getD k (0,0,0)).2.2]) w:=by
 intro k a w
 iterate 36 (rcases k with _|k;· kernel_rfl)
 omega
def aoh:zy {data:=#[33,34,38,39,40,41,42,59,60,61,62,63,64,91,92,93,94,95,96,123,124,125,126]}=[33,34,38,39,40,41,42,59,60,61,62,63,64,91,92,93,94,95,96,123,124,125,126]:=by decide
def ajM:∀(k:Fin 36)(d:Fin 6),(i7.getD k (0,0,0)).1+((d:Nat):Int)<=(i7.getD k (0,0,0)).2.1->cls ((i7.getD k (0,0,0)).1+((d:Nat):Int))=(i7.getD k (0,0,0)).2.2:=by decide+kernel
def ajK(r:Int)(k:Nat)(c:k<36)(b:(i7.getD k (0,0,0)).1<=r)(a:r<=(i7.getD k (0,0,0)).2.1):cls r=(i7.getD k (0,0,0)).2.2:=by
 by_cases h:r - (i7.getD k (0,0,0)).1<6
 .have e:r=(i7.getD k (0,0,0)).1+(((r - (i7.getD k (0,0,0)).1).toNat:Nat):Int):=by omega
  have:=ajM ⟨k,c⟩ ⟨(r - (i7.getD k (0,0,0)).1).toNat,by omega⟩;simp only at this;rw[<-e]at this;exact this a
 iterate 36 (rcases k with _|k;· (simp only[i7,NA,ZJ]at b a h ⊢;first|(exfalso;omega)|exact sD (by omega)|exact sO (by omega)|exact td (by omega)|exact tB (by omega)|exact tE (by omega)|exact tI (by omega)|exact tO (by omega)|exact tT (by omega)|exact uh (by omega)|exact(uk<|by omega).trans (by omega)))
 omega
def NV {r:Int}{l:List Int}(h:∀x∈l,r≠x):jP r l=false:=by
 unfold jP;rw[ZH,Cm];exact λa=>h r a rfl
def ajL(r:Int)(h:∀k,k<36->¬((i7.getD k (0,0,0)).1<=r/\r<=(i7.getD k (0,0,0)).2.1)):cls r=0:=by
 have I:¬((1488:Int)<=r/\r<=1514):=h 0 (by decide);have g1:¬((8207:Int)<=r/\r<=8207):=h 1 (by decide);have g2:¬((1575:Int)<=r/\r<=1610):=h 2 (by decide);have g3:¬((1564:Int)<=r/\r<=1564):=h 3 (by decide);have g4:¬((48:Int)<=r/\r<=57):=h 4 (by decide);have g5:¬((43:Int)<=r/\r<=43):=h 5 (by decide);have J:¬((45:Int)<=r/\r<=45):=h 6 (by decide);have g7:¬((35:Int)<=r/\r<=37):=h 7 (by decide);have K:¬((8364:Int)<=r/\r<=8364):=h 8 (by decide);have L:¬((1632:Int)<=r/\r<=1641):=h 9 (by decide);have e:¬((44:Int)<=r/\r<=44):=h 10 (by decide);have f:¬((46:Int)<=r/\r<=47):=h 11 (by decide);have g:¬((58:Int)<=r/\r<=58):=h 12 (by decide);have i:¬((768:Int)<=r/\r<=879):=h 13 (by decide);have j:¬((1611:Int)<=r/\r<=1618):=h 14 (by decide);have l:¬((173:Int)<=r/\r<=173):=h 15 (by decide);have m:¬((8203:Int)<=r/\r<=8203):=h 16 (by decide);have n:¬((9:Int)<=r/\r<=9):=h 17 (by decide);have o:¬((32:Int)<=r/\r<=32):=h 18 (by decide);have p:¬((8195:Int)<=r/\r<=8195):=h 19 (by decide);have q:¬((33:Int)<=r/\r<=34):=h 20 (by decide);have s:¬((38:Int)<=r/\r<=42):=h 21 (by decide);have t:¬((59:Int)<=r/\r<=64):=h 22 (by decide);have u:¬((91:Int)<=r/\r<=96):=h 23 (by decide);have v:¬((123:Int)<=r/\r<=126):=h 24 (by decide);have w:¬((9001:Int)<=r/\r<=9002):=h 25 (by decide);have x:¬((12296:Int)<=r/\r<=12297):=h 26 (by decide);have y:¬((8234:Int)<=r/\r<=8234):=h 27 (by decide);have z:¬((8235:Int)<=r/\r<=8235):=h 28 (by decide);have A:¬((8237:Int)<=r/\r<=8237):=h 29 (by decide);have B:¬((8238:Int)<=r/\r<=8238):=h 30 (by decide);have C:¬((8236:Int)<=r/\r<=8236):=h 31 (by decide);have D:¬((8294:Int)<=r/\r<=8294):=h 32 (by decide);have E:¬((8295:Int)<=r/\r<=8295):=h 33 (by decide);have F:¬((8296:Int)<=r/\r<=8296):=h 34 (by decide);have G:¬((8297:Int)<=r/\r<=8297):=h 35 (by decide);clear h;have H:pW r:=by unfold pW;omega
 rw[kV H,aoh];have a:jP r [35,36,37,8364]=false:=NV (by simp only[fW,J6,F4,TL,TK];omega);have b:jP r [44,46,47,58]=false:=NV (by simp only[fW,J6,F4,TL,TK];omega);have c:jP r [33,34,38,39,40,41,42,59,60,61,62,63,64,91,92,93,94,95,96,123,124,125,126]=false:=NV (by simp only[fW,J6,F4,TL,TK];omega);have d:jP r [9001,9002,12296,12297]=false:=NV (by simp only[fW,J6,F4,TL,TK];omega);rw[a,b,c,d,ai<|by decide,ai<|by decide,ai<|by decide,ai<|by omega,ai<|by omega,ai<|by omega,ai<|by omega,ai<|by omega]
structure Env(w:World)(aL aT aC:Addr):Prop where
 long:w.cell? ⟨0,0,none⟩=some (.iface 354 (.pointer<|some aL))
 text:w.cell? ⟨1,0,none⟩=some (.iface 354 (.pointer<|some aT))
 code:w.cell? ⟨2,0,none⟩=some (.iface 354 (.pointer<|some aC))
 OC:w.cell? ⟨3,0,none⟩=some (.iface 223 (.agg #[.pointer<|some ⟨16,53,none⟩]))
 tabs:Lib.Utf8Tabs (Tryz.lays196_ren.g 3) (Tryz.lays196_ren.g 4) w
 I2:∃t fr,w.heap[4]? =some (.cells Aa t fr)
 II:aL≠aT
 IJ:aT≠aC
 IG:aL≠aC
 AO:∃c t,w.heap[aL.block]? =some (.cells c t (0,0))
 AP:∃c t,w.heap[aT.block]? =some (.cells c t (0,0))
 AL:∃c t,w.heap[aC.block]? =some (.cells c t (0,0))
def Env.below {w e:World}{aL d b:Addr}(h:Env w aL d b)(a:Below w.heap.size w e):Env e aL d b where
 long:=eu a h.long
 text:=eu a h.text
 code:=eu a h.code
 OC:=eu a h.OC
 tabs:=Utf8Tabs_below h.tabs a
 I2:=by obtain⟨t,f,h⟩:=h.I2;exact⟨t,f,bq a h⟩
 II:=h.II
 IJ:=h.IJ
 IG:=h.IG
 AO:=by obtain⟨c,t,h⟩:=h.AO;exact⟨c,t,bq a h⟩
 AP:=by obtain⟨c,t,h⟩:=h.AP;exact⟨c,t,bq a h⟩
 AL:=by obtain⟨c,t,h⟩:=h.AL;exact⟨c,t,bq a h⟩
def Tryz.aqX:(prog.info? 176).map (·.size)=some Aa.size:=by kernel_rfl
def rI(r:Int)(w:World)(t:TypeId)(z:Nat×Nat)(o:w.heap[4]? =some (.cells Aa t z)):
  Calls prog 66 #[.int .i32 r] w λe I=>e= .returned (.int .i64<|cls r)/\Below w.heap.size w I:=by
 have m:∀(k:Nat)(_:k<36)(p:World),(Instr.index 176 (.agg Aa) (.int .i64 k)).run prog p= .ok (.agg #[.int .i32 (i7.getD k (0,0,0)).1,.int .i32 (i7.getD k (0,0,0)).2.1,.int .i64 (i7.getD k (0,0,0)).2.2]) p:=amu;have x:=ah m;have v:=ah o;have y:=Tryz.aqX;clear m o;generalize Aa=K at x v y;go_enter func66,ntmps66;go_wp2_with(refine X7 rfl 176 _ rfl 4 rfl t _ z _ v.out underlying176 rfl y ?_);go_loopw [6] (λi wr=>∃k:Nat,k<=36/\i= .int .i64 k/\(∀j,j<k->¬((i7.getD j (0,0,0)).1<=r/\r<=(i7.getD j (0,0,0)).2.1))/\Below w.heap.size w wr) (λi _=>36 - (intOf i).toNat);case atStart=>exact⟨0,mQ _,rfl,λj h=>absurd h<|by omega,aA _ _⟩
 case round=>
  obtain⟨k,J,rfl,n,g⟩:=hrel;have s:=ah n;have d:=g.size;clear n;by_cases l:k<36
  .have D:(k:Int)<36:=(by omega);have F:=λp=>x.out k l p
   have E:Hid _:=ajK r k l;obtain⟨a,b,c,u⟩:∃a b c,i7.getD k (0,0,0)=(a,b,c):=⟨_,_,_,rfl⟩
   simp only[u]at F;have q:=ah u;clear u;by_cases A:a<=r
   .by_cases B:r<=b
    .go_wp2;go_ret;refine⟨dM ?_,g.alloc d _⟩;have:=E.out;rw[q.out]at this;exact(this A B).symm
    .have H:decide (r<=b)=false:=(by simpa using B);go_wp2;go_roundw;case rel=>
      refine⟨k+1,by omega,by go_num,λj C=> ?_,g.alloc d _⟩;by_cases f:j<k
      .exact s.out j f
      .obtain rfl:j=k:=(by omega);rw[q.out];show¬(a<=r/\r<=b);omega
     case measure=>simp[intOf];omega
   .have G:decide (a<=r)=false:=(by simpa using A);go_wp2;go_roundw;case rel=>
     refine⟨k+1,by omega,by go_num,λj C=> ?_,g.alloc d _⟩;by_cases f:j<k
     .exact s.out j f
     .obtain rfl:j=k:=(by omega);rw[q.out];show¬(a<=r/\r<=b);omega
    case measure=>simp[intOf];omega
  .go_wp2;go_ret;exact⟨dM (ajL r λj C=>s.out j<|by omega).symm,g⟩
def AX(e:Int)(aL b a:Addr):Value:=if e=0 then .nilIface else if e=1 then .iface 354 (.pointer<|some aL)else if e=2 then .iface 354 (.pointer<|some b)else .iface 354 (.pointer<|some a)
def ajS(s:ByteArray)(w:World)(c:s.size<9223372036854775807):
  Calls prog 83 #[.string s] w λe a=>e= .returned (.int .i64<|Lib.runeCount s)/\Below w.heap.size w a:=
 (Any.utf8_RuneCountInString Tryz.lays195 s w c).mono λe a ⟨b,f,d⟩=>⟨b,by subst d;exact(aA _ _).alloc (au _) _⟩
section
open Go.RowKit Go.Extern.Stop Go.Stop Go.Extern
def Tryz.agR(t:Addr)(w:World):(ReflectliteValue.unpack (.iface 94 (.pointer<|some t))).run prog w
  = .ok (.agg #[.pointer<|some ⟨16,94,none⟩,.pointer<|some ⟨w.heap.size,0,none⟩,.int .u64 150]) (w.alloc (.cells #[.pointer<|some t] 94)):=by kernel_rfl
def Tryz.agM(a:Addr)(w:World):(ReflectliteValue.methodAny (ReflectliteValue.valueError "reflectlite.Value.Type" 0) (λt _ _ _=>ReflectliteType.toType t) #[.agg #[.pointer<|some ⟨16,94,none⟩,.pointer<|some a,.int .u64 150]]).run prog w
  = .ok (.iface 223 (.agg #[.pointer<|some ⟨16,94,none⟩])) w:=by kernel_rfl
def Tryz.Q0(w:World):((ReflectliteType.abiMethod λt=>(λa:Nat=>Value.int IntKind.u8 (a:Int))<$>Rtype.kind t) #[.pointer<|some ⟨16,94,none⟩]).run prog w= .ok (.int .u8 22) w:=by kernel_rfl
def Tryz.QS(w:World):((ReflectliteType.abiMethod λt=>(λa:Nat=>Value.int IntKind.u8 (a:Int))<$>Rtype.kind t) #[.pointer<|some ⟨16,92,none⟩]).run prog w= .ok (.int .u8 22) w:=by kernel_rfl
def rlm(z:Sem Value)(f:TypeId->Addr->Nat->Nat->Sem Value)(v:Value):
  ReflectliteValue.method z f #[v]=(do match<-ReflectliteValue.parts v with|none=>z|some (t,a,fl)=>f t a fl<|fl%32):=rfl
def Tryz.TX(a:Addr)(w:World):(ReflectliteValue.parts (.agg #[.pointer<|some ⟨16,94,none⟩,.pointer<|some a,.int .u64 150])).run prog w= .ok (some (94,a,150)) w:=by kernel_rfl
def Tryz.OV(a p:Addr)(W:World)(b:W.cell? a=some (.pointer<|some p)):
  (ReflectliteValue.method (ReflectliteValue.valueError "reflectlite.Value.IsNil" 0) ReflectliteValue.isNil #[.agg #[.pointer<|some ⟨16,94,none⟩,.pointer<|some a,.int .u64 150]]).run prog W= .ok (.bool false) W:=by
 rw[rlm];simp only[GY,Tryz.TX,Result.andThen];simp[ReflectliteValue.isNil,loadVar,isAgg,underlying,underlying94,b,Result.andThen]
def Tryz.FI(w:World):(ReflectliteType.method ReflectliteType.elem #[.agg #[.pointer<|some ⟨16,94,none⟩]]).run prog w= .ok (.iface 223 (.agg #[.pointer<|some ⟨16,92,none⟩])) w:=by kernel_rfl
def Tryz.LA(w:World):(ReflectliteType.relation "Implements" ReflectliteType.implements_ #[.agg #[.pointer<|some ⟨16,92,none⟩],.iface 223 (.agg #[.pointer<|some ⟨16,53,none⟩])]).run prog w= .ok (.bool true) w:=by kernel_rfl
def Tryz.XM(v:Value)(w:World):(ReflectliteType.typeOf #[.iface 354 v]).run prog w= .ok (.iface 223 (.agg #[.pointer<|some ⟨16,354,none⟩])) w:=by kernel_rfl
def Tryz.aiC(w:World):(ReflectliteType.relation "AssignableTo" ReflectliteType.assignableTo #[.agg #[.pointer<|some ⟨16,354,none⟩],.iface 223 (.agg #[.pointer<|some ⟨16,92,none⟩])]).run prog w= .ok (.bool false) w:=by kernel_rfl
def Tryz.aen(h:Value)(w:World):(Go.method 483 223 (.agg #[h]) "Kind").run prog w= .ok (323,h) w:=by kernel_rfl
def Tryz.ael(h:Value)(w:World):(Go.method 483 223 (.agg #[h]) "Elem").run prog w= .ok (334,.agg #[h]) w:=by kernel_rfl
def Tryz.aem(h:Value)(w:World):(Go.method 483 223 (.agg #[h]) "Implements").run prog w= .ok (335,.agg #[h]) w:=by kernel_rfl
def Tryz.aej(h:Value)(w:World):(Go.method 483 223 (.agg #[h]) "AssignableTo").run prog w= .ok (332,.agg #[h]) w:=by kernel_rfl
def Tryz.aek(h:Value)(w:World):(Go.method 483 223 (.agg #[h]) "Comparable").run prog w= .ok (333,.agg #[h]) w:=by kernel_rfl
def Tryz.an3(v:Value)(a:TypeId)(w:World):(Instr.typeAssert (.iface 354 v) a 227 true).run prog w= .ok (.tuple #[.nilIface,.bool false]) w:=run_typeAssert_lacksB underlying227 (by kernel_rfl) (by kernel_rfl) v a w
def Tryz.U2(v:Value)(a:TypeId)(w:World):(Instr.typeAssert (.iface 354 v) a 233 true).run prog w= .ok (.tuple #[.nilIface,.bool false]) w:=run_typeAssert_lacksB underlying233 (by kernel_rfl) (by kernel_rfl) v a w
def Tryz.V6(v:Value)(a:TypeId)(w:World):(Instr.typeAssert (.iface 354 v) a 230 true).run prog w= .ok (.tuple #[.nilIface,.bool false]) w:=run_typeAssert_lacksB underlying230 (by kernel_rfl) (by kernel_rfl) v a w
def Tryz.V7(v:Value)(a:TypeId)(w:World):(Instr.typeAssert (.iface 354 v) a 231 true).run prog w= .ok (.tuple #[.nilIface,.bool false]) w:=run_typeAssert_lacksB underlying231 (by kernel_rfl) (by kernel_rfl) v a w
end
section
open Go.RowKit Go.Extern.Stop Go.Stop Go.Extern
def aiz(e t:Addr)(w:World)(b:w.cell? ⟨3,0,none⟩=some (.iface 223 (.agg #[.pointer<|some ⟨16,53,none⟩]))):
  Calls prog 56 #[.iface 354 (.pointer<|some e),.iface 94 (.pointer<|some t)] w λf q=>f= .returned (.bool false)/\Below w.heap.size w q:=by
 have r:=@nG prog 90 _ (λargs=>ReflectliteValue.unpack<|args.getD 0 (.tuple #[])) func90 (by kernel_rfl) (by kernel_rfl) (by kernel_rfl) (by kernel_rfl);have s:=@nG prog 91 _ (ReflectliteValue.methodAny (ReflectliteValue.valueError "reflectlite.Value.Type" 0) λt _ _ _=>ReflectliteType.toType t) func91 (by kernel_rfl) (by kernel_rfl) (by kernel_rfl) (by kernel_rfl);have u:=@nG prog 92 _ (ReflectliteValue.method (ReflectliteValue.valueError "reflectlite.Value.IsNil" 0) ReflectliteValue.isNil) func92 (by kernel_rfl) (by kernel_rfl) (by kernel_rfl) (by kernel_rfl);have i:=@nG prog 323 _ (ReflectliteType.abiMethod λt=>do pure (.int .u8 (<-Rtype.kind t))) func323 (by kernel_rfl) (by kernel_rfl) (by kernel_rfl) (by kernel_rfl);have k:=@nG prog 334 _ (ReflectliteType.method ReflectliteType.elem) func334 (by kernel_rfl) (by kernel_rfl) (by kernel_rfl) (by kernel_rfl);have l:=@nG prog 335 _ (ReflectliteType.relation "Implements" ReflectliteType.implements_) func335 (by kernel_rfl) (by kernel_rfl) (by kernel_rfl) (by kernel_rfl);have g:=@nG prog 94 _ ReflectliteType.typeOf func94 (by kernel_rfl) (by kernel_rfl) (by kernel_rfl) (by kernel_rfl);have j:=@nG prog 332 _ (ReflectliteType.relation "AssignableTo" ReflectliteType.assignableTo) func332 (by kernel_rfl) (by kernel_rfl) (by kernel_rfl) (by kernel_rfl);have E:=Tryz.XM;have c:=Tryz.aiC;have f6:=Tryz.agR;have B:=Tryz.an3;have C:=Tryz.V6;have D:=Tryz.V7;have z:=Tryz.aen;have x:=Tryz.ael;have y:=Tryz.aem;have v:=Tryz.aej;have f7:=Tryz.agM;have p:=Tryz.Q0;have o:=Tryz.QS;have d:=Tryz.FI;have n:=Tryz.LA;have A:=Tryz.OV ⟨w.heap.size,0,none⟩ t ((w.alloc (.cells #[.pointer<|some t] 94)).alloc (.cells #[.pointer<|some ⟨16,94,none⟩,.pointer<|some ⟨w.heap.size,0,none⟩,.int .u64 150] 152)) (by simp);have a:3<w.heap.size:=by
  rcases cP 3 w.heap.size with h|h
  .exact h
  .simp[World.cell?,tD h]at b
 have m:((w.alloc (.cells #[.pointer<|some t] 94)).alloc (.cells #[.pointer<|some ⟨16,94,none⟩,.pointer<|some ⟨w.heap.size,0,none⟩,.int .u64 150] 152)).cell? ⟨3,0,none⟩=some (.iface 223 (.agg #[.pointer<|some ⟨16,53,none⟩])):=by
  rw[kS _ _ ⟨3,0,none⟩ (by simp;omega),kS _ _ ⟨3,0,none⟩ a];exact b
 go_enter func56,ntmps56;go_wp2;refine fV 1 ?_;rw[bN];go_wp2;go_ret;exact⟨rfl,(((aA _ _).alloc (au _) _).alloc (by simp) _).alloc (by simp;omega) _⟩
end
section
open Go.RowKit Go.Extern.Stop Go.Stop Go.Extern
def Tryz.Ku:(prog.info? 354).map (·.comparable)=some true:=by kernel_rfl
def Tryz.MP:(prog.info? 372).map (·.size)=some 1:=by kernel_rfl
def Tryz.lG(w:World):(ReflectliteType.method (λt=>do Rtype.noPackHeld "Comparable" t;(λa:TypeInfo=>Value.bool a.comparable)<$>typeInfo t) #[.agg #[.pointer<|some ⟨16,354,none⟩]]).run prog w= .ok (.bool true) w:=by kernel_rfl
def OY(a b:Addr)(q:Bool)(w:World)
  (h:(binOp .eql 53 (.iface 354 (.pointer<|some a)) (.iface 354 (.pointer<|some b))).run prog w= .ok (.bool q) w):
  Calls prog 58 #[.iface 354 (.pointer<|some a),.iface 354 (.pointer<|some b)] w λc f=>c= .returned (.bool q)/\f=w:=by
 have d:=@nG prog 94 _ ReflectliteType.typeOf func94 (by kernel_rfl) (by kernel_rfl) (by kernel_rfl) (by kernel_rfl);have e:=@nG prog 333 _ (ReflectliteType.method λt=>do Rtype.noPackHeld "Comparable" t;pure (.bool (<-typeInfo t).comparable)) func333 (by kernel_rfl) (by kernel_rfl) (by kernel_rfl) (by kernel_rfl);have m:=Tryz.XM;have i:=Tryz.aek;have g:=Tryz.lG;have j:=Tryz.U2;have k:=Tryz.V6;have l:=Tryz.V7;cases q
 .go_enter func58,ntmps58;go_wp2;refine fV 1 ?_;rw[bN];go_wp2;go_ret;exact⟨rfl,rfl⟩
 .go_enter func58,ntmps58;go_wp2;refine fV 1 ?_;rw[bN];go_wp2;go_ret;exact⟨rfl,rfl⟩
def Vw(a:Addr)(w:World):
  Calls prog 58 #[.iface 354 (.pointer<|some a),.iface 354 (.pointer<|some a)] w λc f=>c= .returned (.bool true)/\f=w:=by
 obtain⟨i,d,b⟩:=zn.1 Tryz.Ku;obtain⟨j,e,_⟩:=zn.1 Tryz.MP;exact OY a a true w (ap5 w a underlying53 underlying354 d b e)
def Iy(a b:Addr)(w:World)(h:a≠b)(e:∃c t,w.heap[a.block]? =some (.cells c t (0,0)))(f:∃c t,w.heap[b.block]? =some (.cells c t (0,0))):
  Calls prog 58 #[.iface 354 (.pointer<|some a),.iface 354 (.pointer<|some b)] w λk n=>k= .returned (.bool false)/\n=w:=by
 obtain⟨i,l,d⟩:=zn.1 Tryz.Ku;obtain⟨j,m,g⟩:=zn.1 Tryz.MP;obtain⟨_,_,e⟩:=e;obtain⟨_,_,f⟩:=f;exact OY a b false w (ap4 w underlying53 underlying354 l d m (by rw[g];decide) h e f)
end
def akU(w:World):Calls prog 36 #[.nilIface] w λe a=>e= .returned (TD 0)/\Below w.heap.size w a:=by
 go_enter func36,ntmps36;go_wp2;exact cI (v:= .agg #[.int .i64 0,.int .i64 0,.int .i64 0]) (by simp[results,results36,go_sem]) rfl ⟨rfl,(aA _ _).alloc (au _) _⟩
def TE(w:World)(aL g f h:Addr)(n:Int)(r:aL=h/\n=1∨g=h/\n=2∨f=h/\n=3)(q:Env w aL g f):Calls prog 36 #[.iface 354 (.pointer<|some h)] w λe z=>e= .returned (TD n)/\Below w.heap.size w z:=by
 have x:=ah r;have a:=ah q;clear q r;go_enter func36,ntmps36;go_wp2_with fail;refine(aiz _ _ _ ?_).mono ?_
 .exact(a.out.below<|(((aA _ _).alloc (au _) _).alloc (by simp) _).alloc (by simp;omega) _).OC
 rintro e c ⟨rfl,d⟩;have o:Below w.heap.size w c:=((((aA _ _).alloc (au _) _).alloc (by simp) _).alloc (by simp;omega) _).trans (d.mono<|by simp;omega);have b:=ah o;have y:w.heap.size+3<=c.heap.size:=by have:=d.size;simp at this;omega
 have j:=ah<|a.out.below o;have D:=j.out.long;have E:=j.out.text;have A:=j.out.code;have k:c.cell? ⟨w.heap.size,0,none⟩=some (.int .i64 0):=by rw[d.cell (p:=⟨w.heap.size,0,none⟩)<|by simp<;>omega];go_simp
 have F:c.frozen? ⟨w.heap.size,0,none⟩=false:=by rw[d.frozen (p:=⟨w.heap.size,0,none⟩)<|by simp<;>omega];go_simp
 have f0:c.cell? ⟨w.heap.size+1,0,none⟩=some (.int .i64 4):=by rw[d.cell (p:=⟨w.heap.size+1,0,none⟩)<|by simp<;>omega];go_simp
 have l:c.cell? ⟨w.heap.size,1,none⟩=some (.int .i64 0):=by rw[d.cell (p:=⟨w.heap.size,1,none⟩)<|by simp<;>omega];go_simp
 have G:c.frozen? ⟨w.heap.size,1,none⟩=false:=by rw[d.frozen (p:=⟨w.heap.size,1,none⟩)<|by simp<;>omega];go_simp
 have f1:c.cell? ⟨w.heap.size+1,1,none⟩=some (.int .i64 (-1)):=by rw[d.cell (p:=⟨w.heap.size+1,1,none⟩)<|by simp<;>omega];go_simp
 have m:c.cell? ⟨w.heap.size,2,none⟩=some (.int .i64 0):=by rw[d.cell (p:=⟨w.heap.size,2,none⟩)<|by simp<;>omega];go_simp
 have H:c.frozen? ⟨w.heap.size,2,none⟩=false:=by rw[d.frozen (p:=⟨w.heap.size,2,none⟩)<|by simp<;>omega];go_simp
 have f2:c.cell? ⟨w.heap.size+1,2,none⟩=some (.int .i64 (-1)):=by rw[d.cell (p:=⟨w.heap.size+1,2,none⟩)<|by simp<;>omega];go_simp
 have B:c.frozen? ⟨w.heap.size+1,0,none⟩=false:=by rw[d.frozen (p:=⟨w.heap.size+1,0,none⟩)<|by simp<;>omega];go_simp
 have i:w.heap.size<c.heap.size:=by omega
 have C:w.heap.size+1<c.heap.size:=by omega
 clear o d y;go_wp2;refine fV 4 ?_;rcases x.out with⟨rfl,rfl⟩|⟨rfl,rfl⟩|⟨rfl,rfl⟩
 .rw[bN];go_wp2_with fail;refine(Vw aL _).mono ?_;rintro e s ⟨rfl,rfl⟩;go_wp2;rw[bN];go_wp2_with fail;refine(Iy aL g _ a.out.II ?_ ?_).mono ?_
  .exact(a.out.below<|(b.out.setCell (l8 _) _).alloc (by simp;omega) _).AO
  .exact(a.out.below<|(b.out.setCell (l8 _) _).alloc (by simp;omega) _).AP
  rintro e t ⟨rfl,rfl⟩;go_wp2;rw[bN];go_wp2_with fail;refine(Iy aL f _ a.out.IG ?_ ?_).mono ?_
  .exact(a.out.below<|(b.out.setCell (l8 _) _).alloc (by simp;omega) _).AO
  .exact(a.out.below<|(b.out.setCell (l8 _) _).alloc (by simp;omega) _).AL
  rintro e u ⟨rfl,rfl⟩;go_wp2;rw[bN];go_wp2;refine cI (v:= .agg #[.int .i64 1,.int .i64 (-1),.int .i64 (-1)]) (by simp[results,results36,go_sem,k,l,m,i]) rfl ⟨rfl,?_⟩;exact((((b.out.setCell (l8 _) _).setCell (au _) _).setCell (au _) _).setCell (au _) _).alloc (by simp;omega) _
 .rw[bN];go_wp2_with fail;refine(Iy g aL _ a.out.II.symm ?_ ?_).mono ?_
  .exact(a.out.below<|b.out.alloc (by omega) _).AP
  .exact(a.out.below<|b.out.alloc (by omega) _).AO
  rintro e s ⟨rfl,rfl⟩;go_wp2;rw[bN];go_wp2_with fail;refine(Vw g _).mono ?_;rintro e t ⟨rfl,rfl⟩;go_wp2;rw[bN];go_wp2_with fail;refine(Iy g f _ a.out.IJ ?_ ?_).mono ?_
  .exact(a.out.below<|(b.out.setCell (l8 _) _).alloc (by simp;omega) _).AP
  .exact(a.out.below<|(b.out.setCell (l8 _) _).alloc (by simp;omega) _).AL
  rintro e u ⟨rfl,rfl⟩;go_wp2;rw[bN];go_wp2;refine cI (v:= .agg #[.int .i64 2,.int .i64 (-1),.int .i64 (-1)]) (by simp[results,results36,go_sem,k,l,m,i]) rfl ⟨rfl,?_⟩;exact((((b.out.setCell (l8 _) _).setCell (au _) _).setCell (au _) _).setCell (au _) _).alloc (by simp;omega) _
 .rw[bN];go_wp2_with fail;refine(Iy f aL _ a.out.IG.symm ?_ ?_).mono ?_
  .exact(a.out.below<|b.out.alloc (by omega) _).AL
  .exact(a.out.below<|b.out.alloc (by omega) _).AO
  rintro e s ⟨rfl,rfl⟩;go_wp2;rw[bN];go_wp2_with fail;refine(Iy f g _ a.out.IJ.symm ?_ ?_).mono ?_
  .exact(a.out.below<|b.out.alloc (by omega) _).AL
  .exact(a.out.below<|b.out.alloc (by omega) _).AP
  rintro e t ⟨rfl,rfl⟩;go_wp2;rw[bN];go_wp2_with fail;refine(Vw f _).mono ?_;rintro e u ⟨rfl,rfl⟩;go_wp2;rw[bN];go_wp2;refine cI (v:= .agg #[.int .i64 3,.int .i64 (-1),.int .i64 (-1)]) (by simp[results,results36,go_sem,k,l,m,i]) rfl ⟨rfl,?_⟩;exact((((b.out.setCell (l8 _) _).setCell (au _) _).setCell (au _) _).setCell (au _) _).alloc (by simp;omega) _
def DZ(c:Int)(h:c=0∨c=1∨c=2∨c=3)(w:World)(aL b a:Addr)(d:Env w aL b a):
  Calls prog 36 #[AX c aL b a] w λe f=>e= .returned (TD c)/\Below w.heap.size w f:=by
 rcases h with rfl|rfl|rfl|rfl
 .exact akU w
 .exact TE w aL b a aL 1 (.inl ⟨rfl,rfl⟩) d
 .exact TE w aL b a b 2 (.inr (.inl ⟨rfl,rfl⟩)) d
 .exact TE w aL b a a 3 (.inr (.inr ⟨rfl,rfl⟩)) d
def am0 {p:Prop} [Decidable p] {a b:Int}(c:p->0<=a/\a<=21)(d:0<=b/\b<=21):0<=(if p then a else b)/\(if p then a else b)<=21:=by
 by_cases h:p
 .rw[aj h];exact c h
 .rw[ai h];exact d
def Hh(r:Int):0<=cls r/\cls r<=21:=by
 unfold cls
 repeat (refine am0 (λh=>by omega) ?_)
 omega
def afQ {s:ByteArray}{l:List Int}(a:eZ s=some l)(h:0<s.size):l≠[]:=by
 unfold eZ at a;obtain⟨n,b⟩:∃n,s.size=n+1:=⟨s.size - 1,by omega⟩
 rw[b,runesFrom,aj h]at a;split at a
 .cases a
 .cases hx:runesFrom s n (0+aW s 0)with
  |none=>rw[hx]at a;cases a
  |some q=>rw[hx]at a;rintro rfl;simp at a
def afR {s:ByteArray}{l:List Int}(a:eZ s=some l)(h:s.size=0):l=[]:=by
 unfold eZ at a;rw[h,runesFrom]at a;exact(aJ a).symm
def aiH(s:ByteArray)(l:List Int)(d:Int)(w:World)(aL j i:Addr)(q:s.size<=600)(a:eZ s=some l)(u:l.length<=300)(n:Env w aL j i)(m:Br w):
  Calls prog 55 #[.string s,.int .i64 d] w λe h=>∃g,e= .returned (.slice (some ⟨g,0,none⟩) l.length l.length)/\aY h w.heap.size 3 g l.length (iv<|gV l (l.map cls) d)/\Below w.heap.size w h:=by
 by_cases f:s.size=0
 .obtain rfl:=afR a f;exact aiI s d w f
 .refine aiJ ajh s l d w q a (afQ a<|by omega) (by omega) m (λc p=> ?_) (λr W o=> ?_)
  .obtain⟨r,_,rfl⟩:=jM.1 p;exact Hh r
  .obtain⟨t,k,b⟩:=(n.below o).I2;exact rI r W t k b
def EA(a:Int):∀(d e:List Int)(b:Int),d.length=e.length->(mV a b d e).length=d.length
 |[],_,_,_=>rfl
 |_::_,[],_,h=>by simp at h
 |c::d,o::e,b,h=>by rw[mV,eJ,eJ,EA a d e _ (by simpa using h)]
def af5:∀(a:List<|Nat×Int×Int)(l:List Int),(a.foldl lB l).length=l.length
 |[],_=>rfl
 |x::a,l=>by rw[qW,af5 a];simp[lB]
def anl(b a:List Int)(d:Int):(gV b a d).length=a.length:=by
 unfold gV;exact EA _ _ _ _ (by rw[af5,Ya])
