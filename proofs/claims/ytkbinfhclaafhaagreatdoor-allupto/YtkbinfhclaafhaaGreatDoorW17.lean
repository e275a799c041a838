import Derived.Test.YtkbinfhclaafhaaGreatDoorW16
import Derived.Deep.AppendLies
import Derived.SevenTiedAt
import Derived.LaidOnce
import Derived.Test.YtkbinfhclaafhaaGreatDoorCards
import Derived.LaidMore
import Derived.LaidSub
import Derived.Test.YtkbinfhclaafhaaGreatDoorShelfC
import Derived.Lib.LaidCaseMet
import Derived.PinnedBridge
import Derived.Lib.LaidU8T
import Derived.HandedShaped
namespace Go.Proofs.YtkbinfhclaafhaaGreatDoor
open Go.RowKit
open Go.Proofs.Tryz
set_option maxRecDepth 100000
set_option maxHeartbeats 32000000
set_option linter.all false
open Go.Value renaming int->Y,slice->R,string->cd,bool->ce,tuple->de,agg->df
open Go.IntKind renaming i64->Z
open Option renaming none->U,some->V
open Go.Addr renaming mk->S
open Go.Obj renaming cells->bi
open Go.Ending renaming returned->bj
open Go renaming World->cw,Value->cJ,Calls->cP
open Go.RowKit renaming Below->cD,Hid->dd
open Bool renaming false->da,true->db
section
open Go.RowKit Go.Extern.Stop Go.Stop Go.Extern
def Tryz.als:(prog.info? 92).map (·.comparable)=V db:=by kernel_rfl
def Tryz.asG:(prog.info? 96).map (·.size)=V 3:=by kernel_rfl
def Tryz.apC(a:Addr)(w:cw):(binOp .neq 53 (.iface 354 (.pointer<|V a)) (.iface 354 (.pointer<|V a))).run prog w= .ok (ce da) w:=by obtain⟨i,c,b⟩:=yI.1 Tryz.L5;obtain⟨j,d,_⟩:=yI.1 Tryz.Ob;simp only[binOp];simp[Op.equal,Op.maxDepth,ar1 w 9998 a underlying53 underlying354 c b d]
def Tryz.apD(a:Addr)(w:cw):(binOp .neq 53 (.iface 92 (.pointer<|V a)) (.iface 92 (.pointer<|V a))).run prog w= .ok (ce da) w:=by obtain⟨i,c,b⟩:=yI.1 Tryz.als;obtain⟨j,d,_⟩:=yI.1 Tryz.asG;simp only[binOp];simp[Op.equal,Op.maxDepth,ar1 w 9998 a underlying53 underlying92 c b d]
def ajW(w:cw)(a b c:Obj):(((w.alloc a).alloc b).alloc c).1[w.1.size]? =V a/\(((w.alloc a).alloc b).alloc c).1[w.1.size+1]? =V b/\(((w.alloc a).alloc b).alloc c).1[w.1.size+1+1]? =V c:=by
 have g:(w.alloc a).1.size=w.1.size+1:=by simp
 have h:((w.alloc a).alloc b).1.size=w.1.size+1+1:=by simp
 have d:(w.alloc a).1[w.1.size]? =V a:=World.alloc_heap_new w a;have e:((w.alloc a).alloc b).1[w.1.size+1]? =V b:=by have:=World.alloc_heap_new (w.alloc a) b;rw[g]at this;exact this
 have f:(((w.alloc a).alloc b).alloc c).1[w.1.size+1+1]? =V c:=by have:=World.alloc_heap_new ((w.alloc a).alloc b) c;rw[h]at this;exact this
 exact⟨(dh _ _ _ (by omega)).trans ((dh _ _ _ (by omega)).trans d),(dh _ _ _ (by omega)).trans e,f⟩
def Vf(b:Nat)(c a:Int)(w:cw)(aL r q j:Addr)(n:Int)(hX:aL=j/\n=1∨r=j/\n=2∨q=j/\n=3)(hE:Env w aL r q)(L:w.1[b]? =V (bi #[Y Z c,Y Z a,.iface 354 (.pointer<|V j)] 96 (0,0))):cP prog 36 #[.iface 92 (.pointer<|V<|S b 0 U)] w λe t=>e=bj (df #[Y Z n,Y Z c,Y Z a])/\cD w.1.size w t:=by
 have HX:=ah hX;have p:=ah hE;have X:=ah L;have aa:=bO L;clear hE L hX;go_enter func36,ntmps36;go_wp2_with fail;obtain⟨q0,q1,A⟩:=ajW w (bi #[Y Z 0,Y Z 0,Y Z 0] 33) (bi #[Y Z 4,Y Z (-1),Y Z (-1)] 33)<|bi #[.pointer U] 92;have E:cD w.1.size w (((w.alloc<|bi #[Y Z 0,Y Z 0,Y Z 0] 33).alloc (bi #[Y Z 4,Y Z (-1),Y Z (-1)] 33)).alloc (bi #[.pointer U] 92)):=(((aA _ _).alloc (au _) _).alloc (by simp) _).alloc (by simp;omega) _;refine(aj6 _ _ _ (.pointer U) ?_ ?_ ?_ ?_).mono ?_;exact az A 0;exact cB A 0;exact bO A;exact(p.out.below E).Qm;rintro e g ⟨rfl,u,l,rfl⟩;have M:=aR l q0;have N:=aR l q1;have k2:=aR l A;have O:=aR l<|aR E X;have B4:cD w.1.size w u:=E.trans (l.mono<|by simp;omega);have G:u.grownBy (u.setCell ⟨w.1.size+1+1,0,U⟩ (.pointer<|V<|S b 0 U)) (V<|w.1.size+1+1):=uw _ _ _ _;have aD:dd (cD w.1.size w<|u.setCell ⟨w.1.size+1+1,0,U⟩ (.pointer<|V<|S b 0 U)):=B4.setCell (by simp;omega) _;have y:=(G.block _ (bO M) (λe=>by have:=aI e;omega)).trans M;have o:=(G.block _ (bO N) (λe=>by have:=aI e;omega)).trans N;have s:=(G.block _ (bO O) (λe=>by have:=aI e;omega)).trans O;have x:(u.setCell ⟨w.1.size+1+1,0,U⟩ (.pointer<|V<|S b 0 U)).1[w.1.size+1+1]? =V (bi #[.pointer<|V<|S b 0 U] 92 (0,0)):=by rw[fe k2];rfl
 clear q0 q1 A E l M N k2 O B4 G;generalize u.setCell ⟨w.1.size+1+1,0,U⟩ (.pointer<|V<|S b 0 U)=g at*;have P:g.cell? ⟨w.1.size+1+1,0,U⟩=V (.pointer<|V<|S b 0 U):=az x 0;have b0:g.cell? (S b 0 U)=V (Y Z c):=az s 0;have b1:g.cell? (S b 1 U)=V (Y Z a):=az s 1;have J:g.cell? (S b 2 U)=V (.iface 354 (.pointer<|V j)):=az s 2;have f1:g.cell? ⟨w.1.size+1,1,U⟩=V (Y Z (-1)):=az o 1;have f2:g.cell? ⟨w.1.size+1,2,U⟩=V (Y Z (-1)):=az o 2;have z1:g.frozen? ⟨w.1.size+1,1,U⟩=da:=cB o 1;have z2:g.frozen? ⟨w.1.size+1,2,U⟩=da:=cB o 2;have HJ:dd (g.1[w.1.size]? =V (bi #[Y Z 0,Y Z 0,Y Z 0] 33 (0,0))/\g.1[w.1.size+1]? =V (bi #[Y Z 4,Y Z (-1),Y Z (-1)] 33 (0,0))/\g.1[w.1.size+1+1]? =V (bi #[.pointer<|V<|S b 0 U] 92 (0,0))/\g.1[b]? =V (bi #[Y Z c,Y Z a,.iface 354 (.pointer<|V j)] 96 (0,0))):=⟨y,o,x,s⟩
 have n1:b≠w.1.size+1:=by omega
 have n2:¬(w.1.size+1=b):=by omega
 have n3:¬(b=w.1.size+1):=by omega
 clear y o x s;generalize hz:w.1.size=z at*;have F:=ah hz;clear hz;go_wp2
 go_region_held3 (λt=>t.cell? ⟨z+1+1,0,U⟩=V (.pointer<|V<|S b 0 U)/\t.cell? (S b 0 U)=V (Y Z c)/\t.cell? (S b 1 U)=V (Y Z a)) (go_keep) (fail)
 obtain⟨y,o,x,s⟩:=HJ.out;have k:((g.setCell ⟨z+1,1,U⟩<|Y Z c).setCell ⟨z+1,2,U⟩ (Y Z a)).drew.1[z]? =V (bi #[Y Z 0,Y Z 0,Y Z 0] 33 (0,0)):=(iX _ _ _ _ (by show z≠z+1;omega)).trans ((iX _ _ _ _ (by show z≠z+1;omega)).trans y);have i2:((g.setCell ⟨z+1,1,U⟩<|Y Z c).setCell ⟨z+1,2,U⟩ (Y Z a)).drew.1[z+1+1]? =V (bi #[.pointer<|V<|S b 0 U] 92 (0,0)):=(iX _ _ _ _ (by show z+1+1≠z+1;omega)).trans ((iX _ _ _ _ (by show z+1+1≠z+1;omega)).trans x);have H:((g.setCell ⟨z+1,1,U⟩<|Y Z c).setCell ⟨z+1,2,U⟩ (Y Z a)).drew.1[b]? =V (bi #[Y Z c,Y Z a,.iface 354 (.pointer<|V j)] 96 (0,0)):=(iX _ _ _ _ n1).trans ((iX _ _ _ _ n1).trans s);have m:((g.setCell ⟨z+1,1,U⟩<|Y Z c).setCell ⟨z+1,2,U⟩ (Y Z a)).drew.1[z+1]? =V (bi #[Y Z 4,Y Z c,Y Z a] 33 (0,0)):=by
  show((g.setCell ⟨z+1,1,U⟩<|Y Z c).setCell ⟨z+1,2,U⟩ (Y Z a)).1[z+1]? =_;have e1:(g.setCell ⟨z+1,1,U⟩<|Y Z c).1[z+1]? =V (bi #[Y Z 4,Y Z c,Y Z (-1)] 33 (0,0)):=by rw[fe o];rfl
  rw[fe e1];rfl
 have aG:dd (cD z w ((g.setCell ⟨z+1,1,U⟩<|Y Z c).setCell ⟨z+1,2,U⟩ (Y Z a)).drew):=((aD.out.setCell (nk _) _).setCell (nk _) _).drew;clear HJ aD y o x s b0 b1 J P f1 f2 z1 z2;generalize((g.setCell ⟨z+1,1,U⟩<|Y Z c).setCell ⟨z+1,2,U⟩ (Y Z a)).drew=i at*;have P:i.cell? ⟨z+1+1,0,U⟩=V (.pointer<|V<|S b 0 U):=az i2 0;have J:i.cell? (S b 2 U)=V (.iface 354 (.pointer<|V j)):=az H 2;have HU:dd (∀n,cP prog 57 #[.pointer<|V<|S b 0 U] (i.drewN n) λe t=>e=bj (.iface 354 (.pointer<|V j))/\t=i.drewN n):=λn=>ah1 b _ _ _ (i.drewN n) H
 have I:dd (i.1[z]? =V (bi #[Y Z 0,Y Z 0,Y Z 0] 33 (0,0))/\i.1[z+1]? =V (bi #[Y Z 4,Y Z c,Y Z a] 33 (0,0))/\i.1[b]? =V (bi #[Y Z c,Y Z a,.iface 354 (.pointer<|V j)] 96 (0,0))):=⟨k,m,H⟩
 have m1:=Tryz.apC;have m2:=Tryz.apD;clear k m i2 H;go_wp2_with fail;go_quiet(first|(go_at_call 57;refine Cx<|HU _));have f:dd (∀W,cD z w W->W.1[b]? =V (bi #[Y Z c,Y Z a,.iface 354 (.pointer<|V j)] 96 (0,0))/\Env W aL r q):=λW l=>by rw[<-F.out]at l;exact⟨aR l X,p.out.below l⟩
 have k:(i.drewN nq).1[z]? =V (bi #[Y Z 0,Y Z 0,Y Z 0] 33 (0,0)):=I.out.1;have m:(i.drewN nq).1[z+1]? =V (bi #[Y Z 4,Y Z c,Y Z a] 33 (0,0)):=I.out.2.1;have d:dd (cD z w<|i.drewN nq):=aG.out.trans ⟨rfl,rfl,rfl,au _,λ_ _=>rfl⟩;clear HU I aG P J;generalize i.drewN nq=h at*;have K:z<h.1.size:=bO k;have h1:z+1<h.1.size:=bO m;have hl:=(f h d).2.long;have ht:=(f h d).2.text;have Jt:=(f h d).2.code;have Q:h.cell? (S z 0 U)=V (Y Z 0):=az k 0;have R:h.cell? (S z 1 U)=V (Y Z 0):=az k 1;have T:h.cell? (S z 2 U)=V (Y Z 0):=az k 2;have s0:h.frozen? (S z 0 U)=da:=cB k 0;have s1:h.frozen? (S z 1 U)=da:=cB k 1;have s2:h.frozen? (S z 2 U)=da:=cB k 2;have f0:h.cell? ⟨z+1,0,U⟩=V (Y Z 4):=az m 0;have f1:h.cell? ⟨z+1,1,U⟩=V (Y Z c):=az m 1;have f2:h.cell? ⟨z+1,2,U⟩=V (Y Z a):=az m 2;have g0:h.frozen? ⟨z+1,0,U⟩=da:=cB m 0;clear k m;go_wp2;refine dN 4 ?_;rcases HX.out with⟨rfl,rfl⟩|⟨rfl,rfl⟩|⟨rfl,rfl⟩
 .rw[bB];go_wp2_with fail;refine(Xf b (Y Z c) (Y Z a) aL _ ?_).mono ?_;exact(f _ (d.out.alloc (by omega) _)).1;rintro e B ⟨rfl,rfl⟩;go_wp2;rw[bB];go_wp2_with fail;refine(JS b (Y Z c) (Y Z a) aL r _ ?_ p.out.J1 ?_ ?_).mono ?_;exact(f _ ((d.out.setCell (nk _) _).alloc (by simp;omega) _)).1;exact(f _ ((d.out.setCell (nk _) _).alloc (by simp;omega) _)).2.Bx;exact(f _ ((d.out.setCell (nk _) _).alloc (by simp;omega) _)).2.Bz;rintro e C ⟨rfl,rfl⟩;go_wp2;rw[bB];go_wp2_with fail;refine(JS b (Y Z c) (Y Z a) aL q _ ?_ p.out.JZ ?_ ?_).mono ?_;exact(f _ ((d.out.setCell (nk _) _).alloc (by simp;omega) _)).1;exact(f _ ((d.out.setCell (nk _) _).alloc (by simp;omega) _)).2.Bx;exact(f _ ((d.out.setCell (nk _) _).alloc (by simp;omega) _)).2.Bw;rintro e D ⟨rfl,rfl⟩;go_wp2;rw[bB];go_wp2;refine bU (v:=df #[Y Z 1,Y Z c,Y Z a]) (by simp[results,results36,go_sem,Q,R,T,K]) rfl ⟨rfl,?_⟩;rw[F.out];exact((((d.out.setCell (nk _) _).setCell (au _) _).setCell (au _) _).setCell (au _) _).alloc (by simp;omega) _
 .rw[bB];go_wp2_with fail;refine(JS b (Y Z c) (Y Z a) r aL _ ?_ p.out.J1.symm ?_ ?_).mono ?_;exact(f _ (d.out.alloc (by omega) _)).1;exact(f _ (d.out.alloc (by omega) _)).2.Bz;exact(f _ (d.out.alloc (by omega) _)).2.Bx;rintro e B ⟨rfl,rfl⟩;go_wp2;rw[bB];go_wp2_with fail;refine(Xf b (Y Z c) (Y Z a) r _ ?_).mono ?_;exact(f _ (d.out.alloc (by omega) _)).1;rintro e C ⟨rfl,rfl⟩;go_wp2;rw[bB];go_wp2_with fail;refine(JS b (Y Z c) (Y Z a) r q _ ?_ p.out.J2 ?_ ?_).mono ?_;exact(f _ ((d.out.setCell (nk _) _).alloc (by simp;omega) _)).1;exact(f _ ((d.out.setCell (nk _) _).alloc (by simp;omega) _)).2.Bz;exact(f _ ((d.out.setCell (nk _) _).alloc (by simp;omega) _)).2.Bw;rintro e D ⟨rfl,rfl⟩;go_wp2;rw[bB];go_wp2;refine bU (v:=df #[Y Z 2,Y Z c,Y Z a]) (by simp[results,results36,go_sem,Q,R,T,K]) rfl ⟨rfl,?_⟩;rw[F.out];exact((((d.out.setCell (nk _) _).setCell (au _) _).setCell (au _) _).setCell (au _) _).alloc (by simp;omega) _
 rw[bB];go_wp2_with fail;refine(JS b (Y Z c) (Y Z a) q aL _ ?_ p.out.JZ.symm ?_ ?_).mono ?_;exact(f _ (d.out.alloc (by omega) _)).1;exact(f _ (d.out.alloc (by omega) _)).2.Bw;exact(f _ (d.out.alloc (by omega) _)).2.Bx;rintro e B ⟨rfl,rfl⟩;go_wp2;rw[bB];go_wp2_with fail;refine(JS b (Y Z c) (Y Z a) q r _ ?_ p.out.J2.symm ?_ ?_).mono ?_;exact(f _ (d.out.alloc (by omega) _)).1;exact(f _ (d.out.alloc (by omega) _)).2.Bw;exact(f _ (d.out.alloc (by omega) _)).2.Bz;rintro e C ⟨rfl,rfl⟩;go_wp2;rw[bB];go_wp2_with fail;refine(Xf b (Y Z c) (Y Z a) q _ ?_).mono ?_;exact(f _ (d.out.alloc (by omega) _)).1;rintro e D ⟨rfl,rfl⟩;go_wp2;rw[bB];go_wp2;refine bU (v:=df #[Y Z 3,Y Z c,Y Z a]) (by simp[results,results36,go_sem,Q,R,T,K]) rfl ⟨rfl,?_⟩;rw[F.out];exact((((d.out.setCell (nk _) _).setCell (au _) _).setCell (au _) _).setCell (au _) _).alloc (by simp;omega) _
def amt(b:Nat)(f a e:Int)(j:e=1∨e=2∨e=3)(w:cw)(aL d c:Addr)(g:Env w aL d c)(h:w.1[b]? =V (bi #[Y Z f,Y Z a,jF e aL d c] 96 (0,0))):cP prog 36 #[.iface 92 (.pointer<|V<|S b 0 U)] w λi k=>i=bj (df #[Y Z e,Y Z f,Y Z a])/\cD w.1.size w k:=by rcases j with rfl|rfl|rfl;exact Vf b f a w aL d c aL 1 (.inl ⟨rfl,rfl⟩) g h;exact Vf b f a w aL d c d 2 (.inr (.inl ⟨rfl,rfl⟩)) g h;exact Vf b f a w aL d c c 3 (.inr (.inr ⟨rfl,rfl⟩)) g h
end
def Wi(i:cJ)(B:Nat)(f:Int×Int×Int)(w:cw)(aL c a:Addr)(g:Env w aL c a)(h:Ic w B i f aL c a):cP prog 36 #[i] w λe m=>e=bj (df #[Y Z f.1,Y Z f.2.1,Y Z f.2.2])/\cD w.1.size w m:=by rcases h with⟨rfl,rfl⟩|⟨rfl,rfl⟩|⟨b,e,l,d,rfl,j,_,rfl,k⟩;exact Mi 0 (by omega) w aL c a g;exact Mi 1 (by omega) w aL c a g;exact amt b l d e k w aL c a g j
def aqN(s:bc)(w:cw)(aL y x:Addr)(B:Env w aL y x)(r:Br w)(J:uQ w)(q:kH w)(j:10<=w.1.size):cP prog 22 #[cd s] w λe n=>∃v,e=bj (de #[v,Av s])/\((cV s).1≠0->v=R U 0 0)/\((cV s).1=0->n.ownsRow w.1.size 4 1 v (eu s).length (kX<|eu s))/\cD w.1.size w n:=by
 have O:=ah B;have H:dd (∀W,cD w.1.size w W->cP prog 39 #[cd s] W λe n=>∃v z,e=bj (de #[v,z])/\Ic n W.1.size z (cV s) aL y x/\((cV s).1≠0->v=R U 0 0)/\((cV s).1=0->n.ownsRow W.1.size 4 1 v (eu s).length (kX<|eu s))/\cD W.1.size W n):=λW t=>Kg s W aL y x (B.below t) (r.below t) (J.below t) (q.below j t)<|bM j t.size
 clear B r J q j;go_enter func22,ntmps22;go_wp2_with fail;have l:∀o:Obj,cD w.1.size w (w.alloc o):=λo=>(aA _ _).alloc (au _) o
 refine(H _ (l _)).mono ?_;rintro e g ⟨v,z,rfl,N,i,u,d⟩;have A:cD w.1.size w g:=(l _).trans (d.mono<|by simp);have G:dd _:=Wi z _ (cV s) g aL y x (O.out.below A) N;have K:g.cell? (S w.1.size 0 U)=V (Y Z 0):=by rw[d.cell (p:=(S w.1.size 0 U))<|by simp];go_simp
 have L:g.cell? (S w.1.size 1 U)=V (Y Z 0):=by rw[d.cell (p:=(S w.1.size 1 U))<|by simp];go_simp
 have M:g.cell? (S w.1.size 2 U)=V (Y Z 0):=by rw[d.cell (p:=(S w.1.size 2 U))<|by simp];go_simp
 have f0:g.frozen? (S w.1.size 0 U)=da:=by rw[d.frozen (p:=(S w.1.size 0 U))<|by simp];go_simp
 have f1:g.frozen? (S w.1.size 1 U)=da:=by rw[d.frozen (p:=(S w.1.size 1 U))<|by simp];go_simp
 have f2:g.frozen? (S w.1.size 2 U)=da:=by rw[d.frozen (p:=(S w.1.size 2 U))<|by simp];go_simp
 have C:w.1.size<g.1.size:=by have:=d.size;simp at this;omega
 have I:=ah A;have Q:dd ((cV s).1=0->g.ownsRow (w.1.size+1) 4 1 v (eu s).length (kX<|eu s)):=λh=>(u h).low (by simp)
 have P:=ah i;clear A d l u i H N;go_wp2_with fail;refine jV G ?_;rintro e m ⟨rfl,f⟩;obtain⟨D,E,F,hF⟩:∃a b c,cV s=(a,b,c):=⟨_,_,_,rfl⟩
 have sY:dd (Av s=df #[Y Z D,Y Z E,Y Z F]):=by unfold dd Av;rw[hF]
 rw[hF];simp only;have j0:m.cell? (S w.1.size 0 U)=V (Y Z 0):=cU f K;have j1:m.cell? (S w.1.size 1 U)=V (Y Z 0):=cU f L;have j2:m.cell? (S w.1.size 2 U)=V (Y Z 0):=cU f M;have g0:m.frozen? (S w.1.size 0 U)=da:=(f.frozen (p:=(S w.1.size 0 U)) C).trans f0;have g1:m.frozen? (S w.1.size 1 U)=da:=(f.frozen (p:=(S w.1.size 1 U)) C).trans f1;have g2:m.frozen? (S w.1.size 2 U)=da:=(f.frozen (p:=(S w.1.size 2 U)) C).trans f2;have T:=ah<|I.out.trans<|f.mono I.out.size;have X:dd ((cV s).1=0->m.ownsRow (w.1.size+1) 4 1 v (eu s).length (kX<|eu s)):=λh=>kS (Q h) λk o _ ho=>aR f ho
 clear hF f K L M f0 f1 f2 G;go_wp2;refine bU (v:=de #[v,df #[Y Z D,Y Z E,Y Z F]]) (by simp[results,results22,go_sem,j0,j1,j2]) rfl ⟨v,by rw[sY.out],P,λh=> ?_,?_⟩;exact N0<|gA (gA (gA (X h) (by simp) _) (by simp) _) (by simp) _;exact((T.out.setCell (au _) _).setCell (au _) _).setCell (au _) _
def Fq(s:bc)(Q:List Ed×Int×Int):cJ:=df #[Y Z (gB s Q).1,Y Z (gB s Q).2.1,Y Z (gB s Q).2.2]
def aqO(s:bc)(w:cw)(aL u r:Addr)(H:Env w aL u r)(Q:List Ed×Int×Int) (I:∀W,cD w.1.size w W->cP prog 38 #[cd s] W λe n=>∃t v q,e=bj (de #[cd t,v,q])/\Ic n W.1.size q (gB s Q) aL u r/\((gB s Q).1≠0->t=⟨#[]⟩/\v=R U 0 0)/\((gB s Q).1=0->t=ry s Q.1/\n.ownsRow W.1.size 66 3 v Q.1.length (bW Q.1))/\cD W.1.size W n):cP prog 21 #[cd s] w λe n=>∃t v,e=bj (de #[cd t,v,Fq s Q])/\((gB s Q).1≠0->t=⟨#[]⟩/\v=R U 0 0)/\((gB s Q).1=0->t=ry s Q.1/\n.ownsRow w.1.size 66 3 v Q.1.length (bW Q.1))/\cD w.1.size w n:=by
 have N:=ah H;have D:=ah I;clear H I;go_enter func21,ntmps21;go_wp2_with fail;have j:∀o:Obj,cD w.1.size w (w.alloc o):=λo=>(aA _ _).alloc (au _) o
 refine(D _ (j _)).mono ?_;rintro e g ⟨t,v,q,rfl,M,i,l,d⟩;have x:cD w.1.size w g:=(j _).trans (d.mono<|by simp);have C:dd _:=Wi q _ (gB s Q) g aL u r (N.out.below x) M;have J:g.cell? (S w.1.size 0 U)=V (Y Z 0):=by rw[d.cell (p:=(S w.1.size 0 U))<|by simp];go_simp
 have K:g.cell? (S w.1.size 1 U)=V (Y Z 0):=by rw[d.cell (p:=(S w.1.size 1 U))<|by simp];go_simp
 have L:g.cell? (S w.1.size 2 U)=V (Y Z 0):=by rw[d.cell (p:=(S w.1.size 2 U))<|by simp];go_simp
 have f0:g.frozen? (S w.1.size 0 U)=da:=by rw[d.frozen (p:=(S w.1.size 0 U))<|by simp];go_simp
 have f1:g.frozen? (S w.1.size 1 U)=da:=by rw[d.frozen (p:=(S w.1.size 1 U))<|by simp];go_simp
 have f2:g.frozen? (S w.1.size 2 U)=da:=by rw[d.frozen (p:=(S w.1.size 2 U))<|by simp];go_simp
 have y:w.1.size<g.1.size:=by have:=d.size;simp at this;omega
 have F:=ah x;have E:dd ((gB s Q).1=0->t=ry s Q.1/\g.ownsRow (w.1.size+1) 66 3 v Q.1.length (bW Q.1)):=λh=>⟨(l h).1,Ff (l h).2 (by simp)⟩
 have O:=ah i;clear x d j l i D M;go_wp2_with fail;refine jV C ?_;rintro e m ⟨rfl,f⟩;obtain⟨z,A,B,hF⟩:∃a b c,gB s Q=(a,b,c):=⟨_,_,_,rfl⟩
 have sY:dd (Fq s Q=df #[Y Z z,Y Z A,Y Z B]):=by unfold dd Fq;rw[hF]
 rw[hF];simp only;have X:m.cell? (S w.1.size 0 U)=V (Y Z 0):=cU f J;have j1:m.cell? (S w.1.size 1 U)=V (Y Z 0):=cU f K;have j2:m.cell? (S w.1.size 2 U)=V (Y Z 0):=cU f L;have g0:m.frozen? (S w.1.size 0 U)=da:=(f.frozen (p:=(S w.1.size 0 U)) y).trans f0;have g1:m.frozen? (S w.1.size 1 U)=da:=(f.frozen (p:=(S w.1.size 1 U)) y).trans f1;have g2:m.frozen? (S w.1.size 2 U)=da:=(f.frozen (p:=(S w.1.size 2 U)) y).trans f2;have P:=ah<|F.out.trans<|f.mono F.out.size;have G:dd ((gB s Q).1=0->t=ry s Q.1/\m.ownsRow (w.1.size+1) 66 3 v Q.1.length (bW Q.1)):=λh=>⟨(E h).1,kS (E h).2 λk o _ T=>aR f T⟩
 clear hF f J K L f0 f1 f2 C;go_wp2;refine bU (v:=de #[cd t,v,df #[Y Z z,Y Z A,Y Z B]]) (by simp[results,results21,go_sem,X,j1,j2]) rfl ⟨t,v,by rw[sY.out],O,λh=>⟨(G h).1,?_⟩,?_⟩;exact Ff (gA (gA (gA (G h).2 (by simp) _) (by simp) _) (by simp) _) (by simp);exact((P.out.setCell (au _) _).setCell (au _) _).setCell (au _) _
structure RL(B:Nat)(W5:World)(v u:Value)(l:List Ed)(Wx:World):Prop where
 be:Below B W5 Wx
 own:Wx.ownsRow B 88 3 u l.length<|bW l
 row:∀k,v.ownBlock=some k->u.ownBlock≠some k/\Wx.1[k]? =W5.1[k]? /\k<Wx.1.size
 sz:B<=Wx.1.size
def RL.step {B:Nat}{m j b i:cw}{v u a:cJ}{l l':List Ed}(h:RL B m v u l j)(d:cD j.1.size j b)(f:b.grownBy i u.ownBlock)(p:i.ownsRow B 88 3 a l'.length<|bW l')(c:a.ownBlock=u.ownBlock∨a.ownBlock=V b.1.size):RL B m v a l' i:=by have q:=h.sz;have r:=d.size;have s:=f.size;refine⟨(h.be.trans<|d.mono q).grown f (by omega) (λk g=>(jL h.own g).1),p,λk g=> ?_,by omega⟩;obtain⟨n,t,w⟩:=h.row k g;refine⟨?_,((f.block k (by omega) λe=>n e.symm).trans (d.block k w)).trans t,by omega⟩;rcases c with e|e;rw[e];exact n;rw[e];intro o;have:=aI o;omega
def ahw:∀(a:List bc)(p i:Nat),i<a.length->(oK a p).getD i 0=p+ir (a.take i)
 |[],_,_,h=>by simp at h
 |l::a,p,0,_=>by simp[oK,ir]
 |l::a,p,i+1,h=>by
  have:=ahw a (p+l.size+1) i (by simpa using h);rw[oK,Pf,this,Uh];have e:ir (l::a.take i)=l.size+1+ir (a.take i):=by unfold ir;rw[ni,Lz]
  rw[e];omega
def as1(a:List bc)(i:Nat)(b:i<a.length):ir (a.take<|i+1)=ir (a.take i)+(a.getD i ⟨#[]⟩).size+1:=by rw[pR b,aN,aK b];unfold ir;rw[gu,List.sum_append,ni,Eb,Lz,List.sum_nil];simp only[uV];omega
def ahD(a:List bc)(i:Nat):ir (a.take i)<=ir a:=by
 have:ir a=ir (a.take i)+ir (a.drop i):=by unfold ir;rw[<-List.sum_append,<-gu,Ug]
 omega
def aru(s:bc)(a:List Ed)(v:cJ)(B n:Nat)(w:cw)(c:n=a.length)(h:w.ownsRow B 88 3 v n<|bW a)(k:n<=1000000000)(j:s.size+iu a<=140737488355328):cP prog 53 #[cd s,v] w λe i=>e=bj (cd<|ry s a)/\cD w.1.size w i:=by
 rcases h.2 with⟨rfl,rfl⟩|⟨g,b,d,rfl,_⟩
 .have f:a=[]:=Lq c.symm;subst f;have e:ry s []=(⟨#[]⟩:bc)++s:=by unfold ry;rw[show s.extract (([]:List Ed).foldl (kJ s) (⟨#[]⟩,0)).2 s.size=s by show s.extract 0 s.size=s;simp];rfl
  rw[e];exact agC s U 0 w<|by omega
 exact agB s a g 0 n b w (by omega) c.symm (by omega) (Me h)<|by omega
def ae8 {s:bc}(d:(cV s).1=0)(i:Nat)(g:i<(aS s 0 0).length):vw (fB s i) ((dA<|aS s 0 0).getD i []) (eX s i) []=fR (fB s i) (eX s i) []/\(fR (fB s i) (eX s i) []).1.length<=361200/\∀e∈(fR (fB s i) (eX s i) []).1,0<=e.a/\e.a<=3000:=by
 obtain⟨c,_,n⟩:=look_ok d;have h:∀x∈eX s i,x∈cO s/\x.line=i:=λx hx=>by obtain⟨a,b⟩:=uN.1 (show x∈(cO s).filter _ from hx);exact⟨a,by simpa using b⟩
 have o:=NJ c i g;refine⟨afb _ _ (vG (n i g).1) _ _ λx hx=>⟨YA c i x hx,aqC c (h x hx).1⟩,?_⟩;obtain⟨a,b⟩:=YR (fB s i) (λe=>0<=e.a/\e.a<=3000) (eX s i) [] (by simp) λx hx=>by obtain⟨l,m⟩:=h x hx;obtain⟨_,_,j,_⟩:=Ym d l;rw[m]at j;obtain⟨p,k⟩:=Yl o j;exact⟨p,λe f=>⟨(k e f).1,(k e f).2.1⟩⟩
 refine⟨?_,b⟩;have:=N4 s i;simp only[kW]at a;omega
def ant {p:Prop}(h:p):dd p:=h
def BA(i:Nat):Nat:=i*361200
def akz(i:Nat):BA i<=BA (i+1):=by unfold BA;omega
def akx(i:Nat){a b:Nat}(c:a<=BA i)(d:b<=361200):a+b<=BA (i+1):=by unfold BA at*;omega
def aky {i N a b:Nat}(f:i<N)(c:N<=601)(d:a<=BA i)(e:b<=361200):a+b<=300000000:=by unfold BA at*;omega
def alM(s:bc)(N i:Nat)(b:i<N)(a:List Ed):yO (oI s) (fB s) (oJ s) (cO s) (N - i) i a=if oI s i=db then yO (oI s) (fB s) (oJ s) (cO s) (N - (i+1)) (i+1) a else if 0<=(fR (fB s i) (eX s i) []).2 then([],(i:Int),(fR (fB s i) (eX s i) []).2)else yO (oI s) (fB s) (oJ s) (cO s) (N - (i+1)) (i+1) (a++(fR (fB s i) (eX s i) []).1.map (qO<|oJ s i)):=by rw[show N - i=(N - (i+1))+1 by omega,yO];rfl
def agG(s:bc)(w:cw):cP prog 52 #[cd s] w λe l=>cD w.1.size w l/\∃t v,e=bj (de #[cd t,v,Fq s<|fJ s])/\((gB s<|fJ s).1≠0->t=⟨#[]⟩/\v=R U 0 0)/\((gB s<|fJ s).1=0->t=ry s (fJ s).1/\l.ownsRow (w.1.size+1) 88 3 v (fJ s).1.length (bW (fJ s).1)):=by
 obtain⟨iB,MO,Nr,Ns,Nt⟩:=fP Tryz.aeB;have X:=aff s<|w.alloc<|bi #[Y Z 0,Y Z 0,Y Z 0] 47;obtain⟨F1,F2,F3,hF⟩:∃a b c,cV s=(a,b,c):=⟨_,_,_,rfl⟩
 have HF:=ah hF;have hV:Av s=df #[Y Z F1,Y Z F2,Y Z F3]:=by unfold Av;rw[hF]
 rw[hV,hF]at X;simp only at X;clear hF hV;by_cases hE:F1=0
 .subst hE;have h0:(cV s).1=0:=by rw[HF.out]
  have dK:=ah h0;obtain⟨rfl,rfl⟩:F2=0/\F3=0:=by have:=(look_ok h0).2.1;rw[HF.out]at this;simpa using this
  have rI:=(look_ok h0).1;have Iu:dd (yO (oI s) (fB s) (oJ s) (cO s) (aS s 0 0).length 0 []=fJ s):=ati s rI _ _ _;have qm:=ah<|U8 s h0;have vO:dd (gB s (fJ s)=if(fJ s).2.2= -1 then(0,0,0)else(3,(fJ s).2.1,(fJ s).2.2)):=by show _=_;unfold gB;rw[ai λh=>h h0]
  obtain⟨Q,hQ⟩:=ac<|fJ s;rw[<-hQ]at Iu qm vO ⊢;clear hQ;obtain⟨g,G⟩:=ac<|aS s 0 0;have KR:=ah G;have aP:=E5 s 0 0 (by omega);have M:=Za rI;rw[<-G]at X aP Iu M;have a1:=ah M;obtain⟨N,K⟩:=ac g.length;have HN:=ah K;rw[<-K]at aP Iu;have wh:(dA g).length=N:=by rw[K];simp[dA]
  have CM:=ah wh;have uJ:dd (∀i,i<N->oI s i=wO ((dA g).getD i []) (eX s i)):=λi I=>by have u:i<(aS s 0 0).length:=(by rw[<-G,<-K];exact I);unfold oI eu;rw[aN,jC,IB u,G];rfl
  have OO:dd (∀(i:Nat) W v,oM W v (cO s)->cP prog 79 #[v,Y Z i] W λe l=>∃v',e=bj v'/\oM l v' (eX s i)/\cD W.1.size W l):=λi W v hW=>(afJ (cO s) v i W (AH s) hW).mono λe l ⟨v',he,ho,H⟩=>⟨v',he,Qa ho,H⟩
  have TE:dd (∀(i:Nat),i<N->∀W v1 q,dF W v1 ((dA g).getD i [])->oM W q (eX s i)->cP prog 78 #[v1,q] W λe l=>e=bj (ce<|oI s i)/\cD W.1.size W l):=λi I W v1 q h1 h2=>by have u:i<(aS s 0 0).length:=(by rw[<-G,<-K];exact I);have h3:=((look_ok dK).2.2 i u).2;have h4:=agt dK i u;rw[<-G]at h3 h4;rw[uJ.out i I];exact ahb _ _ v1 q W (by omega) (N4 s i) h1 h2 h4
  have aZ:dd (∀(i:Nat),i<N->∀W v1 q,dF W v1 ((dA g).getD i [])->oM W q (eX s i)->cP prog 80 #[cd<|g.getD i ⟨#[]⟩,v1,q] W λe l=>∃v,e=bj (de #[v,Y Z (fR (fB s i) (eX s i) []).2])/\l.ownsRow W.1.size 88 3 v (fR (fB s i) (eX s i) []).1.length (bW (fR (fB s i) (eX s i) []).1)/\cD W.1.size W l):=λi I W v1 q h1 h2=>by
   have u:i<(aS s 0 0).length:=(by rw[<-G,<-K];exact I);obtain⟨h5,h3⟩:=(look_ok dK.out).2.2 i u;have h4:=NJ rI i u;have h6:=(ae8 dK i u).1;have h7:∀j,j<((dA<|aS s 0 0).getD i []).length->(dQ 0<|(dA<|aS s 0 0).getD i []).getD j 0<=((aS s 0 0).getD i ⟨#[]⟩).size:=λj hj=>gV<|YE (vG h5) j hj
   rw[<-G]at h3 h4 h6 h7;have:=apm (g.getD i ⟨#[]⟩) ((dA g).getD i []) (eX s i) v1 q W (by omega) (by omega) (N4 s i) h1 h2 h7;have e:fB s i=g.getD i ⟨#[]⟩:=(by unfold fB;rw[G]);rw[e]at h6 ⊢;rw[h6]at this;exact this
  have rV:dd (∀i,i<N->(fR (fB s i) (eX s i) []).1.length<=361200/\∀e∈(fR (fB s i) (eX s i) []).1,0<=e.a/\e.a<=3000):=λi I=>(ae8 dK i<|by rw[<-G,<-K];exact I).2
  have rY:dd (∀i,i<N->oJ s i=ir (g.take i)/\ir (g.take<|i+1)=ir (g.take i)+(g.getD i ⟨#[]⟩).size+1):=λi I=>by refine⟨?_,as1 g i<|by rw[<-K];exact I⟩;unfold oJ;rw[<-G,ahw g 0 i<|by rw[<-K];exact I,fV]
  have ap:dd (∀W,cP prog 23 #[cd s] W λe l=>∃v,e=bj v/\l.ownsRow W.1.size 9 1 v N (js g)/\cD W.1.size W l):=λW=>by have:=agE s W (by omega);rw[<-G,<-K]at this;exact this
  clear G K wh h0 M;go_enter func52,ntmps52;go_wp2_with fail;refine X.mono ?_;clear X;rintro ev y ⟨m,rv,rfl,_,L⟩;have GS:=L (by first|rfl|trivial);have Ip:dd (yJ y (w.1.size+1) rv<|dA g):=by obtain⟨vs,h1,h2⟩:=GS;exact⟨vs,ur h1<|by simp,λj hj=>ur (h2 j hj)<|by simp⟩
  have oQ:dd (y.1[w.1.size]? =V (bi #[Y Z 0,Y Z 0,Y Z 0] 47 (0,0))):=aR m<|World.alloc_heap_new _ _;have aD:dd (cD w.1.size w y):=((aA _ _).alloc (au _) _).trans (m.mono<|by simp);have bh:w.1.size<y.1.size:=bO oQ;have HP:=YG s<|y.alloc<|bi #[Y Z 0,Y Z 0,Y Z 0] 47;rw[P9]at HP;have tu:dd _:=HP;have bf:=GS.elim λvs h=>fC h.1
  obtain⟨ra,rc,rfl⟩:=bf;rw[CM.out]at Ip ⊢;clear m L GS HP;go_wp2_with fail;refine jV tu ?_;clear tu;rintro ev ar ⟨pv,rfl,aU,B⟩;have av:=ah<|Qa aU;have Gx:cD y.1.size y ar:=((aA _ _).alloc (au _) _).trans (B.mono<|by simp);have Sw:=ah Gx;have aw:dd (ar.1[y.1.size]? =V (bi #[Y Z 0,Y Z 0,Y Z 0] 47 (0,0))):=aR B<|World.alloc_heap_new _ _;clear aU B Gx;go_wp2_with fail;refine jV (ap _) ?_;clear ap;rintro ev O ⟨lv,rfl,an,r⟩;obtain⟨la,lc,rfl⟩:=fC an;have qX:=ah an;have KC:=ah<|av.out.below r;have aG:=ah<|Sw.out.trans<|r.mono Sw.out.size;have pO:=ah<|aR aG oQ;have KP:=ah<|aR r aw;have gG:=ah<|Ip.out.below aG;have bA:y.1.size<O.1.size:=bO KP;clear an r aw Sw av oQ Ip;go_wp2;go_loopg [9,10,11] N (λgk ov bv gD W=>∃(i:Nat)(f:List Ed),i<=N/\gk=N - i/\gD=Y Z i/\bv=Y Z (ir (g.take i):Nat)/\W.ownsRow O.1.size 88 3 ov f.length (bW f)/\cD O.1.size O W/\f.length<=BA i/\yO (oI s) (fB s) (oJ s) (cO s) (N - i) i f=Q);exact⟨0,[],by omega,rfl,rfl,by simp[ir],fh _ _ _ _,aA _ _,lB _,Iu⟩
  rename cw=>wa
  obtain⟨i,f,I,rfl,rfl,rfl,x,H,aT,T⟩:=hrel;obtain⟨oa,oc,rfl⟩:=fC x;have HB:=ah H;have aO:=H.size;have pP:=ah aT;clear aT;by_cases o:i<N
  .rw[alM s N i o]at T;have bd:(i:Int)<(N:Int):=(by omega);have SM:=ah<|KC.out.below H;obtain⟨vs,jI,rL⟩:=gG.out.below H;rw[CM.out]at jI rL;obtain⟨rg,rd,aV,bx,_,bo⟩:=jy jI (by omega);simp only[lY,lq]at aV;obtain⟨rfl,rfl⟩:=aV;have ak:wa.cell? (S rg i U)=V (vs.getD i undef):=(by rw[cT jI i<|by omega];have bz:vs.length=N:=(by have:=jI.1;omega);rw[aK<|by omega,aN,aK<|by omega];rfl);have Wn:=jc qX H;obtain⟨lg,ld,aa,bt,_,bn⟩:=jy Wn (by omega);simp only[lY,lq]at aa;obtain⟨rfl,rfl⟩:=aa;have a5:lg<O.1.size:=(by obtain⟨_,c,h⟩:=jL qX.out rfl;exact bO h);have ag:wa.cell? (S lg i U)=V (cd<|g.getD i ⟨#[]⟩):=(by have bb:i<g.length:=(by rw[<-HN.out];exact o);rw[cT Wn i<|by omega];simp[js,bb]);have qw:=ah ag;have OU:=ah<|dF.uo<|rL i o;have OX:dd (∀W q,cD wa.1.size wa W->oM W q (eX s i)->cP prog 78 #[vs.getD i undef,q] W λe l=>e=bj (ce<|oI s i)/\cD W.1.size W l):=λW q hW h2=>TE.out i o W _ q (OU.out.below hW) h2
   have ay:dd (∀W q,cD wa.1.size wa W->oM W q (eX s i)->cP prog 80 #[cd<|g.getD i ⟨#[]⟩,vs.getD i undef,q] W λe l=>∃v,e=bj (de #[v,Y Z (fR (fB s i) (eX s i) []).2])/\l.ownsRow W.1.size 88 3 v (fR (fB s i) (eX s i) []).1.length (bW (fR (fB s i) (eX s i) []).1)/\cD W.1.size W l):=λW q hW h2=>aZ.out i o W _ q (OU.out.below hW) h2
   obtain⟨az,aB⟩:=rV.out i o;obtain⟨aE,WK⟩:=rY.out i o;have aC:=ahD g i;have a7:=ahD g<|i+1;have M:=a1.out;rw[aE]at T;have ba:=fC<|rL i o;generalize vs.getD i undef=vi at*;generalize g.getD i ⟨#[]⟩=ln at*;generalize fR (fB s i) (eX s i) []=ME at*;generalize oI s i=ok at*;obtain⟨A,aM⟩:=ac<|ir<|g.take i;rw[<-aM]at T WK aC ⊢;have bL:=ah WK;have aL:A<=400000/\ln.size<=400000:=(by omega);obtain⟨aL,bw⟩:=aL;have tj:=ah x;have S5:=ah az;have ax:=ah aB;have DT:=ah T;clear jI rL x H Wn aE WK aC a7 M aM az aB T qX;go_wp2_with fail;refine(OO i _ _ SM.out).mono ?_;rintro e w2 ⟨v',rfl,aF,ad⟩;have V2:=cU ad ak;have SL:=ah aF;have OB:=ah ad;clear aF ad;go_wp2_with fail;refine(OX _ _ OB.out SL).mono ?_;rintro e w3 ⟨rfl,r⟩;have aJ:=ah<|OB.out.trans<|r.mono OB.out.size;have aX:=ah<|SL.out.below r;have a8:=cU aJ ag;have a':=cU aJ ak;clear r OB SL V2 ag ak OX OO;cases ok
   .simp only[Ib,↓reduceIte]at DT;go_wp2
    go_region_with (go_at_call 80;refine(ay _ _ (aJ.out.drew) (aX.out.below<|(aA _ _).drew)).mono ?_;rintro e P ⟨bB,rfl,am,af⟩)
    all_goals
     have cW:dd (cD wa.1.size wa P):=aJ.out.drew.trans (af.mono<|by have:=aJ.out.size;simpa using this);have HD:=ah am;obtain⟨va,vc,rfl⟩:=fC am;obtain⟨D,z⟩:=ME;simp only at HD DT S5 ax;have a9:=cU cW (show wa.cell? (S lg i U)=V (cd ln)from qw.out);have Sy:=ah<|HB.out.trans<|cW.out.mono aO;have s9:=ah<|jc tj cW;have bq:wa.1.size<=w3.1.size:=aJ.out.size;have br:w3.1.size<=P.1.size:=(by have:=af.size;simpa using this);clear am af a8 a' ay;by_cases E:0<=z
     .have a6:z ≥ 0:=E;rw[aj E]at DT;have T:=DT.out;subst T;have HS:dd (gB s ([],(i:Int),z)=(3,(i:Int),z)):=(by show _=_;rw[vO.out,ai<|by simp only;omega]);have d:=aR Sy pO;have k0:=cell_of d 0;have k1:=cell_of d 1;have k2:=cell_of d 2;simp only[jW,mZ,kE]at k0 k1 k2;have f0:=mM P w.1.size 0 _ _ d;have f1:=mM P w.1.size 1 _ _ d;have f2:=mM P w.1.size 2 _ _ d;have HQ:dd _:=Qs d (Y Z 3) (Y Z (i:Int))<|Y Z z;have kV:dd (cD w.1.size w P):=aD.out.trans<|(aG.out.trans<|Sy.out.mono<|by omega).mono (by omega);clear d Iu qm vO;go_wp2;have q0:=cell_of HQ 0;have q1:=cell_of HQ 1;have q2:=cell_of HQ 2;simp only[jW,mZ,kE]at q0 q1 q2;refine bU (v:=de #[cd ⟨#[]⟩,R U 0 0,df #[Y Z 3,Y Z (i:Int),Y Z z]]) (by simp only[results,results52];simp[go_sem,q0,q1,q2]) rfl ⟨((kV.out.setCell (au _) _).setCell (au _) _).setCell (au _) _,_,_,by rw[Fq,HS.out],λ_=>⟨rfl,rfl⟩,λh=> ?_⟩;rw[HS.out]at h;simp at h
     have a6:¬z ≥ 0:=E;rw[ai E]at DT;have Gp:RL O.1.size P (R va D.length vc) (R oa f.length oc) f P:=(by refine⟨aA _ _,s9,λk hk=> ?_,by omega⟩;obtain⟨e1,c,e2⟩:=jL HD.out hk;refine⟨λe=> ?_,rfl,bO e2⟩;obtain⟨_,c',e3⟩:=jL tj.out e;have:=bO e3;simp at e1;omega);obtain⟨n,hn⟩:=ac D.length;have ao:dd (P.ownsRow w3.drew.1.size 88 3 (R va n vc) n<|bW D):=(by rw[hn];exact HD.out);rw[<-hn]at Gp S5 ⊢;have Tq:=ah Gp;have cZ:=ah hn;have aQ:n<=361200:=S5.out;have Td:=ant<|aky o (by omega) pP.out aQ;clear hn Gp HD;go_wp2;go_loopg [9,16] n (λgk ov kv Wx=>∃k:Nat,k<=n/\gk=n - k/\kv=Y Z k/\RL O.1.size P (R va n vc) ov (f++(D.take k).map (qO A)) Wx);exact⟨0,by omega,rfl,rfl,by simpa using Tq.out⟩
     rename cw=>wx
     obtain⟨k,hk,rfl,rfl,J⟩:=hrel;obtain⟨ua,uc,rfl⟩:=fC J.own;obtain⟨lx,C⟩:=ac<|f++(D.take k).map (qO A);rw[<-C]at J ⊢;have X:=ah J;have bk:=ah C;by_cases be:k<n
     .have al:k<D.length:=(by rw[<-cZ.out];exact be);have Jw:(k:Int)<(n:Int):=(by omega);obtain⟨vg,c2,e1,BV,_,_⟩:=jy ao.out (by omega);simp only[lY,lq]at e1;obtain⟨rfl,rfl⟩:=e1;obtain⟨r1,r2,r4⟩:=J.row vg rfl;obtain⟨x0,x1,x2⟩:=Me ao.out k al;simp only[fV]at x0 x1 x2;rw[<-BD r2]at x0 x1 x2;obtain⟨Ju,V6⟩:=ax.out _ (nP al);have aW:D.take (k+1)=D.take k++[D[k]]:=pR al;have bu:lx.length<=300000000:=(by rw[C];have:=Td.out;simp only[bG,jh,tM];omega);have uG:dd (f++(D.take<|k+1).map (qO A)=lx++[⟨D[k].a+(A:Int),D[k].c,D[k].n⟩]):=(by show _=_;rw[aW,gu,<-dY,C];rfl);generalize D[k]=e at*;obtain⟨ea,ec,en⟩:=e;simp only at x0 x1 x2 Ju V6;have bm:=J.sz;have own:=J.own;clear aW r1 r2 r4 J C;have nw:=NP (wx.alloc<|bi #[Y Z<|ea+(A:Int),Y Z ec,cd en] 88) (Y Z<|ea+(A:Int)) (Y Z ec) (cd en) 88;rw[show(wx.alloc<|bi #[Y Z<|ea+(A:Int),Y Z ec,cd en] 88).1.size=wx.1.size+1 by simp]at nw;go_wp2_with(at_builtin;refine nY _ rfl _ _ 27 rfl O.1.size 88 iB _ 3 32 underlying27 MO Nr Ns Nt rfl (by decide) _ _ _ rfl ((own.alloc _).alloc _) ⟨wx.1.size+1,0,U⟩ 1 1 [Y Z<|ea+(A:Int),Y Z ec,cd en] rfl rfl nw (by simp[Value.oneCell']) (by unfold maxLen;omega) (by omega) (by simp;omega) ?_);intro u' W9 ho hg _ aI;have b9:cD wx.1.size wx ((wx.alloc<|bi #[Y Z<|ea+(A:Int),Y Z ec,cd en] 88).alloc (bi #[Y Z<|ea+(A:Int),Y Z ec,cd en] 88)):=((aA _ _).alloc (au _) _).alloc (by simp) _;have aH:=X.out.step (l':=lx++[⟨ea+(A:Int),ec,en⟩]) b9 hg (by rw[bG];rw[show bW (lx++[⟨ea+(A:Int),ec,en⟩])=bW lx++[Y Z<|ea+(A:Int),Y Z ec,cd en]by simp[bW,Md]];exact ho) (by simpa using aI);have SN:=ah aH;clear ho hg aI b9 own nw aH;go_wp2;go_roundg (n - (k+1));exact⟨k+1,by omega,rfl,by go_num,by rw[uG.out];exact SN.out⟩;omega
     obtain rfl:k=n:=(by omega);have Jw:¬(k:Int)<(k:Int):=(by omega);have a0:=ah J.own;have Sz:=ah<|Sy.out.trans J.be;have bp:wx.cell? (S lg i U)=V (cd ln):=(J.be.cell (p:=(S lg i U)) a5).trans a9;have aq:dd (lx=f++D.map (qO A)):=(by show _=_;rw[C,jY<|by rw[<-cZ.out];exact au _]);have aY:dd (lx.length<=BA (i+1)):=(by show _<=_;rw[aq.out,bG,jh,<-cZ.out];exact akx i pP aQ);clear J C;go_wp2;go_roundg (N - (i+1));exact⟨i+1,lx,by omega,rfl,by go_num,by rw[bL.out];go_num,a0.out,Sz.out,aY.out,by rw[aq.out];exact DT.out⟩;omega
   simp only[↓reduceIte]at DT;have a4:dd _:=jc tj aJ;have a3:=ah<|HB.out.trans<|aJ.out.mono aO;clear aJ;go_wp2;go_roundg (N - (i+1));exact⟨i+1,f,by omega,rfl,by go_num,by rw[bL.out];go_num,a4.out,a3.out,bM pP.out<|akz i,DT.out⟩;omega
  obtain rfl:i=N:=(by omega);have bd:¬(i:Int)<(i:Int):=(by omega);rw[pT,yO]at T;subst T;have HS:dd (gB s (f,(-1:Int),(-1:Int))=(0,0,0)):=(by show _=_;rw[vO.out,aj rfl]);obtain⟨m,B,_⟩:=qm.out;simp only at m B;have d:=aR H pO;have BQ:=aR H KP;have k0:=cell_of d 0;have k1:=cell_of d 1;have k2:=cell_of d 2;have l0:=cell_of BQ 0;have l1:=cell_of BQ 1;have l2:=cell_of BQ 2;simp only[jW,mZ,kE]at k0 k1 k2 l0 l1 l2;have f0:=mM wa w.1.size 0 _ _ d;have f1:=mM wa w.1.size 1 _ _ d;have f2:=mM wa w.1.size 2 _ _ d;have yw:dd (∀W,W.ownsRow O.1.size 88 3 (R oa f.length oc) f.length (bW f)->cP prog 53 #[cd s,R oa f.length oc] W λe l=>e=bj (cd<|ry s f)/\cD W.1.size W l):=λW hW=>aru s f _ O.1.size f.length W rfl hW (by omega) B
  have tj:=ah x;have kV:dd (cD w.1.size w wa):=aD.out.trans<|(aG.out.trans<|H.mono<|by omega).mono (by omega);have DX:dd (wa.1[w.1.size]? =V (bi #[Y Z 0,Y Z 0,Y Z 0] 47 (0,0))/\wa.1[y.1.size]? =V (bi #[Y Z 0,Y Z 0,Y Z 0] 47 (0,0))):=⟨d,BQ⟩
  obtain⟨n,hn⟩:=ac f.length;have cZ:=ah hn;rw[<-hn]at yw tj ⊢;clear hn;clear x H d BQ Iu qm vO B;go_wp2;have a2:dd (cP prog 53 #[cd s,R oa n oc] wa.drew λe l=>e=bj (cd<|ry s f)/\cD wa.1.size wa l):=(yw wa.drew tj).mono λe l h=>⟨h.1,(show cD wa.1.size wa wa.drew from(aA _ _).drew).trans h.2⟩
  go_region_with (go_at_call 53;refine a2.out.mono ?_;rintro e w5 ⟨rfl,F⟩;have j0:=cU F k0;have j1:=cU F k1;have j2:=cU F k2;have m0:=cU F l0;have m1:=cU F l1;have m2:=cU F l2;have g0:=mM w5 w.1.size 0 _ _ (aR F DX.out.1);have g1:=mM w5 w.1.size 1 _ _ (aR F DX.out.1);have g2:=mM w5 w.1.size 2 _ _ (aR F DX.out.1))
  all_goals
   have HQ:dd _:=Qs (aR F DX.out.1) (Y Z 0) (Y Z 0)<|Y Z 0;have kC:dd _:=jc tj F;have bF:=ah<|kV.out.trans<|F.mono kV.out.size;clear F;go_wp2;have q0:=cell_of HQ 0;have q1:=cell_of HQ 1;have q2:=cell_of HQ 2;simp only[jW,mZ,kE]at q0 q1 q2;refine bU (v:=de #[cd<|ry s f,R oa n oc,df #[Y Z 0,Y Z 0,Y Z 0]]) (by simp only[results,results52];simp[go_sem,q0,q1,q2]) rfl ⟨((bF.out.setCell (au _) _).setCell (au _) _).setCell (au _) _,_,_,by rw[Fq,HS.out],λh=> ?_,λ_=>⟨rfl,?_⟩⟩;rw[HS.out]at h;exact absurd rfl h;show World.ownsRow _ _ _ _ _ f.length _;rw[<-cZ.out];exact ur (gA (gA (gA kC (by simp;omega) _) (by simp;omega) _) (by simp;omega) _)<|by omega
 have bs:=ae hE;have bl:(F1 !=0)=db:=by simpa using hE
 have HS:dd (gB s (fJ s)=(F1,F2,F3)):=by show _=_;unfold gB;rw[HF.out,aj hE]
 go_enter func52,ntmps52;go_wp2_with fail;refine X.mono ?_;clear X;rintro ev y ⟨m,v,rfl,ab,_⟩;have GZ:=ab hE;subst GZ;have d:=aR m<|World.alloc_heap_new _ _;have k0:=cell_of d 0;have k1:=cell_of d 1;have k2:=cell_of d 2;simp only[jW,mZ,kE]at k0 k1 k2;have f0:=mM y w.1.size 0 _ _ d;have f1:=mM y w.1.size 1 _ _ d;have f2:=mM y w.1.size 2 _ _ d;have aD:dd (cD w.1.size w y):=((aA _ _).alloc (au _) _).trans (m.mono<|by simp);have bh:w.1.size<y.1.size:=bO d;have HE:=ah hE;have HQ:dd _:=OE d (Y Z F1) (Y Z F2) (Y Z F3)<|bi #[Y Z F1,Y Z F2,Y Z F3] 47;clear m ab d hE;go_wp2;go_region;go_wp2;obtain⟨q0,q1,q2⟩:=HQ.out;refine bU (v:=de #[cd ⟨#[]⟩,R U 0 0,df #[Y Z F1,Y Z F2,Y Z F3]]) (by simp only[results,results52];simp[go_sem,q0,q1,q2]) rfl ⟨((((aD.out.setCell (au _) _).setCell (au _) _).setCell (au _) _).alloc (by simp;omega) _).drew,_,_,by rw[Fq,HS.out],λ_=>⟨rfl,rfl⟩,λh=> ?_⟩;rw[HS.out]at h;exact absurd h HE
def DR(c:Array cJ)(i:Nat)(L:List Ed):Prop:=∀k (h:k<L.length),i<=k->c[k*3]? =V (Y Z L[k].a)/\c[k*3+1]? =V (Y Z L[k].c)/\c[k*3+2]? =V (cd L[k].n)
def U6 {w:cw}{B n:Nat}{e:TypeId}{g f:Nat}{L:List Ed}(h:w.ownsRow B e 3 (.slice (V<|S g 0 U) n f) n<|bW L):∃c,w.1[g]? =V (bi c e (0,0))/\DR c 0 L:=by obtain⟨_,c,i⟩:=jL h rfl;refine⟨c,i,λk j _=> ?_⟩;obtain⟨a,b,d⟩:=Me h k j;simp only[fV]at a b d;rw[az i]at a b d;exact⟨a,b,d⟩
def DR.set {c:Array cJ}{i:Nat}{L:List Ed}(h:DR c i L)(x y z:cJ):DR (((c.setIfInBounds (i*3) x).setIfInBounds (i*3+1) y).setIfInBounds (i*3+2) z) (i+1) L:=λk e f=>by obtain⟨a,b,d⟩:=h k e (by omega);refine⟨?_,?_,?_⟩<;>rw[Cu<|by omega,Cu<|by omega,Cu<|by omega]<;>assumption
def ast {W:cw}{b i:Nat}{T:TypeId}{c:Array cJ}(h:W.1[b]? =V (bi c T (0,0)))(x y z:cJ):(((W.setCell (S b i U) x).setCell (S b (i+1) U) y).setCell (S b (i+2) U) z).1[b]? =V (bi (((c.setIfInBounds i x).setIfInBounds (i+1) y).setIfInBounds (i+2) z) T (0,0)):=
 MK _ b (i+2) _ T z (MK _ b (i+1) _ T y (MK W b i _ T x h))
def ass(W:cw)(b i:Nat)(x y z:cJ):W.grownBy (((W.setCell (S b i U) x).setCell (S b (i+1) U) y).setCell (S b (i+2) U) z) (V b):=
 ((uw W b i x).trans (uw _ b (i+1) y)).trans (uw _ b (i+2) z)
def aeT(s t:bc)(w:cw)(i I J:Int)(L:List Ed)(hL:L.length<=1000000)(h1:i≠0->L=[]) (hP:∀W,cD w.1.size w W->cP prog 21 #[cd s] W λe C=>∃v,e=bj (de #[cd t,v,df #[Y Z i,Y Z I,Y Z J]])/\(i≠0->v=R U 0 0)/\C.ownsRow W.1.size 66 3 v L.length (bW L)/\cD W.1.size W C) (hR:∀W,cP prog 52 #[cd s] W λe C=>∃v,e=bj (de #[cd t,v,df #[Y Z i,Y Z I,Y Z J]])/\(i≠0->v=R U 0 0)/\C.ownsRow W.1.size 88 3 v L.length (bW L)/\cD W.1.size W C):cP prog 33 #[cd s] w λe C=>e=bj (ce db)/\cD w.1.size w C:=by
 have HP:=ah hP;have HR:=ah hR;have H1:=ah h1;clear hP hR h1;go_enter func33,ntmps33;go_wp2_with fail;refine jV (HP w<|aA _ _) ?_;rintro e q ⟨v1,rfl,MS,af,T⟩;have mD:=ah MS;have bh:=ah af;have aD:=ah T;clear MS af T;go_wp2_with fail;refine jV (HR _) ?_;clear HR;rintro e o ⟨v2,rfl,ab,ag,f⟩;have aq:q.1.size<o.1.size:=by have:=f.size;simp at this;omega
 have a0:o.cell? (S q.1.size 0 U)=V (Y Z i):=by rw[f.cell (p:=(S q.1.size 0 U))<|by simp];go_simp
 have a1:o.cell? (S q.1.size 1 U)=V (Y Z I):=by rw[f.cell (p:=(S q.1.size 1 U))<|by simp];go_simp
 have a2:o.cell? (S q.1.size 2 U)=V (Y Z J):=by rw[f.cell (p:=(S q.1.size 2 U))<|by simp];go_simp
 have bN:cD q.1.size q o:=((aA _ _).alloc (au _) _).trans (f.mono<|by simp);have gH:=ah<|jc bh bN;have nN:dd (o.ownsRow w.1.size 88 3 v2 L.length<|bW L):=Ff ag (by have:=aD.out.size;simp;omega);have aG:=ah<|aD.out.trans<|bN.mono aD.out.size;have mF:=ah ab;clear f ag ab bN;go_wp2_with fail;refine(Om i I J _).mono ?_;rintro e w3 ⟨rfl,u⟩;have cA:cD o.1.size o w3:=((aA _ _).alloc (au _) _).trans (u.mono<|by simp);have c0:w3.cell? (S o.1.size 0 U)=V (Y Z i):=by rw[u.cell (p:=(S o.1.size 0 U))<|by simp];go_simp
 have D:=ah<|jc gH cA;have G:=ah<|jc nN cA;have r:=ah<|aG.out.trans<|cA.mono aG.out.size;clear cA u bh gH nN a0 a1 a2;obtain⟨n,hn⟩:=ac L.length;rw[<-hn]at D G hL;have M:=ah hn;clear hn;by_cases hF:i=0
 .subst hF;clear mD mF H1;obtain⟨x,cx,rfl⟩:=fC D.out;obtain⟨y,cy,rfl⟩:=fC G.out;by_cases h0:n=0
  .subst h0;go_wp2;refine dN 1 ?_;rw[bB];go_wp2_with fail;refine jV (HP _ r.out) ?_;rintro e w4 ⟨v4,rfl,_,d,b⟩;rw[<-M.out]at d;obtain⟨z,cz,rfl⟩:=fC d;have O:=ah<|r.out.trans<|b.mono r.out.size;clear d b;go_wp2;refine dN 1 ?_;rw[bB];go_wp2;go_ret;exact⟨rfl,O.out.alloc O.out.size _⟩
  obtain⟨lg,c',g,V3,A,an⟩:=jy D.out (by omega);simp only[lY,lq]at g;obtain⟨rfl,rfl⟩:=g;obtain⟨F,c',g,am,ao,ap⟩:=jy G.out (by omega);simp only[lY,lq]at g;obtain⟨rfl,rfl⟩:=g;obtain⟨c1,E,k2⟩:=U6 D.out;obtain⟨c2,k3,k4⟩:=U6 G.out;have ae:F≠lg:=by rintro rfl;rw[E]at k3;cases k3
  have s8:=ah ae;have KN:=ah k4;have HK:dd (w3.1[lg]? =V (bi c1 66 (0,0))/\DR c1 0 L/\w3.1[F]? =V (bi c2 88 (0,0))):=⟨E,k2,k3⟩
  clear E k2 k3 k4 ae D G;go_wp2;go_loopg [10] n (λgk iv W=>∃(k:Nat)(c:Array cJ),k<=n/\gk=n - k/\iv=Y Z k/\(W.1[lg]? =V (bi c 66 (0,0))/\DR c k L/\W.1[F]? =V (bi c2 88 (0,0)))/\cD w.1.size w W);exact⟨0,c1,lB _,rfl,rfl,HK,r⟩
  rename cw=>wa
  obtain⟨k,c,hk,rfl,rfl,⟨h,H,l⟩,hb⟩:=hrel;have K:=ah hb;have HQ:dd (wa.1[lg]? =V (bi c 66 (0,0))/\DR c k L/\wa.1[F]? =V (bi c2 88 (0,0))):=⟨h,H,l⟩
  by_cases B:k<n
  .have BP:k<L.length:=(by rw[<-M.out];exact B);have aa:(k:Int)<(n:Int):=(by omega);obtain⟨x0,x1,x2⟩:=H k BP<|au _;obtain⟨y0,y1,y2⟩:=KN.out k BP<|lB _;have x0:=(az h<|k*3).trans x0;have x1:=(az h<|k*3+1).trans x1;have x2:=(az h<|k*3+2).trans x2;have y0:=(az l<|k*3).trans y0;have y1:=(az l<|k*3+1).trans y1;have y2:=(az l<|k*3+2).trans y2;have f0:=cB h<|k*3;have f1:=cB h<|k*3+1;have f2:=cB h<|k*3+2;generalize L[k].a=P at*;generalize L[k].c=ec at*;generalize L[k].n=en at*;have g:(P !=P)=da:=(by simp);have e2:(ec !=ec)=da:=(by simp);clear hb h H l;go_wp2_with fail;go_quiet(fail);go_wp2;go_roundg (n - (k+1));case measure=>omega
   case rel=>obtain⟨h,H,l⟩:=HQ.out;refine⟨k+1,_,by omega,rfl,by simp,⟨ast (W:=wa.drewN _) h _ _ _,H.set _ _ _,((ass (wa.drewN _) lg (k*3) _ _ _).block F (bO l) (λe=>s8.out<|aI e)).trans l⟩,?_⟩;exact(((Eo K _).setCell A _).setCell A _).setCell A _
  obtain rfl:k=n:=(by omega);have aa:¬(k:Int)<(k:Int):=(by omega);have Im:=ah l;clear hb h H l HQ HK;go_wp2_with fail;refine jV (HP _ K.out) ?_;rintro e w4 ⟨v4,rfl,_,d,b⟩;rw[<-M.out]at d;obtain⟨kg,c',g,al,_,_⟩:=jy d (by omega);subst g;obtain⟨c3,E,k2⟩:=U6 d;obtain⟨N,VJ⟩:=ac<|w4.alloc<|bi #[Y Z 0,Y Z I,Y Z J] 33;have b5:cD w4.1.size w4 N:=(by rw[VJ];exact(aA _ _).alloc (au _) _);have FD:dd (N.1[kg]? =V (bi c3 66 (0,0))/\DR c3 0 L/\N.1[F]? =V (bi c2 88 (0,0))):=⟨aR b5 E,k2,aR b5<|aR b Im⟩
  have bF:dd (cD w.1.size w N):=(K.out.trans<|b.mono K.out.size).trans (b5.mono<|by have:=K.out.size;have:=b.size;omega);have ai:=ah VJ;clear d b E k2 b5 VJ;go_wp2;rw[<-ai.out];go_loopg [14] k (λgk iv W=>∃j m:Nat,j<=k/\gk=k - j/\iv=Y Z j/\W=N.drewN m);exact⟨0,0,lB _,rfl,rfl,rfl⟩;obtain⟨j,m,hj,rfl,rfl,rfl⟩:=hrel;by_cases B:j<k
  .have X:j<L.length:=(by rw[<-M.out];exact B);have aj:(j:Int)<(k:Int):=(by omega);obtain⟨g1,g2,g3⟩:=FD.out;obtain⟨x0,_,_⟩:=g2 j X<|lB _;obtain⟨y0,_,_⟩:=KN.out j X<|lB _;have x0:=(az g1<|j*3).trans x0;have y0:=(az g3<|j*3).trans y0;generalize L[j].a=P at*;have g:(P !=P)=da:=(by simp);have e2:((k:Int) !=(k:Int))=da:=(by simp);clear g1 g2 g3;go_wp2_with fail;go_quiet(fail);go_wp2;go_roundg (k - (j+1));exact⟨j+1,_,by omega,rfl,by simp,rfl⟩;omega
  obtain rfl:j=k:=(by omega);go_wp2;go_ret;exact⟨rfl,Eo bF _⟩
 have g:=mD.out hF;have e2:=mF.out hF;subst g;subst e2;have ak:(i !=0)=db:=by simpa using hF
 have Q:=H1.out hF;have h0:n=0:=by rw[M.out,Q];rfl
 subst h0;have HF:=ah hF;clear D G mD mF H1 hF Q;go_wp2;refine dN 1 ?_;rw[bB];go_wp2_with fail;refine jV (HP _ r.out) ?_;rintro e w4 ⟨v4,rfl,ad,d,b⟩;have e4:=ad HF;subst e4;have O:=ah<|r.out.trans<|b.mono r.out.size;clear d b ad;go_wp2;refine dN 1 ?_;rw[bB];go_wp2;go_ret;exact⟨rfl,O.out.alloc O.out.size _⟩
def aoX(s:bc)(w:cw)(aL k j:Addr)(o:Env w aL k j)(n:Br w)(u:uQ w)(f:kH w)(b:10<=w.1.size)(A:rq w):cP prog 33 #[cd s] w λe i=>e=bj (ce db)/\cD w.1.size w i:=by
 have x:∀W,cD w.1.size w W->_:=λW c=>aqO s W aL k j (o.below c) (fJ s) λy p=>
  have a:=c.trans<|p.mono c.size
  am4 s y aL k j (o.below a) (n.below a) (u.below a) (f.below b a) (bM b a.size) (fJ s) (U8 s) λz v l q B=>
   have g:=a.trans<|q.mono a.size
   alO s v _ z aL k j (o.below g) (u.below g) (f.below b g) (bM b g.size) (cU g A) l B
 have C:Fq s (fJ s)=df #[Y Z (gB s<|fJ s).1,Y Z (gB s<|fJ s).2.1,Y Z (gB s<|fJ s).2.2]:=rfl;by_cases hF:(gB s<|fJ s).1=0
 .have l:(cV s).1=0:=by by_cases h:(cV s).1=0;exact h;unfold gB at hF;rw[aj h]at hF;exact hF
  refine aeT s (ry s (fJ s).1) w (gB s<|fJ s).1 (gB s<|fJ s).2.1 (gB s<|fJ s).2.2 (fJ s).1 (U8 s l).1 (λh=>absurd hF h) (λW c=>(x W c).mono ?_) (λW=>(agG s W).mono ?_);rintro e i ⟨t,v,rfl,_,a,d⟩;obtain⟨rfl,r⟩:=a hF;exact⟨v,rfl,λh=>absurd hF h,r,d⟩;rintro e i ⟨d,t,v,rfl,_,a⟩;obtain⟨rfl,r⟩:=a hF;exact⟨v,rfl,λh=>absurd hF h,Ff r<|by omega,d⟩
 refine aeT s ⟨#[]⟩ w (gB s<|fJ s).1 (gB s<|fJ s).2.1 (gB s<|fJ s).2.2 [] (by simp) (λ_=>rfl) (λW c=>(x W c).mono ?_) (λW=>(agG s W).mono ?_);rintro e i ⟨t,v,rfl,m,_,d⟩;obtain⟨rfl,rfl⟩:=m hF;exact⟨_,rfl,λ_=>rfl,fh _ _ _ _,d⟩;rintro e i ⟨d,t,v,rfl,m,_⟩;obtain⟨rfl,rfl⟩:=m hF;exact⟨_,rfl,λ_=>rfl,fh _ _ _ _,d⟩
structure IY(w:World)(aL aT aC:Addr):Prop where
 env:Env w aL aT aC
 br:Br w
 mx:uQ w
 pe:kH w
 low:10<=w.1.size
 tz:rq w
def IY.below {w d:cw}{aL c b:Addr}(h:IY w aL c b)(a:cD w.1.size w d):IY d aL c b:=
 ⟨h.env.below a,h.br.below a,h.mx.below a,h.pe.below h.low a,bM h.low a.size,cU a h.tz⟩
def aqV(o:o6)(w:cw)(aL i g:Addr)(l:o.k=6)(j:IY w aL i g):cP prog 18 #[qK o] w λe f=>e=bj (ce db)/\cD w.1.size w f:=by
 obtain⟨k,a,s,q⟩:=o;simp only at l;subst l;unfold qK;have m:dd (∀W,cD w.1.size w W->cP prog 33 #[cd s] W λe f=>e=bj (ce db)/\cD W.1.size W f):=λW p=>by have h:=j.below p;exact aoX s W aL i g h.env h.br h.mx h.pe h.low h.tz
 clear j;go_enter func18,ntmps18;have b:cD w.1.size w (w.alloc<|bi #[Y Z 6,Y Z a,cd s,q] 29):=(aA _ _).alloc (au _) _;have d:=ah b;clear b;go_wp2_with fail;refine(m _ d.out).mono ?_;rintro e r ⟨rfl,c⟩;have n:=ah<|Ox d<|c.mono<|Ow d;clear c;go_wp2;go_ret;exact⟨rfl,n⟩
def Cw(w:cw)(v:cJ)(l:List Bool):Prop:=∃x c,v=R x l.length c/\(0<l.length->∃g,x=V (S g 0 U)/\l.length<=c/\∀i,i<l.length->w.cell? (S g i U)=V (ce<|l.getD i da))
def Cw.below {w a:cw}{v:cJ}{l:List Bool}(h:Cw w v l)(f:cD w.1.size w a):Cw a v l:=by obtain⟨x,c,rfl,j⟩:=h;exact⟨x,c,rfl,λm=>(j m).imp λg ⟨b,d,e⟩=>⟨b,d,λi k=>cU f<|e i k⟩⟩
def E2 {w:cw}{B:Nat}{e:TypeId}{v:cJ}{l:List Bool}(h:w.ownsRow B e 1 v l.length<|kX l):Cw w v l:=by rcases h.2 with⟨rfl,c⟩|⟨g,a,b,rfl,_,_,d,_⟩;exact⟨U,0,by rw[c],λj=>by omega⟩;refine⟨_,a,rfl,λ_=>⟨g,rfl,d,λi f=> ?_⟩⟩;rw[cT h i<|by omega];simp[kX,f]
def akB(w:cw):Cw w (R U 0 0) []:=⟨U,0,rfl,λh=>by simp at h⟩
def aoW(s:bc)(w:cw)(b t u:Int)(L:List Bool)(hL:L.length<=1000)(B:b≠0->L=[]) (hP:∀W,cD w.1.size w W->cP prog 22 #[cd s] W λe g=>∃v,e=bj (de #[v,df #[Y Z b,Y Z t,Y Z u]])/\(b≠0->v=R U 0 0)/\Cw g v L/\cD W.1.size W g) (hR:∀W,cP prog 51 #[cd s] W λe g=>∃v,e=bj (de #[v,df #[Y Z b,Y Z t,Y Z u]])/\(b≠0->v=R U 0 0)/\Cw g v L/\cD W.1.size W g):cP prog 32 #[cd s] w λe g=>e=bj (ce db)/\cD w.1.size w g:=by
 have K:=ah hP;have M:=ah hR;have J:=ah B;clear hP hR B;go_enter func32,ntmps32;go_wp2_with fail;refine jV (K w<|aA _ _) ?_;clear K;rintro e c ⟨v1,rfl,N,q,j⟩;have G:=ah N;have Q:=ah q;have O:=ah j;clear N q j;go_wp2_with fail;refine jV (M _) ?_;clear M;rintro e d ⟨v2,rfl,o,r,a⟩;have ae:c.1.size<d.1.size:=by have:=a.size;simp at this;omega
 have a0:d.cell? (S c.1.size 0 U)=V (Y Z b):=by rw[a.cell (p:=(S c.1.size 0 U))<|by simp];go_simp
 have a1:d.cell? (S c.1.size 1 U)=V (Y Z t):=by rw[a.cell (p:=(S c.1.size 1 U))<|by simp];go_simp
 have a2:d.cell? (S c.1.size 2 U)=V (Y Z u):=by rw[a.cell (p:=(S c.1.size 2 U))<|by simp];go_simp
 have E:cD c.1.size c d:=((aA _ _).alloc (au _) _).trans (a.mono<|by simp);have X:=ah<|Q.out.below E;have nN:=ah r;have P:=ah<|O.out.trans<|E.mono O.out.size;have H:=ah o;clear a r o E;go_wp2_with fail;refine(Om b t u _).mono ?_;rintro e I ⟨rfl,f⟩;have z:cD d.1.size d I:=((aA _ _).alloc (au _) _).trans (f.mono<|by simp);have c0:I.cell? (S d.1.size 0 U)=V (Y Z b):=by rw[f.cell (p:=(S d.1.size 0 U))<|by simp];go_simp
 have A:=ah<|X.out.below z;have C:=ah<|nN.out.below z;have D:=ah<|P.out.trans<|z.mono P.out.size;clear z f Q X nN a0 a1 a2;by_cases hF:b=0
 .subst hF;clear G H J;obtain⟨x,cx,rfl,hx⟩:=A.out;obtain⟨y,cy,rfl,h⟩:=C.out;obtain⟨n,F⟩:=ac L.length;rw[<-F]at hx h hL ⊢;by_cases h0:n=0
  .subst h0;clear hx h A C F;go_wp2;refine dN 1 ?_;rw[bB];go_wp2;go_ret;exact⟨rfl,D⟩
  .obtain⟨gx,rfl,V3,hx⟩:=hx (by omega);obtain⟨gy,rfl,ad,h⟩:=h (by omega);have HX:=ah hx;have HY:=ah h;clear hx h A C F;go_wp2;go_loopw [8] (λi wr=>∃k m:Nat,k<=n/\i=Y Z k/\wr=I.drewN m) (λi _=>n - (intOf i).toNat);case atStart=>exact⟨0,0,lB _,rfl,rfl⟩
   case round=>
    obtain⟨k,m,hk,rfl,rfl⟩:=hrel;by_cases l:k<n
    .have B:=HX.out k l;have h2:=HY.out k l;generalize L.getD k da=T at B h2;have aa:(k:Int)<(n:Int):=(by omega);have ve:(T !=T)=da:=(by simp);go_wp2_with fail;go_quiet(fail);go_wp2;go_roundw;case rel=>exact⟨k+1,_,by omega,by go_num,rfl⟩
     case measure=>simp[intOf];omega
    go_wp2;go_ret;exact⟨rfl,D.out.trans ⟨rfl,rfl,rfl,au _,λ_ _=>rfl⟩⟩
 have e1:=G.out hF;have e2:=H.out hF;subst e1;subst e2;have ab:(b !=0)=db:=by simpa using hF
 clear A C G H J hF;go_wp2;refine dN 1 ?_;rw[bB];go_wp2;go_ret;exact⟨rfl,D⟩
def aoV(s:bc)(w:cw)(aL l k:Addr)(o:Env w aL l k)(g:Br w)(p:uQ w)(f:kH w)(b:10<=w.1.size):cP prog 32 #[cd s] w λe a=>e=bj (ce db)/\cD w.1.size w a:=by
 have nl:∀(a:cw)(v:cJ),((cV s).1≠0->v=R U 0 0)->((cV s).1=0->Cw a v (eu s))->Cw a v (if(cV s).1=0 then eu s else []):=λa v m n=>by by_cases h:(cV s).1=0;rw[aj h];exact n h;rw[ai h,m h];exact akB a
 refine aoW s w (cV s).1 (cV s).2.1 (cV s).2.2 (if(cV s).1=0 then eu s else []) ?_ ?_ ?_ ?_;by_cases h:(cV s).1=0;rw[aj h];have q:=(look_ok h).1;have:=E5 s 0 0 (by omega);simp[eu];omega;rw[ai h];simp;intro h;rw[ai h];intro W c;refine(aqN s W aL l k (o.below c) (g.below c) (p.below c) (f.below b c)<|bM b c.size).mono ?_;rintro e a ⟨v,rfl,d,j,i⟩;exact⟨v,rfl,d,nl a v d λh=>E2<|j h,i⟩;intro W;refine(arB s W).mono ?_;rintro e a ⟨i,v,rfl,d,j⟩;exact⟨v,rfl,d,nl a v d λh=>E2<|j h,i⟩
structure Pv(w:World)(aL aT aC:Addr):Prop where
 env:Env w aL aT aC
 br:Br w
 mx:uQ w
 pe:kH w
 low:10<=w.1.size
def Pv.below {w d:cw}{aL c b:Addr}(h:Pv w aL c b)(a:cD w.1.size w d):Pv d aL c b:=
 ⟨h.env.below a,h.br.below a,h.mx.below a,h.pe.below h.low a,bM h.low a.size⟩
def aqU(o:o6)(w:cw)(aL i g:Addr)(l:o.k=5)(j:Pv w aL i g):cP prog 18 #[qK o] w λe f=>e=bj (ce db)/\cD w.1.size w f:=by
 obtain⟨k,a,s,q⟩:=o;simp only at l;subst l;unfold qK;have m:dd (∀W,cD w.1.size w W->cP prog 32 #[cd s] W λe f=>e=bj (ce db)/\cD W.1.size W f):=λW p=>by have h:=j.below p;exact aoV s W aL i g h.env h.br h.mx h.pe h.low
 clear j;go_enter func18,ntmps18;have b:cD w.1.size w (w.alloc<|bi #[Y Z 5,Y Z a,cd s,q] 29):=(aA _ _).alloc (au _) _;have d:=ah b;clear b;go_wp2_with fail;refine(m _ d.out).mono ?_;rintro e r ⟨rfl,c⟩;have n:=ah<|Ox d<|c.mono<|Ow d;clear c;go_wp2;go_ret;exact⟨rfl,n⟩
def Tryz.aol:(prog.info? 66).map (λi=>(i.zero,i.size,i.bytes))=V (V<|df #[Y Z 0,Y Z 0,cd ⟨#[]⟩],3,32):=by kernel_rfl
def sG(a:List Ed):List cJ:=a.flatMap λe=>[Y Z e.a,Y Z e.c,cd e.n]
def alS(a:List Ed)(e:Ed):sG (a++[e])=sG a++[Y Z e.a,Y Z e.c,cd e.n]:=by simp[sG]
def alQ:∀(l:List Ed)(i:Nat)(b:i<l.length),(sG l)[i*3]? =V (Y Z l[i].a)/\(sG l)[i*3+1]? =V (Y Z l[i].c)/\(sG l)[i*3+2]? =V (cd l[i].n):=by
 intro l
 induction l with
 |nil=>intro i b;simp at b
 |cons a l ih=>
  intro i b;have e:sG (a::l)=[Y Z a.a,Y Z a.c,cd a.n]++sG l:=by simp[sG]
  cases i with
  |zero=>rw[e];simp
  |succ i=>have:=ih i (by simpa using b);rw[e,show(i+1)*3=i*3+3 by omega];simpa using this
def alT {w:cw}{B:Nat}{e:TypeId}{z n:Nat}{v:cJ}{d:List cJ}(h:w.ownsRow B e z v n d):∃a b,v=R a n b:=by rcases h.2 with⟨rfl,rfl⟩|⟨g,b,c,rfl,_⟩;exact⟨U,0,rfl⟩;exact⟨_,b,rfl⟩
def alU {w:cw}{B:Nat}{v:cJ}{b:List Ed}(h:w.ownsRow B 66 3 v b.length<|sG b)(o:0<b.length):∃g a,v= .slice (V<|S g 0 U) b.length a/\b.length<=a/\vK w g 0 b:=by rcases h.2 with⟨_,l⟩|⟨g,a,c,rfl,m,n,d,_⟩;omega;refine⟨g,a,rfl,d,λi e=> ?_⟩;obtain⟨f,j,k⟩:=alQ b i e;rw[fV];exact⟨by rw[cT h (i*3)<|by omega];exact f,by rw[cT h (i*3+1)<|by omega];exact j,by rw[cT h (i*3+2)<|by omega];exact k⟩
def NV {w:cw}{z:Nat}{a b c d:cJ}{T:TypeId}(h:w.1[z]? =V (bi #[a,b,c,d] T (0,0))):w.cell? (S z 2 U)=V c/\w.cell? (S z 3 U)=V d:=
 ⟨by rw[O9 h];rfl,by rw[O9 h];rfl⟩
def ank {w:cw}{k:Nat}{o:Obj}(h:w.1[k]? =V o):k<w.1.size:=by rcases dc k w.1.size with a|a;exact a;rw[sV a]at h;cases h
def amV {w b c:cw}{B:Nat}{v:cJ}{z:Nat}{T:TypeId}{n:Nat}{h:List cJ}(e:cD B w b)(d:B<=b.1.size)(a:b.ownsRow (B+1) T z v n h)(f:b.grownBy c v.ownBlock):cD B w c:=
 e.grown f d λk g=>by have:=(a.lt k g).1;omega
def aj3(k a:Int)(s:bc)(l:List Ed)(b i m o:Nat)(w:cw)(hl:l.length=m)(h0:0<m)(hm:m<=1048576)(hc:vK w b i l)(hN:s.size+iu l<=10000000)(hA:∀e∈l,e.a<=9223372036854775807):cP prog 34 #[df #[Y Z k,Y Z a,cd s,.slice (V<|S b i U) m o]] w λe v=>e=bj (ce db)/\cD w.1.size w v:=by
 obtain⟨iE,rH,WR,WS,WT⟩:=fP Tryz.aol;have HC:=ah hc;have x:=ah hl;have HA:=ah hA;have D:dd (cD w.1.size w<|w.alloc<|bi #[Y Z k,Y Z a,cd s,.slice (V<|S b i U) m o] 29):=(aA _ _).alloc (au _) _;have I:dd ((w.alloc<|bi #[Y Z k,Y Z a,cd s,.slice (V<|S b i U) m o] 29).1[w.1.size]? =V (bi #[Y Z k,Y Z a,cd s,.slice (V<|S b i U) m o] 29 (0,0))):=by show(w.heap.push _)[w.1.size]? =_;simp
 have dH:dd ((w.alloc<|bi #[Y Z k,Y Z a,cd s,.slice (V<|S b i U) m o] 29).ownsRow (w.1.size+1) 66 3 (R U 0 0) 0 (sG [])):=fh _ _ _ _;clear hc hl hA;go_enter func34,ntmps34;go_wp2;go_loopg [3,4] m (λgk lv iv W=>∃(j:Nat),j<=m/\gk=m - j/\iv=Y Z j/\cD w.1.size w W/\w.1.size<W.1.size/\W.1[w.1.size]? =V (bi #[Y Z k,Y Z a,cd s,.slice (V<|S b i U) m o] 29 (0,0))/\W.ownsRow (w.1.size+1) 66 3 lv j (sG<|l.take j));exact⟨0,by omega,rfl,rfl,D,by simp,I,dH⟩;clear D I dH;obtain⟨j,hj,rfl,rfl,B,hz,G,d⟩:=hrel;obtain⟨av,cv,rfl⟩:=alT d;obtain⟨A,M⟩:=NV G;by_cases y:j<m
 .have X:j<l.length:=by rw[x.out];exact y
  obtain⟨F,N,O⟩:=(HC.out.below B) j X;have HS:dd (sG (l.take<|j+1)=sG (l.take j)++[Y Z l[j].a,Y Z l[j].c,cd l[j].n]):=by show _=_;rw[uO,aK X,<-alS];rfl
  generalize l[j]=e at*;obtain⟨P,Q,T⟩:=e;simp only at F N O HS;have ae:(j:Int)<(m:Int):=by omega
  have C:=ah B;have HO:=ah G;have ai:j<=2000000:=by omega
  clear B G X;have lb:=Um wr _ F;have J:=Um w _ (HC j<|by rw[x.out];exact y).1;have af:(0:Int)<=(j:Int):=FW _;have ag:(Value.slice av j cv).ownBlock≠V w.1.size:=λh=>by have:=(d.lt _ h).1;omega
  have L:(Value.slice av j cv).ownBlock≠V b:=λh=>by have:=(d.lt _ h).1;simp at J;omega
  have HJ:dd ((j+1)*32<=140737488355328):=by show _<=_;omega
  have HM:dd (j+1<=maxLen):=by show _<=_;unfold maxLen;omega
  clear A J;go_wp2_with fail
  go_region_held3 (λv=>v.cell? (S w.1.size 3 U)=V (.slice (V<|S b i U) m o)/\v.cell? (S b (i+j*3) U)=V (Y Z P)/\v.cell? (S b (i+j*3+1) U)=V (Y Z Q)/\v.cell? (S b (i+j*3+2) U)=V (cd T))
   (first
    |go_keep
    |(go_split_ands
      refine⟨?_,?_,?_,?_⟩
      ·(rw[f.cell_far _ (by simp;omega) (Eg ag)];assumption)
      ·(rw[f.cell_far _ (by simp;omega) (Eg L)];assumption)
      ·(rw[f.cell_far _ (by simp;omega) (Eg L)];assumption)
      ·(rw[f.cell_far _ (by simp;omega) (Eg L)];assumption)))
   ((refine step_append_lies _ (by rfl) _ _ _ (by rfl) (w.1.size+1) 66 iE _ 3 32 underlying37 rH WR WS WT rfl (by omega) (R av j cv) j (sG<|l.take j) (by rfl) ((d.alloc _).drew) (S wr.1.size 0 U) 1 1 [Y Z P,Y Z Q,cd T] (by rfl) (by rfl) (World.news_of_block (cs:=#[Y Z P,Y Z Q,cd T]) (t:=66) (fr:=(0,0))<|QN wr _) (by simp[Value.oneCell']) (by omega) HM.out HJ (by simp;omega) (wr.1.size+1) (by simp) ?_;intro gg ab K cG f ad JB))
  have bF:dd (cD w.1.size w K):=amV ((C.out.alloc C.out.size _).drew) (by simp;omega) ((d.alloc _).drew) f;have kC:dd (K.1[w.1.size]? =V (bi #[Y Z k,Y Z a,cd s,.slice (V<|S b i U) m o] 29 (0,0))):=by show _=_;rw[f.block w.1.size (by simp;omega) ag.symm];exact(dh wr _ w.1.size hz).trans HO
  have qD:dd (K.ownsRow (w.1.size+1) 66 3 (.slice (V<|S gg 0 U) (j+1) ab) (j+1)<|sG<|l.take<|j+1):=by show K.ownsRow _ _ _ _ _ _;rw[HS.out];exact cG
  have iJ:w.1.size<K.1.size:=ank kC;clear cG f ad d ag L lb F N O M;go_wp2;go_roundg (m - (j+1));exact⟨j+1,by omega,rfl,by go_num,bF,iJ,kC,qD⟩;omega
 obtain rfl:j=m:=by omega
 have H:l.take j=l:=jY (by rw[x.out];exact au _);rw[H]at d;obtain⟨g,cg,hv,VW,hE⟩:=alU (by rw[x.out];exact d) (by rw[x.out];exact h0);rw[x.out]at hv VW;rw[hv]at d ⊢;have C:=ah B;have HO:=ah G;have HE:=ah hE;have KD:=ah<|HC.out.below B;have ae:¬(j:Int)<(j:Int):=by omega
 have HG:dd (∀W,vK W g 0 l->cP prog 24 #[cd s,.slice (V<|S g 0 U) j cg] W λe v=>e=bj (cd<|(l.foldl (kJ s) (⟨#[]⟩,0)).1++s.extract (l.foldl (kJ s) (⟨#[]⟩,0)).2 s.size)/\cD W.1.size W v):=λW hW=>Iw s l g 0 j cg W x (by omega) hW (by omega) HA.out
 have HF:dd (∀W,vK W b i l->cP prog 53 #[cd s,.slice (V<|S b i U) j o] W λe v=>e=bj (cd<|(l.foldl (kJ s) (⟨#[]⟩,0)).1++s.extract (l.foldl (kJ s) (⟨#[]⟩,0)).2 s.size)/\cD W.1.size W v):=λW hW=>agB s l b i j o W (by omega) x.out (by omega) hW<|by omega
 obtain⟨r,hr⟩:=ac<|(l.foldl (kJ s) (⟨#[]⟩,0)).1++s.extract (l.foldl (kJ s) (⟨#[]⟩,0)).2 s.size;rw[<-hr]at HG HF;clear B G hE hr hv d H;go_wp2_with fail;refine(HG _ HE.out).mono ?_;rintro ev w1 ⟨rfl,p⟩;have D:=ah<|C.out.trans<|p.mono C.out.size;have I:=ah<|aR p HO;have kB:=ah<|HE.out.below p;have E:=ah<|KD.out.below p;obtain⟨A,M⟩:=NV I.out;clear p;go_wp2_with fail;refine(HF _ E.out).mono ?_;rintro ev w2 ⟨rfl,u⟩;have aG:=ah<|D.out.trans<|u.mono D.out.size;have bP:=ah<|aR u I;have eY:=ah<|kB.out.below u;have aa:=ah<|E.out.below u;clear u A M;go_wp2;go_loopg [7] j (λgk iv W=>∃(q:Nat),q<=j/\gk=j - q/\iv=Y Z q/\cD w2.1.size w2 W);exact⟨0,by omega,rfl,rfl,aA _ _⟩;obtain⟨q,hq,rfl,rfl,z⟩:=hrel;have VC:=aR z bP;obtain⟨A,M⟩:=NV VC;by_cases y:q<j
 .have ou:q<l.length:=(by rw[x.out];exact y);obtain⟨F,N,O⟩:=(aa.out.below z) q ou;obtain⟨g0,g1,g2⟩:=(eY.out.below z) q ou;rw[fV]at g0 g1 g2;generalize l[q]=e at*;obtain⟨P,Q,T⟩:=e;simp only at F N O g0 g1 g2;have JH:(q:Int)<(j:Int):=(by omega);have qu:=ah z;clear z VC ou A;go_wp2_with fail;go_quiet(fail);go_wp2;go_roundg (j - (q+1));exact⟨q+1,by omega,rfl,by go_num,gY qu _⟩;omega
 obtain rfl:q=j:=(by omega);have qu:=ah z;clear z VC A;go_wp2;go_ret;exact⟨rfl,aG.out.trans<|qu.out.mono aG.out.size⟩
def amT(s:bc)(m:Option Addr)(b:Nat)(w:cw)(p:s.size<=140737488355328):cP prog 24 #[cd s,R m 0 b] w λe q=>e=bj (cd<|(⟨#[]⟩:bc)++s)/\cD w.1.size w q:=by
 have u:=ah<|UG w;have d:dd (cD w.1.size w<|w.alloc<|bi #[.pointer U,R U 0 0] 64):=(aA _ _).alloc (au _) _;have hx:s.extract 0 s.size=s:=by simp
 have l:=ah hx;have c:(⟨(([]:List UInt8)++s.data.toList).toArray⟩:bc)=(⟨#[]⟩:bc)++s:=by rw[show([]:List UInt8)=(⟨#[]⟩:bc).data.toList from rfl,<-LH]
 obtain⟨r,a⟩:=ac<|(⟨#[]⟩:bc)++s;rw[<-a]at c ⊢;have k:=ah c;clear c a hx;go_enter func24,ntmps24;go_wp2;refine dN 1 ?_;rw[bB];go_wp2_with fail;try rw[l.out]
 refine(Oq w.1.size w.1.size [] s _ u.out (by simpa using p) d.out.size).mono ?_;rintro o t ⟨rfl,i,g,_⟩;have j:=ah i;have f:dd _:=d.out.trans g;clear i g;go_wp2_with fail;refine(Y9 w.1.size w.1.size _ t j f.out.size).mono ?_;rintro o v ⟨rfl,h⟩;have n:dd _:=f.out.trans h;clear h;rw[k.out];go_wp2;go_ret;exact⟨rfl,n⟩
def aj4(k a:Int)(s:bc)(f:Option Addr)(b:Nat)(w:cw)(x:s.size<=10000000):cP prog 34 #[df #[Y Z k,Y Z a,cd s,R f 0 b]] w λe g=>e=bj (ce db)/\cD w.1.size w g:=by
 have n:dd (cD w.1.size w<|w.alloc<|bi #[Y Z k,Y Z a,cd s,R f 0 b] 29):=(aA _ _).alloc (au _) _;have q:dd ((w.alloc<|bi #[Y Z k,Y Z a,cd s,R f 0 b] 29).1[w.1.size]? =V (bi #[Y Z k,Y Z a,cd s,R f 0 b] 29 (0,0))):=by show(w.heap.push _)[w.1.size]? =_;simp
 have i:dd (∀W,cP prog 24 #[cd s,R U 0 0] W λe g=>e=bj (cd<|(⟨#[]⟩:bc)++s)/\cD W.1.size W g):=λW=>amT s U 0 W<|by omega
 have h:dd (∀W,cP prog 53 #[cd s,R f 0 b] W λe g=>e=bj (cd<|(⟨#[]⟩:bc)++s)/\cD W.1.size W g):=λW=>agC s f b W<|by omega
 obtain⟨r,o⟩:=ac<|(⟨#[]⟩:bc)++s;rw[<-o]at i h;clear o;go_enter func34,ntmps34;go_wp2;refine dN 1 ?_;rw[bB];go_wp2_with fail;refine(i _).mono ?_;rintro v y ⟨rfl,c⟩;have j:=ah<|n.out.trans<|c.mono n.out.size;have p:=ah<|aR c q;obtain⟨l,m⟩:=NV p.out;clear c;go_wp2_with fail;refine(h _).mono ?_;rintro v z ⟨rfl,d⟩;have t:=ah<|j.out.trans<|d.mono j.out.size;have u:=ah<|aR d p;clear d l m;obtain⟨l,m⟩:=NV u.out;go_wp2;refine dN 1 ?_;rw[bB];go_wp2;go_ret;exact⟨rfl,t⟩
def AX(w:cw)(o:o6):Prop:=o.s.size<=1048576/\((∃f a,o.e=R f 0 a)∨∃b c m a,∃d:List Ed,o.e= .slice (V<|S b c U) m a/\d.length=m/\0<m/\m<=1048576/\vK w b c d/\iu d<=1048576/\∀e∈d,e.a<=9223372036854775807)
def aj2(o:o6)(w:cw)(h:AX w o):cP prog 34 #[qK o] w λe t=>e=bj (ce db)/\cD w.1.size w t:=by obtain⟨k,a,s,v⟩:=o;obtain⟨g,⟨i,c,d⟩|⟨b,f,m,c,j,d,q,l,r,p,u,n⟩⟩:=h;simp only at d g;subst d;exact aj4 k a s i c w (by omega);simp only at d g;subst d;exact aj3 k a s j b f m c w q l r p (by omega) n
def AX.below {w e:cw}{o:o6}(h:AX w o)(l:cD w.1.size w e):AX e o:=by obtain⟨d,h|⟨b,c,m,a,f,n,p,g,q,j,k,i⟩⟩:=h;exact⟨d,.inl h⟩;exact⟨d,.inr ⟨b,c,m,a,f,n,p,g,q,j.below l,k,i⟩⟩
def aqP(o:o6)(w:cw)(i:o.k=7)(h:AX w o):cP prog 18 #[qK o] w λe g=>e=bj (ce db)/\cD w.1.size w g:=by
 have d:dd (∀W,cD w.1.size w W->cP prog 34 #[qK o] W λe g=>e=bj (ce db)/\cD W.1.size W g):=λW l=>aj2 o W<|h.below l
 clear h;obtain⟨k,a,s,m⟩:=o;simp only at i;subst i;unfold qK at d ⊢;simp only at d ⊢;have b:cD w.1.size w (w.alloc<|bi #[Y Z 7,Y Z a,cd s,m] 29):=(aA _ _).alloc (au _) _;have f:=ah b;clear b;go_enter func18,ntmps18;go_wp2_with fail;refine(d _ f.out).mono ?_;rintro e n ⟨rfl,c⟩;have j:=ah<|f.out.trans<|c.mono f.out.size;clear c;go_wp2;go_ret;exact⟨rfl,j⟩
section
open Go
def ajC:prog.laidByTextLater (Rows.allUptoRow.laid.take 13) [.data,.data,.data,.data,.data,.data,.data,.handle,.data,.data,.sentinel,.sentinel,.sentinel] true:=
 Program.laidByTextLater_by_one 163 8 109 (by kernel_rfl) (by kernel_rfl) (by kernel_rfl) (by kernel_rfl) (by kernel_rfl) (by kernel_rfl) (λ_ _=>by kernel_rfl)
def ajD:Tryz.pinned.checked.prog.headLifts.contains "ownunsafe" =da:=by kernel_rfl
def ajA:Tryz.pinned.checked.prog.listedFits Rows.allUptoRow.laid=true:=by unfold Program.listedFits;rw[ajD];kernel_rfl
def ajB:Rows.allUptoRow.laidByTextAt .later Tryz.pinned [.data,.data,.data,.data,.data,.data,.data,.handle,.data,.data,.sentinel,.sentinel,.sentinel,.pinned,.pinned] true:=
 OpenClaim.laidByTextAt_pinned rfl rfl ajC rfl rfl rfl rfl (λy a e=>by
  simp only[Rows.allUptoRow,List.zip_cons_cons,List.zip_nil_right,gI,List.mem_nil_iff,Hg]at a;rcases a with rfl|rfl|rfl|rfl|rfl|rfl|rfl|rfl|rfl|rfl|rfl|rfl|rfl|rfl|rfl;all_goals cases e
  all_goals exact⟨by kernel_rfl,by kernel_rfl⟩) ajA
end
section
open Go.ChangeShapes Go.WideShapes Go.ChangeAt Go.RowKit Go.Deep Go.Lib
def own:ownKnob prog.godebug=U:=by kernel_rfl
def L1:prog.cellsOf 9=1:=by kernel_rfl
def ND:List (String×DataW Unit):=[("bidiguard/parts.lineComment",Rows.laid_bidiguard_parts_lineComment),("bidiguard/parts.blockBegins",Rows.laid_bidiguard_parts_blockBegins),("bidiguard/parts.blockEnds",Rows.laid_bidiguard_parts_blockEnds),("math/bits.deBruijn32tab",Rows.laid_math_bits_deBruijn32tab),("math/bits.deBruijn64tab",Rows.laid_math_bits_deBruijn64tab),("internal/strconv.uint64pow10",Rows.laid_internal_strconv_uint64pow10),("unicode/utf8.acceptRanges",Rows.laid_unicode_utf8_acceptRanges),("bidiguard/bidi.bracketPairs",Rows.laid_bidiguard_bidi_bracketPairs),("bidiguard/bidi.spans",Rows.laid_bidiguard_bidi_spans),("bidiguard/guard.ErrLong",Rows.laid_bidiguard_guard_ErrLong),("bidiguard/guard.ErrText",Rows.laid_bidiguard_guard_ErrText),("bidiguard/guard.ErrCode",Rows.laid_bidiguard_guard_ErrCode),("unicode.CaseRanges",Rows.laid_unicode_CaseRanges),("unicode/utf8.first",Rows.laid_unicode_utf8_first)]
end
section
open Go.ChangeShapes Go.WideShapes Go.ChangeAt Go.RowKit Go.Deep Go.Lib
def FO:prog.cellsOf 29=4:=by kernel_rfl
def PK:prog.cellsOf 3=1:=by kernel_rfl
def ak3:prog.cellsOf 27=1:=by kernel_rfl
def akV:prog.bytesOf 29=56:=by kernel_rfl
def laidOut:laidOutB prog=true:=by kernel_rfl
end
section
open Go.ChangeShapes Go.WideShapes Go.ChangeAt Go.RowKit Go.Deep Go.Lib
def E0(w:cw):cw:={w with heap:=w.heap.modify 5 fun
 | bi _ t fr=>bi ((Lib.firstTab.map λz=>Value.int .u8 z).toArray) t fr
 |o=>o}
def G6(w:cw):cw:={w with heap:=(w.heap.push<|bi Lib.caseCells5 351 (0,0)).modify 12 fun
 | bi _ t fr=>bi #[.slice (V<|S w.1.size 0 U) 336 336] t fr
 |o=>o}
def T4 {P:Program}{w:World}:∀{l c:List (String×DataW Unit)}{b:List MemPlace},DataW.LaidVars P w (l++c) b->∃p q,DataW.LaidVars P w l p/\DataW.LaidVars P w c q/\b=p++q
 |[],_,b,h=>⟨[],b,rfl,h,rfl⟩
 |(n,d)::r,c,b,h=>by obtain⟨g,t,e,a,p,q,f,i,j,k,m,rfl⟩:=h;obtain⟨u,v,o,s,rfl⟩:=T4 m;exact⟨_,v,⟨g,t,e,a,p,u,f,i,j,k,o,rfl⟩,s,by simp[dY]⟩
def aoQ {P:Program}{w:World}{a b c:List (String×DataW Unit)}(h:laidMet P (a++b++c) w):laidMet P (a++c++b) w:=by
 obtain⟨s,n,q,o⟩:=h;obtain⟨r,g,j,k,rfl⟩:=T4 n;obtain⟨d,f,l,m,rfl⟩:=T4 j;have i:(d++f++g).Perm (d++g++f):=by rw[dY,dY];exact List.Perm.append_left d ajo
 exact⟨d++g++f,LaidVars_append (LaidVars_append l k) m,i.nodup_iff.1 q,λb e p=>o b e<|i.mem_iff.2 p⟩
def NZ:List (String×DataW Unit):=Rows.classesRow.laid.filter λx=>x.2.handleName?.isNone
def aqg:NZ=NZ.take 12++[("unicode.CaseRanges",Lib.caseData)]++NZ.drop 13:=by rw[<-Pinned.caseRanges_eq];rfl
def at5(a:Os)(args:Array Value):laidMet prog (NZ.take 12++NZ.drop 13++[("unicode.CaseRanges",Lib.caseData)]) ((G6<|E0<|World.doorLaid prog 200 a).forCall (λ_ _=>0) ⟨#[],args,[]⟩).memory:=
 laidMet_with_case (ρ:=Tryz.lays203_ren) {Tryz.lays203 with} Tryz.lays203.t206 ⟨by kernel_rfl,by kernel_rfl,by kernel_rfl,by kernel_rfl,by kernel_rfl,by kernel_rfl⟩
  8 (by kernel_rfl) (by kernel_rfl) (by kernel_rfl) (E0<|World.doorLaid prog 200 default).1.size 351 (J3<|by kernel_rfl) (by kernel_rfl) (by kernel_rfl) (by kernel_rfl)
def at6(a:Os)(args:Array Value):laidMetH prog Rows.classesRow.laid ((G6<|E0<|World.doorLaid prog 200 a).forCall (λ_ _=>0) ⟨#[],args,[]⟩).memory:=
 laidMetH_of_parts3 (fuel:=8) (by have:=aoQ<|at5 a args;rw[<-aqg]at this;exact this) (by kernel_rfl) (by kernel_rfl)
end
section
open Go.ChangeShapes Go.WideShapes Go.ChangeAt Go.RowKit Go.Deep Go.Lib
def amN:prog.globalNamed "bidiguard/guard.ErrLong" =V 0:=by kernel_rfl
def amO:prog.globalNamed "bidiguard/guard.ErrText" =V 1:=by kernel_rfl
def amM:prog.globalNamed "bidiguard/guard.ErrCode" =V 2:=by kernel_rfl
def ata:(prog.globals[0]?).map (·.type)=V 53:=by kernel_rfl
def atc:(prog.globals[1]?).map (·.type)=V 53:=by kernel_rfl
def as9:(prog.globals[2]?).map (·.type)=V 53:=by kernel_rfl
def UW:prog.cellsOf 372=1:=by kernel_rfl
def star: "*" ++ "errors.errorString" = "*errors.errorString" :=by decide
def YK(u:TypeId)(h:prog.typeName? 3 u=V "*errors.errorString"):u=354:=
 typeName_ptr_named (nm:= "errors.errorString") (by rw[star];kernel_rfl) (by kernel_rfl) (by decide) u (by rw[star];exact h)
def VL:List (String×DataW Unit):=[("bidiguard/guard.ErrLong",Rows.laid_bidiguard_guard_ErrLong),("bidiguard/guard.ErrText",Rows.laid_bidiguard_guard_ErrText),("bidiguard/guard.ErrCode",Rows.laid_bidiguard_guard_ErrCode)]
def apY {W:World}(h:laidMet prog VL W):∃(b c d:Addr)(o p q:Array Value)(t0 t1 t2:TypeId),W.cell? ⟨0,0,none⟩=some (.iface 354 (.pointer<|some b))/\W.cell? ⟨1,0,none⟩=some (.iface 354 (.pointer<|some c))/\W.cell? ⟨2,0,none⟩=some (.iface 354 (.pointer<|some d))/\b≠c/\c≠d/\b≠d/\W.1[b.block]? =some (.cells o t0 (0,0))/\W.1[c.block]? =some (.cells p t1 (0,0))/\W.1[d.block]? =some (.cells q t2 (0,0)):=by
 obtain⟨ps,⟨Z,t0,r,f0,p0,q0,f,D,k,z,⟨g1,t1,s,f1,p1,q1,g,E,l,A,⟨g2,t2,t,f2,p2,Y,i,F,m,B,C,L⟩,K⟩,J⟩,j,a⟩:=h;obtain rfl:=aI<|amN.symm.trans f;obtain rfl:=aI<|amO.symm.trans g;obtain rfl:=aI<|amM.symm.trans i;obtain rfl:=aI<|ata.symm.trans D;obtain rfl:=aI<|atc.symm.trans E;obtain rfl:=aI<|as9.symm.trans F;have n:Y=[]:=C;subst n;subst L;subst K;subst J;obtain⟨V⟩:=r;obtain⟨l1⟩:=s;obtain⟨X⟩:=t;have G:∀u v,V=[.iface u v]->Value.okWide prog W .any 0 u v:=λu v e=>by subst e;exact(a 0 0<|by simp[MemPlace.row]).2 u v (by simpa using IX f k 0)
 have H:∀u v,l1=[.iface u v]->Value.okWide prog W .any 0 u v:=λu v e=>by subst e;exact(a 1 0<|by simp[MemPlace.row]).2 u v (by simpa using IX g l 0)
 have I:∀u v,X=[.iface u v]->Value.okWide prog W .any 0 u v:=λu v e=>by subst e;exact(a 2 0<|by simp[MemPlace.row]).2 u v (by simpa using IX i m 0)
 obtain⟨b,s0,rfl,M,P,S,rfl⟩:=mK underlying53 YK underlying354 underlying372 rfl rfl underlying9 UW L1 z G;obtain⟨c,s1,rfl,N,Q,T,rfl⟩:=mK underlying53 YK underlying354 underlying372 rfl rfl underlying9 UW L1 A H;obtain⟨d,s2,rfl,O,R,U,rfl⟩:=mK underlying53 YK underlying354 underlying372 rfl rfl underlying9 UW L1 B I;obtain⟨o,t0,w⟩:=(a b.block b.off<|by simp[MemPlace.row]).1;obtain⟨p,t1,x⟩:=(a c.block c.off<|by simp[MemPlace.row]).1;obtain⟨q,t2,y⟩:=(a d.block d.off<|by simp[MemPlace.row]).1;refine⟨b,c,d,o,p,q,t0,t1,t2,by simpa using IX f k 0,by simpa using IX g l 0,by simpa using IX i m 0,?_,?_,?_,w,x,y⟩;rintro rfl;simp[MemPlace.row]at j;rintro rfl;simp[MemPlace.row]at j;rintro rfl;simp[MemPlace.row]at j
def Q3:prog.globalNamed "bidiguard/bidi.spans" =V 4:=by kernel_rfl
def atb:(prog.globals[4]?).map (·.type)=V 176:=by kernel_rfl
def FT:prog.cellsOf 175=3:=by kernel_rfl
def PJ:prog.cellsOf 21=1:=by kernel_rfl
def ak2:prog.cellsOf 108=1:=by kernel_rfl
def ak5:prog.cellsOf 176=108:=by kernel_rfl
def Og {H:Type}(x:Int×Int×Int):DataW H:= .agg [.lit (.int .i32 x.1),.lit (.int .i32 x.2.1),.lit (.int .i64 x.2.2)]
def asP:Rows.laid_bidiguard_bidi_spans (H:=Unit)= .agg (jB.map Og):=by kernel_rfl
def Oe(x:Int×Int×Int):List cJ:=[Y .i32 x.1,Y .i32 x.2.1,Y Z x.2.2]
def asO:(jB.flatMap Oe).toArray=AP:=by kernel_rfl
def asN {H:Type}{i:TypeId×Value->H}{w:World}{d:Nat}{v:Nat->Bool}{f:Bool}{e:Nat}{g:List Value}{x:Int×Int×Int}{p:List MemPlace} (h:DataW.trod i prog w d v f e 175 g=some (Og x,p)):g=Oe x:=by
 obtain⟨y,z,A,n,hx,m,o,q,r⟩:=trod_struct3 underlying175 h;rw[FT]at m
 match g,m with
 |[c0,c1,c2],_=>obtain⟨a,j,rfl,_⟩:=zH underlying21 (by simpa [PJ]using o);obtain⟨b,k,rfl,_⟩:=zH underlying21 (by simpa [PJ]using q);obtain⟨c,l,rfl,_⟩:=zH underlying108 (by simpa [ak2]using r);simp[Og]at hx j k l;obtain⟨⟨s,t,u⟩,_⟩:=hx;subst j k l;simp[Oe,s,t,u]
def NU(f:Int×Int×Int->List cJ)(b:∀x,(f x).length=3)(L:List<|Int×Int×Int)(a:List cJ)(h:∀i (c:i<L.length),(a.drop<|i*3).take 3=f L[i]):∀i,i<=L.length->a.take (i*3)=(L.take i).flatMap f
 |0,_=>by simp
 |i+1,c=>by have ih:=NU f b L a h i (by omega);rw[show(i+1)*3=i*3+3 by omega,List.take_add,ih,h i<|by omega,pR<|by omega,T7];simp
def asR {W:World}(h:VarReads prog W "bidiguard/bidi.spans" Rows.laid_bidiguard_bidi_spans):∃t k,W.1[4]? =some (.cells AP t k):=by
 obtain⟨g,t,j,r,p,w,q,a,s⟩:=h;obtain rfl:=aI<|Q3.symm.trans w;obtain rfl:=aI<|atb.symm.trans q;rw[asP]at s;obtain⟨e,m,_,hx,d,A,b⟩:=Sr underlying176 s;rw[ak5]at d;rw[FT]at b;have C:e.map (·.1)=jB.map Og:=by have:=congrArg Prod.fst hx;simpa using this.symm
 have z:jB.length=36:=rfl;have o:j.toList=jB.flatMap Oe:=by have:=NU Oe (λ_=>rfl) jB j.toList (λi y=>by have f:i<36:=(by omega);have u:=b i f;rw[aK<|by omega]at u;have v:e[i].1=Og jB[i]:=(by have:=congrArg (λl:List (DataW Unit)=>l[i]?) C;simp only[jC,aK (show i<e.length by omega),aK y,IP,CZ]at this;exact this);exact asN (p:=e[i].2)<|by rw[u];exact congrArg some (Prod.ext v rfl)) 36 (by omega);rw[jY<|by omega,jY<|by omega]at this;exact this
 have n:j=AP:=by rw[<-asO,<-o]
 subst n;unfold World.var? at a;rw[Q3]at a;simp only[Ui]at a;split at a;rename_i c B k x;cases a;exact⟨B,k,x⟩;cases a
def amd:(ND.filter λx=>x.1== "bidiguard/guard.ErrLong" ||x.1== "bidiguard/guard.ErrText" ||x.1== "bidiguard/guard.ErrCode")=VL:=by kernel_rfl
def amz:Rows.laid_unicode_utf8_first=firstData:=by kernel_rfl
def ajE:Rows.laid_unicode_utf8_acceptRanges (H:=Unit)=acceptData:=by kernel_rfl
def etG:prog.globalNamed "errors.errorType" =V 3:=by kernel_rfl
def rtT:(prog.cutTypes.find? (·.1== "internal/reflectlite.rtype")).map (·.2)=V 223:=by kernel_rfl
def ap1:((List.range 383).filter λt=>prog.rowNamed t [101,114,114,111,114])=[53]:=by kernel_rfl
def apz:prog.types.size=383:=by kernel_rfl
def al9 {W:World}(h:laidMetH prog Rows.classesRow.laid W):∃aL z y,Env W aL z y:=by
 have I:laidMet prog ND W/\handlesMet prog [("errors.errorType",Rows.laid_errors_errorType)] W:=h;obtain⟨b,J⟩:=I;have p:=b.filter λx=>x.1== "bidiguard/guard.ErrLong" ||x.1== "bidiguard/guard.ErrText" ||x.1== "bidiguard/guard.ErrCode"
 rw[amd]at p;obtain⟨s,v,w,A,B,C,t0,t1,t2,i,j,k,r,d,c,e,f,g⟩:=apY p;have a:Lib.Utf8Tabs (Tryz.lays196_ren.g 3) (Tryz.lays196_ren.g 4) W:=
  utf8Tabs_of_readsT (U8Types.of196 Tryz.lays196) ⟨by kernel_rfl,by kernel_rfl,by kernel_rfl,by kernel_rfl,by kernel_rfl,by kernel_rfl,by kernel_rfl⟩
   (amz▸Lib.laidMet.reads b (.tail _ (.tail _ (.tail _ (.tail _ (.tail _ (.tail _ (.tail _ (.tail _ (.tail _ (.tail _ (.tail _ (.tail _ (.tail _ (.head _)))))))))))))))
   (ajE▸Lib.laidMet.reads b (.tail _ (.tail _ (.tail _ (.tail _ (.tail _ (.tail _ (.head _))))))))
 have m:=asR<|Lib.laidMet.reads b (.tail _ (.tail _ (.tail _ (.tail _ (.tail _ (.tail _ (.tail _ (.tail _ (.head _)))))))));have l:W.cell? ⟨3,0,none⟩=some (.iface 223 (.agg #[.pointer<|some ⟨16,53,none⟩])):=by
  obtain⟨name,u,K,D,E,F,G,o⟩:=J _ (r7.2 rfl);have H:name=[101,114,114,111,114]:=(aI D).symm;subst H;obtain rfl:=aI<|rtT.symm.trans E;have q:K∈(List.range 383).filter λt=>prog.rowNamed t [101,114,114,111,114]:=uN.2 ⟨IG.2<|by rw[<-apz];exact F,G⟩
  rw[ap1]at q;obtain rfl:=r7.1 q;have n:typeHandle prog 53= .pointer (some ⟨16,53,none⟩):=by kernel_rfl
  rw[n]at o;simpa using IX etG o 0
 exact⟨s,v,w,i,j,k,l,a,m,r,d,c,⟨A,t0,e⟩,⟨B,t1,f⟩,⟨C,t2,g⟩⟩
end
section
open Go.ChangeShapes Go.WideShapes Go.ChangeAt Go.RowKit Go.Deep Go.Lib
def Q0:prog.globalNamed "bidiguard/bidi.bracketPairs" =V 11:=by kernel_rfl
def as8:(prog.globals[11]?).map (·.type)=V 304:=by kernel_rfl
def Fh:prog.cellsOf 303=2:=by kernel_rfl
def akZ:prog.cellsOf 304=8:=by kernel_rfl
def ak0:prog.cellsOf 21=1:=by kernel_rfl
def Ga:List (Int×Int):=[(40,41),(91,93),(123,125),(12296,12297)]
def LU {H:Type}(x:Int×Int):DataW H:= .agg [.lit (.int .i32 x.1),.lit (.int .i32 x.2)]
def akI:Rows.laid_bidiguard_bidi_bracketPairs (H:=Unit)= .agg (Ga.map LU):=by kernel_rfl
def LR(x:Int×Int):List cJ:=[Y .i32 x.1,Y .i32 x.2]
def akH:(Ga.flatMap LR).toArray=uX:=by kernel_rfl
def akK {H:Type}{k:TypeId×Value->H}{w:World}{e:Nat}{y:Nat->Bool}{g:Bool}{f:Nat}{j:List Value}{x:Int×Int}{p:List MemPlace} (h:DataW.trod k prog w e y g f 303 j=some (LU x,p)):j=LR x:=by
 obtain⟨i,m,_,hx,c,t,d⟩:=Sr underlying303 h;rw[Fh]at c;rw[ak0]at d;have s:i.map (·.1)=[.lit (.int .i32 x.1),.lit (.int .i32 x.2)]:=by have:=congrArg Prod.fst hx;simpa [LU]using this.symm
 match j,c with
 |[c0,c1],_=>
  have n:=d 0 (by omega);have o:=d 1 (by omega);rw[aK<|by omega]at n o;have f0:i[0].1= .lit (.int .i32 x.1):=by have:=congrArg (λl:List (DataW H)=>l[0]?) s;simpa [jC,aK (show 0<i.length by omega)]using this
  have f1:i[1].1= .lit (.int .i32 x.2):=by have:=congrArg (λl:List (DataW H)=>l[1]?) s;simpa [jC,aK (show 1<i.length by omega)]using this
  obtain⟨a,q,u,_⟩:=zH underlying21 (by simpa using n);obtain⟨b,r,v,_⟩:=zH underlying21 (by simpa using o);rw[u]at f0;rw[v]at f1;simp at q r f0 f1;subst q r;simp[LR,f0,f1]
def OD(f:Int×Int->List cJ)(b:∀x,(f x).length=2)(L:List<|Int×Int)(a:List cJ)(h:∀i (c:i<L.length),(a.drop<|i*2).take 2=f L[i]):∀i,i<=L.length->a.take (i*2)=(L.take i).flatMap f
 |0,_=>by simp
 |i+1,c=>by have ih:=OD f b L a h i (by omega);rw[show(i+1)*2=i*2+2 by omega,List.take_add,ih,h i<|by omega,pR<|by omega,T7];simp
def akM {W:World}(h:VarReads prog W "bidiguard/bidi.bracketPairs" Rows.laid_bidiguard_bidi_bracketPairs):Br W:=by
 obtain⟨g,t,f,q,p,w,o,a,r⟩:=h;obtain rfl:=aI<|Q0.symm.trans w;obtain rfl:=aI<|as8.symm.trans o;rw[akI]at r;obtain⟨e,m,_,hx,d,A,b⟩:=Sr underlying304 r;rw[akZ]at d;rw[Fh]at b;have C:e.map (·.1)=Ga.map LU:=by have:=congrArg Prod.fst hx;simpa using this.symm
 have z:Ga.length=4:=rfl;have k:f.toList=Ga.flatMap LR:=by have:=OD LR (λ_=>rfl) Ga f.toList (λi y=>by have n:i<4:=(by omega);have s:=b i n;rw[aK<|by omega]at s;have v:e[i].1=LU Ga[i]:=(by have:=congrArg (λl:List (DataW Unit)=>l[i]?) C;simp only[jC,aK (show i<e.length by omega),aK y,IP,CZ]at this;exact this);exact akK (p:=e[i].2)<|by rw[s];exact congrArg some (Prod.ext v rfl)) 4 (by omega);rw[jY<|by omega,jY<|by omega]at this;exact this
 have j:f=uX:=by rw[<-akH,<-k]
 subst j;unfold World.var? at a;rw[Q0]at a;simp only[Ui]at a;split at a;rename_i c B u x;cases a;exact⟨B,u,x⟩;cases a
def akL {W:World}(h:laidMetH prog Rows.classesRow.laid W):Br W:=by have a:laidMet prog ND W/\handlesMet prog [("errors.errorType",Rows.laid_errors_errorType)] W:=h;exact akM<|Lib.laidMet.reads a.1 (.tail _ (.tail _ (.tail _ (.tail _ (.tail _ (.tail _ (.tail _ (.head _))))))))
end
section
open Go.ChangeShapes Go.WideShapes Go.ChangeAt Go.RowKit Go.Deep Go.Lib
def ak4:prog.cellsOf 246=2:=by kernel_rfl
def Gi:prog.cellsOf 5=1:=by kernel_rfl
def Y4 {W:World}{name:String}{e:Nat}{a b:Int}(s:prog.globalNamed name=some e)(A:(prog.globals[e]?).map (·.type)=some 246)(h:VarReads prog W name (.agg [.lit (.int .u8 a),.lit (.int .u8 b)])):∃t f,W.1[e]? =some (.cells #[.int .u8 a,.int .u8 b] t f):=by
 obtain⟨g,t,k,q,p,y,j,d,x⟩:=h;obtain rfl:=aI<|s.symm.trans y;obtain rfl:=aI<|A.symm.trans j;obtain⟨G,H,n,hx,r,v,w⟩:=trod_struct2 underlying246 x;rw[ak4]at r;have i:k=#[.int .u8 a,.int .u8 b]:=by
  obtain⟨l⟩:=k
  match l,r with
  |[c0,c1],_=>obtain⟨E,m,rfl,_⟩:=zH underlying5 (by simpa [Gi]using v);obtain⟨F,o,rfl,_⟩:=zH underlying5 (by simpa [Gi]using w);simp at hx m o;obtain⟨⟨B,C⟩,_⟩:=hx;subst m o;simp[B,C]
 subst i;unfold World.var? at d;rw[s]at d;simp only[Ui]at d;split at d;rename_i c D u z;cases d;exact⟨D,u,z⟩;cases d
def aqH {W:World}(h:laidMetH prog Rows.partsRow.laid W):kH W:=by have a:laidMet prog ND W/\handlesMet prog [("errors.errorType",Rows.laid_errors_errorType)] W:=h;exact⟨Y4 (by kernel_rfl) (by kernel_rfl)<|Lib.laidMet.reads a.1 (.head _),Y4 (by kernel_rfl) (by kernel_rfl)<|Lib.laidMet.reads a.1 (.tail _ (.head _)),Y4 (by kernel_rfl) (by kernel_rfl)<|Lib.laidMet.reads a.1 (.tail _ (.tail _ (.head _)))⟩
end
section
open Go.ChangeShapes Go.WideShapes Go.ChangeAt Go.RowKit Go.Deep Go.Lib
def gTz:prog.globalNamed "math/bits.deBruijn64tab" =V 15:=by kernel_rfl
def tTz:(prog.globals[15]?).map (·.type)=V 353:=by kernel_rfl
def ak6:prog.cellsOf 5=1:=by kernel_rfl
def atE:∃L:List<|DataW Unit,Rows.laid_math_bits_deBruijn64tab (H:=Unit)= .agg L/\L[15]? =some (.lit (.int .u8 4)):=⟨_,rfl,rfl⟩
def atG {W:World}(h:laidMetH prog Rows.classesRow.laid W):rq W:=by
 have w:laidMet prog ND W/\handlesMet prog [("errors.errorType",Rows.laid_errors_errorType)] W:=h;obtain⟨g,t,u,j,p,y,e,b,k⟩:=Lib.laidMet.reads w.1 (.tail _ (.tail _ (.tail _ (.tail _ (.head _)))));obtain rfl:=aI<|gTz.symm.trans y;obtain rfl:=aI<|tTz.symm.trans e;obtain⟨L,v,i⟩:=atE;rw[v]at k;obtain⟨s,m,_,hx,o,A,d⟩:=Sr underlying353 k;rw[ak6]at d;have B:L=s.map (·.1):=by have:=congrArg Prod.fst hx;simpa using this
 have n:=d 15 (by omega);rw[aK<|by omega]at n;have f:s[15].1= .lit (.int .u8 4):=by rw[B,jC,aK<|by omega]at i;simpa using i
 obtain⟨a,q,r,_⟩:=zH underlying5 n;rw[r]at f;simp only[DataW.lit.injEq,Lit.int.injEq,lq]at f;subst f;have x:u[15]? =some (.int .u8 4):=by have:=congrArg (λl:List Value=>l[0]?) q;simpa [Ph,zS]using this
 unfold World.var? at b;rw[gTz]at b;simp only[Ui]at b;split at b;rename_i c D C z;cases b;exact(az z 15).trans x;cases b
end
section
variable{H:Type}{enc:TypeId×Value->H}
def apl {W:cw}(h:W.ShapedOpen prog):uQ W:=by exact cell_of_shapedOpen_int (P:=prog) (g:=10) (t:=3) (zero:=#[Y Z 0]) h (J3<|by kernel_rfl) (by kernel_rfl) rfl (by kernel_rfl) (by kernel_rfl) underlying3
end
