import Derived.Test.YtkbinfhclaafhaaGreatDoorW14
import Derived.Great.Frames
namespace Go.Proofs.YtkbinfhclaafhaaGreatDoor
open Go.RowKit
open Go.Proofs.Tryz
set_option maxRecDepth 100000
set_option maxHeartbeats 32000000
set_option linter.all false
open Go.Value renaming int->Y,slice->R,string->cd,bool->ce,tuple->de,agg->df
open Go.IntKind renaming i64->Z
open Option renaming none->U,some->V
open Go.Addr renaming mk->S
open Go.Obj renaming cells->bi
open Go.Ending renaming returned->bj
open Go renaming World->cw,Value->cJ,Calls->cP
open Go.RowKit renaming Below->cD,Hid->dd
open Bool renaming false->da,true->db
structure Ed where
 a:Int
 c:Int
 n:bc
def vK(w:cw)(b d:Nat)(e:List Ed):Prop:=∀i (h:i<e.length),w.cell? (S b (d+i*3) U)=V (Y Z e[i].a)/\w.cell? (S b (d+i*3+1) U)=V (Y Z e[i].c)/\w.cell? (S b (d+i*3+2) U)=V (cd e[i].n)
def vK.below {w e:cw}{b a:Nat}{d:List Ed}(h:vK w b a d)(c:cD w.1.size w e):vK e b a d:=λi f=>
 let⟨h1,h2,h3⟩:=h i f
 ⟨cU c h1,cU c h2,cU c h3⟩
def Dx(s:bc)(p:Nat)(e:Ed):Bool:=decide ((p:Int)<=e.a)&&(decide (0<=e.c)&&(decide (e.a<=(s.size:Int))&&decide (e.c<=(s.size:Int) - e.a)))
def iu(a:List Ed):Nat:=(a.map (·.n.size)).sum
def R6(a b:List Ed):iu (a++b)=iu a+iu b:=by simp[iu]
def R7(a:List Ed)(k:Nat):iu (a.take k)<=iu a:=by
 have:iu a=iu (a.take k)+iu (a.drop k):=by rw[<-R6,Ug]
 omega
def kJ(s:bc)(x:bc×Nat)(e:Ed):bc×Nat:=if Dx s x.2 e=db then(x.1++s.extract x.2 e.a.toNat++e.n,(e.a+e.c).toNat)else x
def agB(s:bc)(a:List Ed)(b x m z:Nat)(w:cw)(hs:s.size<=1000000000000000)(H:a.length=m)(hm:m<=1000000000000000)(G:vK w b x a)(hN:iu a<=1000000000000000):cP prog 53 #[cd s,.slice (V<|S b x U) m z] w λe w'=>e=bj (cd<|(a.foldl (kJ s) (⟨#[]⟩,0)).1++s.extract (a.foldl (kJ s) (⟨#[]⟩,0)).2 s.size)/\cD w.1.size w w':=by
 have I:=ah G;have C:=ah H;clear G H;go_enter func53,ntmps53;go_wp2;go_loopg [5,6,7] m (λgk X T iv W=>∃(k p:Nat)(t:bc),k<=m/\gk=m - k/\X=cd t/\T=Y Z p/\iv=Y Z k/\p<=s.size/\t.size<=p+iu (a.take k)/\cD w.1.size w W/\(a.take k).foldl (kJ s) (⟨#[]⟩,0)=(t,p));exact⟨0,0,⟨#[]⟩,by omega,rfl,rfl,rfl,rfl,by omega,lB _,aA _ _,rfl⟩;obtain⟨k,p,t,hk,rfl,rfl,rfl,rfl,y,ht,u,v⟩:=hrel;have Q:=R7 a k;have R:t.size<=2000000000000000:=by omega
 have g:=u.size;by_cases B:k<m
 .have o:k<a.length:=by rw[C.out];exact B
  obtain⟨M,N,O⟩:=(I.out.below u) k o;have c:(a.take<|k+1).foldl (kJ s) (⟨#[]⟩,0)=kJ s (t,p) a[k]:=by rw[uO,aK o,CY,v];rfl
  have A:(k:Int)<(m:Int):=by omega
  have l:=ah u;have q:iu (a.take<|k+1)=iu (a.take k)+a[k].n.size:=by rw[uO,aK o,R6];simp[iu]
  generalize a[k]=e at*;obtain⟨f,i,F⟩:=e;simp only at M N O q;have r:=ah q;clear q;unfold kJ Dx at c;simp only at c;clear u v;by_cases h1:(p:Int)<=f
  .by_cases h2:0<=i
   .by_cases h3:f<=(s.size:Int)
    .by_cases h4:i<=(s.size:Int) - f
     .obtain⟨d,rfl⟩:∃d:Nat,f=d:=⟨f.toNat,by omega⟩
      obtain⟨j,rfl⟩:∃j:Nat,i=j:=⟨i.toNat,by omega⟩
      rw[aj<|by simp;omega]at c;have D:((d:Int)).toNat=d:=(by omega);have E:((d:Int)+(j:Int)).toNat=d+j:=(by omega);rw[D,E]at c;have h:=ah c;have g1:¬(d:Int)<(p:Int):=(by omega);have g2:¬(j:Int)<0:=(by omega);have g3:¬(s.size:Int)<(d:Int):=(by omega);have g4:¬(s.size:Int) - (d:Int)<(j:Int):=(by omega);have g5:(d:Int)<=(s.size:Int):=(by omega);have hx:(s.extract p d).size=d - p:=(by rw[A4];omega);have P:=r.out;have K:dd ((t++s.extract p d++F).size<=d+j+iu (a.take<|k+1)):=(by show _<=_;rw[DN,DN,hx];omega);have L:F.size<=1000000000000000:=(by have:=R7 a<|k+1;omega);clear c D E r;go_wp2_with fail;go_quiet(fail);go_wp2;go_roundg (m - (k+1));exact⟨k+1,d+j,_,by omega,rfl,rfl,by go_num,by go_num,by omega,K,gY (l.out.alloc g _) _,h⟩;omega
     rw[ai<|by simp;omega]at c;have h:=ah c;clear c;have g4:(s.size:Int) - f<i:=(by omega);have g3:¬(s.size:Int)<f:=(by omega);have g1:¬f<(p:Int):=(by omega);have g2:¬i<0:=(by omega);go_wp2;go_roundg (m - (k+1));exact⟨k+1,p,t,by omega,rfl,rfl,rfl,by go_num,y,by have:=r.out;omega,l.out.alloc g _,h.out⟩;omega
    rw[ai<|by simp;omega]at c;have h:=ah c;clear c;have g3:(s.size:Int)<f:=(by omega);have g1:¬f<(p:Int):=(by omega);have g2:¬i<0:=(by omega);go_wp2;go_roundg (m - (k+1));exact⟨k+1,p,t,by omega,rfl,rfl,rfl,by go_num,y,by have:=r.out;omega,l.out.alloc g _,h.out⟩;omega
   rw[ai<|by simp;omega]at c;have h:=ah c;clear c;have g2:i<0:=(by omega);have g1:¬f<(p:Int):=(by omega);go_wp2;go_roundg (m - (k+1));exact⟨k+1,p,t,by omega,rfl,rfl,rfl,by go_num,y,by have:=r.out;omega,l.out.alloc g _,h.out⟩;omega
  rw[ai<|by simp;omega]at c;have h:=ah c;clear c;have g1:f<(p:Int):=(by omega);go_wp2;go_roundg (m - (k+1));exact⟨k+1,p,t,by omega,rfl,rfl,rfl,by go_num,y,by have:=r.out;omega,l.out.alloc g _,h.out⟩;omega
 have e:a.take k=a:=jY (by rw[C.out];omega);rw[e]at v;have J:=ah v;have l:=ah u;have A:¬(k:Int)<(m:Int):=by omega
 clear v u e;go_wp2;go_ret;exact⟨by rw[J.out];rfl,l⟩
def asX {P:Program}{c:Array Oper}{o:Oper}{a:Act}{w:cw}{K:Act->cw->Prop}{Q:Exit->Act->cw->Prop}{E:Prop}(d:o.guard=U)(f:FuncId)(y x:Tmp)(r:TypeId) (n:o.op= .call {callee:= .value (.tmp y),args:=#[.tmp x],argTypes:=#[r]}) (k:a.eval (.tmp y)= .func (.func f) #[] #[]) (g:∀args w,(callFunc f args).run P w= .ok (.enter f args) w) (v:cJ) (j:a.eval (.tmp x)=v) (i:cJ->cw->Prop) (m:cP P f #[v] w λe b=>∃u,e=bj u/\i u b) (h:∀u b,i u b->K (a.put o.dst u) b):if Region.wanted o (yielded c a.tmps)=db then Oper.wp P o a w K Q else E:=by
 have q:Region.wanted o (yielded c a.tmps)=db:=by simp[Region.wanted,d]
 rw[aj q];have p:(execOp a.eval o).run P w= .ok (.enter f #[v]) w:=by simp only[Act.eval]at k j;simp[execOp,n,resolve,invoke,g,Act.eval,k,j,go_sem]
 unfold Oper.wp;rw[p,j3];refine m.mono ?_;rintro e b ⟨u,rfl,l⟩;exact h u b l
def ar4(r:Nat)(i:256<=r)(j:r<55296)(w:cw):cP prog 221 #[Y .i32 r] w λe c=>e=bj (Y Z (wd r:Nat))/\c=w:=by
 have d:¬(r:Int)<0:=by omega
 have f:¬(r:Int)<=127:=by omega
 have g:¬(55296:Int)<=r:=by omega
 have h:(r:Int)<=65535:=by omega
 rw[wd,ai<|by omega];by_cases a:(r:Int)<2048
 .have b:(r:Int)<=2047:=by omega
  rw[aj a];go_enter func221,ntmps221;go_wp2;go_ret;exact⟨rfl,rfl⟩
 have b:¬(r:Int)<=2047:=by omega
 rw[ai a,aj<|by omega];go_enter func221,ntmps221;go_wp2;go_ret;exact⟨rfl,rfl⟩
def Tryz.Xa:(prog.info? 66).map (λi=>(i.zero,i.size,i.bytes))=V (V<|df #[Y Z 0,Y Z 0,cd ⟨#[]⟩],3,32):=by kernel_rfl
def Md(e:Ed):List cJ:=[Y Z e.a,Y Z e.c,cd e.n]
def bW(a:List Ed):List cJ:=a.flatMap Md
def C4(a b:List Ed):bW (a++b)=bW a++bW b:=by simp[bW]
def kf(a:Int->Bool)(b:Nat->bc):aw->Nat->List Ed
 |[],_=>[]
 |r::rs,p=>if a r then⟨p,wd r,b r.toNat⟩::kf a b rs (p+wd r)else kf a b rs (p+wd r)
def NP(w:cw)(a b c:cJ)(e:TypeId):∀j u,[a,b,c][j]? =V u->(w.alloc<|bi #[a,b,c] e).cell? (((S w.1.size 0 U):Addr).add j)=V u:=by
 intro j u h
 match j,h with
 |0,h=>simp at h;subst h;simp[Addr.add]
 |1,h=>simp at h;subst h;simp[Addr.add]
 |2,h=>simp at h;subst h;simp[Addr.add]
 |j+3,h=>simp at h
def yf(s:bc)(D C E a f:Nat)(M:aw)(mf G:Nat)(y:Int->Bool)(i:Nat->bc)(w:cw)(al:a<=f)(am:f<=s.size)(hs:s.size<=100000)(hr:cK (s.extract a f)=V M) (JD:∀args w,(callFunc mf args).run prog w= .ok (.enter mf args) w) (K:∀args w,(callFunc G args).run prog w= .ok (.enter G args) w) (hm:∀r W,cD w.1.size w W->cP prog mf #[Y .i32 r] W λe d=>e=bj (ce<|y r)/\cD W.1.size W d) (hw:∀(r:Nat) W,y r=db->cD w.1.size w W->cP prog G #[Y .i32 r] W λe d=>e=bj (cd<|i r)/\cD W.1.size W d) (hB:∀r:Int,y r=db->256<=r/\r<55296):cP prog 169 #[cd s,df #[Y Z D,Y Z C,Y Z E,Y Z a,Y Z f],.func (.func mf) #[] #[],.func (.func G) #[] #[]] w λe d=>∃v,e=bj v/\d.ownsRow w.1.size 66 3 v (kf y i M a).length (bW<|kf y i M a)/\cD w.1.size w d:=by
 obtain⟨iE,rH,af,ag,ak⟩:=fP Tryz.Xa;have HM:=ah hm;have HW:=ah hw;have qm:=ah hB;have ad:=ah K;have ar:(s.extract a f).size<=f - a:=by rw[A4];omega
 have zO:=ah<|vG hr;obtain⟨aa,hR⟩:=ac<|kf y i M a;rw[<-hR];have HR:=ah hR.symm;clear hm hw hB hr hR K;go_enter func169,ntmps169;go_wp2;generalize s.extract a f=z at*;have EW:(w.alloc<|bi #[Y Z D,Y Z C,Y Z E,Y Z a,Y Z f] 75).1.size=w.1.size+1:=by simp
 go_loopg [9,10,11] z.size (λgk v _ _ W=>∃(p:Nat)(F:aw)(b:List Ed),p<=z.size/\gk=z.size - p/\RA z p F/\b++kf y i F (a+p)=aa/\b.length<=p/\W.ownsRow w.1.size 66 3 v b.length (bW b)
  /\W.1[w.1.size+1]? =V (.stringIter z p)/\W.1[w.1.size]? =V (bi #[Y Z D,Y Z C,Y Z E,Y Z a,Y Z f] 75 (0,0))/\cD w.1.size w W)
 case atStart=>refine⟨0,M,[],by omega,rfl,zO,HR,by simp,fh _ _ _ _,?_,?_,((aA _ _).alloc (au _) _).alloc (by simp) _⟩;have:=F7 (w.alloc<|bi #[Y Z D,Y Z C,Y Z E,Y Z a,Y Z f] 75) z 0;rw[EW]at this;exact this;exact(dh _ _ _ (by simp)).trans (World.alloc_heap_new _ _)
 case round=>
  obtain⟨p,Fl,b,hp,rfl,Q,t,an,c,hit,vh,T⟩:=hrel;obtain⟨ea,ec,rfl⟩:=eV c;cases Fl with
  |cons r F=>
   obtain⟨wi,n,J,sO,I,hn,A,nK,O,B⟩:=Xi Q hit T (by omega);have l:wi.ownsRow w.1.size 66 3 (R ea b.length ec) b.length (bW b):=kS c λk o hk ho=>by rw[B,FX];exact ho;rintro rfl;exact zh c hit hk
   have mX:dd (wi.1[w.1.size]? =V (bi #[Y Z D,Y Z C,Y Z E,Y Z a,Y Z f] 75 (0,0))):=(by show _=_;rw[B,FX _ _ _ _ _ (by omega)];exact vh);have jf:=ah l;have uH:=ah sO;rw[kf,A]at t;have yz:=HM.out r wi O.out;clear Q sO hit T c l vh B;go_wp2_with fail;refine yz.mono ?_;rintro ev m ⟨rfl,j⟩;have rU:=ah<|aR j nK.out;have P:=ah<|O.out.trans<|j.mono O.out.size;have iN:=ah<|aR j mX;have nM:=ah<|jc jf j;clear J j yz nK O mX jf;cases hh:y r
   .rw[hh,ai<|by simp]at t;have H:=ah t;clear t;go_wp2;go_roundg (z.size - (p+n));exact⟨p+n,F,b,I,rfl,uH,by rw[<-oZ];exact H.out,by omega,nM,rU,iN,P⟩;omega
   obtain⟨ao,ap⟩:=qm.out r hh;obtain⟨g,rfl⟩:∃k:Nat,r=k:=⟨r.toNat,by omega⟩
   rw[hh,aj rfl]at t;have H:dd ((b++[⟨((a+p:Nat):Int),(n:Nat),i g⟩])++kf y i F (a+p+n)=aa):=(by show _=_;rw[<-t,dY];simp);clear t;have Bb:dd (∀args w,(callFunc 221 args).run prog w= .ok (.enter 221 args) w):=kj func221 (by kernel_rfl) (by kernel_rfl);have oQ:dd (cP prog 221 #[Y .i32 g] m.drew λe d=>∃u,e=bj u/\(u=Y Z (n:Nat)/\d=m.drew)):=(ar4 g (by omega) (by omega) _).mono (λe d h=>⟨_,h.1,by rw[A],h.2⟩);have pO:dd (cP prog G #[Y .i32 g] m.drew λe d=>∃u,e=bj u/\(u=cd (i g)/\cD m.drew.1.size m.drew d)):=(HW g m.drew hh P.out.drew).mono (λe d h=>⟨_,h.1,rfl,h.2⟩);have c3:m.cell? (S w.1.size 3 U)=V (Y Z a):=az iN 3;have QJ:=P.out.size;have aq:=wrap_small ((a:Int)+(p:Int)) (by omega) (by omega);have cZ:dd (b.length<=1000000):=(by show _<=_;omega);clear A hh;go_wp2_with fail
   go_region_law (first
    |(refine ahx (by rfl) 221 _ 21 (by rfl) Bb.out (Y .i32 g) (by rfl) (λu d=>u=Y Z (n:Nat)/\d=m.drew) oQ.out ?_;rintro u w6 ⟨rfl,h6⟩;subst h6)
    |(refine asX (by rfl) G _ _ 21 (by rfl) (by rfl) ad.out (Y .i32 g) (by rfl) (λu d=>u=cd (i g)/\cD m.drew.1.size m.drew d) pO.out ?_;rintro u q ⟨rfl,L⟩;have mS:dd (cD w.1.size w q):=P.out.drew.trans<|L.mono QJ;have TS:dd (q.1[w.1.size]? =V (bi #[Y Z D,Y Z C,Y Z E,Y Z a,Y Z f] 75 (0,0))):=aR L iN;have KL:dd (q.1[w.1.size+1]? =V (.stringIter z<|p+n)):=aR L rU;have N:q.ownsRow w.1.size 66 3 (R ea b.length ec) b.length (bW b):=jc (w:=m.drew) nM.out L;have t3:q.cell? (S w.1.size 3 U)=V (Y Z a):=az TS 3;have VR:=mS.out.size;clear L pO)
    |(refine Hy (by rfl) _ _ 37 (by rfl) w.1.size 66 iE (df #[Y Z 0,Y Z 0,cd ⟨#[]⟩]) 3 32 underlying37 rH af ag ak rfl (by decide) (by decide) (R ea b.length ec) b.length (bW b) (by rfl) (lZ N (bi #[Y Z ((a:Int)+(p:Int)),Y Z (n:Nat),cd (i g)] 66)) q.1.size [Y Z ((a:Int)+(p:Int)),Y Z (n:Nat),cd (i g)] (by rfl) (by rfl) (NP q _ _ _ _) (by intro u hu;simp at hu;rcases hu with rfl|rfl|rfl<;>rfl) cZ.out (by simp;omega) ?_;intro v8 w8 y8 X _;have sX:dd (cD w.1.size w w8):=(mS.out.alloc VR _).grown X (by simp;omega) (λx hx=>(N.lt x hx).1);have ae:dd (w8.1[w.1.size]? =V (bi #[Y Z D,Y Z C,Y Z E,Y Z a,Y Z f] 75 (0,0))):=by{show _=_;rw[X.block w.1.size (by simp;omega)<|Eg<|kq N TS.out<|by decide];exact aR ((aA q.1.size q).alloc (au _) _) TS.out};have ab:dd (w8.1[w.1.size+1]? =V (.stringIter z<|p+n)):=by{show _=_;rw[X.block (w.1.size+1) (by have:=bO KL.out;simp;omega)<|Eg<|zh N KL.out];exact aR ((aA q.1.size q).alloc (au _) _) KL.out};have KZ:dd (w8.ownsRow w.1.size 66 3 v8 (b.length+1)<|bW b++[Y Z<|(a:Int)+(p:Int),Y Z (n:Nat),cd<|i g]):=y8;clear y8 X))
   all_goals
    go_wp2;go_roundg (z.size - (p+n));exact⟨p+n,F,_,I,rfl,uH,by rw[<-oZ];exact H.out,by simp;omega,by rw[C4,bG];exact KZ.out,ab,ae,sX⟩;omega
  |nil=>
   have HB:=ah T;have HO:=ah c;have H:dd (b=aa):=(by show _=_;rw[<-t];simp[kf]);have J:∀ty,(Instr.next (.pointer<|V ⟨w.1.size+1,0,U⟩) db ty).run prog wr= .ok (de #[ce da]) wr:=λty=>FY wr (w.1.size+1) z p ty hit<|by have:p=z.size:=Q;omega
   clear T t hit Q c vh;go_wp2;go_ret;exact⟨_,rfl,by rw[<-H.out];exact HO.out,HB⟩
def arU {P:Program}(w:cw)(B J:Nat)(t I e:TypeId)(i:TypeInfo)(z:cJ)(size bytes:Nat)(E:P.underlying t=V (.slice e))(C:P.info? e=V i)(T:i.zero=V z) (c:i.size=size) (s:i.bytes=bytes) (G:z.cells.size=size) (D:0<size) (v u:cJ) (n m:Nat) (H l:List cJ) (F:w.ownsRow B e size v n H) (o:w.ownsRow J e size u m l) (K:∀y∈l,y.oneCell'=db) (q:n+m<=maxLen) (a:(n+m)*bytes<=140737488355328) (b:B<=w.1.size):∃f k,(Builtin.append_ #[t,t] I #[v,u]).run P w= .ok f k/\k.ownsRow B e size f (n+m) (H++l)/\w.grownBy k v.ownBlock/\(f.ownBlock=v.ownBlock∨f.ownBlock=V w.1.size):=by rcases o.2 with⟨rfl,rfl⟩|⟨g,h,p,rfl,r,Q,j,x,A,d⟩;have R:l=[]:=Lq (by simpa using o.1);subst R;refine⟨v,w,?_,by simpa using F,kI _ _,.inl rfl⟩;rcases F.2 with⟨rfl,rfl⟩|⟨g,h,p,rfl,r,Q,j,x,A,d⟩;simp[Builtin.append_,Ch E,sizeOf,typeInfo,C,Builtin.lenOf,Builtin.firstCells];simp[Builtin.append_,Ch E,sizeOf,typeInfo,C,Builtin.lenOf,Builtin.firstCells,loadCells,j];rfl;obtain⟨f,k,L,M,N,_,O⟩:=nD (P:=P) w B t I e i z size bytes E C T c s G D v n H F (S g 0 U) m h l o.1 (o.cells (g:=g) rfl) K q a b;exact⟨f,k,L,M,N,O⟩
def Ku {P:Program}(w:cw){g:Array Oper}{rest:List Oper}{o:Oper}{a:Act}{Q:Exit->Act->cw->Prop}(p:o.guard=U)(s x:Operand)(t:TypeId) (J:o.op= .call {callee:= .builtin .append,args:=#[s,x],argTypes:=#[t,t]}) (B C:Nat) (e:TypeId) (i:TypeInfo) (z:cJ) (size bytes:Nat) (N:P.underlying t=V (.slice e)) (I:P.info? e=V i) (S:i.zero=V z) (d:i.size=size) (l:i.bytes=bytes) (r:z.cells.size=size) (q:0<size) (T:bytes<=64) (v u:cJ) (n m:Nat) (A k:List cJ) (M:a.eval s=v) (hx:a.eval x=u) (R:w.ownsRow B e size v n A) (O:w.ownsRow C e size u m k) (D:∀y∈k,y.oneCell'=db) (X:n<=1000000) (W:m<=1000000) (c:B<=w.1.size) (h:∀f j,j.ownsRow B e size f (n+m) (A++k)->w.grownBy j v.ownBlock->(f.ownBlock=v.ownBlock∨f.ownBlock=V w.1.size)->wpList P g Q rest (a.put o.dst f) j):wpList P g Q (o::rest) a w:=by
 refine wpList_plain p λK H=> ?_
 have b:(n+m)*bytes<=140737488355328:=by have:(n+m)*bytes<=2000000*64:=zT (by omega) T;omega
 obtain⟨f,j,L,E,F,G⟩:=arU (P:=P) w B C t o.type e i z size bytes N I S d l r q v u n m A k R O D (by unfold maxLen;omega) b c;unfold Oper.wp execOp;simp only[J,resolve,invoke,builtin,IU,j4,Uk,fZ,ni,Eb,M,hx,L];exact H _ _ (h f j E F G)
def Ry(w:cw)(B:Nat)(e:TypeId)(a b c:cJ)(d:B<=w.1.size):(w.alloc<|bi #[a,b,c] e).ownsRow B e 3 (.slice (V<|S w.1.size 0 U) 1 1) 1 [a,b,c]:=
 ⟨rfl,.inr ⟨w.1.size,1,#[a,b,c],rfl,d,World.alloc_heap_new _ _,au _,by decide,rfl,rfl⟩⟩
def L4(r:Int)(h:cls r=1∨cls r=2∨cls r=6∨13<=cls r):256<=r/\r<55296:=by
 unfold cls at h
 repeat' split at h
 all_goals omega
def MC(r:Int)(h:fO r=db):256<=r/\r<55296:=by unfold fO at h;simp only[Fz,vS,Es]at h;rcases h with(((h|h)|h)|h)|h;exact L4 r (by omega);exact L4 r (by omega);exact L4 r (by omega);exact L4 r (by omega);omega
def Ff {w:cw}{B c:Nat}{e:TypeId}{z n:Nat}{v:cJ}{d:List cJ}(h:w.ownsRow c e z v n d)(k:B<=c):w.ownsRow B e z v n d:=by refine⟨h.1,?_⟩;rcases h.2 with h|⟨g,a,b,f,i,j⟩;exact .inl h;exact .inr ⟨g,a,b,f,bM k i,j⟩
def zZ(r:Nat):bc:=⟨#[92,117]⟩++iR qb r
def vA(r:Nat):bc:=⟨#[60,85,43]⟩++iR sU r++⟨#[62]⟩
def rS(r:Int):Bool:=kz<|cls r
def Zp(r:Int)(h:rS r=db):256<=r/\r<55296:=by unfold rS kz at h;simp only[Fx,Es]at h;exact L4 r<|by omega
def lN(s:bc)(x:PR):List Ed:=
 if x.kind=1 then kf fO zZ (wL s x.body x.end_) x.body
 else if x.kind=2/\pq (wL s x.body x.end_) x.body≠ -1 then [⟨x.body,0,⟨#[226,129,168]⟩⟩]++kf rS vA (wL s x.body x.end_) x.body++[⟨x.end_,0,⟨#[226,129,169]⟩⟩]
 else []
def PC(b:Int->Bool)(c:Nat->bc):∀(a:aw)(p:Nat),(kf b c a p).length<=a.length
 |[],_=>au _
 |r::a,p=>by have:=PC b c a<|p+wd r;unfold kf;split<;>simp<;>omega
def Jg(c:List Ed):∀y∈bW c,y.oneCell'=db:=by intro y b;unfold bW at b;obtain⟨e,_,a⟩:=IE.1 b;simp only[Md,gI,Lv,Hg]at a;rcases a with rfl|rfl|rfl<;>rfl
def alN(s:bc)(x:PR)(w:cw)(hs:s.size<=100000)(D:Sp w)(H:rq w)(hx:zU s x):cP prog 103 #[cd s,uv x] w λe g=>∃v,e=bj v/\g.ownsRow w.1.size 66 3 v (lN s x).length (bW<|lN s x)/\cD w.1.size w g:=by
 obtain⟨iE,rH,O,P,Q⟩:=fP Tryz.Xa;obtain⟨xl,J,A,B,c,j⟩:=x;obtain⟨ft,tl,⟨rs,n⟩,C⟩:=hx;simp only at ft tl n C;unfold uv lN wL;simp only;obtain⟨d,a⟩:=ac<|w.alloc<|bi #[Y Z J,Y Z A,Y Z B,Y Z c,Y Z j] 75;have k:dd (cD w.1.size w d):=by show cD _ _ _;rw[a];exact(aA _ _).alloc (au _) _
 have y:w.1.size<=d.1.size:=k.out.size;have T:∀r W,cD d.1.size d W->cP prog 170 #[Y .i32 r] W λe g=>e=bj (ce<|fO r)/\cD W.1.size W g:=λr W i=>Xe r W<|D.below<|k.out.trans<|i.mono y
 have o:∀(r:Nat) W,fO r=db->cD d.1.size d W->cP prog 171 #[Y .i32 r] W λe g=>e=bj (cd<|zZ r)/\cD W.1.size W g:=λr W h i=>amg r (by have:=MC r h;omega) (by have:=MC r h;omega) W<|cU (k.out.trans<|i.mono y) H
 have l:∀r W,cD d.1.size d W->cP prog 172 #[Y .i32 r] W λe g=>e=bj (ce<|rS r)/\cD W.1.size W g:=λr W i=>Xg r W<|D.below<|k.out.trans<|i.mono y
 have p:∀(r:Nat) W,rS r=db->cD d.1.size d W->cP prog 173 #[Y .i32 r] W λe g=>e=bj (cd<|vA r)/\cD W.1.size W g:=λr W h i=>apB r (by have:=Zp r h;omega) (by have:=Zp r h;omega) W<|cU (k.out.trans<|i.mono y) H
 by_cases h1:J=1
 .subst h1;obtain⟨X,b2,⟨t,b⟩⟩:=C (by omega);rw[aj rfl,b];simp only[uV];have F:=yf s 1 A B c j t 170 171 fO zZ d X b2 hs b (kj func170 (by kernel_rfl)<|by kernel_rfl) (kj func171 (by kernel_rfl)<|by kernel_rfl) T o MC;generalize kf fO zZ t c=L at*;rw[a]at F;clear T o l p n C D H b;go_enter func103,ntmps103;go_wp2_with fail;refine F.mono ?_;rintro ev z ⟨v,rfl,I,f⟩;rw[<-a]at I f;have HO:=ah<|Ff I y;have K:=ah<|k.out.trans<|f.mono y;clear I f F;go_wp2;go_ret;exact⟨_,rfl,HO,K⟩
 have ae:((J:Int)==1)=da:=by simp;omega
 rw[ai h1];by_cases h2:J=2
 .subst h2;obtain⟨X,b2,⟨t,b⟩⟩:=C (by omega);rw[b];simp only[uV,lq];have G:=Ni s c j t d X b2 hs b<|D.below k;have N:t.length<=100000:=by have:=N6<|vG b;rw[A4]at this;omega
  have HR:dd ((kf rS vA t c).length<=100000):=bM (PC _ _ _ _) N;have O4:dd (d.1[w.1.size]? =V (bi #[Y Z (2:Nat),Y Z A,Y Z B,Y Z c,Y Z j] 75 (0,0))):=by show _=_;rw[a];exact World.alloc_heap_new _ _
  generalize pq t c=q at*;cases hq:q== -1
  .have m:q≠ -1:=(by simpa using hq);rw[aj m];have F:dd (∀W,cD d.1.size d W->cP prog 169 #[cd s,df #[Y Z (2:Nat),Y Z A,Y Z B,Y Z c,Y Z j],.func (.func 172) #[] #[],.func (.func 173) #[] #[]] W λe g=>∃v,e=bj v/\g.ownsRow W.1.size 66 3 v (kf rS vA t c).length (bW<|kf rS vA t c)/\cD W.1.size W g):=λW i=>
    yf s 2 A B c j t 172 173 rS vA W X b2 hs b (kj func172 (by kernel_rfl)<|by kernel_rfl) (kj func173 (by kernel_rfl)<|by kernel_rfl) (λr ab hV=>l r ab<|i.trans<|hV.mono i.size) (λr ab h hV=>p r ab h<|i.trans<|hV.mono i.size) Zp
   generalize kf rS vA t c=L at*;rw[a]at G;clear T o l p n C D H b m N;go_enter func103,ntmps103;go_wp2_with fail;refine G.mono ?_;rintro ev z ⟨rfl,f⟩;rw[<-a]at f;have aD:=ah f;have E:=ah<|aR f O4;have ag:=bO E;have c0:=az E 0;have c1:=az E 1;have c2:=az E 2;have c3:=az E 3;have c4:=az E 4;have M:=f.size;clear f G;go_wp2_with fail;refine(F _ (aD.out.alloc M _)).mono ?_;rintro ev w3 ⟨v,rfl,I,u⟩;have lK:w3.ownsRow w.1.size 66 3 (.slice (V<|S z.1.size 0 U) 1 1) 1 (bW [⟨c,0,⟨#[226,129,168]⟩⟩]):=jc (Ry z w.1.size 66 _ _ _ (by omega)) u;have iN:dd (w3.1[w.1.size]? =V (bi #[Y Z (2:Nat),Y Z A,Y Z B,Y Z c,Y Z j] 75 (0,0))):=aR u<|aR ((aA z.1.size z).alloc (au _) _) E.out;have aJ:dd (cD w.1.size w w3):=k.out.trans<|(aD.out.trans<|((aA z.1.size z).alloc (au _) (bi #[Y Z c,Y Z 0,cd ⟨#[226,129,168]⟩] 66)).mono M|>.trans (u.mono<|by simp;omega)).mono y;have R:=aJ.out.size;clear u F c0 c1 c2 c3 c4;go_wp2_with(at_builtin;refine Ku _ rfl _ _ 37 rfl w.1.size _ 66 iE (df #[Y Z 0,Y Z 0,cd ⟨#[]⟩]) 3 32 underlying37 rH O P Q rfl (by decide) (by decide) _ _ _ _ _ _ rfl rfl lK I (Jg _) (by omega) (bM HR<|by omega) R ?_);intro v5 w5 jS bQ _;have Iy:dd (w5.1[w.1.size]? =V (bi #[Y Z (2:Nat),Y Z A,Y Z B,Y Z c,Y Z j] 75 (0,0))):=(by show _=_;rw[bQ.block w.1.size (bO iN.out)<|Eg<|kq lK iN.out<|by decide];exact iN.out);have bF:dd (cD w.1.size w w5):=aJ.out.grown bQ R (λx hx=>(lK.lt x hx).1);have ak:=bO Iy;have iJ:=bF.out.size;have c4:=az Iy 4;rw[<-C4]at jS;have ad:=HR.out;clear lK I bQ HR;go_wp2_with(at_builtin;refine Ku _ rfl _ _ 37 rfl w.1.size w.1.size 66 iE (df #[Y Z 0,Y Z 0,cd ⟨#[]⟩]) 3 32 underlying37 rH O P Q rfl (by decide) (by decide) _ _ _ _ _ _ rfl rfl (lZ jS _) (Ry w5 w.1.size 66 _ _ _ iJ) (Jg [⟨j,0,⟨#[226,129,169]⟩⟩]) (by omega) (by omega) (by simp;omega) ?_);intro v6 w6 sK i7 _;have KY:dd (w6.ownsRow w.1.size 66 3 v6 (1+L.length+1)<|bW ([⟨c,0,⟨#[226,129,168]⟩⟩]++L)++bW [⟨j,0,⟨#[226,129,169]⟩⟩]):=sK;have dU:dd (cD w.1.size w w6):=(bF.out.alloc iJ _).grown i7 (by simp;omega) (λx hx=>(jS.lt x hx).1);clear sK i7 jS;go_wp2;go_ret;refine⟨_,rfl,?_,dU⟩;have h:=KY.out;rw[<-C4,show 1+L.length+1=(L++[(⟨j,0,⟨#[226,129,169]⟩⟩:Ed)]).length+1 by simp;omega]at h;exact h
  have m:¬q≠ -1:=(by simpa using hq);rw[ai m];rw[a]at G;clear T o l p n C D H b m;go_enter func103,ntmps103;go_wp2_with fail;refine G.mono ?_;rintro ev z ⟨rfl,f⟩;rw[<-a]at f;have K:=ah<|k.out.trans<|f.mono y;clear f G;go_wp2;go_ret;exact⟨_,rfl,fh _ _ _ _,K⟩
 have af:((J:Int)==2)=da:=by simp;omega
 rw[ai λh=>h2 h.1];have K:dd (cD w.1.size w<|w.alloc<|bi #[Y Z J,Y Z A,Y Z B,Y Z c,Y Z j] 75):=a▸k.out;clear T o l p n C D H h1 h2 a k;go_enter func103,ntmps103;go_wp2;go_ret;exact⟨_,rfl,fh _ _ _ _,K⟩
def J6(k:Nat)(p:Nat)(r:Int):List Ed:=if k=1 then [⟨p,wd r,zZ r.toNat⟩]else if 13<=cls r then [⟨p,wd r,vA r.toNat⟩]else []
def ij(s:bc)(x:PR):aw->Nat->Bool->List Ed->Int×Bool×List Ed
 |[],_,sm,own=>(-1,sm,own)
 |r::rs,p,sm,own=>
  if fO r=db/\x.from_<=p/\p<x.dR then
   if x.kind=0∨x.kind=1/\pW s p x.body=db then((p:Int),sm,own)
   else ij s x rs (p+wd r) db (own++J6 x.kind p r)
  else ij s x rs (p+wd r) sm own
def Hh(x:PR)(q:Bool×List Ed):List Ed:=if x.kind=2/\q.1=db then [⟨x.body,0,⟨#[226,129,168]⟩⟩]++q.2++[⟨x.end_,0,⟨#[226,129,169]⟩⟩]else q.2
def vw(s:bc)(a:aw):List PR->List Ed->List Ed×Int
 |[],l=>(l, -1)
 |x::xs,l=>if 0<=(ij s x a 0 da []).1 then([],(ij s x a 0 da []).1)else vw s a xs (l++Hh x (ij s x a 0 da []).2)
def ahy {P:Program}{d:Array Oper}{o:Oper}{a:Act}{w:cw}{K:Act->cw->Prop}{Q:Exit->Act->cw->Prop}{E:Prop}(g:o.guard=U)(f:FuncId)(x:Tmp)(c:cJ)(s j:TypeId) (p:o.op= .call {callee:= .value (.func f),args:=#[.tmp x,.const c],argTypes:=#[s,j]}) (i:∀args w,(callFunc f args).run P w= .ok (.enter f args) w) (v:cJ) (l:a.eval (.tmp x)=v) (k:cJ->cw->Prop) (n:cP P f #[v,c] w λe b=>∃u,e=bj u/\k u b) (h:∀u b,k u b->K (a.put o.dst u) b):if Region.wanted o (yielded d a.tmps)=db then Oper.wp P o a w K Q else E:=by
 have r:Region.wanted o (yielded d a.tmps)=db:=by simp[Region.wanted,g]
 rw[aj r];have q:(execOp a.eval o).run P w= .ok (.enter f #[v,c]) w:=by simp only[Act.eval]at l;simp[execOp,p,resolve,invoke,i,Act.eval,l,go_sem]
 unfold Oper.wp;rw[q,j3];refine n.mono ?_;rintro e b ⟨u,rfl,m⟩;exact h u b m
def amh(s:bc)(f t:Nat)(c:t<=s.size)(b:s.size<=100000)(w:cw):cP prog 136 #[cd s,Y Z f,Y Z t] w λe d=>e=bj (ce<|pW s t f)/\d=w:=by
 by_cases a:f<=t;exact ami s f t a c b w;rw[pW,ai<|by omega];have h:¬(f:Int)<(t:Int):=by omega
 go_enter func136,ntmps136;go_wp2;refine dN 1 ?_;rw[bB];go_wp2;go_ret;exact⟨rfl,rfl⟩
def sW(l:aw):Nat:=(l.map wd).sum
def Sg(r:Int):0<wd r:=by unfold wd;split;omega;split;omega;split<;>omega
def AK(r:Int)(l:aw):sW (r::l)=wd r+sW l:=by simp[sW]
def Rh(s:bc)(x:PR)(B:aw):∀(A:aw)(p:Nat)(a:Bool)(own:List Ed),(∀r∈A,fO r=da)->ij s x (A++B) p a own=ij s x B (p+sW A) a own
 |[],p,a,own,_=>by simp[sW]
 |r::A,p,a,own,h=>by rw[uL,ij,ai<|by rw[h r<|by simp];simp,Rh s x B A _ a own (λy b=>h y<|by simp[b]),AK,oZ]
def aew(s:bc)(x:PR)(B:aw):∀(A:aw)(p:Nat)(b:Bool)(own:List Ed),p+sW A<=x.from_->ij s x (A++B) p b own=ij s x B (p+sW A) b own
 |[],p,b,own,_=>by simp[sW]
 |r::A,p,b,own,h=>by have:=Sg r;rw[AK]at h;rw[uL,ij,ai λa=>by have:=a.2.1;omega,aew s x B A _ b own (by omega),AK,oZ]
def WY(s:bc)(x:PR):∀(B:aw)(p:Nat)(b:Bool)(own:List Ed),x.dR<=p->ij s x B p b own=(-1,b,own)
 |[],_,_,_,_=>rfl
 |r::B,p,b,own,h=>by rw[ij,ai λa=>by have:=a.2.2;omega,WY s x B _ b own (by omega)]
def aex(s:bc)(x:PR)(a:x.kind=0)(B:aw):∀(M:aw)(p:Nat),x.from_<=p->p+sW M<=x.dR->pq M p≠ -1->(ij s x (M++B) p da []).1=pq M p
 |[],_,_,_,h=>absurd rfl h
 |r::M,p,h1,h2,h3=>by have:=Sg r;rw[AK]at h2;rw[pq]at h3;rw[uL,ij,pq];cases hh:fO r;rw[hh,ai<|by simp]at h3;rw[ai<|by simp,ai<|by simp];exact aex s x a B M _ (by omega) (by omega) h3;rw[aj ⟨rfl,h1,by omega⟩,aj (.inl a),aj rfl]
def Mh:∀(M:aw)(p:Nat),pq M p= -1↔∀r∈M,fO r=da
 |[],_=>by simp[pq]
 |r::M,p=>by rw[pq];cases hh:fO r;rw[ai<|by simp,Mh M];simp[hh];rw[aj rfl];constructor;intro h;omega;intro h;have:=h r (by simp);rw[hh]at this;cases this
def ahS(r:Int):rS r=decide (13<=cls r):=by unfold rS kz;rw[nB (Gc r).2,Bool.and_true]
def ahT(r:Int)(h:fO r=da):rS r=da:=by rw[ahS];unfold fO at h;simp only[Fy,C2]at h;exact sB<|by have:=h.1.2;omega
def WZ(s:bc)(x:PR)(c:x.kind=2)(B:aw):∀(M:aw)(p:Nat)(a:Bool)(own:List Ed),x.from_<=p->p+sW M<=x.dR->ij s x (M++B) p a own=ij s x B (p+sW M) (a||M.any fO) (own++kf rS vA M p)
 |[],p,a,own,_,_=>by simp[sW,kf]
 |r::M,p,a,own,h1,h2=>by have:=Sg r;rw[AK]at h2;rw[uL,ij,kf,Pd,AK];cases hh:fO r;rw[ai<|by simp,ahT r hh,ai<|by simp,DM,WZ s x c B M _ a own (by omega) (by omega),oZ];rw[aj ⟨rfl,h1,by omega⟩,ai (by rw[c];rintro(h|⟨h,_⟩)<;>cases h),WZ s x c B M _ db _ (by omega) (by omega),oZ,J6,ai<|by rw[c];decide,ahS];by_cases b:13<=cls r;rw[aj b,nB b,aj rfl];simp;rw[ai b,sB b,ai<|by simp];simp
def Gh:Bool->aw->Bool
 |e,[]=>e
 |e,r::rs=>Gh (r==92&& !e) rs
def aey(s:bc)(x:PR)(b:x.kind=1)(B:aw):∀(M:aw)(e:Bool)(p:Nat)(a:Bool)(own:List Ed),x.from_<=p->p+sW M<=x.dR->(∀A r C,M=A++r::C->pW s (p+sW A) x.body=Gh e A)->(tV M e p≠ -1->(ij s x (M++B) p a own).1=tV M e p)/\(tV M e p= -1->ij s x (M++B) p a own=ij s x B (p+sW M) (a||M.any fO) (own++kf fO zZ M p))
 |[],e,p,a,own,_,_,_=>by simp[sW,kf,tV]
 |r::M,e,p,a,own,h1,h2,hF=>by
  have:=Sg r;rw[AK]at h2;have c:pW s p x.body=e:=by have:=hF [] r M rfl;simpa [sW,Gh]using this
  have ih:=λa own=>aey s x b B M (r==92&& !e) (p+wd r) a own (by omega) (by omega) λA y C h=>by have:=hF (r::A) y C (by rw[h];rfl);rw[AK,<-oZ]at this;exact this
  rw[uL,ij,kf,Pd,AK,tV];cases hh:fO r;rw[ZY,ai<|by simp,ai<|by simp,ai<|by simp,DM,<-oZ];exact ih a own;cases e;rw[Oy,ai<|by simp,aj ⟨rfl,h1,by omega⟩,ai<|by rw[b,c];simp,aj rfl,J6,aj b,<-oZ,Bool.true_or,Bool.or_true];obtain⟨d,f⟩:=ih db<|own++[⟨p,wd r,zZ r.toNat⟩];refine⟨d,λh=> ?_⟩;rw[f h,Bool.true_or,dY];rfl;rw[Bool.true_and,aj rfl,aj ⟨rfl,h1,by omega⟩,aj (.inr ⟨b,c⟩)];exact⟨λ_=>rfl,λh=>by omega⟩
def Ql(s:bc)(t:Nat):∀(k p:Nat),p+k<=t->(∀j,j<k->bt s (p+j)≠92)->pW s t p=pW s t (p+k)
 |0,p,_,_=>rfl
 |k+1,p,h,hb=>by
  have a:¬bt s p=92:=by simpa using hb 0<|by omega
  have ih:=Ql s t k (p+1) (by omega) (λj b=>by have:=hb (j+1) (by omega);rwa [show p+(j+1)=p+1+j by omega]at this);rw[show p+(k+1)=p+1+k by omega,<-ih]
  conv=>lhs;rw[pW,aj<|by omega,ai a]
def ag2(s:bc)(p:Nat)(h:p<s.size)(o:aQ s p≠0):(aQ s p=1/\bt s p=fK s p)∨(1<aQ s p/\fK s p≠92/\∀j,j<aQ s p->bt s (p+j)≠92):=by
 have a:∀i,i<s.size->bt s i=((s.get! i).toNat:Int):=λi u=>by rw[bt,aj u]
 have f:fK s p=92->aQ s p=1:=λc=>by rw[<-Zf s p h o,c];rfl
 rcases zk s p h o with⟨e,_,d⟩|⟨e,g,d,k,l,m,n⟩|⟨e,g,d,k,l,m,n,r,t⟩|⟨e,g,d,k,l,m,n,r,t,v,q⟩;exact .inl ⟨e,by rw[a p h,d]⟩
 .refine .inr ⟨by omega,λc=>by have:=f c;omega,λj b=> ?_⟩;rw[e]at b
  match j,b with
  |0,_=>rw[a _ (by omega)];simp only[qE];omega
  |1,_=>rw[a _ (by omega)];omega
 .refine .inr ⟨by omega,λc=>by have:=f c;omega,λj b=> ?_⟩;rw[e]at b
  match j,b with
  |0,_=>rw[a _ (by omega)];simp only[qE];omega
  |1,_=>rw[a _ (by omega)];omega
  |2,_=>rw[a _ (by omega)];omega
 refine .inr ⟨by omega,λc=>by have:=f c;omega,λj b=> ?_⟩;rw[e]at b
 match j,b with
 |0,_=>rw[a _ (by omega)];simp only[qE];omega
 |1,_=>rw[a _ (by omega)];omega
 |2,_=>rw[a _ (by omega)];omega
 |3,_=>rw[a _ (by omega)];omega
def Qk(s:bc)(t:Nat):∀(n:Nat)(A:aw)(p:Nat),A.length<=n->RX s p t A->pW s t p=Gh da A
 |_,[],p,_,h=>by have:p=t:=h;subst this;rw[pW,ai<|by omega];rfl
 |0,_::_,_,hn,_=>by simp at hn
 |n+1,r::A,p,hn,⟨h1,h2,h3,h4⟩=>by
  have d:=DD h4;rcases ag2 s p h1 h2 with⟨e,c⟩|⟨e,i,c⟩
  .by_cases b:r=92
   .rw[pW,aj<|by omega,aj<|by rw[c,<-h3];exact b];cases A with
    |nil=>have:p+aQ s p=t:=h4;rw[aj<|by omega,b];rfl
    |cons g A=>obtain⟨g1,g2,g3,g4⟩:=h4;have a:=DD g4;rw[ai<|by omega,b];show _=Gh (g==92&& !(92==(92:Int)&& !false)) A;rw[show(g==92&& !(92==(92:Int)&& !false))=da by simp];rw[e]at g1 g2 g4 a;have ih:=Qk s t n A _ (by simp at hn;omega) g4;rw[<-ih];rcases ag2 s (p+1) g1 g2 with⟨f,_⟩|⟨f,_,k⟩;rw[f];have:=Ql s t (aQ s (p+1) - 1) (p+2) (by omega) (λj l=>by have:=k (j+1) (by omega);rwa [show p+1+(j+1)=p+2+j by omega]at this);rw[this,show p+2+(aQ s (p+1) - 1)=p+1+aQ s (p+1)by omega]
   have ih:=Qk s t n A _ (by simp at hn;omega) h4;rw[Gh,show(r==92)=da by simpa using b,Oy,<-ih,e];exact Ql s t 1 p (by omega) λj l=>by rw[show p+j=p by omega,c,<-h3];exact b
  have ih:=Qk s t n A _ (by simp at hn;omega) h4;rw[Gh,show(r==92)=da by rw[h3];simpa using i,Oy,<-ih];exact Ql s t (aQ s p) p d c
def Ki {x:bc}:∀(r:aw)(a b:Nat),RX x a b r->a+sW r=b
 |[],a,b,h=>by have:a=b:=h;simpa [sW]using this
 |y::r,a,b,⟨h1,h2,h3,h4⟩=>by have:=Ki r _ b h4;rw[AK,DF h1 h2 h3];omega
def YS {x:bc}:∀(r:aw)(a b:Nat),RX x a b r->(∀q,a<=q->q<b->bt x q<128)->∀y∈r,fO y=da
 |[],_,_,_,_,y,d=>by cases d
 |z::r,a,b,⟨h1,h2,h3,h4⟩,hq,y,d=>by
  have g:=DD h4;rcases gI.1 d with rfl|d
  .cases hh:fO y;rfl;have i:=MC y hh;have c:=hq a (au _) (by omega);rcases zk x a h1 h2 with⟨_,_,e⟩|⟨_,_,e,_⟩|⟨_,_,e,_⟩|⟨_,_,e,_⟩;rw[<-h3]at e;rw[bt,aj h1]at c;omega;all_goals rw[bt,aj h1]at c;omega
  exact YS r _ b h4 (λq h f=>hq q (by omega) f) y d
def agJ {s:bc}{a b:Nat}{r:aw}(c:b<=s.size)(h:RX s a b r):wL s a b=r:=by unfold wL;rw[Kh c h];rfl
def aha {x:bc}:∀(A:aw)(C:aw)(a b:Nat),RX x a b (A++C)->RX x a (a+sW A) A
 |[],_,a,_,_=>by show a=a+sW [];simp[sW]
 |y::A,C,a,b,⟨h1,h2,h3,h4⟩=>by refine⟨h1,h2,h3,?_⟩;have:=aha A C _ b h4;rw[AK,DF h1 h2 h3,<-oZ];exact this
def aqE(s:bc)(c:aw)(x:PR)(hr:RA s 0 c)(hx:PX s x)(hk:x.kind<=2):(nT s x≠ -1->(ij s x c 0 da []).1=nT s x)/\(nT s x= -1->(ij s x c 0 da []).1= -1/\Hh x (ij s x c 0 da []).2=lN s x):=by
 have b:=hx.tl;have aa:=hx.ft;obtain⟨A,i,S,Z,f⟩:=Cf (by omega:x.from_<=s.size) hx.aF c 0 hr (by omega);have z:=Ki A 0 _ Z;rw[fV]at z;have R:ij s x c 0 da []=ij s x i x.from_ da []:=by rw[S,aew s x i A 0 da []<|by omega,fV,z]
 rw[R];by_cases k:x.kind=0;obtain⟨M,C,W,v,hC⟩:=Cf b hx.aT i _ f (by omega);have sM:=Ki M _ _ v;unfold nT lN Hh;rw[aj k,ai<|by omega,ai λh=>by omega,ai λh=>by omega,agJ b v,W];refine⟨λh=>aex s x k C M _ (au _) (by omega) h,λh=> ?_⟩;rw[Rh s x C M _ _ _ ((Mh M _).1 h),WY s x C _ _ _ (by omega)];exact⟨rfl,rfl⟩;obtain⟨m,I,J,K,L,N,O⟩:=hx.bd k;obtain⟨F,t,V,hF,X⟩:=Cf (by omega:x.body<=s.size) K i _ f m;obtain⟨D,j,T,l,Y⟩:=Cf (by omega:x.end_<=s.size) L t _ X I;obtain⟨E,C,U,u,hC⟩:=Cf b hx.aT j _ Y J;have sF:=Ki F _ _ hF;have B:=Ki D _ _ l;have sE:=Ki E _ _ u;have H:=YS F _ _ hF N;have G:=YS E _ _ u O;rw[V,Rh s x t F _ _ _ H,sF,T];have a:∀q own,ij s x j x.end_ q own=(-1,q,own):=λq own=>by rw[U,Rh s x C E _ _ _ G,WY s x C _ _ _ (by omega)]
 unfold nT lN Hh;rw[ai k,agJ (by omega) l];by_cases d:x.kind=1;rw[aj d,aj d,ai λh=>by omega];obtain⟨i1,i2⟩:=aey s x d j D da x.body da [] m (by omega) (λP r Q e=>by rw[e]at l;exact Qk s _ P.length P _ (au _) (aha P (r::Q) _ _ l));refine⟨i1,λh=> ?_⟩;rw[i2 h,B,a];exact⟨rfl,by simp⟩;have n:x.kind=2:=by omega
 rw[ai d,ai d,WZ s x n j D _ _ _ m (by omega),B,a];refine⟨λh=>absurd rfl h,λ_=>⟨rfl,?_⟩⟩;simp only[DM,r8];by_cases g:pq D x.body= -1
 .rw[ai (λh=>by have:=List.any_eq_true.1 h.2;obtain⟨y,o,w⟩:=this;rw[(Mh D _).1 g y o]at w;cases w),ai λh=>h.2 g];have hb:∀(M:aw)(p:Nat),(∀r∈M,fO r=da)->kf rS vA M p=[]:=by
   intro M
   induction M with
   |nil=>intro p _;rfl
   |cons r M ih=>intro p h;rw[kf,ahT r<|h r<|by simp,ai<|by simp];exact ih _ (λy o=>h y<|by simp[o])
  exact hb D _ ((Mh D _).1 g)
 have ha:D.any fO=db:=by rcases hd:D.any fO with _|_;exact absurd ((Mh D x.body).2 (λr h=>by have:=List.any_eq_false.1 hd r h;simpa using this)) g;rfl
 rw[aj ⟨n,ha⟩,aj ⟨n,g⟩]
def fR(s:bc):List PR->List Ed->List Ed×Int
 |[],l=>(l, -1)
 |x::xs,l=>if nT s x≠ -1 then([],nT s x)else fR s xs (l++lN s x)
def Wc:∀(M:aw)(p:Nat),pq M p≠ -1->0<=pq M p
 |[],_,h=>absurd rfl h
 |r::M,p,h=>by rw[pq]at h ⊢;split at h;rename_i a;rw[aj a];omega;rename_i a;rw[ai a];exact Wc M _ h
def wS:∀(M:aw)(e:Bool)(p:Nat),tV M e p≠ -1->0<=tV M e p
 |[],_,_,h=>absurd rfl h
 |r::M,e,p,h=>by rw[tV]at h ⊢;split at h;rename_i a;rw[aj a];omega;rename_i a;rw[ai a];exact wS M _ _ h
def Vj(s:bc)(x:PR)(h:nT s x≠ -1):0<=nT s x:=by unfold nT at h ⊢;split at h;rename_i a;rw[aj a];exact Wc _ _ h;rename_i a;rw[ai a];split at h;rename_i b;rw[aj b];exact wS _ _ _ h;exact absurd rfl h
def afb(s:bc)(d:aw)(e:RA s 0 d):∀(c:List PR)(l:List Ed),(∀x∈c,PX s x/\x.kind<=2)->vw s d c l=fR s c l
 |[],l,_=>rfl
 |x::c,l,h=>by obtain⟨hx,i⟩:=h x (by simp);obtain⟨f,k⟩:=aqE s d x e hx i;rw[vw,fR];by_cases b:nT s x= -1;obtain⟨n,m⟩:=k b;rw[ai<|by omega,ai λa=>a b,m];exact afb s d e c _ (λy j=>h y<|by simp[j]);have g:=Vj s x b;rw[aj<|by rw[f b];exact g,aj b,f b]
def qO(b:Nat)(e:Ed):Ed:=⟨e.a+b,e.c,e.n⟩
def jQ(b:Nat->Bool)(a:Nat->bc)(c:Nat->Nat):List PR->List Ed->List Ed×Int×Int
 |[],l=>(l, -1, -1)
 |x::xs,l=>if b x.line=db then jQ b a c xs l
  else if nT (a x.line) x≠ -1 then([],x.line,nT (a x.line) x)
  else jQ b a c xs (l++(lN (a x.line) x).map (qO<|c x.line))
def yO(c:Nat->Bool)(a:Nat->bc)(d:Nat->Nat)(b:List PR):Nat->Nat->List Ed->List Ed×Int×Int
 |0,_,l=>(l, -1, -1)
 |n+1,i,l=>if c i=db then yO c a d b n (i+1) l
  else if 0<=(fR (a i) (b.filter λx=>x.line==i) []).2 then([],i,(fR (a i) (b.filter λx=>x.line==i) []).2)
  else yO c a d b n (i+1) (l++(fR (a i) (b.filter λx=>x.line==i) []).1.map (qO<|d i))
def YC(s:bc):∀(P:List PR)(l a:List Ed),((fR s P l).2=(fR s P a).2)/\((fR s P a).2= -1->∃M,(fR s P l).1=l++M/\(fR s P a).1=a++M)
 |[],l,a=>⟨rfl,λ_=>⟨[],by simp[fR]⟩⟩
 |x::P,l,a=>by rw[fR,fR];by_cases b:nT s x= -1;rw[ai λh=>h b,ai λh=>h b];obtain⟨c,d⟩:=YC s P (l++lN s x)<|a++lN s x;refine⟨c,λh=> ?_⟩;obtain⟨M,e,f⟩:=d h;exact⟨lN s x++M,by rw[e,dY],by rw[f,dY]⟩;rw[aj b,aj b];exact⟨rfl,λh=>absurd h b⟩
def ae5(s:bc):∀(P:List PR)(l:List Ed),(fR s P l).2= -1∨0<=(fR s P l).2
 |[],_=> .inl rfl
 |y::P,l=>by rw[fR];split;rename_i a;exact .inr<|Vj _ _ a;exact ae5 s P _
def yt(b:Nat->Bool)(a:Nat->bc)(d:Nat->Nat)(i:Nat)(Rs:List PR):∀(P:List PR)(l:List Ed),(∀x∈P,x.line=i)->jQ b a d (P++Rs) l=if b i=db then jQ b a d Rs l else if 0<=(fR (a i) P []).2 then([],i,(fR (a i) P []).2)else jQ b a d Rs (l++(fR (a i) P []).1.map (qO<|d i))
 |[],l,_=>by simp[fR]
 |x::P,l,h=>by
  have hx:=h x (by simp);have g:=λy j=>h y<|yG _ j
  have ih:=λl=>yt b a d i Rs P l g
  rw[uL,jQ,hx];cases hs:b i
  .simp only[hs,Ib,↓reduceIte]at ih ⊢;rw[fR];by_cases e:nT (a i) x= -1
   .have f:¬nT (a i) x≠ -1:=λh=>h e
    rw[ai f,ai f,ih,r8];obtain⟨k,m⟩:=YC (a i) P (lN (a i) x) [];rw[k];by_cases c:0<=(fR (a i) P []).2;rw[aj c,aj c];obtain⟨M,n,o⟩:=m<|(ae5 (a i) P []).resolve_right c;rw[ai c,ai c,n,o,r8,gu,dY]
   rw[aj e,aj e,aj<|Vj _ _ e]
  simp only[hs,↓reduceIte]at ih ⊢;exact ih l
def aho:∀(b:List PR)(i:Nat),(∀x∈b,i<=x.line)->b.Pairwise (λx y=>x.line<=y.line)->∃P Rs,b=P++Rs/\(∀x∈P,x.line=i)/\(∀x∈Rs,i+1<=x.line)/\b.filter (λx=>x.line==i)=P
 |[],_,_,_=>⟨[],[],rfl,by simp,by simp,rfl⟩
 |x::b,i,h,hp=>by obtain⟨d,f⟩:=Ef.1 hp;have hx:=h x (by simp);by_cases c:x.line=i;obtain⟨P,Rs,e,g,j,k⟩:=aho b i (λy a=>h y<|by simp[a]) f;refine⟨x::P,Rs,by rw[e];rfl,?_,j,?_⟩;intro y a;rcases gI.1 a with rfl|a;exact c;exact g y a;rw[tG,aj<|by simpa using c,k];refine⟨[],x::b,rfl,by simp,?_,?_⟩;intro y a;rcases gI.1 a with rfl|a;omega;have:=d y a;omega;rw[T6];intro y a;rcases gI.1 a with rfl|a;simpa using c;have:=d y a;simp;omega
def yY(c:Nat->Bool)(b:Nat->bc)(d:Nat->Nat)(f:List PR):∀(n i:Nat)(a:List PR)(l:List Ed),(∀j,i<=j->f.filter (λx=>x.line==j)=a.filter (λx=>x.line==j))->(∀x∈a,i<=x.line/\x.line<i+n)->a.Pairwise (λx y=>x.line<=y.line)->yO c b d f n i l=jQ c b d a l
 |0,i,a,l,_,hq,_=>by
  cases a with
  |nil=>rfl
  |cons x o=>have:=hq x (by simp);omega
 |n+1,i,a,l,hf,hq,ho=>by
  obtain⟨P,Rs,e,g,h,k⟩:=aho a i (λx hx=>(hq x hx).1) ho;have ih:=λl=>yY c b d f n (i+1) Rs l (λj m=>by rw[hf j<|by omega,e,tD,T6.2 λx hx=>by have:=g x hx;simp;omega,r8]) (λx hx=>⟨h x hx,by have:=(hq x<|by rw[e];simp[hx]).2;omega⟩)<|by rw[e]at ho;exact(ajm.1 ho).2.1
  rw[yO,hf i<|au _,k,ih,ih,e,yt c b d i Rs P l g]
def aeM {L:ba}:∀{l:List PR}{a p:Nat},jn L a p l->l.Pairwise (λx y=>x.line<=y.line)/\∀x∈l,x.line<L.length
 |[],_,_,_=>⟨List.Pairwise.nil,by simp⟩
 |x::xs,a,p,h=>by obtain⟨g,d,i,j,k,m,c⟩:=h;obtain⟨e,f⟩:=aeM c;refine⟨Ef.2 ⟨λy b=>Xo c y b,e⟩,?_⟩;intro y b;rcases gI.1 b with rfl|b;exact d;exact f y b
def ati(s:bc)(h:s.size<=600)(b:Nat->Bool)(a:Nat->bc)(c:Nat->Nat):yO b a c (cO s) (aS s 0 0).length 0 []=jQ b a c (cO s) []:=by
 have f:jn (l9 s 0 0) 0 0 (cO s):=by unfold cO;rw[aj h];have:=aeN s;rw[<-RI]at this;exact this
 have g:(aS s 0 0).map (·.size)=l9 s 0 0:=aeY (by omega) (by omega);obtain⟨d,e⟩:=aeM f;refine yY b a c _ _ 0 _ [] (λ_ _=>rfl) (λx hx=>⟨lB _,?_⟩) d;have:=e x hx;rw[<-g,jh]at this;omega
def alj:∀r:Fin 128,cls (r.val:Int)<13:=by decide+kernel
def alk {r:Int}(a:0<=r)(h:r<128):cls r<13:=by
 obtain⟨n,rfl⟩:∃n:Nat,r=(n:Int):=⟨r.toNat,by omega⟩
 exact alj ⟨n,by omega⟩
def ny(y:PR):aw->Nat->aw->Option aw
 |[],_,st=>V st
 |r::rs,p,st=>
  if cls r<13 then ny y rs (p+wd r) st
  else if y.kind=0∨p<y.body∨y.end_<=p then U
  else if cls r<17 then ny y rs (p+wd r) (st++[17])
  else if 17<cls r/\cls r<21 then ny y rs (p+wd r) (st++[21])
  else if st.getLast? =V (cls r)then ny y rs (p+wd r) st.dropLast else U
def Yb:Option aw->Bool
 |some []=>db
 |_=>da
def GN {x:bc}{i:List PR}{k:Nat}{y:PR}(v:i[k]? =V y):∀(f:aw)(a b:Nat)(j d:aw)(c:Int),RX x a b f->(∀q,a<=q->q<b->pI q i 0=(k:Int))->(d=[]∨c=(k:Int))->ko i (f++j) a d c=match ny y f a d with
   |none=>da
   |some e=>ko i j b e (if f=[]then c else(k:Int))
 |[],a,b,j,d,c,h,_,_=>by have:a=b:=h;subst this;simp[ny]
 |r::f,a,b,j,d,c,h,hp,g=>by
  obtain⟨w,z,A,u⟩:=h;have B:=DD u;have C:=DF w z A;have t:=hp a (au _) (by omega);have s:¬((k:Int)≠c/\d≠[]):=by rintro⟨u1,u2⟩;rcases g with g|g;exact u2 g;exact u1 g.symm
  rw[uL,GC i r _ a d c k y t v,ai s,ny];have ih:=λe=>GN v f (a+aQ x a) b j e (k:Int) u (λq E D=>hp q (by omega) D) (.inr rfl)
  rw[<-C]at ih;simp only[ite_self]at ih;by_cases l:cls r<13;rw[aj l,aj l,ih];simp;rw[ai l,ai l];by_cases m:y.kind=0∨a<y.body∨y.end_<=a;rw[aj m,aj m];rw[ai m,ai m];by_cases n:cls r<17;rw[aj n,aj n,ih];simp;rw[ai n,ai n];by_cases o:17<cls r/\cls r<21;rw[aj o,aj o,ih];simp;rw[ai o,ai o];by_cases p:d.getLast? =V (cls r);rw[aj p,aj p,ih];simp;rw[ai p,ai p]
def UY {x:bc}(y:PR):∀(d:aw)(a b:Nat)(e f:aw),RX x a b d->ny y (d++e) a f=match ny y d a f with
   |none=>U
   |some c=>ny y e b c
 |[],a,b,e,f,h=>by have:a=b:=h;subst this;rfl
 |r::d,a,b,e,f,h=>by
  obtain⟨m,n,o,p⟩:=h;have q:=DF m n o;have ih:=λc=>UY y d (a+aQ x a) b e c p
  rw[<-q]at ih;rw[uL,ny,ny];by_cases g:cls r<13;rw[aj g,aj g,ih];rw[ai g,ai g];by_cases i:y.kind=0∨a<y.body∨y.end_<=a;rw[aj i,aj i];rw[ai i,ai i];by_cases j:cls r<17;rw[aj j,aj j,ih];rw[ai j,ai j];by_cases k:17<cls r/\cls r<21;rw[aj k,aj k,ih];rw[ai k,ai k];by_cases l:f.getLast? =V (cls r);rw[aj l,aj l,ih];rw[ai l,ai l]
def UZ(y:PR):∀(b:aw)(a:Nat)(c:aw),(∀r∈b,cls r<13)->ny y b a c=V c
 |[],_,_,_=>rfl
 |r::b,a,c,h=>by rw[ny,aj<|h r Pp];exact UZ y b _ c (λz d=>h z<|yG _ d)
def GJ(y:PR)(e:y.kind=0):∀(b:aw)(a:Nat)(c:aw),ny y b a c=if AU b=db then U else V c
 |[],_,_=>rfl
 |r::b,a,c=>by have f:=Gc r;rw[ny];unfold AU;rw[Pd];by_cases d:cls r<13;rw[aj d,GJ y e b];have:kz (cls r)=da:=(by unfold kz;rw[sB<|by omega];rfl);rw[this];rfl;rw[ai d,aj (.inl e)];have:kz (cls r)=db:=(by unfold kz;rw[nB<|by omega,nB<|by omega];rfl);rw[this];rfl
def GH {x:bc}(y:PR)(p:y.kind≠0):∀(f:aw)(a b:Nat)(c:ba),RX x a b f->y.body<=a->b<=y.end_->Yb (ny y f a<|c.map λ(n:Nat)=>(n:Int))=tU f c
 |[],a,b,c,_,_,_=>by
  rw[ny,tU];cases c with
  |nil=>rfl
  |cons s B=>rfl
 |r::f,a,b,c,h,hb,he=>by
  obtain⟨q,t,v,o⟩:=h;have z:=DD o;have A:=DF q t v;have w:=Gc r;have ih:=λg=>GH y p f (a+aQ x a) b g o (by omega) he
  rw[<-A]at ih;rw[ny,tU];by_cases k:cls r<13;have d:nC (cls r)=da:=(by unfold nC;simp;omega);have e:aU (cls r)=da:=(by unfold aU;simp;omega);have j:kz (cls r)=da:=(by unfold kz;rw[sB<|by omega];rfl);rw[aj k,d,e,j,ih];simp;rw[ai k,ai λh=>by rcases h with h|h|h;exact p h;omega;omega];by_cases l:cls r<17;have d:nC (cls r)=db:=(by unfold nC;simp;omega);rw[aj l,aj d,<-ih,gu];rfl;have d:¬nC (cls r)=db:=(by unfold nC;simp;omega);rw[ai l,ai d];by_cases m:17<cls r/\cls r<21;have e:aU (cls r)=db:=(by unfold aU;simp;omega);rw[aj m,aj e,<-ih,gu];rfl;have e:¬aU (cls r)=db:=(by unfold aU;simp;omega);have j:kz (cls r)=db:=(by unfold kz;rw[nB<|by omega,nB<|by omega];rfl);rw[ai m,ai e,aj j];rcases Bh c with rfl|⟨g,u,rfl⟩;rfl;rw[CX,gu];simp only[ni,Eb,Pk,ajf,Option.some_or,Iz,CZ];by_cases i:(u:Int)=cls r;rw[aj i,aj i,ih];rw[ai i,ai i];rfl
def YT {x:bc}:∀(d:aw)(a b:Nat),RX x a b d->(∀q,a<=q->q<b->bt x q<128)->∀r∈d,cls r<13
 |[],_,_,_,_,r,c=>by cases c
 |r0::d,a,b,h,hl,r,c=>by obtain⟨g,k,l,i⟩:=h;have n:=DD i;rcases gI.1 c with rfl|c;have m:=hl a (au _) (by omega);have e:bt x a=((x.get! a).toNat:Int):=(by unfold bt;rw[aj g]);rw[e]at m;rcases zk x a g k with⟨_,f,j⟩|⟨_,_,f,_⟩|⟨_,_,f,_⟩|⟨_,_,f,_⟩;rw[l,j];exact alk (by omega) (by omega);omega;omega;omega;exact YT d _ b i (λq p o=>hl q (by omega) o) r c
def YU {x:bc}{q:Nat}(s:q<=x.size)(i:Asc x q):∀(a:aw)(p b:Nat),RX x p b a->p<=q->q<=b->∃c d,a=c++d/\RX x p q c/\RX x q b d
 |a,p,b,h,hp,WE=>by
  by_cases o:p=q;subst o;exact⟨[],a,rfl,rfl,h⟩;cases a with
  |nil=>have:p=b:=h;omega
  |cons r a=>obtain⟨f,g,m,n⟩:=h;by_cases e:q<p+aQ x p;exact absurd i<|D2 f g (by omega) e;obtain⟨c,d,j,k,l⟩:=YU s i a (p+aQ x p) b n (by omega) WE;exact⟨r::c,d,by rw[j];rfl,⟨f,g,m,k⟩,l⟩
def aqB {x:bc}{y:PR}{b:aw}(hx:PX x y)(h:RX x y.from_ y.dR b):Yb (ny y b y.from_ [])=rA x y:=by
 unfold rA;by_cases a:y.kind=0;rw[aj a,Kh hx.tl h,GJ y a];simp only[uV];cases AU b<;>rfl
 rw[ai a];obtain⟨k,l,m,n,o,p,q⟩:=hx.bd a;have v:=hx.tl;obtain⟨d,j,r,g,s⟩:=YU (by omega:y.body<=x.size) n b y.from_ y.dR h k (by omega);obtain⟨e,f,t,c,u⟩:=YU (by omega:y.end_<=x.size) o j y.body y.dR s l m;rw[Kh (by omega) c];simp only[uV];rw[r,UY y d _ y.body j [] g,UZ y d _ [] (YT d _ _ g p)];simp only;rw[t,UY y e _ y.end_ f [] c];have i:=GH (x:=x) y a e y.body y.end_ [] c (au _)<|au _;rw[Eb]at i;rw[<-i];cases ny y e y.body []with
 |none=>rfl
 |some w=>simp only;rw[UZ y f _ w (YT f _ _ u q)]
def zJ {x:bc}{d:List PR}:∀(f:List PR)(a k:Nat)(e:aw)(b:Int),zY a x.size f->RA x a e->(∀y∈f,PX x y)->(∀q,a<=q->pI q d 0=pI q f k)->(∀j,f[j]? =d[k+j]?)->ko d e a [] b=f.all (rA x)
 |[],a,k,e,b,hc,hr,_,_,_=>by
  have F:a=x.size:=hc;cases e with
  |nil=>rfl
  |cons r e=>have:=hr.1;omega
 |y::ys,a,k,e,b,hc,hr,hx,hp,hj=>by
  obtain⟨w,N,C⟩:=hc;have t:=hx y Pp;obtain⟨v,g,D,i,E⟩:=Cf t.tl t.aT e a hr (by omega);have I:d[k]? =V y:=by have:=hj 0;simpa using this.symm
  have n:∀q,a<=q->q<y.dR->pI q d 0=(k:Int):=λq B K=>by rw[hp q B,pI,aj ⟨by omega,K⟩]
  have p:v≠[]:=by rintro rfl;have:a=y.dR:=i;omega
  have c:∀q,y.dR<=q->pI q d 0=pI q ys (k+1):=λq B=>by rw[hp q<|by omega,pI,ai λh=>by omega]
  have o:∀j,ys[j]? =d[k+1+j]? :=λj=>by have:=hj<|j+1;rw[show k+1+j=k+(j+1)by omega,<-this];simp
  have ih:=zJ ys y.dR (k+1) g (k:Int) C E (λz J=>hx z<|yG _ J) c o;have A:=aqB t (by rw[w];exact i);rw[w]at A;rw[D,GN I v a y.dR g [] b i n (.inl rfl),List.all_cons,<-A,ai p];cases hq:ny y v a []with
  |none=>rfl
  |some L=>
   cases L with
   |nil=>simp only;rw[ih];rfl
   |cons u M=>
    simp only;have G:Yb (V (u::M))=da:=rfl;rw[G,Oy];cases g with
    |nil=>rfl
    |cons r g=>
     rw[ko,aj];refine⟨?_,by simp⟩;rw[c y.dR<|au _];intro H;have:∀(l:List PR)(m q:Nat),k<m->pI q l m≠(k:Int):=by
      intro l
      induction l with
      |nil=>intro m q _ h;rw[pI]at h;omega
      |cons z P s=>intro m q O h;rw[pI]at h;split at h;omega;exact s (m+1) q (by omega) h
     exact this ys (k+1) y.dR (by omega) H
def alg {x:bc}{a:List PR}{b:aw}(c:zY 0 x.size a)(d:RA x 0 b)(hx:∀y∈a,PX x y):ko a b 0 [] (-1)=a.all (rA x):=
 zJ a 0 0 b (-1) c d hx (λ_ _=>rfl) (λj=>by rw[fV])
def asj {x:bc}{a:List PR}{b:aw}(c:zY 0 x.size a)(d:RA x 0 b)(hx:∀y∈a,PX x y):N8 x b a=wO b a:=by unfold N8 wO;rw[aqb c d hx,alg c d hx]
def YA {s:bc}(g:s.size<=600)(i:Nat):∀y∈eX s i,PX ((aS s 0 0).getD i ⟨#[]⟩) y:=by
 intro y c;unfold eX iV at c;obtain⟨a,d⟩:=uN.1 c;have e:y.line=i:=by simpa using d
 rw[N3 s g]at a;obtain⟨x,b,f⟩:=Yo s y a;rw[e]at b;rw[aN,b];exact f
def NJ {s:bc}(b:s.size<=600)(i:Nat)(a:i<(aS s 0 0).length):((aS s 0 0).getD i ⟨#[]⟩).size<=600:=by
 have e:(aS s 0 0).getD i ⟨#[]⟩=(aS s 0 0)[i]:=by rw[aN,aK a];rfl
 rw[e];have:=XD s 0 0 _ (nP a);omega
def aoC(s:bc)(h:(cV s).1=0)(i:Nat)(a:i<(aS s 0 0).length)(v:cJ)(w:cw)(aL g f:Addr)(n:Env w aL g f)(m:Br w)(p:Bn w v<|eX s i):cP prog 64 #[cd<|(aS s 0 0).getD i ⟨#[]⟩,v] w λe r=>e=bj (ce<|(eu s).getD i da)/\cD w.1.size w r:=by
 obtain⟨d,_,o⟩:=look_ok h;obtain⟨k,c⟩:=o i a;have j:=ags s d i a;have hx:=YA d i;have b:=vG k;have l:=aoB _ _ (eX s i) v w aL g f (NJ d i a) k c (N4 s i) n m p (λy q=>agm b<|hx y q) (apP j b hx);rw[asj j b hx]at l;have e:(eu s).getD i da=wO ((dA<|aS s 0 0).getD i []) (eX s i):=by unfold eu;rw[aN,jC,IB a];rfl
 rw[e];exact l
def oK:List bc->Nat->ba
 |[],_=>[]
 |l::ls,p=>p::oK ls (p+l.size+1)
def ahv:∀(a:List bc)(p:Nat),(oK a p).length=a.length
 |[],_=>rfl
 |l::a,p=>by simp[oK,ahv a]
def zf(l:ba):List cJ:=l.map λk=>Y Z (k:Nat)
def ir(a:List bc):Nat:=(a.map λl=>l.size+1).sum
def asV(a:List bc):∀(k p:Nat)(b:k<a.length),oK (a.drop k) p=p::oK (a.drop<|k+1) (p+(a[k]'b).size+1):=λk p b=>by rw[lV b,oK]
def as0(a:List bc)(k:Nat)(b:k<a.length):ir (a.drop k)=(a[k]'b).size+1+ir (a.drop<|k+1):=by rw[lV b];unfold ir;rw[ni,Lz]
def apd(a:List bc)(g n:Nat)(w:cw)(z:n=a.length)(Q:n<=1000000)(f:ir a<=1000000000)(r:w.1[g]? =V (bi (js a).toArray 9 (0,0))):cP prog 101 #[.slice (V<|S g 0 U) n n] w λe A=>∃q,e=bj (.slice (V<|S q 0 U) n n)/\aW A w.1.size 3 q n (zf<|oK a 0)/\cD w.1.size w A:=by
 have t:=run_make_row' (P:=prog) 31 3 (Y Z 0) 8 underlying31 Tryz.sQ rfl .i64 .i64 n (by omega) (by omega);have C:=ah r;have J:=bO r;have x:=ah z;have G:=ah f;clear r z f;go_enter func101,ntmps101;go_wp2;have E:dd (aW (w.alloc<|bi (madeCells #[Y Z 0] n) 3) w.1.size 3 w.1.size n<|List.replicate n<|Y Z 0):=aW.made (au _) (by omega);have B:dd (cD w.1.size w<|w.alloc<|bi (madeCells #[Y Z 0] n) 3):=(aA _ _).alloc (au _) _;generalize w.alloc (bi (madeCells #[Y Z 0] n) 3)=M at*;clear t;go_loopg [4,5,6,12] n (λgk L _ _ iv W=>∃(k p:Nat)(c:List cJ),k<=n/\gk=n - k/\iv=Y Z k/\L=Y Z p/\p+ir (a.drop k)<=1000000000/\aW W w.1.size 3 w.1.size n c/\c.take k++zf (oK (a.drop k) p)=zf (oK a 0)/\cD w.1.size w W);exact⟨0,0,_,by omega,rfl,rfl,rfl,by simpa using G.out,E,by simp,B⟩;obtain⟨k,p,c,O,rfl,rfl,rfl,u,d,h,i⟩:=hrel;by_cases j:k<n
 .have b:k<a.length:=by rw[<-x.out];exact j
  have s:(k:Int)<(n:Int):=by omega
  rw[asV a k p b]at h;rw[as0 a k b]at u;have N:wr.cell? (S g k U)=V (cd<|a[k]'b):=by rw[az (aR i C.out) k,jW,js,jC,aK b];rfl
  have v:c.length=n:=by have:=d.1;simpa using this
  have I:=d.frozen k;have H:wr.cell? (S w.1.size k U)=V (c[k]'(by omega)):=by rw[d.cell k j,aK<|by omega]
  have o:dd (aW (wr.setCell (S w.1.size k U)<|Y Z p) w.1.size 3 w.1.size n<|c.set k<|Y Z p):=d.set k _;have m:dd (cD w.1.size w<|wr.setCell (S w.1.size k U)<|Y Z p):=i.setCell (p:=(S w.1.size k U)) (au _) _;have D:dd ((c.set k<|Y Z p).take (k+1)++zf (oK (a.drop<|k+1)<|p+(a[k]'b).size+1)=zf (oK a 0)):=by show _=_;rw[<-h,pR<|by rw[mE];omega,List.getElem_set_self,List.take_set_of_le<|au _];simp[zf]
  have F:dd (p+(a[k]'b).size+1+ir (a.drop<|k+1)<=1000000000):=by show _<=_;omega
  have K:p+(a[k]'b).size+1<=1000000000:=by omega
  generalize c[k]'(by omega)=y at*;generalize a[k]'b=l at*;clear h d i u;go_wp2;go_roundg (n - (k+1));exact⟨k+1,p+l.size+1,_,by omega,rfl,by go_num,by go_num,F,o,D,m⟩;omega
 obtain rfl:k=n:=by omega
 have s:¬(k:Int)<(k:Int):=by omega
 rw[tC<|by rw[<-x.out];exact au _]at h;have v:c.length=k:=by have:=d.1;simpa using this
 have o:dd (aW wr w.1.size 3 w.1.size k<|zf<|oK a 0):=by show aW _ _ _ _ _ _;rw[<-h,oK,jY<|by omega];simpa [zf]using d
 have m:=ah i;clear h d i u;go_wp2;go_ret;exact⟨_,rfl,o,m⟩
def EB(e:Ed):Prop:=0<=e.a/\e.a<=1000000/\e.n.size<=12
def QO(d:bc)(r:Nat):(iR d r).size<=4:=by
 have h:∀k,(Et d k).size<=1:=λk=>by unfold Et;rw[A4];omega
 unfold iR;simp only[DN];have a:=h<|r / 16 / 16 / 16%16;have b:=h<|r / 16 / 16%16;have c:=h<|r / 16%16;have e:=h<|r%16;have f:(⟨#[]⟩:bc).size=0:=rfl;omega
def UL(i:Int->Bool)(g:Nat->bc)(h:∀r,(g r).size<=12):∀(f:aw)(p:Nat),∀e∈kf i g f p,0<=e.a/\e.a<=p+4*f.length/\e.n.size<=12
 |[],_,e,d=>by cases d
 |r::f,p,e,d=>by
  have j:wd r<=4:=by unfold wd;(repeat' split)<;>omega
  have ih:=UL i g h f (p+wd r) e;rw[kf]at d;simp only[eU];split at d;rcases gI.1 d with rfl|d;exact⟨FW _,by simp;omega,h _⟩;obtain⟨a,b,c⟩:=ih d;exact⟨a,by push_cast at*;omega,c⟩;obtain⟨a,b,c⟩:=ih d;exact⟨a,by push_cast at*;omega,c⟩
def amf(r:Nat):(zZ r).size<=12:=by unfold zZ;rw[DN];have:=QO qb r;have h:(⟨#[92,117]⟩:bc).size=2:=rfl;omega
def apA(r:Nat):(vA r).size<=12:=by unfold vA;rw[DN,DN];have:=QO sU r;have h:(⟨#[60,85,43]⟩:bc).size=3:=rfl;have a:(⟨#[62]⟩:bc).size=1:=rfl;omega
def arI(s:bc)(f t:Nat)(c:s.size<=600):(wL s f t).length<=600:=by
 unfold wL;cases h:cK (s.extract f t)with
 |none=>simp
 |some d=>
  have a:=N6<|vG h;have b:(s.extract f t).size<=s.size:=by rw[A4];omega
  simp only[uV];omega
def Yl {s:bc}(k:s.size<=600){x:PR}(hx:zU s x):(lN s x).length<=602/\∀e∈lN s x,0<=e.a/\e.a<=3000/\e.n.size<=12:=by
 have l:=arI s x.body x.end_ k;have d:=λh=>(hx.be h).1
 have f:=λh=>(hx.be h).2.1
 unfold lN;split;rename_i j;have g:=d (by omega);have i:=f (by omega);refine⟨by have:=PC fO zZ (wL s x.body x.end_) x.body;omega,λe h=> ?_⟩;obtain⟨a,b,c⟩:=UL fO zZ amf _ _ e h;exact⟨a,by omega,c⟩;split;rename_i j;have g:=d (by omega);have i:=f (by omega);refine⟨by have:=PC rS vA (wL s x.body x.end_) x.body;simp;omega,λe h=> ?_⟩;simp only[ji,r7]at h;rcases h with(rfl|h)|rfl;exact⟨FW _,by simp;omega,show 3<=12 by omega⟩;obtain⟨a,b,c⟩:=UL rS vA apA _ _ e h;exact⟨a,by omega,c⟩;exact⟨FW _,by simp;omega,show 3<=12 by omega⟩;exact⟨by simp,by simp⟩
def Qf(b:Nat->Bool)(a:Nat->bc)(c:Nat->Nat)(q:List PR):∀(p:List PR)(l:List Ed),jQ b a c (p++q) l=if(jQ b a c p l).2.2= -1 then jQ b a c q (jQ b a c p l).1 else jQ b a c p l
 |[],l=>by simp[jQ]
 |x::p,l=>by rw[uL,jQ,jQ];split;exact Qf b a c q p l;split;simp only;exact Qf b a c q p _
def U7(f:Nat->Bool)(a:Nat->bc)(b:Nat->Nat)(B:Ed->Prop):∀(p:List PR)(l:List Ed),(∀e∈l,B e)->(∀x∈p,(lN (a x.line) x).length<=602/\∀e∈lN (a x.line) x,B<|qO (b x.line) e)->(jQ f a b p l).1.length<=l.length+602*p.length/\∀e∈(jQ f a b p l).1,B e
 |[],l,h,_=>⟨by simp[jQ],h⟩
 |x::p,l,h,hp=>by
  obtain⟨m,k⟩:=hp x (by simp);have d:=λy g=>hp y<|yG _ g
  rw[jQ,eU];split;obtain⟨j,i⟩:=U7 f a b B p l h d;exact⟨by omega,i⟩;split;exact⟨by simp,by simp⟩;obtain⟨j,i⟩:=U7 f a b B p (l++(lN (a x.line) x).map (qO<|b x.line)) (λe c=>by rcases ji.1 c with c|c;exact h e c;obtain⟨y,g,rfl⟩:=jX.1 c;exact k y g) d;refine⟨?_,i⟩;rw[bG,jh]at j;omega
def ahu:∀(a:List bc)(p:Nat),∀k∈oK a p,k<=p+ir a
 |[],_,k,h=>by cases h
 |l::a,p,k,h=>by
  have e:ir (l::a)=l.size+1+ir a:=by unfold ir;rw[ni,Lz]
  rcases gI.1 h with rfl|h;omega;have:=ahu a _ k h;omega
def ahB:∀(a:List bc)(m:Nat),(∀l∈a,l.size<=m)->ir a<=a.length*(m+1)
 |[],_,_=>by simp[ir]
 |l::a,m,h=>by
  have e:ir (l::a)=l.size+1+ir a:=by unfold ir;rw[ni,Lz]
  have:=ahB a m (λx hx=>h x<|yG _ hx);have:=h l (by simp);rw[e,eU,Nat.succ_mul];omega
def asn(s:bc)(k T B E c a b p:Nat):∀y∈lQ s k T B E c a b p,y.kind=k:=by
 have f:∀c a b p,∀y∈dZ c k a b p B E,y.kind=k:=λc a b p y d=>by unfold dZ at d;split at d;simp at d;rw[d];cases d
 fun_induction lQ s k T B E c a b p with
 |case1 c a b p e g ih=>exact λy d=>(ji.1 d).elim (f _ _ _ _ y) (ih y)
 |case2 c a b p e g ih=>exact ih
 |case3 c a b p e=>exact f _ _ _ _
def atm(s:bc)(p:Nat):∀t∈dM s p,t.k<=2:=by
 fun_induction dM s p with
 |case1 p h ih=>
  have b:(dD s p).k<=2:=by unfold dD;(repeat' split)<;>simp
  unfold lG;split
  .split
   .rename_i u c e;rw[e]at ih;split<;>intro t a<;>simp only[gI]at a ih
    .rcases a with rfl|a;simp;exact ih t (.inr a)
    rcases a with rfl|a;exact b;exact ih t a
   intro t a;simp at a;rw[a];exact b
  intro t a;rcases gI.1 a with rfl|a;exact b;exact ih t a
 |case2 p h=>simp
def EU(s:bc):∀(b:List Tk)(d c:Nat),(∀t∈b,t.k<=2)->∀y∈gw s b d c,y.kind<=2
 |[],_,_,_,y,a=>by cases a
 |t::b,d,c,h,y,a=>by rw[gw]at a;rcases ji.1 a with a|a;rw[asn _ _ _ _ _ _ _ _ _ y a];exact h t (by simp);exact EU s b _ _ (λu e=>h u<|yG _ e) y a
def aqC {s:bc}(a:s.size<=600){x:PR}(hx:x∈cO s):x.kind<=2:=by rw[N3 s a]at hx;exact EU s _ 0 0 (atm s 0) x hx
def YR(s:bc)(B:Ed->Prop):∀(p:List PR)(l:List Ed),(∀e∈l,B e)->(∀x∈p,(lN s x).length<=602/\∀e∈lN s x,B e)->(fR s p l).1.length<=l.length+602*p.length/\∀e∈(fR s p l).1,B e
 |[],l,h,_=>⟨by simp[fR],h⟩
 |x::p,l,h,hp=>by obtain⟨g,f⟩:=hp x (by simp);rw[fR,eU];split;exact⟨by simp,by simp⟩;obtain⟨c,d⟩:=YR s B p (l++lN s x) (λe a=>(ji.1 a).elim (h e) (f e)) (λy b=>hp y<|yG _ b);refine⟨?_,d⟩;rw[bG]at c;omega
def oI(s:bc)(i:Nat):Bool:=(eu s).getD i da
def fB(s:bc)(i:Nat):bc:=(aS s 0 0).getD i ⟨#[]⟩
def oJ(s:bc)(i:Nat):Nat:=(oK (aS s 0 0) 0).getD i 0
def fJ(s:bc):List Ed×Int×Int:=jQ (oI s) (fB s) (oJ s) (cO s) []
def Za {s:bc}(c:s.size<=600):ir (aS s 0 0)<=400000:=by have d:=ahB (aS s 0 0) 600 (λl b=>by obtain⟨i,a,rfl⟩:=mC b;have:=NJ c i a;rwa [aN,aK a]at this);have e:=E5 s 0 0 (by omega);have:(aS s 0 0).length*(600+1)<=601*601:=zT (by omega)<|au _;omega
def aht {s:bc}(a:s.size<=600)(i:Nat):oJ s i<=400000:=by
 unfold oJ;rw[aN];cases h:(oK (aS s 0 0) 0)[i]? with
 |none=>simp
 |some k=>have:=ahu _ _ k (Pq h);have:=Za a;simp only[uV];omega
def Ym {s:bc}(d:(cV s).1=0){x:PR}(hx:x∈cO s):x.line<(aS s 0 0).length/\PX (fB s x.line) x/\zU (fB s x.line) x/\(fB s x.line).size<=600:=by
 obtain⟨b,_,f⟩:=look_ok d;have a:x.line<(aS s 0 0).length:=by rw[N3 s b]at hx;obtain⟨y,e,_⟩:=Yo s x hx;exact(tJ.1 e).1
 have c:=YA b x.line x (by unfold eX iV;exact uN.2 ⟨hx,by simp⟩);exact⟨a,c,agm (vG (f _ a).1) c,NJ b _ a⟩
def yC {s:bc}(c:(cV s).1=0){p:List PR}(d:p<+:cO s):(jQ (oI s) (fB s) (oJ s) p []).1.length<=602*600/\∀e∈(jQ (oI s) (fB s) (oJ s) p []).1,EB e:=by have i:=(look_ok c).1;obtain⟨a,b⟩:=U7 (oI s) (fB s) (oJ s) EB p [] (by simp) (λx hx=>by obtain⟨_,_,f,g⟩:=Ym c<|d.subset hx;obtain⟨j,k⟩:=Yl g f;refine⟨j,λe h=> ?_⟩;obtain⟨o,q,l⟩:=k e h;have:=aht i x.line;exact⟨by show 0<=e.a+_;omega,by show e.a+_<=_;omega,l⟩);have m:=d.length_le;have n:=AH s;refine⟨?_,b⟩;simp only[kW]at a;omega
def ahC:∀(l:List Ed),(∀e∈l,EB e)->iu l<=12*l.length
 |[],_=>by simp[iu]
 |e::l,h=>by
  have a:=ahC l (λx hx=>h x<|yG _ hx);have b:=(h e<|by simp).2.2;have:iu (e::l)=e.n.size+iu l:=by simp[iu]
  rw[this,eU];omega
def U8(s:bc)(c:(cV s).1=0):(fJ s).1.length<=1000000/\s.size+iu (fJ s).1<=140737488355328/\∀e∈(fJ s).1,e.a<=9223372036854775807:=by obtain⟨a,b⟩:=yC c<|gv _;have g:=(look_ok c).1;have f:=ahC _ b;unfold fJ;exact⟨by omega,by omega,λe d=>by have:=(b e d).2.1;omega⟩
def BD {A B:cw}{k:Nat}(h:A.1[k]? =B.1[k]?)(i:Nat):A.cell? (S k i U)=B.cell? (S k i U):=by unfold World.cell?;simp only[h]
section
attribute [local go_sem] Oper.semAt_some
def aj0 {F:Fence}{n:Nat}{P:Program}{g:Region.Mode}{c:Array Oper}{Q:Exit->Act->cw->Prop}(Inv:Array Bool->Act->cw->Prop) (e:∀L a w,Inv L a w->Region.ready g c L=[]->Q .normal a w) (f:∀L a w i,Inv L a w->i∈Region.ready g c L->wpOpIn F n P c Q i (Inv<|L.setIfInBounds i db) a w):∀(b:Nat)(L:Array Bool)(a:Act)(w:cw),L.toList.count da<=b->Inv L a w->wpAnyIn F n P g c Q b L a w:=by
 have key:∀(L:Array Bool)(j:Nat),j∈Region.ready g c L->∃h:j<L.size,L[j]=da:=λL j l=>by have d:=(mem_ready.1 l).1;by_cases h:j<L.size;exact⟨h,by simpa [Array.getD,h]using d⟩;simp[Array.getD,h]at d
 intro b
 induction b with
 |zero=>
  intro L a w s h;have o:Region.ready g c L=[]:=List.eq_nil_iff_forall_not_mem.2 λj l=>by obtain⟨d,k⟩:=key L j l;have:0<L.toList.count da:=ai7.2 (by rw[<-k];exact aiu d);omega
  exact⟨o,e L a w h o⟩
 |succ b ih=>
  intro L a w s h;refine⟨e L a w h,λi m=>wpOpIn_mono (λp t r=>ih _ p t ?_ r)<|f L a w i h m⟩;obtain⟨d,k⟩:=key L i m;have:0<L.toList.count da:=ai7.2 (by rw[<-k];exact aiu d);rw[Array.toList_setIfInBounds,List.count_set<|by simpa using d];have q:(L.toList[i]'(by simpa using d)==da)=db:=by simp[k]
  rw[aj q,ai<|by decide];omega
def Cn {F:Fence}{n l:Nat}{P:Program}{b:Array Oper}{Q:Exit->Act->cw->Prop}{K:Act->cw->Prop}{a:Act}{w g:cw}{i:Nat}{v:cJ}(hF:F.round=V l)(o:Oper)(m:b[i]? =V o)(k:o.guard=U)(j:∀c,o.op≠.defer c)(d:o.about P w a.eval=U) (p:(execOp a.eval o).run P w= .ok (.value v) g) (h:K (a.put o.dst v) g):wpOpIn F n P b Q i K a w:=by
 unfold wpOpIn;rw[m];have q:Region.wanted o (yielded b a.tmps)=db:=by simp[Region.wanted,k]
 simp only[q,Aq];refine⟨(λf e=>by rw[d]at e;cases e),?_⟩;rw[hF,Eh l _ _ j,p];exact h
def step_skip {F:Fence}{n l:Nat}{P:Program}{b:Array Oper}{Q:Exit->Act->cw->Prop}{K:Act->cw->Prop}{a:Act}{w g:cw}{i:Nat}(hF:F.round=V l)(o:Oper)(m:b[i]? =V o)(k:o.guard=U)(j:∀c,o.op≠.defer c)(d:o.about P w a.eval=U) (p:(execOp a.eval o).run P w= .ok .skip g) (h:K (a.put o.dst undef) g):wpOpIn F n P b Q i K a w:=by
 unfold wpOpIn;rw[m];have q:Region.wanted o (yielded b a.tmps)=db:=by simp[Region.wanted,k]
 simp only[q,Aq];refine⟨(λf e=>by rw[d]at e;cases e),?_⟩;rw[hF,Eh l _ _ j,p];exact h
section
variable(ρ:Operand->Value)(w:World)(bx rb pb n i:Nat)(d:Option Tmp)
def aiq(b:w.cell? (S bx 0 U)=V (.slice (V<|S rb 0 U) n n))(a:ρ (.tmp 6)= .pointer (V<|S bx 0 U)):(execOp ρ {dst:=d,op:=Op.load 103<|Operand.tmp 6,type:=103,pos:= "guard.go:66",after:=#[],guard:=U}).run prog w= .ok (.value (.slice (V<|S rb 0 U) n n)) w:=by go_simp
def air(a:ρ (.tmp 7)=Y Z i):(execOp ρ {dst:=d,op:=Op.move<|Operand.tmp 7,type:=3,pos:= "guard.go:66",after:=#[],guard:=U}).run prog w= .ok (.value<|Y Z i) w:=by go_simp
def aip(j k:Nat)(a:Array Edge)(f:ρ (.tmp j)= .slice (V<|S rb 0 U) n n)(g:ρ (.tmp k)=Y Z i)(e:i<n):(execOp ρ {dst:=d,op:=Op.indexAddr 103 (Operand.tmp j)<|Operand.tmp k,type:=0,pos:= "guard.go:66",after:=a,guard:=U}).run prog w= .ok (.value (.pointer<|V<|S rb i U)) w:=by
 have b:(0:Int)<=(i:Int):=by omega
 have c:(i:Int)<(n:Int):=by omega
 go_simp
def auq(a:cJ)(b:Array Edge)(e:ρ (.tmp 30)= .pointer (V<|S rb i U))(c:w.cell? (S rb i U)=V a):(execOp ρ {dst:=d,op:=Op.load 71<|Operand.tmp 30,type:=71,pos:= "guard.go:66",after:=b,guard:=U}).run prog w= .ok (.value a) w:=by go_simp
def aup(a b c e f:cJ)(l:ρ (.tmp 8)= .pointer (V<|S pb 0 U))(g:w.cell? (S pb 0 U)=V a)(h:w.cell? (S pb 1 U)=V b)(i:w.cell? (S pb 2 U)=V c)(j:w.cell? (S pb 3 U)=V e)(k:w.cell? (S pb 4 U)=V f):(execOp ρ {dst:=d,op:=Op.load 75<|Operand.tmp 8,type:=75,pos:= "guard.go:66",after:=#[],guard:=U}).run prog w= .ok (.value<|df #[a,b,c,e,f]) w:=by go_simp
def auo(a b c e f:Int)(g:Array Edge)(h:ρ (.tmp 32)=df #[Y Z a,Y Z b,Y Z c,Y Z e,Y Z f]):(execOp ρ {dst:=d,op:=Op.buildSlice 71 1 #[(0,Operand.tmp 32)],type:=71,pos:= "guard.go:66",after:=g,guard:=U}).run prog w= .ok (.value (.slice (V<|S w.1.size 0 U) 1 1)) (w.alloc<|bi #[Y Z a,Y Z b,Y Z c,Y Z e,Y Z f] 75):=by go_simp
def aur(d:cJ)(q:Option Addr)(m c:Nat)(a:Array Edge)(b:ρ (.tmp 35)= .pointer (V<|S rb i U))(g:ρ (.tmp 34)=R q m c)(e:w.cell? (S rb i U)=V d)(f:w.frozen? (S rb i U)=da):(execOp ρ {dst:=U,op:=Op.store 71 (Operand.tmp 35)<|Operand.tmp 34,type:=0,pos:= "guard.go:66",after:=a,guard:=U}).run prog w= .ok .skip (w.setCell (S rb i U)<|R q m c):=by go_simp
def aun(W:cw)(b k:Nat)(h:cJ)(p a:List cJ)(q:Array Edge)(g:Nat)(hx:ρ (.tmp 31)=h)(y:ρ (.tmp 33)= .slice (V<|S g 0 U) 1 1)(f:W.ownsRow b 75 5 h k p)(B:a.length=5)(c:∀j u,a[j]? =V u->W.cell? (((S g 0 U):Addr).add j)=V u)(r:∀u∈a,u.oneCell'=db)(A:k<=1000000)(w:b<=W.1.size):∃e i,(execOp ρ {dst:=d,op:=Op.call {callee:=Callee.builtin Builtin.append,args:=#[Operand.tmp 31,Operand.tmp 33],argTypes:=#[71,71]},type:=71,pos:= "guard.go:66",after:=q,guard:=U}).run prog W= .ok (.value e) i/\i.ownsRow b 75 5 e (k+1) (p++a)/\W.grownBy i h.ownBlock/\(e.ownBlock=h.ownBlock∨e.ownBlock=V W.1.size):=by obtain⟨z,l,m,n,o⟩:=fP Tryz.aeE;obtain⟨e,i,x,s,t,_,v⟩:=nD (P:=prog) W b 71 71 75 z _ 5 40 underlying71 l m n o rfl (by decide) h k p f (S g 0 U) 1 1 a (by omega) c r (by unfold maxLen;omega) (by omega) w;refine⟨e,i,?_,s,t,v⟩;unfold execOp;simp only[resolve,invoke,builtin,IU,j4,Uk,fZ,ni,Eb,hx,y,x]
end
def V9(c a n i:Nat)(d b:cJ):Nat->cJ
 |0=> .slice (V<|S a 0 U) n n
 |1=>Y Z i
 |2=> .slice (V<|S a 0 U) n n
 |3=>Y Z i
 |4=> .pointer (V<|S a i U)
 |5=>d
 |6=>b
 |7=> .slice (V<|S c 0 U) 1 1
 |_=> .pointer (V<|S a i U)
structure Ia(W:World)(base k:Nat)(rv:Value)(xs:List Value)(x:PR)(w8:World)(v:Value):Prop where
 own:w8.ownsRow base 75 5 v (k+1)<|xs++rN x
 gr:(W.alloc (.cells (rN x).toArray 75)).grownBy w8 rv.ownBlock
 blk:v.ownBlock=rv.ownBlock∨v.ownBlock=some (W.1.size+1)
structure I9(W:World)(bx rb pb n i base k:Nat)(rv:Value)(xs:List Value)(x:PR)(L:Array Bool)(a:Act)(w:World):Prop where
 lz:L.size=11
 tz:36<=a.tmps.size
 e6:a.eval (.tmp 6)= .pointer (some ⟨bx,0,none⟩)
 e7:a.eval (.tmp 7)= .int .i64 i
 e8:a.eval (.tmp 8)= .pointer (some ⟨pb,0,none⟩)
 vs:∀j,j<10->j≠8->L.getD j false=true->a.eval (.tmp (26+j))=V9 W.1.size rb n i rv (uv x) j
 w0:L.getD 7 false=false->w=W
 w7:L.getD 7 false=true->L.getD 8 false=false->w=W.alloc (.cells (rN x).toArray 75)
 w8:L.getD 8 false=true->L.getD 10 false=false->Ia W base k rv xs x w (a.eval (.tmp 34))
 H9:L.getD 10 false=true->∃w8 v,Ia W base k rv xs x w8 v/\w=w8.setCell ⟨rb,i,none⟩ v
 Dw:L.getD 8 false=true->L.getD 7 false=true
 Du:L.getD 10 false=true->L.getD 8 false=true
 oA:L.getD 10 false=true->∀m,m<10->L.getD m false=true
 Dv:L.getD 7 false=true->L.getD 6 false=true
def i6 {L:Array Bool}{i j:Nat}(h:i≠j):(L.setIfInBounds i db).getD j da=L.getD j da:=by simp only[ZU];rw[Cu h]
def Ea {L:Array Bool}{i j:Nat}(h:L.getD j da=db):(L.setIfInBounds i db).getD j da=db:=by
 by_cases e:i=j
 .subst e;have:i<L.size:=by by_cases q:i<L.size;exact q;simp[Array.getD,q]at h
  simp[Array.getD,this]
 rw[i6 e];exact h
def Lp {L:Array Bool}{i:Nat}(h:i<L.size):(L.setIfInBounds i db).getD i da=db:=by simp[Array.getD,h]
section
variable{W:World}{bx rb pb n i base k:Nat}{rv:Value}{xs:List Value}{x:PR}{L:Array Bool}{a:Act}{w:World}
def I9.vs'(h:I9 W bx rb pb n i base k rv xs x L a w){j:Nat}{v:cJ}(g:j<10)(f:j≠8->v=V9 W.1.size rb n i rv (uv x) j):∀m,m<10->m≠8->(L.setIfInBounds j db).getD m da=db->(a.put (V (26+j)) v).eval (.tmp (26+m))=V9 W.1.size rb n i rv (uv x) m:=by intro m d b c;by_cases e:j=m;subst e;rw[Act.eval_put_same _ _ _ (by have:=h.tz;omega)];exact f b;rw[i6 e]at c;rw[Act.eval_put_ne _ _ _ _ (by omega)];exact h.vs m d b c
def RO(a:Act)(d:Option Tmp)(v:cJ):(a.put d v).tmps.size=a.tmps.size:=by cases d<;>simp[Act.put]
def I9.put(h:I9 W bx rb pb n i base k rv xs x L a w){j:Nat}(d:j<10)(c:j≠8)(b:j≠7):I9 W bx rb pb n i base k rv xs x (L.setIfInBounds j db) (a.put (V (26+j))<|V9 W.1.size rb n i rv (uv x) j) w where
 lz:=by simp[h.lz]
 tz:=by rw[RO];exact h.tz
 e6:=by rw[Act.eval_put_ne _ _ _ _ (by omega)];exact h.e6
 e7:=by rw[Act.eval_put_ne _ _ _ _ (by omega)];exact h.e7
 e8:=by rw[Act.eval_put_ne _ _ _ _ (by omega)];exact h.e8
 vs:=h.vs' d λ_=>rfl
 w0:=by rw[i6 b];exact h.w0
 w7:=by rw[i6 b,i6 c];exact h.w7
 w8:=by rw[i6 c,i6<|by omega,Act.eval_put_ne _ _ _ _ (by omega)];exact h.w8
 H9:=by rw[i6<|by omega];exact h.H9
 Dw:=by rw[i6 b,i6 c];exact h.Dw
 Du:=by rw[i6<|by omega,i6 c];exact h.Du
 oA:=by rw[i6<|by omega];exact λe m f=>Ea<|h.oA e m f
 Dv:=by rw[i6 b];exact λe=>Ea<|h.Dv e
def I9.ard(h:I9 W bx rb pb n i base k rv xs x L a W)(b:L.getD 7 da=da)(d:L.getD 6 da=db):I9 W bx rb pb n i base k rv xs x (L.setIfInBounds 7 db) (a.put (V 33) (.slice (V<|S W.1.size 0 U) 1 1)) (W.alloc<|bi (rN x).toArray 75) where
 lz:=by simp[h.lz]
 tz:=by rw[RO];exact h.tz
 e6:=by rw[Act.eval_put_ne _ _ _ _ (by omega)];exact h.e6
 e7:=by rw[Act.eval_put_ne _ _ _ _ (by omega)];exact h.e7
 e8:=by rw[Act.eval_put_ne _ _ _ _ (by omega)];exact h.e8
 vs:=h.vs' (j:=7) (by omega) λ_=>rfl
 w0:=by rw[Lp<|by rw[h.lz];omega];intro h;cases h
 w7:=λ_ _=>rfl
 w8:=by rw[i6<|by omega];intro f;rw[h.Dw f]at b;cases b
 H9:=by rw[i6<|by omega];intro c;rw[h.Dw<|h.Du c]at b;cases b
 Dw:=λ_=>Lp<|by rw[h.lz];omega
 Du:=by rw[i6<|by omega,i6<|by omega];exact h.Du
 oA:=by rw[i6<|by omega];exact λe m g=>Ea<|h.oA e m g
 Dv:=λ_=>Ea d
def I9.arf(h:I9 W bx rb pb n i base k rv xs x L a w)(f:L.getD 8 da=da)(d:L.getD 7 da=db){c:cw}{v:cJ}(g:Ia W base k rv xs x c v):I9 W bx rb pb n i base k rv xs x (L.setIfInBounds 8 db) (a.put (V 34) v) c where
 lz:=by simp[h.lz]
 tz:=by rw[RO];exact h.tz
 e6:=by rw[Act.eval_put_ne _ _ _ _ (by omega)];exact h.e6
 e7:=by rw[Act.eval_put_ne _ _ _ _ (by omega)];exact h.e7
 e8:=by rw[Act.eval_put_ne _ _ _ _ (by omega)];exact h.e8
 vs:=h.vs' (j:=8) (by omega) λe=>absurd rfl e
 w0:=by rw[i6<|by omega,d];intro h;cases h
 w7:=by rw[Lp<|by rw[h.lz];omega];intro _ h;cases h
 w8:=by intro _ _;rw[Act.eval_put_same _ _ _ (by have:=h.tz;omega)];exact g
 H9:=by rw[i6<|by omega];intro b;rw[h.Du b]at f;cases f
 Dw:=λ_=>by rw[i6<|by omega];exact d
 Du:=λ_=>Lp<|by rw[h.lz];omega
 oA:=by rw[i6<|by omega];exact λe m l=>Ea<|h.oA e m l
 Dv:=by rw[i6<|by omega];exact λe=>Ea<|h.Dv e
def I9.arc(h:I9 W bx rb pb n i base k rv xs x L a w)(c:L.getD 7 da=db)(b:L.getD 8 da=db)(f:L.getD 10 da=da)(d:∀m,m<10->L.getD m da=db):I9 W bx rb pb n i base k rv xs x (L.setIfInBounds 10 db) (a.put U undef) (w.setCell (S rb i U)<|a.eval (.tmp 34)) where
 lz:=by simp[h.lz]
 tz:=by rw[RO];exact h.tz
 e6:=h.e6
 e7:=h.e7
 e8:=h.e8
 vs:=λj g b=>by rw[i6<|by omega];exact h.vs j g b
 w0:=by rw[i6<|by omega,c];intro h;cases h
 w7:=by rw[i6<|by omega,i6<|by omega,b];intro _ h;cases h
 w8:=by rw[Lp<|by rw[h.lz];omega];intro _ h;cases h
 H9:=λ_=>⟨w,_,h.w8 b f,rfl⟩
 Dw:=by rw[i6<|by omega,i6<|by omega];exact h.Dw
 Du:=λ_=>by rw[i6<|by omega];exact b
 oA:=λ_ m l=>Ea<|d m l
 Dv:=by rw[i6<|by omega];exact λe=>Ea<|h.Dv e
end
end
section
attribute [local go_sem] Oper.semAt_some
def BG(n:Nat):Code->Option Code
 | .region id ops d=>if id=n then V (.region id ops d)else U
 |.seq a b=>match BG n a with
  |some c=>V c
  |none=>BG n b
 | .block _ c=>BG n c
 | .scope c=>BG n c
 | .loop c=>BG n c
 |.cond _ a b=>match BG n a with
  |some c=>V c
  |none=>BG n b
 |.rangeFunc _ _ a b=>match BG n a with
  |some c=>V c
  |none=>BG n b
 |_=>U
noncomputable def asi:Code:=((Tryz.f39.body.bind<|BG 9).getD .skip)
def ash(l:Nat)(W:cw)(u q P n i g k:Nat)(rows:Array cJ)(y:cJ)(K:List cJ)(x:PR)(a:Act)(Q:Exit->Act->cw->Prop) (vh:W.1[u]? =V (bi #[.slice (V<|S q 0 U) n n] 103 (0,0))) (ab:W.1[q]? =V (bi rows 71 (0,0))) (hi:i<n) (jq:rows[i]? =V y) (aa:W.1[P]? =V (bi (rN x).toArray 75 (0,0))) (C:W.ownsRow g 75 5 y k K) (hk:k<=1000000) (X:g<=W.1.size) (ht:36<=a.tmps.size) (e6:a.eval (.tmp 6)= .pointer (V<|S u 0 U)) (e7:a.eval (.tmp 7)=Y Z i) (e8:a.eval (.tmp 8)= .pointer (V<|S P 0 U)) (hQ:∀a' w8 v,Ia W.drew g k y K x w8 v->Q .normal a' (w8.setCell (S q i U) v)):asi.wpIn (Fence.wide.inRound l) 0 prog Q a W:=by
 conv=>arg 4;whnf
 refine wpIn_region_any (by kernel_rfl) ?_;change wpAnyIn _ _ _ _ _ _ _ _ _ (World.drew _);have F:W.drew.1[u]? =V (bi #[.slice (V<|S q 0 U) n n] 103 (0,0)):=vh;have E:W.drew.1[q]? =V (bi rows 71 (0,0)):=ab;have R:W.drew.1[P]? =V (bi (rN x).toArray 75 (0,0)):=aa;have z:W.drew.ownsRow g 75 5 y k K:=C;have af:g<=W.drew.1.size:=X;clear vh ab aa C X;generalize W.drew=D at*;have nb:∀j,y.ownBlock=V j->j≠u/\j≠q:=λj hj=>by obtain⟨_,c,M⟩:=jL z hj;exact⟨(λe=>by subst e;rw[F]at M;cases M),λe=>by subst e;rw[E]at M;cases M⟩
 have kp:∀w8 v,Ia D g k y K x w8 v->w8.1[u]? =V (bi #[.slice (V<|S q 0 U) n n] 103 (0,0))/\w8.1[q]? =V (bi rows 71 (0,0)):=λw8 v N=>
  ⟨(N.gr.block u (by have:=bO F;simp;omega) λe=>(nb _ e.symm).1 rfl).trans ((dh D _ u (bO F)).trans F),
   (N.gr.block q (by have:=bO E;simp;omega) λe=>(nb _ e.symm).2 rfl).trans ((dh D _ q (bO E)).trans E)⟩
 have rd:∀L a w,I9 D u q P n i g k y K x L a w->L.getD 10 da=da->w.cell? (S u 0 U)=V (.slice (V<|S q 0 U) n n)/\w.cell? (S q i U)=V y/\w.frozen? (S q i U)=da:=by
  intro L a w h ad;have H:∀w:cw,w.1[u]? =V (bi #[.slice (V<|S q 0 U) n n] 103 (0,0))->w.1[q]? =V (bi rows 71 (0,0))->w.cell? (S u 0 U)=V (.slice (V<|S q 0 U) n n)/\w.cell? (S q i U)=V y/\w.frozen? (S q i U)=da:=λw M h2=>⟨az M 0,(az h2 i).trans jq,cB h2 i⟩
  by_cases h7:L.getD 7 da=db;by_cases h8:L.getD 8 da=db;obtain⟨q1,q2⟩:=kp _ _ (h.w8 h8 ad);exact H w q1 q2;rw[h.w7 h7<|by simpa using h8];exact H _ ((dh D _ u (bO F)).trans F) ((dh D _ q (bO E)).trans E);rw[h.w0<|by simpa using h7];exact H _ F E
 refine aj0 (I9 D u q P n i g k y K x) ?_ ?_ _ _ _ _ (by simp) ?_
 .intro L a w h hr;have A:∀j o,(_:Array Oper)[j]? =V o->(∀e∈o.after,Region.binds .any e=db->L.getD e.on da=db)->j<11->L.getD j da=db:=λj o f b hj=>by by_cases s:L.getD j da=db;exact s;exfalso;have:j∈Region.ready _ _ L:=mem_ready.2 ⟨by have hz:=h.lz;simp only[ZU]at s ⊢;rw[Ot<|by omega]at s ⊢;simpa using s,o,f,b⟩;rw[hr]at this;cases this
  have g0:=A 0 _ rfl (by simp) (by omega);have g1:=A 1 _ rfl (by simp) (by omega);have g2:=A 2 _ rfl (by simp) (by omega);have g3:=A 3 _ rfl (by simp) (by omega);have g4:=A 4 _ rfl (by intro e p _;simp at p;(repeat' (rcases p with rfl|p));all_goals(first|assumption|(subst p;assumption))) (by omega);have g5:=A 5 _ rfl (by intro e p _;simp at p;(repeat' (rcases p with rfl|p));all_goals(first|assumption|(subst p;assumption))) (by omega);have g6:=A 6 _ rfl (by simp) (by omega);have g7:=A 7 _ rfl (by intro e p _;simp at p;(repeat' (rcases p with rfl|p));all_goals(first|assumption|(subst p;assumption))) (by omega);have g8:=A 8 _ rfl (by intro e p _;simp at p;(repeat' (rcases p with rfl|p));all_goals(first|assumption|(subst p;assumption))) (by omega);have g9:=A 9 _ rfl (by intro e p _;simp at p;(repeat' (rcases p with rfl|p));all_goals(first|assumption|(subst p;assumption))) (by omega);have ac:=A 10 _ rfl (by intro e p _;simp at p;(repeat' (rcases p with rfl|p));all_goals(first|assumption|(subst p;assumption))) (by omega);obtain⟨w8,v,N,rfl⟩:=h.H9 ac;exact hQ _ _ _ N
 .intro L a w j h hj;obtain⟨t,o,f,b⟩:=mem_ready.1 hj;have hz:=h.lz;have J:∀m,m<11->L.getD m db=da->L.getD m da=da:=λm hm B=>by simp only[ZU]at B ⊢;rw[Ot<|by omega]at B ⊢;simpa using B
  have hF:(Fence.wide.inRound l).round=V l:=rfl;have I:∀m,m<10->L.getD m da=da->L.getD 10 da=da:=λm hm B=>by by_cases e:L.getD 10 da=db;rw[h.oA e m hm]at B;cases B;simpa using e
  have ae:L.getD 6 da=da->L.getD 7 da=da:=λB=>by by_cases e:L.getD 7 da=db;rw[h.Dv e]at B;cases B;simpa using e
  match j,t,f,b with
  |0,t,f,b=>have d:V _=V o:=f;obtain rfl:=aI d;clear f d;obtain⟨r1,r2,r3⟩:=rd L a w h<|I 0 (by omega)<|J 0 (by omega) t;refine Cn hF _ rfl rfl (by intro c r;cases r) rfl (aiq _ w u q n _ r1 h.e6) ?_;exact h.put (j:=0) (by omega) (by omega)<|by omega
  |1,t,f,b=>have d:V _=V o:=f;obtain rfl:=aI d;clear f d;refine Cn hF _ rfl rfl (by intro c r;cases r) rfl (air _ w i _ h.e7) ?_;exact h.put (j:=1) (by omega) (by omega)<|by omega
  |2,t,f,b=>have d:V _=V o:=f;obtain rfl:=aI d;clear f d;obtain⟨r1,r2,r3⟩:=rd L a w h<|I 2 (by omega)<|J 2 (by omega) t;refine Cn hF _ rfl rfl (by intro c r;cases r) rfl (aiq _ w u q n _ r1 h.e6) ?_;exact h.put (j:=2) (by omega) (by omega)<|by omega
  |3,t,f,b=>have d:V _=V o:=f;obtain rfl:=aI d;clear f d;refine Cn hF _ rfl rfl (by intro c r;cases r) rfl (air _ w i _ h.e7) ?_;exact h.put (j:=3) (by omega) (by omega)<|by omega
  |4,t,f,b=>have d:V _=V o:=f;obtain rfl:=aI d;clear f d;have k2:=b ⟨2,.data⟩ (by simp) rfl;have k3:=b ⟨3,.data⟩ (by simp) rfl;refine Cn hF _ rfl rfl (by intro c r;cases r) rfl (aip _ w q n i _ 28 29 _ (h.vs 2 (by omega) (by omega) k2) (h.vs 3 (by omega) (by omega) k3) hi) ?_;exact h.put (j:=4) (by omega) (by omega)<|by omega
  |5,t,f,b=>have d:V _=V o:=f;obtain rfl:=aI d;clear f d;have k4:=b ⟨4,.data⟩ (by simp) rfl;obtain⟨r1,r2,r3⟩:=rd L a w h<|I 5 (by omega)<|J 5 (by omega) t;refine Cn hF _ rfl rfl (by intro c r;cases r) rfl (auq _ w q i _ y _ (h.vs 4 (by omega) (by omega) k4) r2) ?_;exact h.put (j:=5) (by omega) (by omega)<|by omega
  |6,t,f,b=>have d:V _=V o:=f;obtain rfl:=aI d;clear f d;have e7:L.getD 7 da=da:=ae<|J 6 (by omega) t;have T:=h.w0 e7;subst T;refine Cn hF _ rfl rfl (by intro c r;cases r) rfl (aup _ w P _ _ _ _ _ _ h.e8 (az R 0) (az R 1) (az R 2) (az R 3) (az R 4)) ?_;exact h.put (j:=6) (by omega) (by omega)<|by omega
  |7,t,f,b=>have d:V _=V o:=f;obtain rfl:=aI d;clear f d;have k6:=b ⟨6,.data⟩ (by simp) rfl;have e7:=J 7 (by omega) t;have T:=h.w0 e7;subst T;refine Cn hF _ rfl rfl (by intro c r;cases r) rfl (auo _ w _ _ _ _ _ _ _ (h.vs 6 (by omega) (by omega) k6)) ?_;exact h.ard e7 k6
  |8,t,f,b=>have d:V _=V o:=f;obtain rfl:=aI d;clear f d;have k5:=b ⟨5,.data⟩ (by simp) rfl;have O:=b ⟨7,.data⟩ (by simp) rfl;have e8:=J 8 (by omega) t;have T:=h.w7 O e8;subst T;obtain⟨v',w',q1,q2,q3,q4⟩:=aun a.eval (V 34) (D.alloc<|bi (rN x).toArray 75) g k y K (rN x) #[⟨5,.data⟩,⟨7,.data⟩] D.1.size (h.vs 5 (by omega) (by omega) k5) (h.vs 7 (by omega) (by omega) O) (z.alloc _) rfl (af7 _ _ _ _ _ _ _) (by simp[rN,Value.oneCell']) hk (by simp;omega);refine Cn hF _ rfl rfl (by intro c r;cases r) rfl q1 ?_;exact h.arf e8 O ⟨q2,q3,by simpa using q4⟩
  |9,t,f,b=>have d:V _=V o:=f;obtain rfl:=aI d;clear f d;have k0:=b ⟨0,.data⟩ (by simp) rfl;have k1:=b ⟨1,.data⟩ (by simp) rfl;refine Cn hF _ rfl rfl (by intro c r;cases r) rfl (aip _ w q n i _ 26 27 _ (h.vs 0 (by omega) (by omega) k0) (h.vs 1 (by omega) (by omega) k1) hi) ?_;exact h.put (j:=9) (by omega) (by omega)<|by omega
  |10,t,f,b=>
   have d:V _=V o:=f;obtain rfl:=aI d;clear f d;have k9:=b ⟨9,.data⟩ (by simp) rfl;have k8:=b ⟨8,.data⟩ (by simp) rfl;have O:=b ⟨7,.phase⟩ (by simp) rfl;have G:=J 10 (by omega) t;obtain⟨r1,r2,r3⟩:=rd L a w h G;have N:=h.w8 k8 G;obtain⟨ga,ca,ev⟩:=ownsRow_succ N.own;have hp:=h.arc O k8 G (λm hm=>by
    match m,hm with
    |0,_=>exact b ⟨0,.phase⟩ (by simp) rfl
    |1,_=>exact b ⟨1,.phase⟩ (by simp) rfl
    |2,_=>exact b ⟨2,.phase⟩ (by simp) rfl
    |3,_=>exact b ⟨3,.phase⟩ (by simp) rfl
    |4,_=>exact b ⟨4,.phase⟩ (by simp) rfl
    |5,_=>exact b ⟨5,.phase⟩ (by simp) rfl
    |6,_=>exact b ⟨6,.phase⟩ (by simp) rfl
    |7,_=>exact O
    |8,_=>exact k8
    |9,_=>exact k9
    |m+10,hm=>omega)
   rw[ev]at hp;exact step_skip hF _ rfl rfl (by intro c r;cases r) rfl (aur _ w q i y _ _ _ _ (h.vs 9 (by omega) (by omega) k9) ev r2 r3) hp
  |j+11,t,f,b=>simp at f
 exact
 {lz:=(by simp),tz:=ht,e6:=e6,e7:=e7,e8:=e8,
  vs:=λj hj _ s=>(by exfalso;revert s;simp[Array.getD]),
  w0:=λ_=>rfl,
  w7:=λs=>(by exfalso;revert s;simp[Array.getD]),
  w8:=λs=>(by exfalso;revert s;simp[Array.getD]),
  H9:=λs=>(by exfalso;revert s;simp[Array.getD]),
  Dw:=λs=>(by exfalso;revert s;simp[Array.getD]),
  Du:=λs=>(by exfalso;revert s;simp[Array.getD]),
  oA:=λs=>(by exfalso;revert s;simp[Array.getD]),
  Dv:=λs=>(by exfalso;revert s;simp[Array.getD])}
end
def afD(s:bc):∀(f p:Nat),p<=s.size->s.size<=p+f->(runesFrom s f p=U↔l5 s p<s.size)
 |0,p,hp,hf=>by
  have c:¬p<s.size:=by omega
  rw[Hs s 0 p c,U' c];simp;omega
 |f+1,p,hp,hf=>by by_cases a:p<s.size;by_cases b:aQ s p=0;rw[YP s (f+1) p hf a b,Qh a b];simp[a];have d:runesFrom s (f+1) p=(runesFrom s f<|p+aQ s p).map (fK s p::·):=(by simp[runesFrom,a,b]);rw[d,Qi a b,Option.map_eq_none_iff];exact afD s f (p+aQ s p) (Zd s p a b) (by omega);rw[Hs s (f+1) p a,U' a];simp;omega
def ar9(s:bc):cK s=U↔l5 s 0<s.size:=afD s s.size 0 (by omega)<|by omega
def Ic(i:cw)(B:Nat)(c:cJ)(f:Int×Int×Int)(aL g d:Addr):Prop:=
 (f=(0,0,0)/\c= .nilIface)∨(f=(1, -1, -1)/\c=jF 1 aL g d)∨
 ∃b e h a,c= .iface 92 (.pointer<|V<|S b 0 U)/\i.1[b]? =V (bi #[Y Z h,Y Z a,jF e aL g d] 96 (0,0))/\B<=b/\f=(e,h,a)/\(e=1∨e=2∨e=3)
def uQ(w:cw):Prop:=∃m:Int,w.cell? (S 10 0 U)=V (Y Z m)
def uQ.below {w a:cw}(h:uQ w)(b:cD w.1.size w a):uQ a:=h.imp λ_ h=>cU b h
def atd {w:cw}{aL b a:Addr}(h:Env w aL b a):Lib.Utf8Tabs (Tryz.lays197_ren.g 3) (Tryz.lays197_ren.g 4) w:=h.tabs
def ala(s:bc)(w:cw)(aL K J:Addr)(L:Env w aL K J)(hM:uQ w):cP prog 61 #[cd s] w λe M=>∃D,e=bj D/\Ic M w.1.size D (cV s) aL K J/\cD w.1.size w M:=by
 by_cases hz:600<s.size
 .have ap:(s.size:Int)>600:=by omega
  have hL:cV s=(1, -1, -1):=aj hz;have hc:=L.long;have HL:=ah hL;clear L hM hL;go_enter func61,ntmps61;go_wp2;go_ret;exact⟨_,rfl,.inr (.inl ⟨HL,rfl⟩),aA _ _⟩
 have ap:¬(s.size:Int)>600:=by omega
 obtain⟨m,hm⟩:=hM;have ak:=E5 s 0 0 (by omega);have qB:dd (∀x∈aS s 0 0,x.size<=600):=λx hx=>by have:=XD s 0 0 x hx;omega
 have P:=Y7 s m w (by omega) hm;have O:dd (cV s=match tS (aS s 0 0) 0 with
  |some (i,p)=>(2,((i:Nat):Int),((p:Nat):Int))
  |none=>match rM (dA<|aS s 0 0) 0 with
   |some i=>(1,((i:Nat):Int),0)
   |none=>(0,0,0)):=ai hz
 obtain⟨F,hF⟩:=ac<|cV s;rw[<-hF]at O ⊢;have HE:=ah L;clear hF L hm hz;generalize aS s 0 0=d at*;obtain⟨N,X⟩:=ac d.length;have I:=ah X;rw[<-X]at ak P;clear X;go_enter func61,ntmps61;go_wp2_with fail;refine P.mono ?_;clear P;rintro D l ⟨rfl,o⟩;have E:cD w.1.size w l:=by rw[o];exact(aA _ _).alloc (au _) _
 have r:l.1[w.1.size]? =V (bi (js d).toArray 9 (0,0)):=by rw[o];exact World.alloc_heap_new _ _
 have C:=ah E;have oQ:dd (∀W,cD l.1.size l W->∀i x,d[i]? =V x->W.cell? (S w.1.size i U)=V (cd x)):=λW hW i x hx=>by rw[cell_of (aR hW r) i];simp[js,hx]
 have aq:w.1.size<l.1.size:=bO r;clear o E r;go_wp2;go_loopg [17,4,5,6] N (λgk gD _ _ _ W=>∃(i:Nat),i<=N/\gk=N - i/\gD=Y Z i/\tS (d.drop i) i=tS d 0/\cD l.1.size l W);exact⟨0,by omega,rfl,rfl,rfl,aA _ _⟩
 rename cw=>wa
 obtain⟨i,hi,rfl,rfl,a,v⟩:=hrel;have HB:=ah v;have aa:=v.size;by_cases al:i<N
 .have b:i<d.length:=(by rw[<-I.out];exact al);obtain⟨x,hx⟩:=ac<|d[i]'b;have V3:=oQ.out wa v i x (by rw[aK b,hx]);have ao:x.size<=600:=(by rw[hx];exact qB.out _ (nP b));have y:Env wa aL K J:=HE.out.below (C.out.trans<|v.mono<|by omega);have B:dd (cP prog 104 #[cd x] wa λe M=>e=bj (Y Z (l5 x 0:Nat))/\cD wa.1.size wa M):=ar5 x wa (by omega) (λW hW=>atd<|y.below hW);have Q:=ah y;rw[lV b,<-hx,tS]at a;have A:=ah<|ar9 x;have ae:(i:Int)<(N:Int):=(by omega);clear hx b v y;go_wp2_with fail;refine B.out.mono ?_;clear B;rintro D wr ⟨rfl,c⟩;have n:=ah<|HB.out.trans<|c.mono aa;have T:=Q.out.below c;have ad:=T.text;generalize l5 x 0=p at*;by_cases hp:p<x.size
  .have am:(p:Int)<(x.size:Int):=(by omega);rw[A.out.2 hp]at a;have H:dd (F=(2,(i:Int),(p:Int))):=(by show _=_;rw[O.out,<-a]);clear a c T;go_wp2;go_ret;refine⟨_,rfl,.inr (.inr ⟨wr.1.size,2,i,p,rfl,World.alloc_heap_new _ _,?_,H,by omega⟩),?_⟩;have:=n.out.size;omega;exact(C.out.trans<|n.out.mono<|by omega).alloc (by have:=n.out.size;omega) _
  have am:¬(p:Int)<(x.size:Int):=(by omega);obtain⟨u,g⟩:∃u,cK x=V u:=by
   cases h:cK x with
   |none=>exact absurd (A.out.1 h) hp
   |some u=>exact⟨u,rfl⟩
  rw[g]at a;simp only at a;have SC:=ah a;clear a c T ad g;go_wp2;go_roundg (N - (i+1));exact⟨i+1,by omega,rfl,by go_num,SC,n⟩;omega
 obtain rfl:i=N:=(by omega);have ae:¬(i:Int)<(i:Int):=(by omega);rw[tC<|by rw[I.out];exact au _,tS]at a;have OA:=ah<|UF a.symm;have fG:dd (F=match rM (dA d) 0 with
  |some i=>(1,((i:Nat):Int),0)
  |none=>(0,0,0)):=by show _=_;rw[O.out,<-a]
 clear a v;go_wp2;go_loopg [37,7,8] i (λgk kv _ _ W=>∃(k:Nat),k<=i/\gk=i - k/\kv=Y Z k/\rM ((dA d).drop k) k=rM (dA d) 0/\cD l.1.size l W);exact⟨0,by omega,rfl,rfl,rfl,HB⟩
 rename cw=>wk
 obtain⟨k,hk,rfl,rfl,j,f⟩:=hrel;have A7:=ah f;have G:=f.size;by_cases ag:k<i
 .have b:k<d.length:=(by rw[<-I.out];exact ag);obtain⟨x,hx⟩:=ac<|d[k]'b;have V3:=oQ.out wk f k x (by rw[aK b,hx]);have ao:x.size<=600:=(by rw[hx];exact qB.out _ (nP b));obtain⟨u,g⟩:=OA.out x (by rw[hx];exact nP b);have R:=U3 x wk (by omega);rw[runeCount_eq g]at R;have z:dd _:=R;have y:Env wk aL K J:=HE.out.below (C.out.trans<|f.mono<|by omega);have Q:=ah y;have t:k<(dA d).length:=(by simpa [dA]using b);have GG:(dA d)[k]'t=u:=(by simp[dA,<-hx,g]);rw[lV t,GG,rM]at j;have af:(k:Int)<(i:Int):=(by omega);generalize u.length=q at*;clear hx b f y R g t GG;go_wp2_with fail;refine jV z ?_;clear z;rintro D wr ⟨rfl,c⟩;have n:=ah<|A7.out.trans<|c.mono G;have ab:=(Q.out.below c).long;clear c;by_cases hq:300<q
  .rw[aj hq]at j;have an:(q:Int)>300:=(by omega);have H:dd (F=(1,(k:Int),0)):=(by show _=_;rw[fG.out,<-j]);clear j;go_wp2;go_ret;refine⟨_,rfl,.inr (.inr ⟨wr.1.size,1,k,0,rfl,World.alloc_heap_new _ _,?_,H,by omega⟩),?_⟩;have:=n.out.size;omega;exact(C.out.trans<|n.out.mono<|by omega).alloc (by have:=n.out.size;omega) _
  rw[ai hq]at j;have an:¬(q:Int)>300:=(by omega);have FL:=ah j;clear j ab;go_wp2;go_roundg (i - (k+1));exact⟨k+1,by omega,rfl,by go_num,FL,n⟩;omega
 obtain rfl:k=i:=(by omega);have af:¬(k:Int)<(k:Int):=(by omega);rw[tC<|by simp[dA,I.out],rM]at j;have H:dd (F=(0,0,0)):=(by show _=_;rw[fG.out,<-j]);clear j f;go_wp2;go_ret;exact⟨_,rfl,.inl ⟨H,rfl⟩,C.out.trans<|A7.out.mono<|by omega⟩
structure SI(B bx rb n:Nat)(pre:List PR)(W:World):Prop where
 box:W.1[bx]? =some (.cells #[.slice (some ⟨rb,0,none⟩) n n] 103 (0,0))
 rows:∃rows:Array Value,W.1[rb]? =some (.cells rows 71 (0,0))/\rows.size=n/\(∀i rv,rows[i]? =some rv->W.ownsRow B 75 5 rv (iV pre i).length (oF<|iV pre i))/\(∀(i j:Nat)(rv Fm:Value),i≠j->rows[i]? =some rv->rows[j]? =some Fm->∀k,rv.ownBlock=some k->Fm.ownBlock≠some k)
 sz:B<=W.1.size
 lb:bx<B
 lr:rb<B
def SI.nR {B d f n:Nat}{a:List PR}{A C:cw}(h:SI B d f n a A)(b:lT A C):SI B d f n a C:=by obtain⟨rows,j,k,l,m⟩:=h.rows;exact⟨b.block _ _ h.box (λc g e=>by cases e),⟨rows,b.block _ _ j (λc g e=>by cases e),k,λi p o=>J8 (l i p o) b<|by decide,m⟩,bM h.sz b.size,h.lb,h.lr⟩
def SI.put {B b d n:Nat}{a:List PR}{W:cw}(h:SI B b d n a W){l:Nat}{o:Obj}(r:B<=l)(p:W.1[l]? =V o)(k:o.isCells=da)(c:Obj):SI B b d n a (W.putObj l c):=by obtain⟨rows,e,f,g,j⟩:=h.rows;have:=h.lb;have:=h.lr;exact⟨(ja<|by omega).trans h.box,⟨rows,(ja<|by omega).trans e,f,λi q m=>zi (g i q m) p k c,j⟩,by simp[World.putObj];exact h.sz,h.lb,h.lr⟩
def afI(l:List PR)(x:PR)(i:Nat):iV (l++[x]) i=if x.line=i then iV l i++[x]else iV l i:=by unfold iV;rw[tD];by_cases h:x.line=i<;>simp[h]
def SI.step {B B0 w f n:Nat}{p:List PR}{W r:cw}{x:PR}{rows:Array cJ}{z v:cJ}(h:SI B w f n p W)(E:W.1[f]? =V (bi rows 71 (0,0)))(y:rows[x.line]? =V z) (g:Ia W B (iV p x.line).length z (oF<|iV p x.line) x r v) (h0:B0<=f):SI B w f n (p++[x]) (r.setCell (S f x.line U) v)/\Kb B0 W (r.setCell (S f x.line U) v):=by
 obtain⟨t,I,h2,N,J⟩:=h.rows;rw[E]at I;obtain rfl:rows=t:=by injection I with I;injection I
 have hB:=h.sz;have O:=h.lb;have P:=h.lr;have C:=N _ _ y;have A:∀j,z.ownBlock=V j->B<=j/\j<W.1.size:=λj o=>by obtain⟨X,c,G⟩:=jL C o;exact⟨X,bO G⟩
 have L:r.1[w]? =V (bi #[.slice (V<|S f 0 U) n n] 103 (0,0)):=
  (g.gr.block w (by simp;omega) λe=>by have:=(A _ e.symm).1;omega).trans ((dh W _ w (by omega)).trans h.box)
 have H:r.1[f]? =V (bi rows 71 (0,0)):=
  (g.gr.block f (by simp;omega) λe=>by have:=(A _ e.symm).1;omega).trans ((dh W _ f (by omega)).trans E)
 have D:r.grownBy (r.setCell (S f x.line U) v) (V f):=uw _ _ _ _;have F:=g.gr.size;have Rc:=D.size;have s:x.line<rows.size:=by rcases dc x.line rows.size with q|q;exact q;rw[sV q]at y;cases y
 refine⟨⟨(D.block w (bO L) λe=> ?_).trans L,⟨rows.setIfInBounds x.line v,by rw[fe H],by simpa using h2,?_,?_⟩,by simp at F;omega,O,P⟩,?_⟩;obtain rfl:=aI e;rw[L]at H;cases H;intro i u d;by_cases e:x.line=i;subst e;rw[ZV s]at d;obtain rfl:=aI d;rw[afI,aj rfl,af6,bG];exact Cc g.own D (λk a e=>by have:=(jL g.own a).1;have:=aI e;omega);rw[Cu e]at d;rw[afI,ai e];have o1:=(N i u d).alloc (bi (rN x).toArray 75);have T:=Cc o1 g.gr (λk a Z=>J i x.line u z (λq=>e q.symm) d y k a Z.symm);exact Cc T D λk a e=>by have:=(jL T a).1;have:=aI e;omega
 .intro i j u M l d o k a;have R:∀(m:Nat)(K:cJ),rows[m]? =V K->∀k,K.ownBlock=V k->k<W.1.size:=λm K hm k a=>by obtain⟨_,c,G⟩:=jL (N m K hm) a;exact bO G
  by_cases e:x.line=i;subst e;rw[ZV s]at d;obtain rfl:=aI d;rw[Cu l]at o;intro b;rcases g.blk with q|q;exact J x.line j z M l y o k (by rw[<-q];exact a) b;have:=R j M o k b;rw[q]at a;have:=aI a;omega;rw[Cu e]at d;by_cases Q:x.line=j;subst Q;rw[ZV s]at o;obtain rfl:=aI o;intro b;rcases g.blk with q|q;exact J i x.line u z l d y k a (by rw[<-q];exact b);have:=R i u d k a;rw[q]at b;have:=aI b;omega;rw[Cu Q]at o;exact J i j u M l d o k a
 have K1:Kb B0 W (W.alloc<|bi (rN x).toArray 75):=(Kb.refl B0 W).al (by omega) _;have Y:Kb B0 W r:=K1.grown g.gr (by simp;omega) (λk a=>by obtain⟨X,c,G⟩:=jL (C.alloc<|bi (rN x).toArray 75) a;exact⟨by omega,c,_,_,G,.inr (.inr (.inl rfl))⟩);exact Y.grown D (by simp at F;omega) λk a=>by obtain rfl:=aI a;exact⟨h0,_,_,_,H,.inr (.inr (.inr rfl))⟩
def aqD {s:bc}(b:s.size<=600){x:PR}(hx:x∈cO s):x.line<(aS s 0 0).length:=by rw[N3 s b]at hx;obtain⟨y,a,_⟩:=Yo s x hx;exact(tJ.1 a).1
