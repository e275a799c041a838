import Derived.Test.YtkbinfhclaafhaaGreatDoorW13
import Derived.Test.YtkbinfhclaafhaaGreatDoorShelfQ
import Derived.Lib.TrailingZeros
import Derived.Test.YtkbinfhclaafhaaGreatDoorShelfU
namespace Go.Proofs.YtkbinfhclaafhaaGreatDoor
open Go.RowKit
open Go.Proofs.Tryz
set_option maxRecDepth 100000
set_option maxHeartbeats 32000000
set_option linter.all false
open Go.Value renaming int->Y,slice->R,string->cd,bool->ce,tuple->de,agg->df
open Go.IntKind renaming i64->Z
open Option renaming none->U,some->V
open Go.Addr renaming mk->S
open Go.Obj renaming cells->bi
open Go.Ending renaming returned->bj
open Go renaming World->cw,Value->cJ,Calls->cP
open Go.RowKit renaming Below->cD,Hid->dd
open Bool renaming false->da,true->db
def UF:∀{l:List bc}{i:Nat},tS l i=U->∀x∈l,∃a,cK x=V a
 |[],_,_,x,hx=>by cases hx
 |y::ys,i,h,x,hx=>by
  rw[tS]at h;cases hr:cK y with
  |none=>rw[hr]at h;cases h
  |some l=>rw[hr]at h;rcases gI.1 hx with rfl|hx;exact⟨l,hr⟩;exact UF h x hx
def afe:∀{l:List aw}{i:Nat},rM l i=U->∀x∈l,x.length<=300
 |[],_,_,x,hx=>by cases hx
 |y::ys,i,h,x,hx=>by rw[rM]at h;by_cases a:300<y.length;rw[aj a]at h;cases h;rw[ai a]at h;rcases gI.1 hx with rfl|hx;omega;exact afe h x hx
def look_ok {s:bc}(h:(cV s).1=0):s.size<=600/\cV s=(0,0,0)/\∀i,i<(aS s 0 0).length->cK ((aS s 0 0).getD i ⟨#[]⟩)=V ((dA<|aS s 0 0).getD i [])/\((dA<|aS s 0 0).getD i []).length<=300:=by
 have b:¬600<s.size:=by intro b;unfold cV at h;rw[aj b]at h;cases h
 unfold cV at h ⊢;rw[ai b]at h ⊢;cases hb:tS (aS s 0 0) 0 with
 |some x=>rw[hb]at h;cases h
 |none=>
  rw[hb]at h;simp only at h ⊢;cases hl:rM (dA<|aS s 0 0) 0 with
  |some x=>rw[hl]at h;cases h
  |none=>refine⟨by omega,rfl,λi d=> ?_⟩;have g:(dA<|aS s 0 0).length=(aS s 0 0).length:=(by simp[dA]);have e:(aS s 0 0).getD i ⟨#[]⟩=(aS s 0 0)[i]:=(by rw[aN,aK d];rfl);have c:(dA<|aS s 0 0).getD i []=(dA<|aS s 0 0)[i]'(by omega):=(by rw[aN,aK<|by omega];rfl);obtain⟨j,a⟩:=UF hb _ (nP d);have f:(dA<|aS s 0 0)[i]'(by omega)=j:=(by simp[dA,a]);refine⟨by rw[e,c,f,a],?_⟩;rw[c];exact afe hl _ (nP _)
def agt {s:bc}(h:(cV s).1=0)(i:Nat)(a:i<(aS s 0 0).length):∀j,j<((dA<|aS s 0 0).getD i []).length->∃k x,pI ((dQ 0<|(dA<|aS s 0 0).getD i []).getD j 0) (eX s i) 0=((k:Nat):Int)/\(eX s i)[k]? =V x:=by obtain⟨g,_,e⟩:=look_ok h;obtain⟨f,_⟩:=e i a;intro j d;obtain⟨k,x,b,c,_,_⟩:=Gm (ags s g i a) (lB _)<|YE (vG f) j d;exact⟨k,x,by rw[b];simp,c⟩
def N4(s:bc)(i:Nat):(eX s i).length<=600:=bM (Ya _ _)<|AH s
def kX(l:List Bool):List cJ:=l.map λb=>ce b
def Qs {W:cw}{b:Nat}{T:TypeId}{a c d:cJ}(h:W.1[b]? =V (bi #[a,c,d] T (0,0)))(x y z:cJ):(((W.setCell (S b 0 U) x).setCell (S b 1 U) y).setCell (S b 2 U) z).1[b]? =V (bi #[x,y,z] T (0,0)):=by have e:=MK W b 0 _ T x h;have f:=MK _ b 1 _ T y e;have g:=MK _ b 2 _ T z f;rw[g];rfl
def OE {W:cw}{b:Nat}{T:TypeId}{d e f:cJ}(h:W.1[b]? =V (bi #[d,e,f] T (0,0)))(x y z:cJ)(o:Obj):((((W.setCell (S b 0 U) x).setCell (S b 1 U) y).setCell (S b 2 U) z).alloc o).drew.cell? (S b 0 U)=V x/\((((W.setCell (S b 0 U) x).setCell (S b 1 U) y).setCell (S b 2 U) z).alloc o).drew.cell? (S b 1 U)=V y/\((((W.setCell (S b 0 U) x).setCell (S b 1 U) y).setCell (S b 2 U) z).alloc o).drew.cell? (S b 2 U)=V z:=by have c:=Qs h x y z;have a:((((W.setCell (S b 0 U) x).setCell (S b 1 U) y).setCell (S b 2 U) z).alloc o).drew.1[b]? =V (bi #[x,y,z] T (0,0)):=(dh _ _ _ (bO c)).trans c;exact⟨cell_of a 0,cell_of a 1,cell_of a 2⟩
def amD {W:cw}{b:Nat}{T:TypeId}{c d e:cJ}(h:W.1[b]? =V (bi #[c,d,e] T (0,0)))(x y z:cJ):(((W.setCell (S b 0 U) x).setCell (S b 1 U) y).setCell (S b 2 U) z).drew.cell? (S b 0 U)=V x/\(((W.setCell (S b 0 U) x).setCell (S b 1 U) y).setCell (S b 2 U) z).drew.cell? (S b 1 U)=V y/\(((W.setCell (S b 0 U) x).setCell (S b 1 U) y).setCell (S b 2 U) z).drew.cell? (S b 2 U)=V z:=by have a:(((W.setCell (S b 0 U) x).setCell (S b 1 U) y).setCell (S b 2 U) z).drew.1[b]? =V (bi #[x,y,z] T (0,0)):=Qs h x y z;exact⟨cell_of a 0,cell_of a 1,cell_of a 2⟩
def arB(s:bc)(w:cw):cP prog 51 #[cd s] w λe t=>cD w.1.size w t/\∃v,e=bj (de #[v,Av s])/\((cV s).1≠0->v=R U 0 0)/\((cV s).1=0->t.ownsRow (w.1.size+1) 4 1 v (eu s).length (kX<|eu s)):=by
 obtain⟨iB,MO,ab⟩:∃i,prog.info? 4=V i/\(i.zero,i.size,i.bytes)=(V<|ce da,1,1):=by simpa using Tryz.JP
 simp only[IQ]at ab;obtain⟨Nr,Ns,Nt⟩:=ab;have z:=aff s<|w.alloc<|bi #[Y Z 0,Y Z 0,Y Z 0] 47;obtain⟨H,J,K,hF⟩:∃a b c,cV s=(a,b,c):=⟨_,_,_,rfl⟩
 have HF:=ah hF;have hV:Av s=df #[Y Z H,Y Z J,Y Z K]:=by unfold Av;rw[hF]
 rw[hV]at z ⊢;rw[hF]at z ⊢;simp only at z ⊢;clear hF hV;by_cases I:H=0
 .subst I;have dK:dd ((cV s).1=0):=by show _=_;rw[HF.out]
  have af:J=0/\K=0:=by have:=(look_ok dK).2.1;rw[HF.out]at this;simpa using this
  obtain⟨rfl,rfl⟩:=af;obtain⟨u,B⟩:=ac<|aS s 0 0;have KR:=ah B;have T:=E5 s 0 0 (by omega);have rI:=(look_ok dK).1;rw[<-B]at z T;obtain⟨N,C⟩:=ac u.length;have HN:=ah C;rw[<-C]at T;have wh:(dA u).length=N:=by rw[C];simp[dA]
  have GX:(eu s).length=N:=by rw[C,B];simp[eu]
  have CM:=ah wh;have Bf:=ah GX;have uJ:dd (∀i,i<N->(eu s).getD i da=wO ((dA u).getD i []) (eX s i)):=λi hi=>by have x:i<(aS s 0 0).length:=(by rw[<-B,<-C];exact hi);unfold eu;rw[aN,jC,IB x,B];rfl
  have OO:dd (∀(i:Nat) W v,oM W v (cO s)->cP prog 79 #[v,Y Z i] W λe t=>∃v',e=bj v'/\oM t v' (eX s i)/\cD W.1.size W t):=λi W v hW=>(afJ (cO s) v i W (AH s) hW).mono λe t ⟨v',he,ho,m⟩=>⟨v',he,Qa ho,m⟩
  have TE:dd (∀(i:Nat),i<N->∀W v1 q,dF W v1 ((dA u).getD i [])->oM W q (eX s i)->cP prog 78 #[v1,q] W λe t=>e=bj (ce<|wO ((dA u).getD i [])<|eX s i)/\cD W.1.size W t):=λi hi W v1 q h1 L=>by have x:i<(aS s 0 0).length:=(by rw[<-B,<-C];exact hi);have h3:=((look_ok dK).2.2 i x).2;have h4:=agt dK i x;rw[<-B]at h3 h4;exact ahb _ _ v1 q W (by omega) (N4 s i) h1 L h4
  clear B C wh GX;go_enter func51,ntmps51;go_wp2_with fail;refine z.mono ?_;clear z;rintro ev g ⟨k,rv,rfl,_,p⟩;have GS:=p (by first|rfl|trivial);have Ip:dd (yJ g (w.1.size+1) rv<|dA u):=by obtain⟨G,h1,L⟩:=GS;exact⟨G,ur h1<|by simp,λj hj=>ur (L j hj)<|by simp⟩
  have oQ:dd (g.1[w.1.size]? =V (bi #[Y Z 0,Y Z 0,Y Z 0] 47 (0,0))):=aR k<|World.alloc_heap_new _ _;have aD:dd (cD w.1.size w g):=((aA _ _).alloc (au _) _).trans (k.mono<|by simp);have ak:w.1.size<g.1.size:=bO oQ;have HP:=YG s<|g.alloc<|bi #[Y Z 0,Y Z 0,Y Z 0] 47;rw[P9]at HP;have tu:dd _:=HP;have aj:=GS.elim λG h=>fC h.1
  obtain⟨ra,rc,rfl⟩:=aj;rw[CM.out]at Ip ⊢;clear k p GS HP;go_wp2_with fail;refine jV tu ?_;clear tu;rintro ev r ⟨pv,rfl,X,D⟩;have KC:=ah<|Qa X;have Gx:cD g.1.size g r:=((aA _ _).alloc (au _) _).trans (D.mono<|by simp);have aG:=ah Gx;have pO:=ah<|aR Gx oQ;have KP:dd (r.1[g.1.size]? =V (bi #[Y Z 0,Y Z 0,Y Z 0] 47 (0,0))):=aR D<|World.alloc_heap_new _ _;have gG:=ah<|Ip.out.below Gx;have aq:g.1.size<r.1.size:=bO KP;clear X D Gx;go_wp2;go_loopg [7,8,9] N (λgk ov gD _ W=>∃(i:Nat),i<=N/\gk=N - i/\gD=Y Z i/\W.ownsRow r.1.size 4 1 ov i (kX<|(eu s).take i)/\cD r.1.size r W);exact⟨0,by omega,rfl,rfl,fh _ _ _ _,aA _ _⟩
  rename cw=>wa
  obtain⟨i,hi,rfl,rfl,f,m⟩:=hrel;obtain⟨oa,oc,rfl⟩:=fC f;have HB:=ah m;have ag:=m.size;by_cases l:i<N
  .have SM:=ah<|KC.out.below m;obtain⟨G,jI,rL⟩:=gG.out.below m;rw[CM.out]at jI rL;obtain⟨rg,rd,aa,ao,_,am⟩:=jy jI (by omega);simp only[lY,lq]at aa;obtain⟨rfl,rfl⟩:=aa;have P:wa.cell? (S rg i U)=V (G.getD i undef):=(by rw[cT jI i<|by omega];have ap:G.length=N:=(by have:=jI.1;omega);rw[aK<|by omega,aN,aK<|by omega];rfl);have OU:=ah<|dF.uo<|rL i l;have OX:dd (∀W q,cD wa.1.size wa W->oM W q (eX s i)->cP prog 78 #[G.getD i undef,q] W λe t=>e=bj (ce<|wO ((dA u).getD i [])<|eX s i)/\cD W.1.size W t):=λW q hW L=>TE.out i l W _ q (OU.out.below hW) L
   have E:=fC<|rL i l;generalize G.getD i undef=vi at*;have ve:(eu s).take (i+1)=(eu s).take i++[wO ((dA u).getD i [])<|eX s i]:=(by rw[<-uJ.out i l,pR<|by rw[Bf.out];exact l];congr 2;rw[aN,aK<|by rw[Bf.out];exact l];rfl);have ad:=ah ve;generalize wO ((dA u).getD i []) (eX s i)=ok at*;have ai:(i:Int)<(N:Int):=(by omega);have tj:=ah f;clear jI rL f m ve;go_wp2
   go_region_with (first
    |(go_at_call 79;refine(OO i _ _ (SM.out.below ((aA _ _).drew))).mono ?_;rintro e w2 ⟨v',rfl,M,n⟩;have V2:w2.cell? (S rg i U)=V vi:=cU n P)
    |(go_at_call 78;refine(OX _ _ (((aA _ _).drew).trans (n.mono (by simp))) M).mono ?_;rintro e w3 ⟨rfl,O⟩))
   all_goals
    have F:cD wa.1.size wa w3:=(((aA _ _).drew).trans (n.mono<|by simp)).trans (O.mono<|by have:=n.size;simpa using this);have aJ:=ah<|HB.out.trans<|F.mono ag;have f:=jc tj F;have QJ:=aJ.out.size;clear M n O V2 F P E;go_wp2_with(at_builtin;refine rT _ rfl _ _ 36 rfl r.1.size 4 iB (ce da) 1 underlying36 MO Nr Ns Nt rfl (by decide) _ _ _ rfl f _ _ rfl rfl (by omega) QJ ?_);intro q w4 o Q;have cW:dd (cD r.1.size r w4):=aJ.out.grown Q QJ (λy hy=>(f.lt y hy).1);have s9:dd (w4.ownsRow r.1.size 4 1 q (i+1)<|kX<|(eu s).take (i+1)):=(by show World.ownsRow _ _ _ _ _ _ _;rw[ad.out,kX,gu];exact o);clear f o Q;go_wp2;go_roundg (N - (i+1));exact⟨i+1,by omega,rfl,by go_num,s9,cW⟩;omega
  obtain rfl:i=N:=(by omega);have ai:¬(i:Int)<(i:Int):=(by omega);rw[jY<|by rw[Bf.out];exact au _]at f;have d:=aR m pO;have BQ:=aR m KP;have k0:=cell_of d 0;have k1:=cell_of d 1;have k2:=cell_of d 2;have l0:=cell_of BQ 0;have l1:=cell_of BQ 1;have l2:=cell_of BQ 2;simp only[jW,mZ,kE]at k0 k1 k2 l0 l1 l2;have f0:=mM wa w.1.size 0 _ _ d;have f1:=mM wa w.1.size 1 _ _ d;have f2:=mM wa w.1.size 2 _ _ d;have HQ:dd _:=amD d (Y Z 0) (Y Z 0)<|Y Z 0;have tj:=ah f;have kV:dd (cD w.1.size w wa):=aD.out.trans<|(aG.out.trans<|m.mono<|by omega).mono (by omega);clear f m d BQ;go_wp2;go_region;go_wp2;obtain⟨q0,q1,q2⟩:=HQ.out;refine bU (v:=de #[R oa i oc,df #[Y Z 0,Y Z 0,Y Z 0]]) (by simp only[results,results51];simp[go_sem,q0,q1,q2]) rfl ⟨(((kV.out.setCell (au _) _).setCell (au _) _).setCell (au _) _).drew,_,rfl,λh=>absurd rfl h,λ_=> ?_⟩;rw[Bf.out];exact ur (gA (gA (gA tj (by simp;omega) _) (by simp;omega) _) (by simp;omega) _)<|by omega
 have an:=ae I;have al:(H !=0)=db:=by simpa using I
 go_enter func51,ntmps51;go_wp2_with fail;refine z.mono ?_;clear z;rintro ev g ⟨k,v,rfl,A,_⟩;have GZ:=A I;subst GZ;have d:=aR k<|World.alloc_heap_new _ _;have k0:=cell_of d 0;have k1:=cell_of d 1;have k2:=cell_of d 2;simp only[jW,mZ,kE]at k0 k1 k2;have f0:=mM g w.1.size 0 _ _ d;have f1:=mM g w.1.size 1 _ _ d;have f2:=mM g w.1.size 2 _ _ d;have aD:dd (cD w.1.size w g):=((aA _ _).alloc (au _) _).trans (k.mono<|by simp);have ak:w.1.size<g.1.size:=bO d;have HE:=ah I;have HQ:dd _:=OE d (Y Z H) (Y Z J) (Y Z K)<|bi #[Y Z H,Y Z J,Y Z K] 47;clear k A d I;go_wp2;go_region;go_wp2;obtain⟨q0,q1,q2⟩:=HQ.out;exact bU (v:=de #[R U 0 0,df #[Y Z H,Y Z J,Y Z K]]) (by simp only[results,results51];simp[go_sem,q0,q1,q2]) rfl ⟨((((aD.out.setCell (au _) _).setCell (au _) _).setCell (au _) _).alloc (by simp;omega) _).drew,_,rfl,λ_=>rfl,λh=>absurd h HE.out⟩
def fO(r:Int):Bool:=cls r==1||cls r==2||cls r==6||decide (cls r ≥ 13)||r==8206
def Xe(r:Int)(w:cw)(d:Sp w):cP prog 170 #[Y .i32 r] w λe f=>e=bj (ce<|fO r)/\cD w.1.size w f:=by
 have i:dd (∀W,cD w.1.size w W->cP prog 172 #[Y .i32 r] W λe f=>e=bj (ce<|decide (cls r ≥ 13))/\cD W.1.size W f):=λW l=>by have h:=Xg r W<|d.below l;rw[show kz (cls r)=decide (cls r ≥ 13)by unfold kz;rw[nB (Gc r).2,Bool.and_true]]at h;exact h
 have g:=ah<|d.cls r;clear d;unfold fO;generalize cls r=c at*;cases h1:c==1<;>cases h2:c==2<;>cases h3:c==6<;>cases h5:r==8206
 all_goals
  go_enter func170,ntmps170;go_wp2_with fail;refine jV g ?_;rintro k m ⟨rfl,a⟩;have b:=ah a;clear a;go_wp2_with fail
  first
  |refine jV (i _ b.out) ?_
   rintro k n ⟨rfl,a⟩;have j:=ah<|b.out.trans<|a.mono b.out.size;clear a;go_wp2;go_ret;exact⟨iA<|by simp,j⟩
  |go_ret
   exact⟨iA<|by simp,b⟩
def am8(r:Int)(w:cw):cP prog 134 #[Y Z r] w λe f=>e=bj (ce<|fO r)/\cD w.1.size w f:=by
 have d:dd _:=PT r w;unfold fO;generalize cls r=c at*;cases h1:c==1<;>cases h2:c==2<;>cases h3:c==6<;>cases h4:decide (c ≥ 13)<;>cases h5:r==8206
 all_goals
  go_enter func134,ntmps134;go_wp2_with fail;refine jV d ?_;rintro g h ⟨rfl,a⟩;have b:=ah a;clear a;go_wp2;go_ret;exact⟨iA<|by simp,b⟩
def Et(d:bc)(k:Nat):bc:=d.extract k<|k+1
def iR(d:bc)(r:Nat):bc:=Et d (r / 16 / 16 / 16%16)++(Et d (r / 16 / 16%16)++(Et d (r / 16%16)++(Et d (r%16)++⟨#[]⟩)))
def QM(r:Nat)(d:bc)(v:r<1000000)(u:d.size=16)(w:cw):cP prog 137 #[Y Z r,cd d] w λe n=>e=bj (cd<|iR d r)/\n=w:=by
 obtain⟨q,f⟩:=ac<|iR d r;rw[<-f];have m:=ah f;clear f;go_enter func137,ntmps137;go_wp2;refine dN 5 ?_;rw[bB];go_wp2;obtain⟨a,g⟩:∃x:Nat,x=r / 16:=⟨_,rfl⟩
 rw[show(r:Int) / 16=(a:Int)by omega,bB];have j:=ah g;have p:a<1000000:=by omega
 clear g;go_wp2;obtain⟨b,h⟩:∃x:Nat,x=a / 16:=⟨_,rfl⟩
 rw[show(a:Int) / 16=(b:Int)by omega,bB];have k:=ah h;have s:b<1000000:=by omega
 clear h;go_wp2;obtain⟨c,i⟩:∃x:Nat,x=b / 16:=⟨_,rfl⟩
 rw[show(b:Int) / 16=(c:Int)by omega,bB];have l:=ah i;have t:c<1000000:=by omega
 clear i;go_wp2;generalize(c:Int) / 16=o at*;rw[bB];go_wp2;go_ret;exact⟨by rw[m.out,iR,<-j.out,<-k.out,<-l.out];rfl,rfl⟩
def pW(s:bc)(t p:Nat):Bool:=
 if p<t then if bt s p=92 then if p+1=t then db else pW s t (p+2)else pW s t (p+1)else da
termination_by t - p
def ami(s:bc)(f t:Nat)(l:f<=t)(u:t<=s.size)(r:s.size<=100000)(w:cw):cP prog 136 #[cd s,Y Z f,Y Z t] w λe n=>e=bj (ce<|pW s t f)/\n=w:=by
 obtain⟨q,a⟩:=ac<|pW s t f;rw[<-a];have d:=ah a;clear a;go_enter func136,ntmps136;go_wp2;go_loopg [7] (t - f) (λgk iv wr=>∃p:Nat,p<=t/\gk=t - p/\iv=Y Z p/\q=pW s t p/\wr=w);exact⟨f,l,rfl,rfl,d,rfl⟩;obtain⟨p,o,rfl,rfl,a,m⟩:=hrel;subst m;clear d;rw[pW]at a;by_cases g:p<t
 .have h:(p:Int)<(t:Int):=by omega
  have i:p<s.size:=by omega
  rw[aj g,pV i]at a;obtain⟨c,k⟩:∃c,s[p]'i=c:=⟨_,rfl⟩
  rw[k]at a;cases Mo:((c.toNat:Int)==92)
  .rw[ai<|by simpa using Mo]at a;have d:=ah a;clear a;go_wp2;go_roundg (t - (p+1));exact⟨p+1,by omega,rfl,by go_num,d,rfl⟩;omega
  rw[aj<|by simpa using Mo]at a;cases ht':((p:Int)+1==t)
  .have b:¬p+1=t:=λe=>by rw[<-e]at ht';simp at ht'
   rw[ai b]at a;have d:=ah a;have j:=ah b;clear a b;go_wp2;go_roundg (t - (p+2));exact⟨p+2,by have:=j.out;omega,rfl,by go_num,d.out,rfl⟩;have:=j.out;omega
  have b:p+1=t:=by have:(p:Int)+1=t:=(by simpa using ht');omega
  rw[aj b]at a;clear b;go_wp2;go_ret;exact⟨iA a.symm,rfl⟩
 have h:¬(p:Int)<(t:Int):=by omega
 rw[ai g]at a;go_wp2;go_ret;exact⟨rfl,rfl⟩
def akg(s:bc)(X:aw)(w:cw)(aL aT aC:Addr)(hs:s.size<=600)(hr:cK s=V X)(hE:Env w aL aT aC):cP prog 229 #[cd s] w λe w'=>e=bj (ce<|tU X [])/\cD w.1.size w w':=by
 have qw:dd (∀(r:Int)(W:cw),cD w.1.size w W->cP prog 66 #[Y .i32 r] W λe w'=>e=bj (Y Z<|cls r)/\cD W.1.size W w'):=λr W hW=>Af (hE.below hW) r
 have zO:=ah<|vG hr;obtain⟨aa,hR⟩:=ac<|tU X [];rw[<-hR];have HR:=ah hR.symm;clear hE hr hR;go_enter func229,ntmps229;go_wp2;have EW:(w.alloc<|bi #[R U 0 0] 296).1.size=w.1.size+1:=by simp
 go_loopg [5,6,7,8] s.size (λgk _ _ _ _ W=>∃(p:Nat)(A:aw)(g:ba)(v:cJ),p<=s.size/\gk=s.size - p/\RA s p A/\tU A g=aa/\g.length<=p/\W.1[w.1.size+1]? =V (.stringIter s p)/\jZ W w.1.size w.1.size v g/\cD w.1.size w W);case atStart=>
  refine⟨0,X,[],R U 0 0,by omega,rfl,zO,HR,by simp,?_,⟨?_,fh _ _ _ _,au _⟩,((aA _ _).alloc (au _) _).alloc (by simp) _⟩;have:=F7 (w.alloc<|bi #[R U 0 0] 296) s 0;rw[EW]at this;exact this;exact(dh _ _ _ (by simp)).trans (World.alloc_heap_new _ _)
 case round=>
  obtain⟨p,Fl,g,v,hp,rfl,Q,b,ad,hit,K,L⟩:=hrel;have ag:=L.size;by_cases z:p<s.size
  .cases Fl with
   |nil=>exact absurd Q<|by show¬p=s.size;omega
   |cons r0 A=>
    obtain⟨_,hz,Dj,sO⟩:=Q;have uH:=ah sO;have y:p+aQ s p<=s.size:=Ko s p z hz;have WU:0<aQ s p:=(by omega);have hw:=Fu s p hz;have E:∀F,(Instr.next (.pointer<|V ⟨w.1.size+1,0,U⟩) db F).run prog wr= .ok (de #[ce db,Y Z p,Y .i32<|fK s p]) (wr.iterAt (w.1.size+1) s<|p+aQ s p):=λF=>by rw[Pc wr (w.1.size+1) s p F hit z,hw];rfl
    have I:=ah hit;have HS:=ah K;have P:=ah L;rw[Dj]at b;clear sO hz hw hit K L Dj;generalize aQ s p=n at*;generalize fK s p=r at*;obtain⟨wi,i⟩:=ac<|wr.iterAt (w.1.size+1) s<|p+n;have nK:dd (wi.1[w.1.size+1]? =V (.stringIter s<|p+n)):=(by show _=_;rw[i];exact Pb wr _ s p _ I.out);have aD:dd (cD w.1.size w wi):=(by show cD _ _ _;rw[i];exact O8 P (by omega) _ _);have bh:dd (jZ wi w.1.size w.1.size v g):=HS.out.keep λk o ho S=>by rw[i,FX];exact ho;rintro rfl;rcases S with S|S;omega;exact zh HS.out.row I S
    rw[<-i]at E;clear i;have yz:=ah<|qw r wi aD;rw[tU]at b;generalize cls r=c at*;go_wp2_with fail;refine yz.out.mono ?_;rintro m B ⟨rfl,u⟩;have T:=ah<|aR u nK;have f:=ah<|bh.out.below u;have G:=ah<|aD.out.trans<|u.mono aD.out.size;clear E u yz;go_wp2_with fail;refine(Gf c B).mono ?_;rintro m O ⟨rfl,a⟩;have j:=a.symm;subst j;clear a;cases hem:nC c
    .rw[hem,ai<|by simp]at b;go_wp2_with fail;refine(pG c B).mono ?_;rintro m O ⟨rfl,a⟩;have j:=a.symm;subst j;clear a;cases bK:aU c
     .rw[bK,ai<|by simp]at b;go_wp2_with fail;refine(ahW c B).mono ?_;rintro m O ⟨rfl,a⟩;have j:=a.symm;subst j;clear a;cases htu:kz c
      .rw[htu,ai<|by simp]at b;have C:=ah b;clear b;go_wp2;go_roundg (s.size - (p+n));exact⟨p+n,A,g,v,y,rfl,uH,C,by omega,T,f,G⟩;omega
      rw[htu,aj rfl]at b;rcases Bh g with rfl|⟨l,x,rfl⟩
      .have h:da=aa:=b;subst h;go_wp2_with fail;refine(aqW B w.1.size w.1.size v f).mono ?_;rintro m O ⟨rfl,a⟩;have j:=a.symm;subst j;clear a;go_wp2;go_ret;exact⟨rfl,G⟩
      rw[CX]at*;simp only[Pk,ajf,Option.some_or,Iz]at b;have ab:(l++[x]).length=l.length+1:=(by simp);rw[ab]at ad;by_cases J:(x:Int)=c
      .rw[aj J]at b;have C:=ah b;clear b;subst J;go_wp2_with fail;refine(agn B w.1.size w.1.size v l x f<|by omega).mono ?_;rintro m w4 ⟨rfl,H,t,d⟩;have M:=ah t;have N:=ah<|d.iter f T;have D:=ah<|d.below f G;clear t d;go_wp2;go_roundg (s.size - (p+n));exact⟨p+n,A,l,H,y,rfl,uH,C,by omega,N,M,D⟩;omega
      rw[ai J]at b;have ae:((x:Int)==c)=da:=(by simpa using J);have af:((x:Int) !=c)=db:=(by simpa using J);subst b;go_wp2_with fail;refine(agn B w.1.size w.1.size v l x f<|by omega).mono ?_;rintro m w4 ⟨rfl,H,t,d⟩;have D:=ah<|d.below f G;clear t d;go_wp2;go_ret;exact⟨rfl,D⟩
     rw[bK,aj rfl]at b;have C:=ah b;clear b;go_wp2_with fail;refine(agu B w.1.size w.1.size v g 21 f<|by omega).mono ?_;rintro m w4 ⟨rfl,H,t,d⟩;have M:=ah t;have N:=ah<|d.iter f T;have D:=ah<|d.below f G;clear t d;go_wp2;go_roundg (s.size - (p+n));exact⟨p+n,A,g++[21],H,y,rfl,uH,C,by simp;omega,N.out,M.out,D.out⟩;omega
    rw[hem,aj rfl]at b;have C:=ah b;clear b;go_wp2_with fail;refine(agu B w.1.size w.1.size v g 17 f<|by omega).mono ?_;rintro m w4 ⟨rfl,H,t,d⟩;have M:=ah t;have N:=ah<|d.iter f T;have D:=ah<|d.below f G;clear t d;go_wp2;go_roundg (s.size - (p+n));exact⟨p+n,A,g++[17],H,y,rfl,uH,C,by simp;omega,N.out,M.out,D.out⟩;omega
  .have E:∀F,(Instr.next (.pointer<|V ⟨w.1.size+1,0,U⟩) db F).run prog wr= .ok (de #[ce da]) wr:=λF=>FY wr (w.1.size+1) s p F hit z
   cases Fl with
   |cons r0 A=>exact absurd Q.1 z
   |nil=>
    rw[tU]at b;have HS:=ah K;have P:=ah L;have cZ:=ah<|ao3 wr w.1.size w.1.size v g K;clear Q hit K L;cases g with
    |nil=>have h:db=aa:=b;subst h;go_wp2_with fail;refine cZ.out.mono ?_;rintro m O ⟨rfl,a⟩;have j:=a.symm;subst j;clear a;go_wp2;go_ret;exact⟨rfl,P⟩
    |cons x xs=>have h:da=aa:=b;subst h;have h0:(((x::xs).length:Int)==0)=da:=(by simp;omega);go_wp2_with fail;refine cZ.out.mono ?_;rintro m O ⟨rfl,a⟩;have j:=a.symm;subst j;clear a;generalize(x::xs).length=q at*;go_wp2;go_ret;exact⟨by first|rfl|simp[h0],P⟩
def AU(a:aw):Bool:=a.any λr=>kz<|cls r
def aeu(s:bc):∀(f q:Nat)(a:aw),RA s q a->s.size<=q+f->decide (0<=Lib.idxFuncFrom (λx=>kz<|cls (x:Int)) db s f q)=AU a
 |0,q,a,h,hf=>by
  cases a with
  |nil=>rfl
  |cons r a=>have:=h.1;omega
 |f+1,q,a,h,hf=>by
  cases a with
  |nil=>have k:q=s.size:=h;rw[Lib.idxFuncFrom_end _ _ _ _ _ (by omega)];rfl
  |cons r a=>obtain⟨d,e,g,i⟩:=h;have j:=Fu s q e;rw[Lib.idxFuncFrom,aj d];have c:r=((Utf8.decode s q).1:Int):=g;by_cases b:kz (cls ((Utf8.decode s q).1:Int))=db;rw[aj b];unfold AU;rw[Pd,c,b];simp;rw[ai b,j,aeu s f (q+aQ s q) a i<|by omega];unfold AU;rw[Pd,c];simp[b]
def atA(w:cw)(aL b a:Addr)(c:Env w aL b a):PredGrows prog 172 #[] (λx=>kz<|cls (x:Int)) w:=λW x _ d=>by simpa using aoG (x:Int) W aL b a<|c.below d
def al8:∀args w,(callFunc 172 args).run prog w= .ok (.enter 172 args) w:=kj func172 (by kernel_rfl)<|by kernel_rfl
def alu(t:bc)(a:aw)(w:cw)(aL c b:Addr)(d:Env w aL c b)(f:cK t=V a):cP prog 228 #[cd t,.func (.func 172) #[] #[]] w λe g=>e=bj (ce<|AU a)/\cD w.1.size w g:=by have h:=Any.strings_ContainsFunc_grows Tryz.laysCF 172 #[] al8 (λx=>kz<|cls (x:Int)) t w<|atA w aL c b d;have e:decide (0<=Lib.idxFunc (λx=>kz<|cls (x:Int)) db t)=AU a:=aeu t t.size 0 a (vG f) (by omega);rw[e]at h;exact h
structure zU(line:bc)(x:PR):Prop where
 ft:x.from_<=x.dR
 tl:x.dR<=line.size
 rs:∃rs,cK (line.extract x.from_ x.dR)=some rs
 be:x.kind≠0->x.body<=x.end_/\x.end_<=line.size/\∃rs,cK (line.extract x.body x.end_)=some rs
def rA(a:bc)(x:PR):Bool:=if x.kind=0 then !AU ((cK<|a.extract x.from_ x.dR).getD [])else tU ((cK<|a.extract x.body x.end_).getD []) []
def uv(x:PR):cJ:=df #[Y Z x.kind,Y Z x.from_,Y Z x.dR,Y Z x.body,Y Z x.end_]
def aoi(a:bc)(x:PR)(w:cw)(aL s p:Addr)(J:a.size<=600)(l:Env w aL s p)(hx:zU a x):cP prog 186 #[cd a,uv x] w λe i=>e=bj (ce<|rA a x)/\cD w.1.size w i:=by
 obtain⟨K,z,y,n,m,j⟩:=x;obtain⟨B,F,⟨v,c⟩,k⟩:=hx;simp only at B F c k;unfold uv rA;simp only;have f:dd (cD w.1.size w<|w.alloc<|bi #[Y Z z,Y Z y,Y Z n,Y Z m,Y Z j] 75):=(aA _ _).alloc (au _) _;by_cases g:z=0
 .subst g;rw[aj rfl,c];simp only[uV];have o:dd (∀W,cD w.1.size w W->cP prog 228 #[cd<|a.extract y n,.func (.func 172) #[] #[]] W λe i=>e=bj (ce<|AU v)/\cD W.1.size W i):=λW t=>alu _ v W aL s p (l.below t) c
  generalize AU v=q at*;have C:(y:Int)<=(n:Int):=by omega
  have D:(n:Int)<=(a.size:Int):=by omega
  clear c k l;go_enter func186,ntmps186;go_wp2_with fail;refine(o _ f.out).mono ?_;rintro A G ⟨rfl,b⟩;have r:=ah<|f.out.trans<|b.mono f.out.size;clear b;go_wp2;go_ret;exact⟨by cases q<;>rfl,r⟩
 obtain⟨H,I,⟨u,d⟩⟩:=k g;rw[ai g,d];simp only[uV];have h:(a.extract m j).size<=600:=by simp;omega
 have o:dd (∀W,cD w.1.size w W->cP prog 229 #[cd<|a.extract m j] W λe i=>e=bj (ce<|tU u [])/\cD W.1.size W i):=λW t=>akg _ u W aL s p h d (l.below t)
 generalize tU u []=q at*;have E:((z:Int)==0)=da:=by simpa using g
 have C:(m:Int)<=(j:Int):=by omega
 have D:(j:Int)<=(a.size:Int):=by omega
 clear c k l d h g;go_enter func186,ntmps186;go_wp2_with fail;refine(o _ f.out).mono ?_;rintro A G ⟨rfl,b⟩;have r:=ah<|f.out.trans<|b.mono f.out.size;clear b;go_wp2;go_ret;exact⟨rfl,r⟩
def WA {w:cw}{b j:Nat}{v:cJ}(h:w.cell? (S b j U)=V v):b<w.1.size:=by unfold World.cell? at h;split at h;rename_i a;exact bO a;cases h
def Bn(w:cw)(v:cJ)(l:List PR):Prop:=∃x c,v=R x l.length c/\(0<l.length->∃g,x=V (S g 0 U)/\l.length<=c/\Ei w g l)
def Bn.below {w a:cw}{v:cJ}{l:List PR}(h:Bn w v l)(d:cD w.1.size w a):Bn a v l:=by obtain⟨x,c,rfl,h⟩:=h;exact⟨x,c,rfl,λb=>let⟨g,h1,h2,h3⟩:=h b;⟨g,h1,h2,h3.below d⟩⟩
def aqy {w:cw}{B:Nat}{e:TypeId}{v:cJ}{l:List PR}(h:w.ownsRow B e 5 v l.length<|oF l):Bn w v l:=by obtain⟨x,c,rfl⟩:=fC h;refine⟨x,c,rfl,λb=> ?_⟩;obtain⟨g,d,a,f,_⟩:=jy h b;simp only[lY,lq]at a;obtain⟨rfl,rfl⟩:=a;exact⟨g,rfl,f,RH h rfl⟩
def aoh(a:bc)(l:List PR)(v:cJ)(w:cw)(aL D B:Addr)(hs:a.size<=600)(X:l.length<=600)(F:Env w aL D B)(hv:Bn w v l)(hx:∀x∈l,zU a x):cP prog 110 #[cd a,v] w λe k=>e=bj (ce<|l.all<|rA a)/\cD w.1.size w k:=by
 obtain⟨x,c,rfl,m⟩:=hv;obtain⟨n,u⟩:=ac l.length;have A:=ah u;rw[<-u]at X m ⊢;have Q:=ah m;have N:dd (∀y∈l,∀W,cD w.1.size w W->cP prog 186 #[cd a,uv y] W λe k=>e=bj (ce<|rA a y)/\cD W.1.size W k):=λy hy W T=>aoi a y W aL D B hs (F.below T)<|hx y hy
 obtain⟨E,p⟩:=ac<|l.all<|rA a;rw[<-p];have P:=ah p.symm;clear u m F hx p;go_enter func110,ntmps110;go_wp2;go_loopg [6,9] n (λgk _ S W=>∃(i:Nat),i<=n/\gk=n - i/\S=Y Z i/\(l.drop i).all (rA a)=E/\cD w.1.size w W);exact⟨0,by omega,rfl,rfl,P,aA _ _⟩
 rename cw=>wa
 obtain⟨i,hi,rfl,rfl,h,f⟩:=hrel;have pN:=ah f;have r:=f.size;by_cases t:i<n
 .have b:i<l.length:=by rw[<-A.out];exact t
  obtain⟨g,rfl,U,G⟩:=Q.out (by omega);obtain⟨H,p1,p2,p3,p4⟩:=(G.below f) i b;have z:dd (∀W,cD w.1.size w W->cP prog 186 #[cd a,uv<|l[i]'b] W λe k=>e=bj (ce<|rA a<|l[i]'b)/\cD W.1.size W k):=N.out _ (nP b);rw[lV b,List.all_cons]at h;have V:=WA H;generalize l[i]'b=y at*;obtain⟨yl,L,K,M,I,J⟩:=y;unfold uv at z;simp only at H p1 p2 p3 p4 z;have o:dd (cD w.1.size w<|wa.alloc<|bi #[Y Z L,Y Z K,Y Z M,Y Z I,Y Z J] 75):=f.alloc r _;have s:(i:Int)<(n:Int):=by omega
  generalize rA a ⟨yl,L,K,M,I,J⟩=q at*;clear G b f;go_wp2_with fail;refine(z _ o.out).mono ?_;rintro ev w1 ⟨rfl,j⟩;have C:=ah<|Ox o<|j.mono<|Ow o;clear j;cases q
  .have d:da=E:=(by simpa using h);subst d;go_wp2;go_ret;exact⟨rfl,C⟩
  have d:(l.drop<|i+1).all (rA a)=E:=(by simpa using h);have O:=ah d;clear h d;go_wp2;go_roundg (n - (i+1));exact⟨i+1,by omega,rfl,by go_num,O,C⟩;omega
 obtain rfl:i=n:=by omega
 have s:¬(i:Int)<(i:Int):=by omega
 rw[tC<|by rw[A.out];exact au _]at h;have d:db=E:=h;subst d;clear f;go_wp2;go_ret;exact⟨rfl,pN⟩
def Asc(s:bc)(q:Nat):Prop:=q=0∨bt s q<128∨(0<q/\bt s (q - 1)<128)
def arh(s:bc)(i:Nat):(qR s i).2=da->bt s (qR s i).1=10:=by
 fun_induction qR s i with
 |case1 i a b=>intro h;simp at h
 |case2 i a b d ih=>exact ih
 |case3 i a b d ih=>exact ih
 |case4 i a=>
  intro _;by_cases c:i<s.size;exact aiy λh=>a ⟨c,h⟩
  exact BB c
def apa(s:bc)(i:Nat):bt s (bY s i)=10:=by
 fun_induction bY s i with
 |case1 i a ih=>exact ih
 |case2 i a=>
  by_cases b:i<s.size;exact aiy λh=>a ⟨b,h⟩
  exact BB b
def akj(s:bc)(i:Nat):((bR s i).2=db->bt s (bR s i).1=42/\bt s ((bR s i).1+1)=47)/\((bR s i).2=da->bt s (bR s i).1=10):=by
 fun_induction bR s i with
 |case1 i a b=>exact⟨λ_=>b,λh=>by simp at h⟩
 |case2 i a b ih=>exact ih
 |case3 i a=>exact⟨λh=>by simp at h,λ_=>BB a⟩
structure WF(s:bc)(t:Tk):Prop where
 aF:Asc s t.F
 aT:Asc s t.T
 aB:Asc s t.B
 aE:Asc s t.E
 fb:t.F<=t.B
 be:t.B<=t.E
 et:t.E<=t.T
 lb:∀q,t.F<=q->q<t.B->bt s q<128
 le:∀q,t.E<=q->q<t.T->bt s q<128
def aug(s:bc)(p:Nat)(h:(dD s p).k≠0):WF s (dD s p):=by
 unfold dD at h ⊢;by_cases g:bt s p=34
 .rw[aj g];have n:=NF s<|p+1;have j:bt s (p+1 - 1)<128:=by rw[pS,g];decide
  have e:Asc s (qR s<|p+1).1:=by
   cases a:(qR s<|p+1).2 with
   |true=>right;left;rw[(RS a).2];decide
   |false=>right;left;rw[arh s _ a];decide
  refine⟨.inr (.inl<|by simp only;rw[g];decide),?_,.inr (.inr ⟨by simp only;omega,j⟩),e,by simp only;omega,by simp only;omega,by simp only;omega,λq c b=> ?_,λq c b=> ?_⟩
  .unfold qT;cases a:(qR s<|p+1).2 with
   |true=>right;right;refine⟨by simp only[Aq];omega,?_⟩;show bt s ((qR s<|p+1).1+1 - 1)<128;rw[pS,(RS a).2];decide
   |false=>simpa using e
  .simp only at c b;obtain rfl:q=p:=(by omega);rw[g];decide
  simp only at c b;unfold qT at b;cases a:(qR s<|p+1).2 with
  |true=>rw[a]at b;simp only[Aq]at b;obtain rfl:q=(qR s<|p+1).1:=(by omega);rw[(RS a).2];decide
  |false=>rw[a]at b;simp at b;omega
 rw[ai g]at h ⊢;by_cases c:bt s p=47/\bt s (p+1)=47;rw[aj c];have b:bY s p=bY s (p+1):=NI (by rw[c.1];decide);have o:bY s (p+1)=bY s (p+2):=NI (by rw[c.2];decide);have r:=G7 s<|p+2;have e:Asc s (bY s p):= .inr (.inl<|by rw[apa];decide);refine⟨.inr (.inl<|by simp only;rw[c.1];decide),e,.inr (.inr ⟨by simp only;omega,?_⟩),e,by simp only;omega,by simp only;omega,by simp only;omega,λq f d=> ?_,λq f d=>by simp only at f d;omega⟩;show bt s (p+1)<128;rw[c.2];decide;simp only at f d;by_cases a:q=p;rw[a,c.1];decide;rw[show q=p+1 by omega,c.2];decide;rw[ai c]at h ⊢;by_cases b:bt s p=47/\bt s (p+1)=42
 .rw[aj b];have n:=Rk s<|p+2;obtain⟨i,l⟩:=akj s<|p+2;have e:Asc s (bR s<|p+2).1:=by
   cases a:(bR s<|p+2).2 with
   |true=>right;left;rw[(i a).1];decide
   |false=>right;left;rw[l a];decide
  refine⟨.inr (.inl<|by simp only;rw[b.1];decide),?_,.inr (.inr ⟨by simp only;omega,?_⟩),e,by simp only;omega,by simp only;omega,by simp only;omega,λq f d=> ?_,λq f d=> ?_⟩
  .unfold bT;cases a:(bR s<|p+2).2 with
   |true=>right;right;refine⟨by simp only[Aq];omega,?_⟩;show bt s ((bR s<|p+2).1+1)<128;rw[(i a).2];decide
   |false=>simpa using e
  .show bt s (p+1)<128;rw[b.2];decide
  .simp only at f d;by_cases a:q=p;rw[a,b.1];decide;rw[show q=p+1 by omega,b.2];decide
  simp only at f d;unfold bT at d;cases a:(bR s<|p+2).2 with
  |true=>rw[a]at d;simp only[Aq]at d;by_cases m:q=(bR s<|p+2).1;rw[m,(i a).1];decide;rw[show q=(bR s<|p+2).1+1 by omega,(i a).2];decide
  |false=>rw[a]at d;simp at d;omega
 rw[ai b]at h;exact absurd rfl h
def TW(s:bc):Bool->List Tk->Prop
 |_,[]=>True
 |a,t::ts=>(t.k=0->(a=db->Asc s t.F)/\Asc s t.T)/\(t.k≠0->WF s t)/\TW s db ts
def TW.up {s:bc}{a:List Tk}(h:TW s da a)(d:∀u b,a=u::b->u.k=0->Asc s u.F):TW s db a:=by
 cases a with
 |nil=>trivial
 |cons u b=>exact⟨λc=>⟨λ_=>d u b rfl c,(h.1 c).2⟩,h.2.1,h.2.2⟩
def ahX(s:bc)(p:Nat)(_hp:p<=s.size):TW s da (dM s p):=by
 by_cases b:p<s.size
 .have n:=Cs s p;have l:=ZM b;have ih:=ahX s (dD s p).T l;have g:=λu f e=>Oj s (dD s p).T u f e
  rw[dM,aj b];by_cases i:(dD s p).k=0
  .have m:=ZL s p i;rw[m]at ih g ⊢;simp only at ih g ⊢;unfold lG;rw[aj rfl];cases hts:dM s (p+1)with
   |nil=>
    have j:¬p+1<s.size:=by
     intro h;have a:dM s (p+1)=lG (dD s<|p+1) (dM s (dD s<|p+1).T):=(by rw[dM,aj h]);rw[hts]at a;unfold lG at a;split at a
     .split at a;split at a<;>cases a
      cases a
     cases a
    exact⟨λ_=>⟨(λh=>by cases h),.inr (.inl<|by simp only;rw[BB j];decide)⟩,λh=>absurd rfl h,trivial⟩
   |cons u f=>rw[hts]at ih;simp only;by_cases c:u.k=0;rw[aj c];exact⟨λ_=>⟨(λh=>by cases h),(ih.1 c).2⟩,λh=>absurd rfl h,ih.2.2⟩;rw[ai c];have hF:=(g u f hts).1;refine⟨λ_=>⟨(λh=>by cases h),?_⟩,λh=>absurd rfl h,λh=>absurd h c,ih.2.1,ih.2.2⟩;have:=(ih.2.1 c).aF;rw[hF]at this;exact this
  unfold lG;rw[ai i];have d:=aug s p i;refine⟨λh=>absurd h i,λ_=>d,ih.up λu f e c=> ?_⟩;rw[(g u f e).1];exact d.aT
 rw[Kq b];trivial
termination_by s.size - p
decreasing_by have:=Cs s p;omega
def atB(s:bc):TW s db (dM s 0):=(ahX s 0<|by omega).up λu a e _=> .inl (Oj s 0 u a e).1
structure PX(x:bc)(y:PR):Prop where
 ft:y.from_<y.dR
 tl:y.dR<=x.size
 aF:Asc x y.from_
 aT:Asc x y.dR
 bd:y.kind≠0->y.from_<=y.body/\y.body<=y.end_/\y.end_<=y.dR/\Asc x y.body/\Asc x y.end_/\(∀q,y.from_<=q->q<y.body->bt x q<128)/\(∀q,y.end_<=q->q<y.dR->bt x q<128)
def Qn {s:bc}{a e q:Nat}(g:a<=e)(i:e<=s.size)(b:bt s e=10)(j:q<=e - a):bt (s.extract a e) q=bt s (a+q):=by
 have f:(s.extract a e).size=e - a:=by simp;omega
 by_cases h:q<e - a
 .have c:q<(s.extract a e).size:=by omega
  have d:a+q<s.size:=by omega
  rw[pV c,pV d,ZZ]
 rw[BB<|by omega,show a+q=e by omega,b]
def aj8 {s:bc}{a e q:Nat}(d:a<=e)(f:e<=s.size)(b:bt s e=10)(g:q<=e - a)(h:Asc s<|a+q):Asc (s.extract a e) q:=by rcases h with h|h|⟨i,h⟩;exact .inl (by omega);exact .inr (.inl<|by rw[Qn d f b g];exact h);by_cases c:q=0;exact .inl c;refine .inr (.inr ⟨by omega,?_⟩);rw[Qn d f b<|by omega,show a+(q - 1)=a+q - 1 by omega];exact h
def apf(s:bc)(a p:Nat)(f:p<=s.size):∃e c,aS s a p=s.extract a e::c/\p<=e/\e<=s.size/\bt s e=10:=by
 fun_induction aS s a p with
 |case1 a i b d ih=>exact⟨i,_,rfl,au _,f,d⟩
 |case2 a i b d ih=>obtain⟨e,c,g,k,h,j⟩:=ih (by omega);exact⟨e,c,g,by omega,h,j⟩
 |case3 a i b=>exact⟨i,_,rfl,au _,f,BB b⟩
def PG(a:List bc)(y:PR):Prop:=∃x,a[y.line]? =V x/\PX x y
structure SF(s:bc)(k F T B E:Nat):Prop where
 aT:Asc s T
 wf:k≠0->Asc s B/\Asc s E/\F<=B/\B<=E/\E<=T/\(∀q,F<=q->q<B->bt s q<128)/\(∀q,E<=q->q<T->bt s q<128)
def wD {b:Type}{L:List b}{n:Nat}{x:b}{d:List b}(h:L.drop n=x::d):L[n]? =V x/\L.drop (n+1)=d:=by
 have c:n<L.length:=by rcases dc n L.length with a|a;exact a;rw[tC a]at h;cases h
 rw[lV c]at h;injection h with a e;exact⟨by rw[aK c,a],e⟩
def ah6 {s:bc}{B a p:Nat}(b:Asc s a)(c:Asc s p)(d:Asc s B):Asc s (wi B a p):=by unfold wi;split;exact b;split;exact c;exact d
def S3 {s:bc}{o:List bc}{k F T B E r d f p:Nat}(A:SF s k F T B E)(z:o.drop r=aS s d p)(D:p<=s.size)(t:d<=f)(hF:F<=f)(M:f<=p)(G:p<=T)(i:Asc s f)(j:Asc s p):∀y∈dZ r k d f p B E,PG o y:=by
 intro y g;unfold dZ at g;split at g
 .rename_i C;simp only[r7]at g;subst g;obtain⟨e,U,w,Q,l,m⟩:=apf s d p D;obtain⟨x,_⟩:=wD<|z.trans w;refine⟨s.extract d e,x,?_⟩;have H:(s.extract d e).size=e - d:=by simp;omega
  have h:∀q,d<=q->q<=p->Asc s q->Asc (s.extract d e) (q - d):=λq a b c=>aj8 (by omega) l m (by omega)<|by rw[show d+(q - d)=q by omega];exact c
  refine⟨by simp only;omega,by simp only;omega,h f t M i,h p (by omega) (au _) j,λn=> ?_⟩;simp only at n;obtain⟨u,v,P,N,O,I,J⟩:=A.wf n;simp only[ai n];have R:f<=wi B f p/\wi B f p<=p:=by unfold wi;split;omega;split<;>omega
  have S:f<=wi E f p/\wi E f p<=p:=by unfold wi;split;omega;split<;>omega
  have V:wi B f p<=wi E f p:=by
   unfold wi;split;split;omega;split<;>omega
   split;split;omega;split<;>omega
   split;omega;split<;>omega
  refine⟨by omega,by omega,by omega,h _ (by omega) (by omega) (ah6 i j u),h _ (by omega) (by omega) (ah6 i j v),λq K L=> ?_,λq K L=> ?_⟩;rw[Qn (by omega) l m<|by omega];refine I (d+q) (by omega) ?_;have:d+q<wi B f p:=(by omega);unfold wi at this;split at this;omega;split at this<;>omega
  rw[Qn (by omega) l m<|by omega];refine J (d+q) ?_ (by omega);have:wi E f p<=d+q:=(by omega);unfold wi at this;split at this;omega;split at this<;>omega
 cases g
def YY {s:bc}{h:List bc}{k F T B E ln bg fr p:Nat}(e:SF s k F T B E)(m:T<=s.size)(c:h.drop ln=aS s bg p)(g:bg<=fr)(hF:F<=fr)(n:fr<=p)(o:p<=T)(i:Asc s fr):(∀y∈lQ s k T B E ln bg fr p,PG h y)/\h.drop (jR s T ln bg p).1=aS s (jR s T ln bg p).2 T/\(jR s T ln bg p).2<=T:=by
 by_cases a:p<T;by_cases b:bt s p=10;have j:Asc s p:= .inr (.inl<|by rw[b];decide);have l:Asc s (p+1):= .inr (.inr ⟨by omega,by rw[pS,b];decide⟩);have d:=c;rw[XF (by omega) b]at d;have ih:=YY (ln:=ln+1) (bg:=p+1) (fr:=p+1) (p:=p+1) e m (wD d).2 (au _) (by omega) (au _) a l;rw[Ht a b,Ji a b];refine⟨λy f=> ?_,ih.2⟩;rcases ji.1 f with f|f;exact S3 e c (by omega) g hF n (by omega) i j y f;exact ih.1 y f;rw[Cj a b,C8 a b];rw[XE (by omega) b]at c;exact YY e m c g hF (by omega) a i;obtain rfl:p=T:=by omega
 rw[Ci a,Jh a];exact⟨S3 e c (by omega) g hF n (au _) i e.aT,c,by simp only;omega⟩
termination_by T - p
def wC {s:bc}{f:List bc}:∀(c:List Tk)(p e d:Nat),CC s p c->TW s db c->f.drop e=aS s d p->d<=p->∀y∈gw s c e d,PG f y
 |[],_,_,_,_,_,_,_,y,a=>by cases a
 |t::c,p,e,d,hc,ht,hL,hb,y,a=>by
  obtain⟨i,j,k,l⟩:=hc;subst i;have q:SF s t.k t.F t.T t.B t.E:=by by_cases b:t.k=0;exact⟨(ht.1 b).2,λh=>absurd b h⟩;have w:=ht.2.1 b;exact⟨w.aT,λ_=>⟨w.aB,w.aE,w.fb,w.be,w.et,w.lb,w.le⟩⟩
  have g:Asc s t.F:=by by_cases b:t.k=0;exact(ht.1 b).1 rfl;exact(ht.2.1 b).aF
  obtain⟨m,n,o⟩:=YY q k hL hb (au _) (au _) (gV j) g;rw[gw]at a;rcases ji.1 a with a|a;exact m y a;exact wC c t.T _ _ l ht.2.2 n o y a
def Yo(s:bc):∀y∈gw s (dM s 0) 0 0,PG (aS s 0 0) y:=
 wC _ 0 0 0 (Sn s 0<|by omega) (atB s) rfl (au _)
def WV(c:UInt8):∀l:List UInt8,(Lib.indexByte l c= -1/\∀m:Nat,l[m]? ≠V c)∨∃j:Nat,Lib.indexByte l c=(j:Int)/\l[j]? =V c/\∀m:Nat,m<j->l[m]? ≠V c
 |[]=> .inl ⟨rfl,λm=>by simp⟩
 |b::l=>by
  unfold Lib.indexByte;by_cases a:b=c;right;refine⟨0,?_,by simp[a],λm g=>by omega⟩;simp[a];rcases WV c l with⟨d,e⟩|⟨j,d,e,f⟩
  .left;refine⟨by simp[a,d],λm=> ?_⟩;cases m with
   |zero=>simpa using a
   |succ m=>simpa using e m
  right;refine⟨j+1,?_,by simpa using e,λm g=> ?_⟩;have h:¬((j:Int)= -1):=(by omega);simp[a,d];cases m with
  |zero=>simpa using a
  |succ m=>simpa using f m<|by omega
def XG {s:bc}{a:Nat}:∀(d i:Nat),i+d<=s.size->(∀m,i<=m->m<i+d->bt s m≠10)->aS s a i=aS s a (i+d)
 |0,i,_,_=>rfl
 |d+1,i,h,hb=>by rw[XE (by omega)<|hb i (au _)<|by omega,XG d (i+1) (by omega) λm b c=>hb m (by omega)<|by omega];congr 1;omega
def Vd {s:bc}{a m:Nat}(h:a+m<s.size):(s.extract a s.size).data.toList[m]? =V (s[a+m]'h):=by rw[Lib.extract_to_end,zS,Lib.data_getElem? _ _ h]
def aml {s:bc}{b m:Nat}{c:UInt8}(h:(s.extract b s.size).data.toList[m]? =V c):∃h:b+m<s.size,s[b+m]'h=c:=by by_cases a:b+m<s.size;rw[Vd a]at h;exact⟨a,aI h⟩;rw[Lib.extract_to_end,zS,List.getElem?_eq_none_iff.2<|by rw[<-Lib.size_eq];omega]at h;cases h
def UM {s:bc}{i:Nat}(h:i<s.size):bt s i=10↔s[i]'h=10:=by
 rw[pV h];constructor
 .intro e;apply j5.1;have:(s[i]'h).toNat=10:=by omega
  rw[this];rfl
 intro e;rw[e];rfl
def Rj(s:bc):Lib.indexB s ⟨#[10]⟩=Lib.indexByte s.data.toList 10:=Lib.one s ⟨#[10]⟩ rfl
def asS(s:bc):∀(k a:Nat),a<=s.size->Lib.countB (s.extract a s.size) ⟨#[10]⟩=k->Lib.splitB ⟨#[10]⟩ 0 k (s.extract a s.size)=aS s a a:=by
 intro k
 induction k with
 |zero=>intro a i e;rcases WV 10 (s.extract a s.size).data.toList with⟨c,d⟩|⟨j,c,d,h⟩;rw[XG (s.size - a) a (by omega) λm h r=> ?_,afc<|by omega,Lib.splitB_zero,show a+(s.size - a)=s.size by omega];intro b;have l:m<s.size:=(by omega);rw[UM l]at b;refine d (m - a) ?_;rw[Vd<|by omega];simp only[show a+(m - a)=m by omega,b];rw[Lib.countB_hit _ ⟨#[10]⟩ j (by decide) (by rw[Rj];exact c)]at e;omega
 |succ k ih=>intro a i e;rcases WV 10 (s.extract a s.size).data.toList with⟨c,d⟩|⟨j,c,d,h⟩;rw[Lib.countB_miss _ ⟨#[10]⟩ (by rw[Rj];exact c)]at e;omega;obtain⟨o,f⟩:=aml d;rw[Lib.countB_hit _ ⟨#[10]⟩ j (by decide) (by rw[Rj];exact c)]at e;rw[Lib.splitB_hit _ 0 k _ j (by rw[Rj];exact c)];rw[XG j a (by omega) λm r t=> ?_,XF o<|(UM o).2 f];have p:(s.extract a s.size).extract 0 (j+0)=s.extract a (a+j):=(by rw[aix];congr 1<;>omega);have q:(s.extract a s.size).extract (j+(⟨#[10]⟩:bc).size) (s.extract a s.size).size=s.extract (a+j+1) s.size:=(by rw[aix];have n:(s.extract a s.size).size=s.size - a:=(by simp);have g:(⟨#[10]⟩:bc).size=1:=rfl;rw[n,g];congr 1<;>omega);rw[q]at e ⊢;rw[p,ih (a+j+1) (by omega)<|by omega];intro b;have l:m<s.size:=(by omega);rw[UM l]at b;refine h (m - a) (by omega) ?_;rw[Vd<|by omega];simp only[show a+(m - a)=m by omega,b]
def asT(s:bc):Lib.splitB ⟨#[10]⟩ 0 (Lib.countB s ⟨#[10]⟩) s=aS s 0 0:=by have h:=asS s (Lib.countB s ⟨#[10]⟩) 0 (by omega) (by rw[show s.extract 0 s.size=s by simp]);rw[show s.extract 0 s.size=s by simp]at h;exact h
def ans:(prog.info? 9).map (λi=>(i.zero,i.size,i.bytes))=V (V<|cd ByteArray.empty,1,16):=by kernel_rfl
def Y7(s:bc)(m:Int)(w:cw)(c:s.size<4294967281)(b:w.cell? (S 10 0 U)=V (Y Z m)):cP prog 62 #[cd s,cd ⟨#[10]⟩] w λe d=>e=bj (.slice (V<|S w.1.size 0 U) (aS s 0 0).length (aS s 0 0).length)/\d=w.alloc (bi (js<|aS s 0 0).toArray 9):=by have h:=Any.strings_Split Tryz.lays146 ans s ⟨#[10]⟩ m w c b (by decide);have a:=Lib.splitB_all ⟨#[10]⟩ (by decide) 0 _ s rfl;rw[asT]at h a;rw[<-a]at h;exact h
def Zb(s:bc)(p:Nat):aQ s p=if(Utf8.decode s p).1=65533/\(Utf8.decode s p).2=1 then 0 else(Utf8.decode s p).2:=by unfold aQ oL;rw[<-Lib.decode_at]
def alz(n e f g h i j k:Nat)(c:1<n->f=i)(l:2<n->g=j)(m:3<n->h=k):Lib.decodeN n e f g h=Lib.decodeN n e i j k:=by by_cases a:3<n;rw[c<|by omega,l<|by omega,m a];by_cases b:2<n;rw[c<|by omega,l b];unfold Lib.decodeN;simp[a];by_cases d:1<n;rw[c d];unfold Lib.decodeN;simp[a,b];unfold Lib.decodeN;simp[a,b,d]
def alD(s:bc)(p:Nat)(h:p<s.size):Lib.decodeGo (s.extract p s.size)=Utf8.decode s p:=by have a:=R3 s p;unfold Lib.decodeGo;rw[ai<|by omega,Lib.decode_at,Lib.decode_at,a];have c:=Ev s p 0 (by omega);rw[c];exact alz _ _ _ _ _ _ _ _ (λb=>by rw[Ev s p 1<|by omega]) (λb=>by rw[Ev s p 2<|by omega]) (λb=>by rw[Ev s p 3<|by omega])
def alE(s:bc)(p:Nat)(w:cw)(h:p<s.size)(a:Lib.Utf8Tabs (Tryz.lays197_ren.g 3) (Tryz.lays197_ren.g 4) w):cP prog 174 #[cd<|s.extract p s.size] w λe b=>e=bj (de #[Y .i32 (Utf8.decode s p).1,Y Z (Utf8.decode s p).2])/\cD w.1.size w b:=by have:=Any.utf8_DecodeRuneInString Tryz.lays197 (s.extract p s.size) w a;rw[alD s p h]at this;exact this
def alB(s:bc)(p:Nat):(Utf8.decode s p).1<2000000/\(Utf8.decode s p).2<=4:=by
 rw[Lib.decode_at];have a:=(s.get! p).toNat_lt;unfold Lib.decodeN
 repeat' split
 all_goals simp only
 all_goals omega
def Zd(s:bc)(p:Nat)(h:p<s.size)(c:aQ s p≠0):p+aQ s p<=s.size:=by rcases zk s p h c with⟨a,_⟩|⟨a,b,_⟩|⟨a,b,_⟩|⟨a,b,_⟩<;>omega
def ar5(s:bc)(w:cw)(P:s.size<=1000)(C:∀W,cD w.1.size w W->Lib.Utf8Tabs (Tryz.lays197_ren.g 3) (Tryz.lays197_ren.g 4) W):cP prog 104 #[cd s] w λe N=>e=bj (Y Z (l5 s 0:Nat))/\cD w.1.size w N:=by
 have G:=ah C;obtain⟨x,y⟩:=ac<|l5 s 0;rw[<-y];have F:=ah y.symm;clear C y;go_enter func104,ntmps104;go_wp2;go_loopg [3,4,5] s.size (λgk M _ _ W=>∃(p:Nat),p<=s.size/\gk=s.size - p/\M=Y Z p/\l5 s p=x/\cD w.1.size w W);exact⟨0,by omega,rfl,rfl,F,aA _ _⟩;obtain⟨p,O,rfl,rfl,f,m⟩:=hrel;have q:=ah m;have g:=m.size;by_cases d:p<s.size
 .have o:(p:Int)<(s.size:Int):=by omega
  have u:=ah<|alE s p wr d<|G wr m;have a:=Zb s p;obtain⟨I,J⟩:=alB s p;have j:dd (1<=(Utf8.decode s p).2):=by show _<=_;rw[Lib.decode_at];exact Lib.decodeN_ge1 _ _ _ _ _
  generalize(Utf8.decode s p).1=r at*;generalize(Utf8.decode s p).2=k at*;clear m;by_cases t:r=65533
  .by_cases z:k=1
   .rw[aj ⟨t,z⟩]at a;have n:p=x:=(by rw[<-f,Qh d a]);have E:=ah n;subst t;subst z;clear f n a;go_wp2_with fail;refine u.out.mono ?_;rintro B D ⟨rfl,b⟩;have l:=ah<|q.out.trans<|b.mono g;clear b;go_wp2;go_ret;exact⟨by rw[E.out];rfl,l⟩
   rw[ai λh=>z h.2]at a;have K:((k:Int)==1)=da:=(by simp;omega);subst t;have c:aQ s p≠0:=(by have H:=j.out;omega);have i:p+k<=s.size:=(by have:=Zd s p d c;omega);have v:dd (l5 s (p+k)=x):=(by show _=_;rw[<-a,<-Qi d c];exact f);have A:0<k:=(by omega);clear f c a;go_wp2_with fail;refine u.out.mono ?_;rintro B D ⟨rfl,b⟩;have l:=ah<|q.out.trans<|b.mono g;clear b;go_wp2;go_roundg (s.size - (p+k));exact⟨p+k,i,rfl,by go_num,v,l⟩;omega
  rw[ai λh=>t h.1]at a;have L:((r:Int)==65533)=da:=(by simp;omega);have c:aQ s p≠0:=(by have H:=j.out;omega);have i:p+k<=s.size:=(by have:=Zd s p d c;omega);have v:dd (l5 s (p+k)=x):=(by show _=_;rw[<-a,<-Qi d c];exact f);have A:0<k:=(by omega);clear f c a;go_wp2_with fail;refine u.out.mono ?_;rintro B D ⟨rfl,b⟩;have l:=ah<|q.out.trans<|b.mono g;clear b;go_wp2;go_roundg (s.size - (p+k));exact⟨p+k,i,rfl,by go_num,v,l⟩;omega
 have o:¬(p:Int)<(s.size:Int):=by omega
 rw[U' d]at f;subst f;clear m;go_wp2;go_ret;exact⟨rfl,q⟩
def alA(n o i h j k s q p:Nat)(x:i<256)(l1:h<256)(y:j<256)(z:k<256)(m:oL n i h j k≠0)(w:oL n i h j k<=o)(r:1<oL n i h j k->h=s)(t:2<oL n i h j k->j=q)(v:3<oL n i h j k->k=p):Lib.decodeN o i s q p=Lib.decodeN n i h j k:=by
 by_cases a:i<128;rw[Gd a,Gd a];by_cases b:i<194;exact absurd (ku<|P6 (by omega) b) m;by_cases c:245<=i;exact absurd (ku<|P7 c<|by omega) m;by_cases d:i<224;by_cases e:n<2∨h<128∨191<h;exact absurd (ku<|PW (by omega) d (by omega) e) m;have l:=L8 (n:=n) (b0:=i) (b1:=h) (b2:=j) (b3:=k) (by omega) d (by omega) (by omega) (by omega);have u:oL n i h j k=2:=(by rw[uA l<|by omega]);obtain rfl:=r (by omega);rw[l,L8 (n:=o) (b0:=i) (b1:=h) (b2:=q) (b3:=p) (by omega) d (by omega) (by omega)<|by omega];by_cases f:i<240
 .by_cases e:n<3∨h<128∨191<h∨j<128∨191<j;exact absurd (ku<|PY (by omega) f (by omega) (by omega) e) m;by_cases g:i%16*4096+h%64*64+j%64<2048∨(55296<=i%16*4096+h%64*64+j%64/\i%16*4096+h%64*64+j%64<=57343)
  .exact absurd (ku<|PZ (by omega) f g) m
  have l:=L9 (n:=n) (b0:=i) (b1:=h) (b2:=j) (b3:=k) (by omega) f (by omega) (by omega) (by omega) (by omega) (by omega) (by omega) (by omega);have u:oL n i h j k=3:=(by rw[uA l<|by omega]);obtain rfl:=r (by omega);obtain rfl:=t (by omega);rw[l,L9 (n:=o) (b0:=i) (b1:=h) (b2:=j) (b3:=p) (by omega) f (by omega) (by omega) (by omega) (by omega) (by omega) (by omega)<|by omega]
 by_cases e:n<4∨h<128∨191<h∨j<128∨191<j∨k<128∨191<k;exact absurd (ku<|P4 (by omega) (by omega) (by omega) (by omega) (by omega) e) m;by_cases g:i%8*262144+h%64*4096+j%64*64+k%64<65536∨1114111<i%8*262144+h%64*4096+j%64*64+k%64;exact absurd (ku<|P5 (by omega) (by omega) g) m;have l:=Ma (n:=n) (b0:=i) (b1:=h) (b2:=j) (b3:=k) (by omega) (by omega) (by omega) (by omega) (by omega) (by omega) (by omega) (by omega) (by omega) (by omega) (by omega);have u:oL n i h j k=4:=(by rw[uA l<|by omega]);obtain rfl:=r (by omega);obtain rfl:=t (by omega);obtain rfl:=v (by omega);rw[l,Ma (n:=o) (b0:=i) (b1:=h) (b2:=j) (b3:=k) (by omega) (by omega) (by omega) (by omega) (by omega) (by omega) (by omega) (by omega) (by omega) (by omega)<|by omega]
def R5 {x:bc}{a b c:Nat}(f:b<=x.size)(h:c<b)(e:a<=c):(x.extract a b).get! (c - a)=x.get! c:=by
 have d:c - a<(x.extract a b).size:=by simp;omega
 rw[get_eq _ _ d,get_eq _ _ (by omega:c<x.size),ZZ];congr 1;omega
def alC {x:bc}{a b c:Nat}(f:b<=x.size)(j:a<=c)(h:c<b)(i:aQ x c≠0)(k:c+aQ x c<=b):Utf8.decode (x.extract a b) (c - a)=Utf8.decode x c:=by
 rw[Lib.decode_at,Lib.decode_at];have g:(x.extract a b).size=b - a:=by simp;omega
 rw[g,R5 f h j];have e:aQ x c=oL (x.size - c) (x.get! c).toNat (x.get!<|c+1).toNat (x.get!<|c+2).toNat (x.get!<|c+3).toNat:=rfl;refine alA (x.size - c) _ _ _ _ _ _ _ _ (x.get! c).toNat_lt (x.get!<|c+1).toNat_lt (x.get!<|c+2).toNat_lt (x.get!<|c+3).toNat_lt (by rw[<-e];exact i) (by rw[<-e];omega) (λd=> ?_) (λd=> ?_) (λd=> ?_);rw[<-e]at d;rw[show c - a+1=c+1 - a by omega,R5 f (by omega)<|by omega];rw[<-e]at d;rw[show c - a+2=c+2 - a by omega,R5 f (by omega)<|by omega];rw[<-e]at d;rw[show c - a+3=c+3 - a by omega,R5 f (by omega)<|by omega]
def RX(x:bc):Nat->Nat->aw->Prop
 |a,b,[]=>a=b
 |a,b,r::rs=>a<x.size/\aQ x a≠0/\r=fK x a/\RX x (a+aQ x a) b rs
def DD {x:bc}:∀{c:aw}{a b:Nat},RX x a b c->a<=b
 |[],a,b,h=>Nat.le_of_eq h
 |r::c,a,b,h=>by have:=DD h.2.2.2;omega
def D2 {x:bc}{p q:Nat}(k:p<x.size)(i:aQ x p≠0)(t:p<q)(u:q<p+aQ x p):¬Asc x q:=by
 have o:=Ko x p k i;have key:∀j,j<aQ x p->1<aQ x p->¬bt x (p+j)<128:=by
  intro j v w;have b:p+j<x.size:=by omega
  have e:bt x (p+j)=((x.get!<|p+j).toNat:Int):=by unfold bt;rw[aj b]
  rw[e];rcases zk x p k i with⟨a,_⟩|⟨a,_,c,d,f,g,_⟩|⟨a,_,c,d,f,g,l,m,_⟩|⟨a,_,c,d,f,g,l,m,r,s,_⟩;omega
  .match j,(by omega:j<2)with
   |0,_=>simp only[qE];omega
   |1,_=>omega
  .match j,(by omega:j<3)with
   |0,_=>simp only[qE];omega
   |1,_=>omega
   |2,_=>omega
  match j,(by omega:j<4)with
  |0,_=>simp only[qE];omega
  |1,_=>omega
  |2,_=>omega
  |3,_=>omega
 intro n;rcases n with h|h|⟨_,h⟩;omega;exact key (q - p) (by omega) (by omega) (by rw[show p+(q - p)=q by omega];exact h);exact key (q - 1 - p) (by omega) (by omega)<|by rw[show p+(q - 1 - p)=q - 1 by omega];exact h
def Cf {x:bc}{q:Nat}(o:q<=x.size)(g:Asc x q):∀(a:aw)(p:Nat),RA x p a->p<=q->∃b c,a=b++c/\RX x p q b/\RA x q c
 |a,p,h,hp=>by
  by_cases n:p=q;subst n;exact⟨[],a,rfl,rfl,h⟩;cases a with
  |nil=>have:p=x.size:=h;omega
  |cons r a=>obtain⟨e,f,l,m⟩:=h;by_cases d:q<p+aQ x p;exact absurd g<|D2 e f (by omega) d;obtain⟨b,c,i,j,k⟩:=Cf o g a (p+aQ x p) m (by omega);exact⟨r::b,c,by rw[i];rfl,⟨e,f,l,j⟩,k⟩
def agy {t:bc}:∀(f:Nat)(a:aw)(p:Nat),RA t p a->t.size<=p+f->runesFrom t f p=V a
 |0,a,p,h,hf=>by
  cases a with
  |nil=>exact Hs t 0 p<|by omega
  |cons r a=>have:=h.1;omega
 |f+1,a,p,h,hf=>by
  cases a with
  |nil=>have:p=t.size:=h;exact Hs t (f+1) p<|by omega
  |cons r a=>obtain⟨b,c,d,e⟩:=h;have g:runesFrom t (f+1) p=(runesFrom t f<|p+aQ t p).map (fK t p::·):=(by simp[runesFrom,b,c]);rw[g,agy f a _ e (by omega),d];rfl
def ag9 {x:bc}{a b:Nat}(i:b<=x.size):∀(d:aw)(c:Nat),a<=c->RX x c b d->RA (x.extract a b) (c - a) d
 |[],c,ha,h=>by have:c=b:=h;show c - a=(x.extract a b).size;simp;omega
 |r::d,c,ha,h=>by
  obtain⟨n,f,l,g⟩:=h;have e:=DD g;have j:=alC i ha (by omega) f e;have k:aQ (x.extract a b) (c - a)=aQ x c:=by rw[Zb,Zb,j]
  have m:fK (x.extract a b) (c - a)=fK x c:=by unfold fK;rw[j]
  refine⟨by simp;omega,by rw[k];exact f,by rw[m];exact l,?_⟩;rw[k,show c - a+aQ x c=c+aQ x c - a by omega];exact ag9 i d (c+aQ x c) (by omega) g
def Kh {x:bc}{a b:Nat}{c:aw}(d:b<=x.size)(h:RX x a b c):cK (x.extract a b)=V c:=by have:=ag9 d c a (au _) h;rw[pT]at this;exact agy _ c 0 this (by omega)
def agx {x:bc}{i:aw}{a b:Nat}(h:RA x 0 i)(f:a<=b)(q:b<=x.size)(p:Asc x a)(g:Asc x b):∃c d e,i=c++(d++e)/\RX x 0 a c/\RX x a b d/\RA x b e:=by obtain⟨c,r,j,k,l⟩:=Cf (by omega:a<=x.size) p i 0 h (by omega);obtain⟨d,e,m,n,o⟩:=Cf q g r a l f;exact⟨c,d,e,by rw[j,m],k,n,o⟩
def Hp(a:bc)(x:PR):aw:=(cK<|a.extract x.from_ x.dR).getD []
def kr(a:bc):List PR->Nat->aw
 |[],_=>[]
 |x::xs,k=>List.replicate (Hp a x).length (k:Int)++kr a xs (k+1)
def N6 {s:bc}:∀{a:aw}{p:Nat},RA s p a->a.length<=s.size - p
 |[],_,_=>by simp
 |r::a,p,h=>by obtain⟨b,c,_,d⟩:=h;have:=N6 d;have:=Ko s p b c;simp only[eU];omega
def agl(a:bc):∀(l:List PR)(k:Nat),(∀x∈l,zU a x)->(kr a l k).length<=l.length*a.size
 |[],_,_=>by simp[kr]
 |x::xs,k,h=>by
  have ih:=agl a xs (k+1) (λy c=>h y<|yG _ c);obtain⟨d,e,⟨j,b⟩,_⟩:=h x Pp;have f:=N6<|vG b;have g:(a.extract x.from_ x.dR).size<=a.size:=by simp;omega
  have i:(Hp a x).length<=a.size:=by unfold Hp;rw[b,uV];omega
  rw[kr,bG,aji,eU,Nat.add_mul,Nat.one_mul];omega
def aqx(a:bc)(l:List PR)(v:cJ)(w:cw)(hs:a.size<=600)(hl:l.length<=600)(hv:Bn w v l)(hx:∀x∈l,zU a x):cP prog 184 #[cd a,v] w λe w'=>∃v',e=bj v'/\w'.ownsRow w.1.size 3 1 v' (kr a l 0).length ((kr a l 0).map (Value.int .i64))/\cD w.1.size w w':=by
 obtain⟨iI,gZ,ia,ic,ig⟩:=fP Tryz.Dp;obtain⟨x,c,rfl,N⟩:=hv;have qm:dd ((kr a l 0).length<=360000):=by show _<=_;have T:=agl a l 0 hx;have h2:l.length*a.size<=600*600:=zT hl hs;omega
 obtain⟨n,hn⟩:=ac l.length;have HN:=ah hn;rw[<-hn]at hl N ⊢;have HX:=ah N;have dK:=ah hx;obtain⟨aa,X⟩:=ac<|kr a l 0;rw[<-X]at qm ⊢;have HR:=ah X.symm;clear hn N hx X;go_enter func184,ntmps184;go_wp2;go_loopg [5,6,7,10] n (λgk P _ _ gD W=>∃(i:Nat)(o:aw),i<=n/\gk=n - i/\gD=Y Z i/\o++kr a (l.drop i) i=aa/\W.ownsRow w.1.size 3 1 P o.length (o.map<|Value.int .i64)/\cD w.1.size w W);exact⟨0,[],by omega,rfl,rfl,HR,fh _ _ _ _,aA _ _⟩
 rename cw=>h
 obtain⟨i,o,hi,rfl,rfl,C,b,j⟩:=hrel;obtain⟨oa,oc,rfl⟩:=fC b;have pN:=ah j;have ab:=j.size;have al:o.length<=360000:=by have T:=qm.out;rw[<-C,bG]at T;omega
 by_cases af:i<n
 .have f:i<l.length:=by rw[<-HN.out];exact af
  obtain⟨g,rfl,aj,hP⟩:=HX.out (by omega);obtain⟨p0,p1,p2,p3,p4⟩:=(hP.below j) i f;obtain⟨k1,k2,⟨M,J⟩,_⟩:=dK.out (l[i]'f)<|nP f;rw[lV f,kr]at C;have ak:=WA p0;have H:Hp a (l[i]'f)=M:=by unfold Hp;rw[J];rfl
  rw[H]at C;generalize l[i]'f=y at*;obtain⟨yl,yk,I,F,yb,ye⟩:=y;simp only at p0 p1 p2 p3 p4 k1 k2 J;have zO:=ah<|vG J;obtain⟨t,L⟩:=ac<|a.extract I F;have am:t.size<=600:=by rw[L];simp;omega
  have HT:=ah L.symm;rw[<-L]at zO;have O:=ah C;have ai:=N6 zO;have tj:=ah b;have ad:(i:Int)<(n:Int):=by omega
  have T:(I:Int)<=(F:Int):=by omega
  have h2:(F:Int)<=(a.size:Int):=by omega
  clear hP f j C J H L b;go_wp2;rw[HT.out];have EW:(h.alloc<|bi #[Y Z yk,Y Z I,Y Z F,Y Z yb,Y Z ye] 75).1.size=h.1.size+1:=by simp
  go_loopg [5] t.size (λgk P W=>∃(p m:Nat)(A:aw),p<=t.size/\gk=t.size - p/\RA t p A/\m+A.length=M.length/\W.1[h.1.size+1]? =V (.stringIter t p)/\W.ownsRow w.1.size 3 1 P (o.length+m) ((o++List.replicate m (i:Int)).map (Value.int .i64))/\cD w.1.size w W);case atStart=>
   refine⟨0,0,M,by omega,rfl,zO,by omega,?_,?_,(pN.out.alloc ab _).alloc (by simp;omega) _⟩;have:=F7 (h.alloc<|bi #[Y Z yk,Y Z I,Y Z F,Y Z yb,Y Z ye] 75) t 0;rw[EW]at this;exact this;have:=(tj.out.alloc<|bi #[Y Z yk,Y Z I,Y Z F,Y Z yb,Y Z ye] 75).alloc (.stringIter t 0);rw[Lx,mH];exact this
  case round=>
   obtain⟨p,m,A,hp,rfl,K,hm,hit,b,j⟩:=hrel;obtain⟨qa,qc,rfl⟩:=fC b;have QK:=j.size;by_cases z:p<t.size
   .cases A with
    |nil=>exact absurd K<|by show¬p=t.size;omega
    |cons r A=>
     obtain⟨_,hz,_,sO⟩:=K;have uH:=ah sO;have ae:p+aQ t p<=t.size:=Ko t p z hz;have WU:0<aQ t p:=(by omega);have hw:=Fu t p hz;have D:∀E,(Instr.next (.pointer<|V ⟨h.1.size+1,0,U⟩) db E).run prog wr= .ok (de #[ce db,Y Z p,Y .i32<|fK t p]) (wr.iterAt (h.1.size+1) t<|p+aQ t p):=λE=>by rw[Pc wr (h.1.size+1) t p E hit z,hw];rfl
     simp only[eU]at hm;generalize aQ t p=q at*;generalize fK t p=r' at*;obtain⟨wi,u⟩:=ac<|wr.iterAt (h.1.size+1) t<|p+q;have nK:dd (wi.1[h.1.size+1]? =V (.stringIter t<|p+q)):=(by show _=_;rw[u];exact Pb wr _ t p _ hit);have aD:dd (cD w.1.size w wi):=(by show cD _ _ _;rw[u];exact O8 j (by omega) _ _);have d:wi.ownsRow w.1.size 3 1 (R qa (o.length+m) qc) (o.length+m) ((o++List.replicate m (i:Int)).map (Value.int .i64)):=kS b λk ob hk ho=>by rw[u,FX];exact ho;rintro rfl;exact zh b hit hk
     rw[<-u]at D;have QI:=aD.out.size;have ag:o.length+m<=1000000:=(by omega);clear u b hit sO hz hw j;go_wp2_with(at_builtin;refine rT _ rfl _ _ 31 rfl w.1.size 3 iI (Y Z 0) 8 underlying31 gZ ia ic ig rfl (by decide) _ _ _ rfl d _ _ rfl rfl ag QI ?_);intro v2 w2 s B;have CD:dd (w2.1[h.1.size+1]? =V (.stringIter t<|p+q)):=(by show _=_;rw[B.block _ (bO nK.out) (zh d nK.out).symm];exact nK.out);have Q:dd (cD w.1.size w w2):=aD.out.grown B QI (λy hy=>(d.lt y hy).1);have S:dd (w2.ownsRow w.1.size 3 1 v2 (o.length+(m+1))<|(o++List.replicate (m+1) (i:Int)).map (Value.int .i64)):=(by show World.ownsRow _ _ _ _ _ _ _;rw[Pr,<-dY,gu,<-oZ];simpa [dY]using s);clear D d s B;go_wp2;go_roundg (t.size - (p+q));exact⟨p+q,m+1,A,ae,rfl,uH,by omega,CD,S,Q⟩;omega
   .have D:∀E,(Instr.next (.pointer<|V ⟨h.1.size+1,0,U⟩) db E).run prog wr= .ok (de #[ce da]) wr:=λE=>FY wr (h.1.size+1) t p E hit z
    cases A with
    |cons r A=>exact absurd K.1 z
    |nil=>have G:m=M.length:=(by simpa using hm);have Q:=ah j;have S:dd (wr.ownsRow w.1.size 3 1 (R qa (o.length+m) qc) (o++List.replicate m (i:Int)).length ((o++List.replicate m (i:Int)).map (Value.int .i64))):=(by show World.ownsRow _ _ _ _ _ _ _;rw[bG,aji];exact b);have qA:dd ((o++List.replicate m (i:Int))++kr a (l.drop<|i+1) (i+1)=aa):=(by show _=_;rw[<-O.out,G,dY]);clear K hit b j G;go_wp2;go_roundg (n - (i+1));exact⟨i+1,o++List.replicate m (i:Int),by omega,rfl,by go_num,qA,S,Q⟩;omega
 obtain rfl:i=n:=by omega
 have ad:¬(i:Int)<(i:Int):=by omega
 rw[tC<|by rw[HN.out];exact au _,kr,mH]at C;subst C;have tj:=ah b;clear b j;go_wp2;go_ret;exact⟨_,rfl,tj,pN⟩
def yM(l:aw):Bool:=if l.length=0 then db else Lib.downOK (λx y=>decide (x<y)) l.toArray (l.length - 1)
def aoD(l:aw)(v:cJ)(w:cw)(o:l.length<=1000)(m:dF w v l):cP prog 185 #[v] w λe k=>e=bj (ce<|yM l)/\cD w.1.size w k:=by
 unfold yM;by_cases d:l.length=0;rw[aj d];obtain⟨x,c,rfl,_⟩:=m.form;rw[d];exact(AnyO.slices_IsSorted_int_none Tryz.laysSorted x c w).mono λe k ⟨f,h⟩=>⟨f,by rw[h];exact aA _ _⟩
 rw[ai d];obtain⟨x,c,rfl,hx⟩:=m.form;obtain⟨b,j,rfl,n⟩:=hx (by omega);refine(AnyO.slices_IsSorted_int Tryz.laysSorted b j c l.toArray w (λi g=> ?_)<|by simp;omega).mono ?_;have a:i<l.length:=(by simpa using g);rw[n i a];congr 2;rw[aN,aK a];simp[a];rintro e k ⟨f,q,h⟩;exact⟨f,by rw[h];exact Go.Proofs.below_drewN w q⟩
def Ck(b a:aw):aw:=(kY<|fQ b (b.map cls) 0).map λj=>a.getD j.toNat 0
def asB(a:bc)(b:aw)(l:List PR)(v:cJ)(w:cw)(aL aT aC:Addr)(hs:a.size<=600)(hr:cK a=V b)(ab:b.length<=300)(hl:l.length<=600)(hE:Env w aL aT aC)(hB:Br w)(hv:Bn w v l)(hx:∀x∈l,zU a x)(hM:(kr a l 0).length=b.length):cP prog 109 #[cd a,v] w λe A=>e=bj (ce<|yM<|Ck b<|kr a l 0)/\cD w.1.size w A:=by
 obtain⟨iI,gZ,ia,ic,ig⟩:=fP Tryz.Dp;have HP:=aqx a l v w hs hl hv hx;have qX:dd (∀W,cD w.1.size w W->cP prog 55 #[cd a,Y Z 0] W λe A=>∃g,e=bj (.slice (V<|S g 0 U) b.length b.length)/\aW A W.1.size 3 g b.length (iv<|fQ b (b.map cls) 0)/\cD W.1.size W A):=λW hW=>sD a b 0 W aL aT aC hs hr ab (hE.below hW)<|hB.below hW
 have HOr:dd (∀W g B,aW W B 3 g b.length (iv<|fQ b (b.map cls) 0)->cP prog 59 #[.slice (V<|S g 0 U) b.length b.length] W λe A=>∃g,e=bj (.slice (V<|S g 0 U) b.length b.length)/\aW A W.1.size 3 g b.length (iv<|kY<|fQ b (b.map cls) 0)/\cD W.1.size W A):=λW g B h=>by rw[<-afQ (XB b)];exact sI _ g 0 b.length b.length W (NG b) (by omega) (h.lt g rfl).2 (λk m=>by rw[fV];exact jx h k m) (XB b)
 have K9:=ah<|Yd b;have z:(kY<|fQ b (b.map cls) 0).length=b.length:=by rw[NY,NG]
 have M:dd (Ck b (kr a l 0)=(kY<|fQ b (b.map cls) 0).map λj=>(kr a l 0).getD j.toNat 0):=rfl;rw[hM]at HP;obtain⟨s,N⟩:=ac<|Ck b<|kr a l 0;rw[<-N]at M ⊢;have zK:dd (∀W v,dF W v s->cP prog 185 #[v] W λe A=>e=bj (ce<|yM s)/\cD W.1.size W A):=λW v h=>aoD s v W (by rw[M.out,jh,z];omega) h
 generalize yM s=aa at*;generalize fQ b (b.map cls) 0=LV at*;generalize kY LV=J at*;generalize kr a l 0=L at*;obtain⟨n,hN⟩:=ac b.length;rw[<-hN]at ab HP qX HOr K9 z hM;have nL:=ah hM;have pP:=ah z;clear hN z hM N hE hB hv hx hr;go_enter func109,ntmps109;go_wp2_with fail;refine HP.mono ?_;clear HP;rintro ev f ⟨aO,rfl,I,F⟩;obtain⟨na,nc,rfl⟩:=fC I;have K:=ah I;have aD:=ah F;have aq:=F.size;clear I F;go_wp2_with(at_make;refine wpList_make_own _ rfl _ _ 31 rfl f.1.size 3 iI (Y Z 0) 1 underlying31 gZ ia ic .i64 .i64 _ n rfl rfl (by omega) (by rw[ig];omega) (by unfold maxLen;omega) (by omega) ?_);intro W2 r T;have aG:dd (cD f.1.size f W2):=(aA _ _).grown T (au _) (λk m=>by cases m);have aM:=aG.out.size;have Z7:=ah<|aD.out.trans<|aG.out.mono aq;have bP:=ah r;clear r T;go_wp2_with fail;refine(qX _ Z7.out).mono ?_;rintro ev W3 ⟨gl,rfl,ad,G⟩;have vN:=ah ad;have aJ:=ah G;have ar:=G.size;clear ad G;go_wp2_with fail;refine(HOr _ _ _ vN.out).mono ?_;rintro ev t ⟨C,rfl,ae,P⟩;have Tx:=ah ae;have cW:=ah<|aJ.out.trans<|P.mono ar;have sP:=cW.out.size;have s9:=ah<|jc bP cW;have ai:=ah<|jc (jc K aG) cW.out;have ak:dd (cD w.1.size w t):=Z7.out.trans (cW.out.mono<|by omega);clear ae P qX HOr;have aj:dd (∀g,(Value.slice na n nc).ownBlock=V g->g<f.1.size):=λg hg=>(K.out.lt g hg).2
 have Z6:dd (C<t.1.size/\W3.1.size<=C):=⟨(Tx.out.lt C rfl).2,(Tx.out.lt C rfl).1⟩
 have ax:f.1.size<W2.1.size:=(bP.out.lt f.1.size rfl).2;have ay:f.1.size<W3.1.size:=by omega
 go_wp2;go_loopg [6,8,19] n (λgk sv _ gD W=>∃(i:Nat),i<=n/\gk=n - i/\gD=Y Z i/\W.ownsRow f.1.size 3 1 sv i ((s.take i).map (Value.int .i64))/\(∀k,sv.ownBlock=V k->k=f.1.size∨t.1.size<=k)/\t.1.size<=W.1.size/\cD w.1.size w W/\(∀k,k<t.1.size->k≠f.1.size->W.1[k]? =t.1[k]?));exact⟨0,by omega,rfl,rfl,by simpa using s9.out,λk m=> .inl (by simpa [Value.ownBlock]using m.symm),au _,ak,λ_ _ _=>rfl⟩
 rename cw=>wa
 obtain⟨i,hi,rfl,rfl,c,E,aH,O,p⟩:=hrel;obtain⟨sa,sc,rfl⟩:=fC c;have Q:=O.size;by_cases ap:i<n
 .have d:i<J.length:=by rw[pP.out];exact ap
  obtain⟨Xl,Xm⟩:=K9.out (J[i]'d)<|nP d;have D:wa.ownsRow W3.1.size 3 1 (.slice (V<|S C 0 U) n n) n (iv J):=kS Tx λk o m ho=>by obtain rfl:C=k:=(by simpa [Value.ownBlock]using m);rw[p C Z6.out.1<|by have:=Z6.out.2;omega];exact ho
  have Jt:wa.cell? (S C i U)=V (Y Z<|J[i]'d):=by rw[cT D i<|by omega];simp[iv,d]
  obtain⟨u,H⟩:∃u:Nat,J[i]'d=(u:Int):=⟨(J[i]'d).toNat,by omega⟩
  have I:wa.ownsRow w.1.size 3 1 (R na n nc) n (L.map<|Value.int .i64):=kS ai λk o m ho=>by have aE:=aj.out k m;rw[p k (by omega)<|by omega];exact ho
  obtain⟨ng,nd,X,aF,_,av⟩:=jy I (by omega);simp only[lY,lq]at X;obtain⟨rfl,rfl⟩:=X;have ao:u<n:=by omega
  have Dh:u<L.length:=by rw[nL.out];exact ao
  have az:wa.cell? (S ng u U)=V (Y Z<|L.getD u 0):=by rw[cT I u<|by omega,jC,aK Dh,aN,aK Dh];rfl
  have af:s.take (i+1)=s.take i++[L.getD u 0]:=by have VG:i<s.length:=(by rw[M.out,jh];exact d);rw[pR VG];congr 2;simp only[M.out,List.getElem_map,H,Bg]
  rw[H]at Jt;have qY:=ah af;generalize L.getD u 0=q at*;have an:(i:Int)<(n:Int):=by omega
  have aB:(u:Int)<(n:Int):=by omega
  have yw:=ah E;have ag:=ah p;have HB:=ah O;clear H af D I d Dh Xl Xm E p O;have am:f.1.size<=wa.1.size:=by omega
  go_wp2_with(at_builtin;refine AW _ rfl _ _ 31 rfl f.1.size 3 iI (Y Z 0) 8 underlying31 gZ ia ic ig rfl (by decide) _ _ _ rfl c _ _ _ rfl rfl rfl (by omega) am ?_);intro v5 w5 cG bQ ow;have bF:dd (cD w.1.size w w5):=HB.out.grown bQ Q (λy hy=>by have:=(c.lt y hy).1;omega);have kC:dd (w5.ownsRow f.1.size 3 1 v5 (i+1)<|(s.take<|i+1).map (Value.int .i64)):=by show World.ownsRow _ _ _ _ _ _ _;rw[qY.out,gu,fU];exact cG
  have Su:dd (∀k,v5.ownBlock=V k->k=f.1.size∨t.1.size<=k):=λk m=>by
   rcases ow with h|h;rw[h]at m;exact yw.out k m;rw[h]at m;have:=aI m
   first|omega|(simp at this;omega)
  have FD:dd (∀k,k<t.1.size->k≠f.1.size->w5.1[k]? =t.1[k]?):=λk h1 h2=>by rw[bQ.block k (by omega) λe=>by rcases yw.out k e.symm with h|h<;>omega];exact ag.out k h1 h2
  have al:t.1.size<=w5.1.size:=by have:=bQ.size;omega
  clear c cG bQ ow;go_wp2;go_roundg (n - (i+1));exact⟨i+1,by omega,rfl,by go_num,kC,Su,al,bF,FD⟩;omega
 obtain rfl:i=n:=by omega
 have an:¬(i:Int)<(i:Int):=by omega
 have VG:s.length=i:=by rw[M.out,jh];exact pP.out
 rw[jY<|by omega]at c;have D7:=ah<|dF.uo c;have HB:=ah O;clear c E O p VG;go_wp2_with fail;refine(zK _ _ D7.out).mono ?_;rintro ev w6 ⟨rfl,gz⟩;have dU:=ah<|HB.out.trans<|gz.mono Q;clear gz;go_wp2;go_ret;exact⟨rfl,dU⟩
def N8(a:bc)(b:aw)(l:List PR):Bool:=(found (b.map cls)==0)&&yM (Ck b<|kr a l 0)&&l.all (rA a)
def aoB(a:bc)(c:aw)(l:List PR)(v:cJ)(w:cw)(aL p o:Addr)(y:a.size<=600)(t:cK a=V c)(u:c.length<=300)(H:l.length<=600)(q:Env w aL p o)(E:Br w)(z:Bn w v l)(hx:∀x∈l,zU a x)(G:(kr a l 0).length=c.length):cP prog 64 #[cd a,v] w λe n=>e=bj (ce<|N8 a c l)/\cD w.1.size w n:=by
 have r:=ah<|aqu a c w aL p o y t q;have B:dd (∀W,cD w.1.size w W->cP prog 109 #[cd a,v] W λe n=>e=bj (ce<|yM<|Ck c<|kr a l 0)/\cD W.1.size W n):=λW i=>asB a c l v W aL p o y t u H (q.below i) (E.below i) (z.below i) hx G
 have J:dd (∀W,cD w.1.size w W->cP prog 110 #[cd a,v] W λe n=>e=bj (ce<|l.all<|rA a)/\cD W.1.size W n):=λW i=>aoh a l v W aL p o y H (q.below i) (z.below i) hx
 have K:dd (N8 a c l=((found (c.map cls)==0)&&yM (Ck c<|kr a l 0)&&l.all (rA a))):=rfl;generalize N8 a c l=N at*;generalize yM (Ck c<|kr a l 0)=D at*;generalize l.all (rA a)=C at*;generalize found (c.map cls)=F at*;have g:=K.out;clear q E z hx G t;by_cases hF:F=0
 .subst hF;cases D
  .simp at g;subst g;go_enter func64,ntmps64;go_wp2_with fail;refine r.out.mono ?_;rintro k I ⟨rfl,b⟩;have f:=ah b;have h:=b.size;clear b;go_wp2_with fail;refine(B _ f.out).mono ?_;rintro k M ⟨rfl,d⟩;have j:=ah<|f.out.trans<|d.mono h;clear d;go_wp2;go_ret;exact⟨rfl,j⟩
  simp at g;subst g;go_enter func64,ntmps64;go_wp2_with fail;refine r.out.mono ?_;rintro k I ⟨rfl,b⟩;have f:=ah b;have h:=b.size;clear b;go_wp2_with fail;refine(B _ f.out).mono ?_;rintro k M ⟨rfl,d⟩;have j:=ah<|f.out.trans<|d.mono h;have A:=j.out.size;clear d;go_wp2_with fail;refine(J _ j.out).mono ?_;rintro k O ⟨rfl,m⟩;have L:=ah<|j.out.trans<|m.mono A;clear m;go_wp2;go_ret;exact⟨rfl,L⟩
 have s:=ae hF;rw[s]at g;simp at g;subst g;go_enter func64,ntmps64;go_wp2_with fail;refine r.out.mono ?_;rintro k I ⟨rfl,b⟩;have f:=ah b;clear b;go_wp2;go_ret;exact⟨rfl,f⟩
def qL:Nat->aw->ba
 |_,[]=>[]
 |p,r::rs=>p::qL (p+wd r) rs
def Yv(p:Nat)(a:aw):(qL p a).length=a.length:=by
 induction a generalizing p with
 |nil=>rfl
 |cons r a ih=>simp[qL,ih]
def aqJ(p:Nat)(a:aw)(j:Nat)(b:j<a.length):(dQ p a).getD j 0=(qL p a).getD j 0:=by
 induction a generalizing p j with
 |nil=>simp at b
 |cons r a ih=>
  cases j with
  |zero=>simp[dQ,qL]
  |succ j=>simpa [dQ,qL]using ih (p+wd r) j<|by simpa using b
def DF {x:bc}{a:Nat}{r:Int}(b:a<x.size)(c:aQ x a≠0)(d:r=fK x a):wd r=aQ x a:=by rw[d];exact Zf x a b c
def agi {x:bc}:∀(c:aw)(a b:Nat)(d:aw),RX x a b c->qL a (c++d)=qL a c++qL b d
 |[],a,b,d,h=>by have:a=b:=h;subst this;rfl
 |r::c,a,b,d,h=>by obtain⟨e,f,g,i⟩:=h;have j:=DF e f g;rw[uL,qL,qL,j,agi c _ b d i];rfl
def agj {x:bc}:∀(d:aw)(a b:Nat),RX x a b d->∀q∈qL a d,a<=q/\q<b
 |[],a,b,_,q,c=>by cases c
 |r::d,a,b,h,q,c=>by obtain⟨f,g,i,e⟩:=h;have k:=DF f g i;have j:=DD e;rw[qL,k]at c;rcases gI.1 c with rfl|c;omega;have:=agj d _ b e q c;omega
def agk {x:bc}:∀(c:aw)(a:Nat),RA x a c->∀q∈qL a c,a<=q
 |[],a,_,q,b=>by cases b
 |r::c,a,h,q,b=>by obtain⟨d,e,f,g⟩:=h;have i:=DF d e f;rw[qL,i]at b;rcases gI.1 b with rfl|b;omega;have:=agk c _ g q b;omega
def X7 {x:bc}:∀(c:List PR)(a k:Nat)(b:aw),zY a x.size c->RA x a b->(∀y∈c,PX x y)->kr x c k=(qL a b).map (λq=>pI q c k)
 |[],a,k,b,hc,hr,_=>by
  have s:a=x.size:=hc;cases b with
  |nil=>rfl
  |cons r b=>have:=hr.1;omega
 |y::ys,a,k,b,hc,hr,hx=>by
  obtain⟨m,u,n⟩:=hc;have i:=hx y Pp;obtain⟨d,j,o,e,l⟩:=Cf i.tl i.aT b a hr (by omega);have g:Hp x y=d:=by unfold Hp;rw[m,Kh i.tl e];rfl
  rw[kr,g,o,agi d a y.dR j e,gu];congr 1
  .have p:∀q∈qL a d,pI q (y::ys) k=(k:Int):=λq f=>by have:=agj d a y.dR e q f;rw[pI,aj ⟨by omega,this.2⟩]
   rw[Lt p,List.map_const',Yv]
  rw[X7 ys y.dR (k+1) j n l λz t=>hx z<|yG _ t];refine Lt λq f=> ?_
  have:=agk j y.dR l q f;rw[pI,ai λh=>by omega]
def apP {x:bc}{a:List PR}{b:aw}(c:zY 0 x.size a)(d:RA x 0 b)(hx:∀y∈a,PX x y):(kr x a 0).length=b.length:=by rw[X7 a 0 0 b c d hx,jh,Yv]
def asC {x:bc}{c:List PR}{a:aw}(d:zY 0 x.size c)(g:RA x 0 a)(hx:∀y∈c,PX x y):Ck a (kr x c 0)=Y3 a c:=by
 unfold Ck Y3;refine Lt λj e=> ?_
 obtain⟨h,i⟩:=Yd a j e;have b:j.toNat<a.length:=by omega
 rw[aqJ 0 a _ b,X7 c 0 0 a d g hx];have f:j.toNat<(qL 0 a).length:=by rw[Yv];exact b
 rw[aN,jC,aN,aK f];rfl
def ah2:∀(l:aw)(a:Int),Cr a l=db↔(∀x,l[0]? =V x->a<=x)/\∀i,i+1<l.length->l.getD i 0<=l.getD (i+1) 0
 |[],a=>by simp[Cr]
 |k::ks,a=>by
  rw[Cr];by_cases h:k<a;rw[aj h];constructor;intro g;cases g;intro⟨e,_⟩;have:=e k rfl;omega;rw[ai h,ah2 ks k];constructor
  .rintro⟨e,c⟩;refine⟨λx hx=>by have:k=x:=(by simpa using hx);omega,λi d=> ?_⟩;cases i with
   |zero=>
    cases ks with
    |nil=>simp at d
    |cons b f=>simpa using e b rfl
   |succ i=>simpa using c i<|by simpa using d
  rintro⟨_,c⟩;refine⟨λx hx=> ?_,λi d=> ?_⟩
  .cases ks with
   |nil=>cases hx
   |cons b f=>have j:b=x:=(by simpa using hx);subst j;simpa using c 0<|by simp
  simpa using c (i+1)<|by simpa using d
def down_up {l:aw}(h:∀x∈l, -1<=x):yM l=Cr (-1) l:=by
 rw[Cv,ah2];unfold yM;by_cases c:l.length=0;have:l=[]:=Ua.1 c;subst this;simp;rw[ai c,Lib.downOK_iff];have a:∀i,i<l.length->l.toArray[i]! =l.getD i 0:=λi b=>by rw[aN,aK b];simp[b]
 constructor;intro d;refine⟨λx hx=>h x<|Pq hx,λi b=> ?_⟩;have:=d i (by omega);rw[a _ (by omega),a _ (by omega)]at this;simp at this;exact this;rintro⟨_,e⟩ i b;rw[a _ (by omega),a _ (by omega)];have:=e i (by omega);simp;exact this
def afZ(q:Nat):∀(l:List PR)(k:Nat), -1<=pI q l k
 |[],_=>by simp[pI]
 |x::xs,k=>by rw[pI];split;omega;exact afZ q xs<|k+1
def aqb {x:bc}{a:List PR}{b:aw}(c:zY 0 x.size a)(d:RA x 0 b)(hx:∀y∈a,PX x y):yM (Ck b<|kr x a 0)=Dy b a:=by
 rw[asC c d hx];unfold Dy;refine down_up λz e=> ?_
 obtain⟨j,_,rfl⟩:=jX.1 e;exact afZ _ _ _
def agm {x:bc}{k:aw}{y:PR}(b:RA x 0 k)(hx:PX x y):zU x y:=by obtain⟨p,j,q,_,_,e,_⟩:=agx b (gV hx.ft) hx.tl hx.aF hx.aT;refine⟨gV hx.ft,hx.tl,⟨j,Kh hx.tl e⟩,λg=> ?_⟩;obtain⟨l,a,m,c,d,_,_⟩:=hx.bd g;have h:=hx.tl;obtain⟨n,i,o,_,_,f,_⟩:=agx b a (by omega:y.end_<=x.size) c d;exact⟨a,by omega,i,Kh (by omega) f⟩
def Xi {w wr:cw}{B b p:Nat}{z:bc}{r:Int}{f:aw}(g:RA z p (r::f))(hit:wr.1[b]? =V (.stringIter z p))(i:cD B w wr)(h:B<=b):∃wi n,(∀d,(Instr.next (.pointer<|V<|S b 0 U) db d).run prog wr= .ok (de #[ce db,Y Z p,Y .i32 r]) wi)/\RA z (p+n) f/\p+n<=z.size/\0<n/\wd r=n /\dd (wi.1[b]? =V (.stringIter z<|p+n))/\dd (cD B w wi)/\wi=wr.iterAt b z (p+n):=by obtain⟨a,c,e,j⟩:=g;refine⟨_,aQ z p,λd=> ?_,j,Ko z p a c,by omega,DF a c e,Pb wr _ z p _ hit,O8 i h _ _,rfl⟩;rw[Pc wr b z p d hit a,Fu z p c,e];rfl
def pq:aw->Nat->Int
 |[],_=> -1
 |r::rs,p=>if fO r then(p:Int)else pq rs (p+wd r)
def tV:aw->Bool->Nat->Int
 |[],_,_=> -1
 |r::rs,e,p=>if e&&fO r then(p:Int)else tV rs (r==92&& !e) (p+wd r)
def Ni(s:bc)(f t:Nat)(j:aw)(w:cw)(O:f<=t)(T:t<=s.size)(R:s.size<=100000)(y:cK (s.extract f t)=V j)(x:Sp w):cP prog 167 #[cd s,Y Z f,Y Z t] w λe u=>e=bj (Y Z<|pq j f)/\cD w.1.size w u:=by
 have E:dd (∀(r:Int)(W:cw),cD w.1.size w W->cP prog 170 #[Y .i32 r] W λe u=>e=bj (ce<|fO r)/\cD W.1.size W u):=λr W H=>Xe r W<|x.below H
 have I:(s.extract f t).size<=t - f:=by rw[A4];omega
 have M:=ah<|vG y;obtain⟨G,m⟩:=ac<|pq j f;rw[<-m];have F:=ah m.symm;clear x y m;go_enter func167,ntmps167;go_wp2;generalize s.extract f t=z at*;go_loopg [7,8] z.size (λgk _ _ W=>∃(p:Nat)(k:aw),p<=z.size/\gk=z.size - p/\RA z p k/\pq k (f+p)=G/\W.1[w.1.size]? =V (.stringIter z p)/\cD w.1.size w W);exact⟨0,j,by omega,rfl,M,F,F7 w z 0,(aA _ _).alloc (au _) _⟩;obtain⟨p,C,Q,rfl,h,a,hit,i⟩:=hrel;cases C with
 |cons r k=>
  obtain⟨wi,n,d,A,o,P,g,J,l, -⟩:=Xi h hit i<|au _;have L:=ah A;rw[pq,g]at a;have B:=E.out r wi l.out;clear h A g hit i;go_wp2_with fail;refine B.mono ?_;rintro N X ⟨rfl,b⟩;have K:=ah<|aR b J.out;have v:=ah<|l.out.trans<|b.mono l.out.size;clear d b B;cases hh:fO r
  .rw[hh,ai<|by simp]at a;have c:=ah a;clear a;go_wp2;go_roundg (z.size - (p+n));exact⟨p+n,k,o,rfl,L,by rw[<-oZ];exact c.out,K,v⟩;omega
  rw[hh,aj rfl]at a;have c:=ah a;clear a;go_wp2;go_ret;exact⟨dX<|by rw[<-c.out];omega,v.out⟩
 |nil=>
  have D:=ah i;have c:=ah a;have d:∀q,(Instr.next (.pointer<|V<|S w.1.size 0 U) db q).run prog wr= .ok (de #[ce da]) wr:=λq=>FY wr w.1.size z p q hit<|by have:p=z.size:=h;omega
  clear i a hit h;go_wp2;go_ret;exact⟨dX c,D⟩
def ame(s:bc)(f t:Nat)(m:aw)(w:cw)(P:f<=t)(X:t<=s.size)(T:s.size<=100000)(C:cK (s.extract f t)=V m)(B:Sp w):cP prog 168 #[cd s,Y Z f,Y Z t] w λe u=>e=bj (Y Z<|tV m da f)/\cD w.1.size w u:=by
 have I:dd (∀(r:Int)(W:cw),cD w.1.size w W->cP prog 170 #[Y .i32 r] W λe u=>e=bj (ce<|fO r)/\cD W.1.size W u):=λr W L=>Xe r W<|B.below L
 have M:(s.extract f t).size<=t - f:=by rw[A4];omega
 have O:=ah<|vG C;obtain⟨K,o⟩:=ac<|tV m da f;rw[<-o];have J:=ah o.symm;clear B C o;go_enter func168,ntmps168;go_wp2;generalize s.extract f t=z at*;go_loopg [7,8,9] z.size (λgk A _ _ W=>∃(p:Nat)(i:aw)(x:Bool),A=ce x/\p<=z.size/\gk=z.size - p/\RA z p i/\tV i x (f+p)=K/\W.1[w.1.size]? =V (.stringIter z p)/\cD w.1.size w W);exact⟨0,m,da,rfl,by omega,rfl,O,J,F7 w z 0,(aA _ _).alloc (au _) _⟩;obtain⟨p,G,x,rfl,R,rfl,k,a,hit,l⟩:=hrel;cases G with
 |cons r i=>
  obtain⟨wi,n,g,E,d,Q,h,D,j, -⟩:=Xi k hit l<|au _;have F:=ah E;rw[tV,h]at a;have v:=I.out r wi j.out;clear k E h hit l;cases x
  .rw[Oy,ai<|by simp]at a;cases Mo:r==92;all_goals
    rw[Mo]at a;have b:=ah a;clear a v;go_wp2;go_roundg (z.size - (p+n));exact⟨p+n,i,_,rfl,d,rfl,F,by rw[<-oZ];exact b.out,D.out,j.out⟩;omega
  go_wp2_with fail;refine v.mono ?_;rintro A w3 ⟨rfl,c⟩;have N:=ah<|aR c D.out;have y:=ah<|j.out.trans<|c.mono j.out.size;clear g c v;cases hh:fO r
  .rw[hh,ZY,ai<|by simp,Bool.not_true,ZY]at a;have b:=ah a;clear a;cases Mo:r==92;all_goals
    go_wp2;go_roundg (z.size - (p+n));exact⟨p+n,i,_,rfl,d,rfl,F,by rw[<-oZ];exact b.out,N,y⟩;omega
  rw[hh,Bool.and_self,aj rfl]at a;have b:=ah a;clear a;go_wp2;go_ret;exact⟨dX<|by rw[<-b.out];omega,y.out⟩
 |nil=>
  have H:=ah l;have b:=ah a;have g:∀q,(Instr.next (.pointer<|V<|S w.1.size 0 U) db q).run prog wr= .ok (de #[ce da]) wr:=λq=>FY wr w.1.size z p q hit<|by have:p=z.size:=k;omega
  clear l a hit k;go_wp2;go_ret;exact⟨dX b,H⟩
def wL(s:bc)(f t:Nat):aw:=(cK<|s.extract f t).getD []
def nT(s:bc)(x:PR):Int:=if x.kind=0 then pq (wL s x.from_ x.dR) x.from_ else if x.kind=1 then tV (wL s x.body x.end_) da x.body else -1
def amC(s:bc)(x:PR)(w:cw)(p:s.size<=100000)(h:Sp w)(hx:zU s x):cP prog 102 #[cd s,uv x] w λe E=>e=bj (Y Z<|nT s x)/\cD w.1.size w E:=by
 obtain⟨G,j,n,y,m,v⟩:=x;obtain⟨o,u,⟨t,a⟩,g⟩:=hx;simp only at o u a g;unfold uv nT wL;simp only;have c:dd (cD w.1.size w<|w.alloc<|bi #[Y Z j,Y Z n,Y Z y,Y Z m,Y Z v] 75):=(aA _ _).alloc (au _) _;by_cases i:j=0
 .subst i;rw[aj rfl,a];simp only[uV];have f:=Ni s n y t _ o u p a (h.below c);generalize pq t n=q at*;clear a g h;go_enter func102,ntmps102;go_wp2_with fail;refine f.mono ?_;rintro B F ⟨rfl,b⟩;have k:=ah<|c.out.trans<|b.mono c.out.size;clear b f;go_wp2;go_ret;exact⟨rfl,k⟩
 have C:((j:Int)==0)=da:=by simpa using i
 rw[ai i];by_cases l:j=1
 .subst l;obtain⟨z,A,⟨r,d⟩⟩:=g i;rw[aj rfl,d];simp only[uV];have f:=ame s m v r _ z A p d (h.below c);generalize tV r da m=q at*;clear a g h d;go_enter func102,ntmps102;go_wp2_with fail;refine f.mono ?_;rintro B F ⟨rfl,b⟩;have k:=ah<|c.out.trans<|b.mono c.out.size;clear b f;go_wp2;go_ret;exact⟨rfl,k⟩
 have D:((j:Int)==1)=da:=by simp;omega
 rw[ai l];clear a g h i l;go_enter func102,ntmps102;go_wp2;go_ret;exact⟨rfl,c⟩
def rq(w:cw):Prop:=w.cell? (S 15 15 U)=V (Y .u8 4)
def aq7(w:cw):cP prog 301 #[Y Z 16] w λe a=>e=bj (ce db)/\a=w:=by
 have b:bits .and .i64 16 15=0:=by decide
 go_enter func301,ntmps301;go_wp2;go_ret;exact⟨rfl,rfl⟩
def atD(w:cw)(h:rq w):cP prog 308 #[Y .u64 16] w λe a=>e=bj (Y Z 4)/\a=w:=by
 have key:IntKind.u64.wrap (bits .and .u64 16 (IntKind.u64.wrap (-16))*285870213051353865) / 288230376151711744=15:=by decide+kernel
 unfold rq at h;go_enter func308,ntmps308;go_wp2_with(simp only[key]);go_ret;exact⟨rfl,rfl⟩
def atF(w:cw)(h:rq w):cP prog 302 #[Y .u64 16] w λe a=>e=bj (Y Z 4)/\a=w:=by have H:=atD w h;go_enter func302,ntmps302;go_wp2_with fail;refine H.mono ?_;rintro b _ ⟨rfl,rfl⟩;go_wp2;go_ret;exact⟨rfl,rfl⟩
def vT:bc:=⟨#[48,49,50,51,52,53,54,55,56,57,97,98,99,100,101,102,103,104,105,106,107,108,109,110,111,112,113,114,115,116,117,118,119,120,121,122]⟩
def hx(k:Nat):UInt8:=vT.get! k
def Nl(k:Nat)(h:k<36):vT[k]'h=hx k:=(get_eq vT k h).symm
def vV(r:Nat):bc:=if r<4096 then⟨#[hx<|r / 16 / 16,hx<|r / 16%16,hx<|r%16]⟩else⟨#[hx<|r / 16 / 16 / 16,hx<|r / 16 / 16%16,hx<|r / 16%16,hx<|r%16]⟩
def Uq(a:Nat)(h:a<65536):bits .and .u64 (a:Int) 15=((a%16:Nat):Int):=by have:=bits_mask .u64 64 (by decide) wraps_u64 4 (by decide) (a:Int) (by omega) (by omega);simpa using this
def aut:Tryz.zeroCells342=Array.replicate 65 (Y .u8 0):=by kernel_rfl
def amG(r:Nat)(h1:256<=r)(h2:r<65536)(w:cw)(h:rq w):cP prog 290 #[R U 0 0,Y .u64 r,Y Z 16,ce da,ce da] w λe p=>e=bj (de #[R U 0 0,cd<|vV r])/\cD w.1.size w p:=by
 have C:dd (∀W,cP prog 301 #[Y Z 16] W λe p=>e=bj (ce db)/\p=W):=λW=>aq7 W
 have k:cD w.1.size w (w.alloc<|bi Tryz.zeroCells342 342):=(aA _ _).alloc (au _) _;have D:dd (cP prog 302 #[Y .u64 16] (w.alloc<|bi Tryz.zeroCells342 342) λe p=>e=bj (Y Z 4)/\p=w.alloc (bi Tryz.zeroCells342 342)):=atF _ (by unfold rq at h ⊢;exact cU k h);have B:=ah k;have o:∀j,j<65->(w.alloc<|bi Tryz.zeroCells342 342).cell? (S w.1.size j U)=V (Y .u8 0):=λj i=>by rw[World.cell?_alloc_new];rw[aut];simp[i]
 have f:∀j,(w.alloc<|bi Tryz.zeroCells342 342).frozen? (S w.1.size j U)=da:=λj=>World.frozen?_alloc_new _ _ _ _
 clear k h;have T:=Uq r (by omega);go_enter func290,ntmps290;go_wp2_with fail;refine(C _).mono ?_;rintro O wx ⟨rfl,hx⟩;have m:=hx.symm;subst m;clear hx;go_wp2_with fail;refine D.out.mono ?_;rintro O wx ⟨rfl,hx⟩;have m:=hx.symm;subst m;clear hx D C;generalize w.alloc (bi Tryz.zeroCells342 342)=n at*;have N:=o 64 (by omega);have M:=o 63 (by omega);have L:=o 62 (by omega);have K:=o 61 (by omega);have f64:=f 64;have f63:=f 63;have f62:=f 62;have f61:=f 61;clear o f;go_wp2;refine dN 4 ?_;rw[bB];go_wp2;obtain⟨d0,s⟩:∃d:UInt8,d=vT[r%16]'(by show _<36;omega):=⟨_,rfl⟩
 have z:dd (d0=hx (r%16)):=s.trans<|Nl _ _;unfold vT at s;rw[<-s];clear s;obtain⟨a,E⟩:∃x:Nat,x=r / 16:=⟨_,rfl⟩
 rw[show(r:Int) / 16=(a:Int)by omega,bB];have q:=ah E;have ha:16<=a/\a<4096:=by omega
 have X:=Uq a (by omega);clear E T;go_wp2;obtain⟨d1,t⟩:∃d:UInt8,d=vT[a%16]'(by show _<36;omega):=⟨_,rfl⟩
 have A:dd (d1=hx (a%16)):=t.trans<|Nl _ _;unfold vT at t;rw[<-t];clear t;obtain⟨b,F⟩:∃x:Nat,x=a / 16:=⟨_,rfl⟩
 rw[show(a:Int) / 16=(b:Int)by omega,bB];have EB:=ah F;have hb:b<256:=by omega
 clear F X;by_cases Q:b<16
 .go_wp2;obtain⟨d2,g⟩:∃d:UInt8,d=vT[b]'(by show _<36;omega):=⟨_,rfl⟩
  have v:dd (d2=hx (b)):=g.trans<|Nl _ _;unfold vT at g;rw[<-g];clear g;have l:(convert 62 9 (.slice (V<|S w.1.size 62 U) 3 3)).run prog (((n.setCell (S w.1.size 64 U)<|Y .u8 d0.toNat).setCell (S w.1.size 63 U) (Y .u8 d1.toNat)).setCell (S w.1.size 62 U) (Y .u8 d2.toNat))= .ok (cd ⟨#[d2,d1,d0]⟩) (((n.setCell (S w.1.size 64 U)<|Y .u8 d0.toNat).setCell (S w.1.size 63 U) (Y .u8 d1.toNat)).setCell (S w.1.size 62 U) (Y .u8 d2.toNat)):=arW (P:=prog) _ 62 9 5 (S w.1.size 62 U) 3 [d2,d1,d0] underlying62 underlying5 underlying9 (λj i=>by
   match j,i with
   |0,_=>go_simp
   |1,_=>go_simp
   |2,_=>go_simp
   |j+3,i=>simp at i;omega)
  have y:dd (cD w.1.size w<|((n.setCell (S w.1.size 64 U)<|Y .u8 d0.toNat).setCell (S w.1.size 63 U) (Y .u8 d1.toNat)).setCell (S w.1.size 62 U) (Y .u8 d2.toNat)):=((B.out.setCell (au _) _).setCell (au _) _).setCell (au _) _;rw[l];go_wp2;go_ret2;exact⟨by rw[vV,aj<|by have:=q.out;have:=EB.out;omega,<-q.out,<-EB.out,<-z.out,<-A.out,<-v.out];rfl,y⟩
 have k2:=Uq b (by omega);go_wp2;obtain⟨d2,g⟩:∃d:UInt8,d=vT[b%16]'(by show _<36;omega):=⟨_,rfl⟩
 have v:dd (d2=hx (b%16)):=g.trans<|Nl _ _;unfold vT at g;rw[<-g];clear g;obtain⟨c,G⟩:∃x:Nat,x=b / 16:=⟨_,rfl⟩
 rw[show(b:Int) / 16=(c:Int)by omega,bB];have J:=ah G;have H:c<16:=by omega
 clear G k2;go_wp2;obtain⟨d3,u⟩:∃d:UInt8,d=vT[c]'(by show _<36;omega):=⟨_,rfl⟩
 have I:dd (d3=hx (c)):=u.trans<|Nl _ _;unfold vT at u;rw[<-u];clear u;have l:(convert 62 9 (.slice (V<|S w.1.size 61 U) 4 4)).run prog ((((n.setCell (S w.1.size 64 U)<|Y .u8 d0.toNat).setCell (S w.1.size 63 U) (Y .u8 d1.toNat)).setCell (S w.1.size 62 U) (Y .u8 d2.toNat)).setCell (S w.1.size 61 U) (Y .u8 d3.toNat))= .ok (cd ⟨#[d3,d2,d1,d0]⟩) ((((n.setCell (S w.1.size 64 U)<|Y .u8 d0.toNat).setCell (S w.1.size 63 U) (Y .u8 d1.toNat)).setCell (S w.1.size 62 U) (Y .u8 d2.toNat)).setCell (S w.1.size 61 U) (Y .u8 d3.toNat)):=arW (P:=prog) _ 62 9 5 (S w.1.size 61 U) 4 [d3,d2,d1,d0] underlying62 underlying5 underlying9 (λj i=>by
  match j,i with
  |0,_=>go_simp
  |1,_=>go_simp
  |2,_=>go_simp
  |3,_=>go_simp
  |j+4,i=>simp at i;omega)
 have y:dd (cD w.1.size w<|(((n.setCell (S w.1.size 64 U)<|Y .u8 d0.toNat).setCell (S w.1.size 63 U) (Y .u8 d1.toNat)).setCell (S w.1.size 62 U) (Y .u8 d2.toNat)).setCell (S w.1.size 61 U) (Y .u8 d3.toNat)):=(((B.out.setCell (au _) _).setCell (au _) _).setCell (au _) _).setCell (au _) _;rw[l];go_wp2;go_ret2;exact⟨by rw[vV,ai<|by have:=q.out;have:=EB.out;omega,<-q.out,<-EB.out,<-J.out,<-z.out,<-A.out,<-v.out,<-I.out];rfl,y⟩
def qb:bc:=⟨#[48,49,50,51,52,53,54,55,56,57,97,98,99,100,101,102]⟩
def sU:bc:=⟨#[48,49,50,51,52,53,54,55,56,57,65,66,67,68,69,70]⟩
def alF:∀k:Fin 16,Et qb k.val=⟨#[hx k.val]⟩:=by decide+kernel
def Jj(r:Nat)(c:r<65536):iR qb r=⟨#[hx<|r / 16 / 16 / 16,hx<|r / 16 / 16%16,hx<|r / 16%16,hx<|r%16]⟩:=by
 have h:=λk (b:k<16)=>alF ⟨k,b⟩
 simp only at h;rw[iR,h _ (si _ (by omega)),h _ (si _ (by omega)),h _ (si _ (by omega)),h _ (si _ (by omega)),jK (a:=r / 16 / 16 / 16)<|by omega];rfl
def anl(r:Nat)(c:256<=r)(b:r<65536):(vV r).size=(if r<4096 then 3 else 4)/\((⟨#[48,48,48]⟩:bc)++vV r).extract (3+(vV r).size - 4) (3+(vV r).size)=iR qb r:=by rw[Jj r b];unfold vV;split;refine⟨rfl,?_⟩;rw[jK (a:=r / 16 / 16)<|by omega,show r / 16 / 16 / 16=0 by omega];rfl;exact⟨rfl,rfl⟩
def amE(r:Nat)(c:256<=r)(d:r<65536)(w:cw)(h:rq w):cP prog 269 #[Y Z r,Y Z 16] w λe f=>e=bj (cd<|vV r)/\cD w.1.size w f:=by
 have H:=amG r c d w h;clear h;have i:¬(r:Int)<0:=by omega
 go_enter func269,ntmps269;go_wp2_with fail;refine H.mono ?_;rintro g j ⟨rfl,a⟩;have b:=ah a;clear a H;go_wp2;go_ret;exact⟨rfl,b⟩
def amF(r:Nat)(c:256<=r)(d:r<65536)(w:cw)(h:rq w):cP prog 251 #[Y Z r,Y Z 16] w λe f=>e=bj (cd<|vV r)/\cD w.1.size w f:=by have H:=amE r c d w h;clear h;go_enter func251,ntmps251;go_wp2_with fail;refine H.mono ?_;rintro g i ⟨rfl,a⟩;have b:=ah a;clear a H;go_wp2;go_ret;exact⟨rfl,b⟩
def QG(r:Nat)(a:256<=r)(b:r<65536)(w:cw)(h:rq w):cP prog 222 #[Y .i32 r] w λe j=>e=bj (cd<|iR qb r)/\cD w.1.size w j:=by
 have H:=amF r a b w h;obtain⟨f,d⟩:=anl r a b;rw[<-d];clear h d;have l:3<=(vV r).size/\(vV r).size<=4:=by rw[f];split<;>omega
 clear f;generalize vV r=z at*;have i:((⟨#[48,48,48]⟩:bc)++z).size=3+z.size:=by rw[DN];rfl
 go_enter func222,ntmps222;go_wp2_with fail;refine H.mono ?_;rintro k m ⟨rfl,c⟩;have g:=ah c;clear c H;go_wp2;go_ret;exact⟨rfl,g⟩
section
open Go.RowKit Go.Shelf
def amg(r:Nat)(d:256<=r)(a:r<65536)(w:cw)(h:rq w):cP prog 171 #[Y .i32 r] w λe f=>e=bj (cd<|⟨#[92,117]⟩++iR qb r)/\cD w.1.size w f:=by
 have H:=QG r d a w h;clear h;have i:(iR qb r).size=4:=by rw[Jj r a];rfl
 generalize iR qb r=z at*;go_enter func171,ntmps171;go_wp2_with fail;refine H.mono ?_;rintro g j ⟨rfl,b⟩;have c:=ah b;clear b H;go_wp2;go_ret;exact⟨rfl,c⟩
def Tryz.bxU:Builder.Extra prog Tryz.lays158_ren where
 sizeBuilder:=by kernel_rfl
 liesBuilder:=by kernel_rfl
 t5:=underlying5
 a5:=Tryz.isAgg5
 z5:=Tryz.sizeOf5
 v5:=Tryz.zeroValue5
 infoByte:=by kernel_rfl
 cellsByte:=by kernel_rfl
 sizeByte:=by kernel_rfl
 neB5:=by decide
def JM(k:Nat):UInt8:=sU.get! k
def Mb:∀k:Fin 16,Et sU k.val=⟨#[JM k.val]⟩/\(hx k.val).toNat<128/\Lib.toUpperA [hx k.val]=[JM k.val]:=by decide+kernel
def atK(a b c d:Nat)(f:a<16)(g:b<16)(i:c<16)(j:d<16):Lib.toUpperA [hx a,hx b,hx c,hx d]=[JM a,JM b,JM c,JM d]:=by
 have h:=λk (l:k<16)=>(Mb ⟨k,l⟩).2.2
 have e:Lib.toUpperA [hx a,hx b,hx c,hx d]=Lib.toUpperA [hx a]++(Lib.toUpperA [hx b]++(Lib.toUpperA [hx c]++Lib.toUpperA [hx d])):=by rfl
 rw[e,h a f,h b g,h c i,h d j];rfl
def amK(r:Nat)(b:r<65536):iR sU r=⟨(Lib.toUpperA (iR qb r).data.toList).toArray⟩:=by
 have h:=λk (c:k<16)=>(Mb ⟨k,c⟩).1
 simp only at h;rw[Jj r b];show _=(⟨(Lib.toUpperA [hx<|r / 16 / 16 / 16,hx<|r / 16 / 16%16,hx<|r / 16%16,hx<|r%16]).toArray⟩:bc)
 rw[atK _ _ _ _ (by omega) (by omega) (by omega) (by omega),iR,h _ (si _ (by omega)),h _ (si _ (by omega)),h _ (si _ (by omega)),h _ (si _ (by omega)),jK (a:=r / 16 / 16 / 16)<|by omega];rfl
def apB(r:Nat)(q:256<=r)(d:r<65536)(w:cw)(h:rq w):cP prog 173 #[Y .i32 r] w λe l=>e=bj (cd<|⟨#[60,85,43]⟩++iR sU r++⟨#[62]⟩)/\cD w.1.size w l:=by
 have H:=QG r q d w h;have n:dd (∀W,cP prog 224 #[cd<|iR qb r] W λe l=>e=bj (cd<|iR sU r)/\cD W.1.size W l):=λW=>by
  rw[amK r d];refine Any.strings_ToUpper_ascii Tryz.lays158 Tryz.bxU _ W (by rw[Jj r d];show 4<=_;omega) ?_;intro j b a;have i:=Pq a;rw[Jj r d]at i;have c:=λk (g:k<16)=>(Mb ⟨k,g⟩).2.1
  simp only[gI,Lv,Hg]at i;rcases i with rfl|rfl|rfl|rfl<;>exact c _ (by omega)
 have t:(iR sU r).size=4:=by
  have h:=λk (g:k<16)=>(Mb ⟨k,g⟩).1
  simp only at h;rw[iR,h _ (si _ (by omega)),h _ (si _ (by omega)),h _ (si _ (by omega)),h _ (si _ (by omega))];rfl
 clear h;generalize iR qb r=z at*;generalize iR sU r=u at*;go_enter func173,ntmps173;go_wp2_with fail;refine H.mono ?_;rintro p s ⟨rfl,a⟩;have m:=ah a;have f:=a.size;clear a H;go_wp2_with fail;refine(n s).mono ?_;rintro p v ⟨rfl,a⟩;have o:=ah<|m.out.trans<|a.mono f;clear a;go_wp2;go_ret;exact⟨rfl,o⟩
end
