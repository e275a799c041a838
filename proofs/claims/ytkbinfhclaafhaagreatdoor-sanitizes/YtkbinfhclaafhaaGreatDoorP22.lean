import Derived.Test.YtkbinfhclaafhaaGreatDoorP21
namespace Go.Proofs.YtkbinfhclaafhaaGreatDoor
open Go.RowKit
open Go.Proofs.Tryz
set_option maxRecDepth 100000
set_option maxHeartbeats 32000000
set_option linter.all false
def XA {s:ByteArray}{a:Nat}(h:a<s.size)(b:(dg s a).k≠0):dD s a=dg s a::dD s (dg s a).T:=by
 rw[dD,aj h];unfold kB;exact ai b
def Tm {b:Nat}{d c f e a:Nat}:cW b ⟨d,c,f,e,a⟩ false=⟨d,c,a,a+b,a+b⟩:=by
 unfold cW;rw[AW];unfold cM;split
 .rename_i h;simp only at h;simp only[p9]at h ⊢;rw[h]
 .simp only[p9]
def ap3(s:ByteArray):∀(d b c g v a:Nat),s.size - a<=d->g<=a->a<=s.size->cH s false ⟨b,c,g,v,a⟩=DG s b c g a (dD s a):=by
 intro d
 induction d with
 |zero=>
  intro b c g v a O A N;have y:¬a<s.size:=by omega
  rw[I7 y,cH,ai y];exact Cq A 0 0 (λh=>absurd rfl h) λh=>absurd rfl h
 |succ d ih=>
  intro b c g v a O A N;have H:∀b c m,a<m->m<=s.size->cH s false ⟨b,c,m,m,m⟩=fK s (dD s m) b c:=λb c m w o=>by
   rw[ih b c m m m (by omega) (au _) o,mK]
  have q:dJ 0 0 ⟨b,c,g,v,a⟩=ey b 0 c g a 0 0:=Cq A 0 0 (λh=>absurd rfl h) (λh=>absurd rfl h);have C:∀(u:Tk) z,u.k≠0->DG s b c g a (u::z)=ey b 0 c g a 0 0++fK s (u::z) b c:=λu z P=>ai P
  by_cases f:a<s.size
  .by_cases r:bt s a=34
   .have l:dg s a=⟨1,a,(qR s<|a+1).1+qT s (a+1),a+1,(qR s<|a+1).1⟩:=(by unfold dg;rw[aj r]);have G:=Mi s<|a+1;have D:=Qf (s:=s) (i:=a+1) (by omega);rw[XA f<|by rw[l];exact Kc _,C _ _ (by rw[l];exact Kc _),l,fK,cH,aj f,ai<|by decide,aj r,q];obtain⟨f1,f2⟩:=Qj (s:=s) (k:=1) (T:=(qR s<|a+1).1+qT s (a+1)) (B:=a+1) (E:=(qR s<|a+1).1) (ln:=b) (bg:=c) (fr:=a) ((qR s<|a+1).1+qT s (a+1) - a) a (by omega) (λi w o=>by
     by_cases M:i=a
     .rw[M,r];decide
     .exact aps i (by omega) o)
    simp only;rw[f1,f2,Tm];have hcut:cM (qT s<|a+1) (cQ ⟨b,c,a,a+1,a+1⟩ (qR s<|a+1).1)=⟨b,c,(qR s<|a+1).1+qT s (a+1),(qR s<|a+1).1+qT s (a+1),(qR s<|a+1).1+qT s (a+1)⟩:=by
     unfold cM cQ;rw[ai<|by simp only;omega]
    rw[hcut,H _ _ _ (by omega) D];congr 2;exact Cq (p:=cQ ⟨b,c,a,a+1,a+1⟩ (qR s<|a+1).1) (by show a<=(qR s<|a+1).1;omega) (a+1) (qR s<|a+1).1 (λ_=>by show wi (a+1) a ((qR s<|a+1).1+_)=a+1;rw[Af<|by omega,ai<|by omega]) (λ_=>by show wi (qR s<|a+1).1 a ((qR s<|a+1).1+_)=(qR s<|a+1).1;rw[Af<|by omega,ai<|by omega])
   .by_cases e:bt s a=47/\bt s (a+1)=47
    .have x:bZ s a=bZ s (a+2):=(by rw[Ml<|by rw[e.1];decide,Ml<|by rw[e.2];decide]);have l:dg s a=⟨2,a,bZ s<|a+2,a+2,bZ s<|a+2⟩:=(by unfold dg;rw[ai r,aj e,x]);have o:=rA (s:=s) (i:=a+1) (by rw[e.2];decide);have G:=FV s<|a+2;have D:=Mk (s:=s) (i:=a+2) (by omega);rw[XA f<|by rw[l];exact Kc _,C _ _ (by rw[l];exact Kc _),l,fK,cH,aj f,ai<|by decide,ai r,aj e,q];obtain⟨f1,f2⟩:=Qj (s:=s) (k:=2) (T:=bZ s<|a+2) (B:=a+2) (E:=bZ s<|a+2) (ln:=b) (bg:=c) (fr:=a) (bZ s (a+2) - a) a (by omega) (λi w o=>ant (i:=a) i w<|by rw[x];exact o);simp only;rw[f1,f2,Tm];have hcut:cM 0 (cQ ⟨b,c,a,a+2,a+2⟩<|bZ s<|a+2)=⟨b,c,bZ s<|a+2,bZ s<|a+2,bZ s<|a+2⟩:=by
      unfold cM cQ;rw[ai<|by simp only;omega];rfl
     rw[hcut,H _ _ _ (by omega) D];congr 2;exact Cq (p:=cQ ⟨b,c,a,a+2,a+2⟩<|bZ s<|a+2) (by show a<=bZ s (a+2);omega) (a+2) (bZ s<|a+2) (λ_=>by show wi (a+2) a (bZ s (a+2)+0)=a+2;rw[Af<|by omega,ai<|by omega]) λ_=>by show wi (bZ s<|a+2) a (bZ s (a+2)+0)=bZ s (a+2);rw[Af<|by omega,ai<|by omega]
    .by_cases j:bt s a=47/\bt s (a+1)=42
     .have l:dg s a=⟨2,a,(bR s<|a+2).1+bT s (a+2),a+2,(bR s<|a+2).1⟩:=(by unfold dg;rw[ai r,ai e,aj j]);have o:=rA (s:=s) (i:=a+1) (by rw[j.2];decide);have G:=PE s<|a+2;have I:¬bt s a=10:=(by rw[j.1];decide);have J:¬bt s (a+1)=10:=(by rw[j.2];decide);rw[XA f<|by rw[l];exact Kc _,C _ _ (by rw[l];exact Kc _),l,fK,cH,aj f,ai<|by decide,ai r,ai e,aj j,q,Tm];simp only;rw[aiY s a H (s.size - (a+2)) (a+2) b c a (a+2) (a+2) (au _) (by omega) (by omega) (by omega) (au _)<|by rw[ai<|by omega]];rw[Bx (p:=a) (by omega) I,Bx (p:=a+1) (by omega) J,Ct (p:=a) (by omega) I,Ct (p:=a+1) (by omega) J]
     .have l:dg s a=⟨0,a,a+1,0,0⟩:=(by unfold dg;rw[ai r,ai e,ai j]);have F:dD s a=kB ⟨0,a,a+1,0,0⟩ (dD s<|a+1):=(by rw[dD,aj f,l]);rw[F,aj5 s b c g a (dD s<|a+1) (λu z h=>by obtain⟨K,L,_⟩:=MX s (a+1) u z h;exact⟨L,K⟩),cH,aj f,ai<|by decide,ai r,ai e,ai j];by_cases n:bt s a=10
      .rw[aj n,aj n,q];have hcut:oO (cM 0 ⟨b,c,g,v,a⟩)=⟨b+1,a+1,a+1,a+1,a+1⟩:=by
        have w:=jQ (t:=0) (p:=⟨b,c,g,v,a⟩);have o:(cM 0 ⟨b,c,g,v,a⟩).line=b:=(by rw[<-AW,mC]);unfold oO;rw[w,o]
       rw[hcut,ih (b+1) (a+1) (a+1) (a+1) (a+1) (by omega) (au _)<|by omega]
      .rw[ai n,ai n];exact ih b c g v (a+1) (by omega) (by omega)<|by omega
  .have y:¬a<s.size:=f;rw[I7 y,cH,ai y];exact Cq A 0 0 (λh=>absurd rfl h) λh=>absurd rfl h
def P9(s:ByteArray):cH s false ⟨0,0,0,0,0⟩=fK s (dD s 0) 0 0:=by
 rw[ap3 s s.size 0 0 0 0 0 (by omega) (au _)<|mQ _,mK]
def Qx(p b a:Nat)(w:World):Calls prog 76 #[.int .i64 p,.int .i64 b,.int .i64 a] w λe h=>e= .returned (.int .i64 (wi p b a:Nat))/\h=w:=by
 unfold wi;by_cases c:p<b
 .have f:(p:Int)<(b:Int):=by omega
  rw[aj c];clear c;go_enter func76,ntmps76;go_wp2;go_ret;exact⟨rfl,rfl⟩
 .have f:¬(p:Int)<(b:Int):=by omega
  rw[ai c];clear c;by_cases d:a<p
  .have g:(a:Int)<(p:Int):=(by omega);rw[aj d];clear d;go_enter func76,ntmps76;go_wp2;go_ret;exact⟨rfl,rfl⟩
  .have g:¬(a:Int)<(p:Int):=(by omega);rw[ai d];clear d;go_enter func76,ntmps76;go_wp2;go_ret;exact⟨rfl,rfl⟩
def akO(s:ByteArray)(p:Nat)(h:p+2<=s.size):(s.extract p<|p+2).toList=[s[p]'(by omega),s[p+1]'(by omega)]:=by
 rw[ByteArray.toList_eq,ByteArray.data_extract,Array.toList_extract];have a:s.data.toList.length=s.size:=Ye;have e:s.data.toList.drop p=s[p]'(by omega)::s[p+1]'(by omega)::s.data.toList.drop (p+2):=by
  rw[kO<|by omega,kO<|by omega];rfl
 rw[List.extract_eq_take_drop];rw[e,show p+2 - p=2 by omega];rfl
def akP(s:ByteArray)(p:Nat)(x y:UInt8)(h:p+2<=s.size):((s.extract p<|p+2).toList==[x,y])=decide (bt s p=x.toNat/\bt s (p+1)=y.toNat):=by
 rw[akO s p h,oM<|by omega,oM<|by omega,C6,zx,decide_eq_true_iff];simp only[List.cons.injEq,and_true,Int.natCast_inj,UInt8.toNat_inj]
def SV(s:ByteArray)(p:Nat)(x y:UInt8)(w:World)(j:s.size<=1000)(g:p<=s.size)(i:y.toNat≠10):
  Calls prog 193 #[.string s,.int .i64 p,.string ⟨#[x,y]⟩] w λe d=>e= .returned (.bool<|decide (bt s p=x.toNat/\bt s (p+1)=y.toNat))/\d=w:=by
 have f:(⟨#[x,y]⟩:ByteArray).size=2:=rfl;by_cases h:p+2<=s.size
 .have b:(p:Int)+2<=(s.size:Int):=by omega
  go_enter func193,ntmps193;go_wp2;go_ret;exact⟨WO<|akP s p x y h,rfl⟩
 .have b:¬(p:Int)+2<=(s.size:Int):=by omega
  have a:decide (bt s p=x.toNat/\bt s (p+1)=y.toNat)=false:=by
   rw[Cm];rintro⟨_,c⟩;rw[AR<|by omega]at c;omega
  rw[a];clear a;go_enter func193,ntmps193;go_wp2;go_ret;exact⟨rfl,rfl⟩
def N0(s:ByteArray)(p:Nat)(w:World)(b:s.size<=1000)(a:p<=s.size):Calls prog 193 #[.string s,.int .i64 p,.string ⟨#[47,47]⟩] w λe c=>e= .returned (.bool<|decide (bt s p=47/\bt s (p+1)=47))/\c=w:=SV s p 47 47 w b a<|by decide
def NZ(s:ByteArray)(p:Nat)(w:World)(b:s.size<=1000)(a:p<=s.size):Calls prog 193 #[.string s,.int .i64 p,.string ⟨#[47,42]⟩] w λe c=>e= .returned (.bool<|decide (bt s p=47/\bt s (p+1)=42))/\c=w:=SV s p 47 42 w b a<|by decide
def aiR(s:ByteArray)(p:Nat)(w:World)(b:s.size<=1000)(a:p<=s.size):Calls prog 193 #[.string s,.int .i64 p,.string ⟨#[42,47]⟩] w λe c=>e= .returned (.bool<|decide (bt s p=42/\bt s (p+1)=47))/\c=w:=SV s p 42 47 w b a<|by decide
def BC(t:Tk):Value:= .agg #[.int .i64 t.k,.int .i64 t.F,.int .i64 t.T,.int .i64 t.B,.int .i64 t.E]
def ass(s:ByteArray)(p:Nat)(w:World)(i:s.size<=1000)(h:p<s.size)(g:¬bt s p=34)(b:¬(bt s p=47/\bt s (p+1)=47))(a:¬(bt s p=47/\bt s (p+1)=42)):
  Calls prog 130 #[.string s,.int .i64 p] w λe m=>e= .returned (BC ⟨0,p,p+1,0,0⟩)/\Below w.heap.size w m:=by
 have d:=N0 s p (w.alloc (.cells #[.int .i64 0,.int .i64 0,.int .i64 0,.int .i64 0,.int .i64 0] 125)) i (by omega);have f:=NZ s p (w.alloc (.cells #[.int .i64 0,.int .i64 0,.int .i64 0,.int .i64 0,.int .i64 0] 125)) i (by omega);rw[rB b]at d;rw[rB a]at f;obtain⟨c,k⟩:∃c,s[p]'h=c:=⟨_,rfl⟩
 have o:((c.toNat:Int)==34)=false:=by rw[oM h,k]at g;simpa using g
 have l:(p:Int)<(s.size:Int):=by omega
 clear g b a;unfold BC;go_enter func130,ntmps130;go_wp2_with fail;refine d.mono ?_;rintro j n ⟨rfl,rfl⟩;clear d;go_wp2_with fail;refine f.mono ?_;rintro j n ⟨rfl,rfl⟩;clear f;go_wp2;exact cI (v:= .agg #[.int .i64 0,.int .i64 p,.int .i64<|(p:Int)+1,.int .i64 0,.int .i64 0]) (by simp[results,results130,Tryz.isAgg125,Tryz.sizeOf125,go_sem]) rfl ⟨rfl,(aA _ _).alloc (au _) _⟩
def ast(s:ByteArray)(p:Nat)(w:World)(u:s.size<=1000)(t:p<s.size)(b:bt s p=47/\bt s (p+1)=47):
  Calls prog 130 #[.string s,.int .i64 p] w λe G=>e= .returned (BC ⟨2,p,bZ s p,p+2,bZ s p⟩)/\Below w.heap.size w G:=by
 have j:=N0 s p (w.alloc (.cells #[.int .i64 0,.int .i64 0,.int .i64 0,.int .i64 0,.int .i64 0] 125)) u (by omega);have m:=NZ s p (w.alloc (.cells #[.int .i64 0,.int .i64 0,.int .i64 0,.int .i64 0,.int .i64 0] 125)) u (by omega);rw[mz b]at j;obtain⟨c,C⟩:∃c,s[p]'t=c:=⟨_,rfl⟩
 have I:((c.toNat:Int)==34)=false:=by have:=b.1;rw[oM t,C]at this;rw[this];rfl
 have D:(p:Int)<(s.size:Int):=by omega
 clear b;obtain⟨E,k⟩:∃E,bZ s p=E:=⟨_,rfl⟩
 rw[k];have y:=ah k;clear k;unfold BC;go_enter func130,ntmps130;go_wp2_with fail;refine j.mono ?_;rintro z H ⟨rfl,rfl⟩;clear j;go_wp2_with fail;refine m.mono ?_;rintro z H ⟨rfl,rfl⟩;clear m;go_wp2;go_loopg [7] (s.size - p) (λA F W=>∃q:Nat,F= .int .i64 q/\A=s.size - q/\p<=q/\q<=s.size/\bZ s q=E/\W=w.alloc (.cells #[.int .i64 0,.int .i64 0,.int .i64 0,.int .i64 0,.int .i64 0] 125));exact⟨p,rfl,rfl,au _,by omega,y.out,rfl⟩;obtain⟨q,rfl,rfl,n,B,o,rfl⟩:=hrel;have i:Hid (bZ s q=E/\p<=q/\q<=s.size):=⟨o,n,B⟩
 clear n o;by_cases f:q<s.size
 .have l:(q:Int)<(s.size:Int):=by omega
  obtain⟨d,r⟩:∃d,s[q]'f=d:=⟨_,rfl⟩
  by_cases a:(d.toNat:Int)=10
  .have g:Hid (q=E):=by
    have:=i.out.1;rw[bZ,ai<|by rintro⟨_,h⟩;exact h<|by rw[oM f,r];exact a]at this;exact this
   have x:((d.toNat:Int)==10)=true:=(by simpa using a);clear a;go_wp2;exact cI (v:= .agg #[.int .i64 2,.int .i64 p,.int .i64 q,.int .i64<|(p:Int)+2,.int .i64 q]) (by simp[results,results130,Tryz.isAgg125,Tryz.sizeOf125,go_sem]) rfl ⟨by rw[<-g.out]<;>rfl,(aA _ _).alloc (au _) _⟩
  .have g:Hid (bZ s (q+1)=E):=by
    have:=i.out.1;rw[bZ,aj ⟨f,by rw[oM f,r];exact a⟩]at this;exact this
   have x:((d.toNat:Int)==10)=false:=(by simpa using a);clear a;go_wp2;go_roundg (s.size - (q+1));exact⟨q+1,by go_num,rfl,by have:=i.out.2.1;omega,by omega,g.out,rfl⟩;omega
 .have l:¬(q:Int)<(s.size:Int):=by omega
  have g:Hid (q=E):=by
   have:=i.out.1;rw[bZ,ai<|by rintro⟨h,_⟩;exact f h]at this;exact this
  clear f;go_wp2;exact cI (v:= .agg #[.int .i64 2,.int .i64 p,.int .i64 q,.int .i64<|(p:Int)+2,.int .i64 q]) (by simp[results,results130,Tryz.isAgg125,Tryz.sizeOf125,go_sem]) rfl ⟨by rw[<-g.out]<;>rfl,(aA _ _).alloc (au _) _⟩
def asr(s:ByteArray)(p:Nat)(w:World)(y:s.size<=1000)(G:p<s.size)(a:bt s p=47/\bt s (p+1)=42):
  Calls prog 130 #[.string s,.int .i64 p] w λe M=>e= .returned (BC ⟨2,p,(bR s<|p+2).1+bT s (p+2),p+2,(bR s<|p+2).1⟩)/\Below w.heap.size w M:=by
 have r:=N0 s p (w.alloc (.cells #[.int .i64 0,.int .i64 0,.int .i64 0,.int .i64 0,.int .i64 0] 125)) y (by omega);have t:=NZ s p (w.alloc (.cells #[.int .i64 0,.int .i64 0,.int .i64 0,.int .i64 0,.int .i64 0] 125)) y (by omega);rw[mz a]at t;rw[rB<|by rw[a.2];rintro⟨_,h⟩;exact absurd h<|by decide]at r;obtain⟨c,J⟩:∃c,s[p]'G=c:=⟨_,rfl⟩
 have N:((c.toNat:Int)==34)=false:=by have:=a.1;rw[oM G,J]at this;rw[this];rfl
 have K:(p:Int)<(s.size:Int):=by omega
 have C:=rA (s:=s) (i:=p+1) (by rw[a.2];decide);clear a;obtain⟨E,l⟩:∃E,bR s (p+2)=E:=⟨_,rfl⟩
 have F:bT s (p+2)=if E.2 then 2 else 0:=by unfold bT;rw[l]
 rw[l,F];obtain⟨j,o⟩:∃j,E.1+(if E.2=true then 2 else 0)=j:=⟨_,rfl⟩
 obtain⟨g,n⟩:∃g,E.1=g:=⟨_,rfl⟩
 rw[o,n];have A:Hid (E.1+(if E.2=true then 2 else 0)=j/\E.1=g):=⟨o,n⟩
 have H:=ah l;clear l F o n;unfold BC;go_enter func130,ntmps130;go_wp2_with fail;refine r.mono ?_;rintro u z ⟨rfl,rfl⟩;clear r;go_wp2_with fail;refine t.mono ?_;rintro u z ⟨rfl,rfl⟩;clear t;go_wp2;go_loopg [7] (s.size - (p+2)) (λI L W=>∃q:Nat,L= .int .i64 q/\I=s.size - q/\p<=q/\q<=s.size/\bR s q=E/\W=w.alloc (.cells #[.int .i64 0,.int .i64 0,.int .i64 0,.int .i64 0,.int .i64 0] 125));exact⟨p+2,by go_num,rfl,by omega,by omega,H.out,rfl⟩;obtain⟨q,rfl,rfl,B,C,D,rfl⟩:=hrel;have k:Hid (bR s q=E/\p<=q/\q<=s.size):=⟨D,B,C⟩
 clear B D;by_cases m:q<s.size
 .have x:(q:Int)<(s.size:Int):=by omega
  have d:=aiR s q (w.alloc (.cells #[.int .i64 0,.int .i64 0,.int .i64 0,.int .i64 0,.int .i64 0] 125)) y (by omega);by_cases f:bt s q=42/\bt s (q+1)=47
  .rw[mz f]at d;have b:Hid (j=q+2/\g=q):=by
    have e:E=(q,true):=(by rw[<-k.out.1,SS m f]);have h:=A.out;rw[e]at h;exact⟨h.1.symm,h.2.symm⟩
   clear f;go_wp2_with fail;refine d.mono ?_;rintro u z ⟨rfl,rfl⟩;clear d;go_wp2;exact cI (v:= .agg #[.int .i64 2,.int .i64 p,.int .i64<|(q:Int)+2,.int .i64<|(p:Int)+2,.int .i64 q]) (by simp[results,results130,Tryz.isAgg125,Tryz.sizeOf125,go_sem]) rfl ⟨by rw[b.out.1,b.out.2]<;>rfl,(aA _ _).alloc (au _) _⟩
  .rw[rB f]at d;have b:Hid (bR s (q+1)=E):=(by show _=_;rw[<-wE m f];exact k.out.1);clear f;go_wp2_with fail;refine d.mono ?_;rintro u z ⟨rfl,rfl⟩;clear d;go_wp2;go_roundg (s.size - (q+1));exact⟨q+1,by go_num,rfl,by have:=k.out.2.1;omega,by omega,b.out,rfl⟩;omega
 .have x:¬(q:Int)<(s.size:Int):=by omega
  have b:Hid (j=q/\g=q):=by
   have e:E=(q,false):=(by rw[<-k.out.1,Ki m]);have h:=A.out;rw[e]at h;exact⟨h.1.symm,h.2.symm⟩
  clear m;go_wp2;exact cI (v:= .agg #[.int .i64 2,.int .i64 p,.int .i64 q,.int .i64<|(p:Int)+2,.int .i64 q]) (by simp[results,results130,Tryz.isAgg125,Tryz.sizeOf125,go_sem]) rfl ⟨by rw[b.out.1,b.out.2]<;>rfl,(aA _ _).alloc (au _) _⟩
def asu(s:ByteArray)(p:Nat)(w:World)(J:s.size<=1000)(I:p<s.size)(r:bt s p=34):
  Calls prog 130 #[.string s,.int .i64 p] w λe X=>e= .returned (BC ⟨1,p,(qR s<|p+1).1+qT s (p+1),p+1,(qR s<|p+1).1⟩)/\Below w.heap.size w X:=by
 have z:=N0 s p (w.alloc (.cells #[.int .i64 0,.int .i64 0,.int .i64 0,.int .i64 0,.int .i64 0] 125)) J (by omega);have A:=NZ s p (w.alloc (.cells #[.int .i64 0,.int .i64 0,.int .i64 0,.int .i64 0,.int .i64 0] 125)) J (by omega);obtain⟨c,O⟩:∃c,s[p]'I=c:=⟨_,rfl⟩
 have Z:((c.toNat:Int)==34)=true:=by have:=r;rw[oM I,O]at this;rw[this];rfl
 have S:(p:Int)<(s.size:Int):=by omega
 rw[rB<|by rw[r];rintro⟨h,_⟩;exact absurd h<|by decide]at z;rw[rB<|by rw[r];rintro⟨h,_⟩;exact absurd h<|by decide]at A;clear r;obtain⟨Q,o⟩:∃Q,qR s (p+1)=Q:=⟨_,rfl⟩
 have G:qT s (p+1)=if Q.2 then 1 else 0:=by unfold qT;rw[o]
 rw[o,G];obtain⟨n,u⟩:∃n,Q.1+(if Q.2=true then 1 else 0)=n:=⟨_,rfl⟩
 obtain⟨m,t⟩:∃m,Q.1=m:=⟨_,rfl⟩
 rw[u,t];have x:Hid (Q.1+(if Q.2=true then 1 else 0)=n/\Q.1=m):=⟨u,t⟩
 have K:=ah o;clear o G u t;unfold BC;go_enter func130,ntmps130;go_wp2_with fail;refine z.mono ?_;rintro L Y ⟨rfl,rfl⟩;clear z;go_wp2_with fail;refine A.mono ?_;rintro L Y ⟨rfl,rfl⟩;clear A;go_wp2;go_loopg [7] (s.size - (p+1)) (λM V W=>∃q:Nat,V= .int .i64 q/\M=s.size - q/\p<=q/\q<=s.size/\qR s q=Q/\W=w.alloc (.cells #[.int .i64 0,.int .i64 0,.int .i64 0,.int .i64 0,.int .i64 0] 125));exact⟨p+1,by go_num,rfl,by omega,by omega,K.out,rfl⟩;obtain⟨q,rfl,rfl,E,N,F,rfl⟩:=hrel;have i:Hid (qR s q=Q/\p<=q/\q<=s.size):=⟨F,E,N⟩
 clear E F;by_cases j:q<s.size
 .have C:(q:Int)<(s.size:Int):=by omega
  obtain⟨d,P⟩:∃d,s[q]'j=d:=⟨_,rfl⟩
  have H:bt s q=(d.toNat:Int):=by rw[oM j,P]
  have f:=ah H;clear H;by_cases g:(d.toNat:Int)=34
  .have b:Hid (n=q+1/\m=q):=by
    have e:Q=(q,true):=(by rw[<-i.out.1,qR,aj ⟨j,by rw[f.out,g];decide⟩,aj<|by rw[f.out];exact g]);have h:=x.out;rw[e]at h;exact⟨h.1.symm,h.2.symm⟩
   go_wp2;exact cI (v:= .agg #[.int .i64 1,.int .i64 p,.int .i64<|(q:Int)+1,.int .i64<|(p:Int)+1,.int .i64 q]) (by simp[results,results130,Tryz.isAgg125,Tryz.sizeOf125,go_sem]) rfl ⟨by rw[b.out.1,b.out.2]<;>rfl,(aA _ _).alloc (au _) _⟩
  .have t34:((d.toNat:Int)==34)=false:=(by simpa using g);by_cases a:(d.toNat:Int)=10
   .have b:Hid (n=q/\m=q):=by
     have e:Q=(q,false):=(by rw[<-i.out.1,qR,ai<|by rintro⟨_,h⟩;exact h<|by rw[f.out];exact a]);have h:=x.out;rw[e]at h;exact⟨h.1.symm,h.2.symm⟩
    clear g;go_wp2;exact cI (v:= .agg #[.int .i64 1,.int .i64 p,.int .i64 q,.int .i64<|(p:Int)+1,.int .i64 q]) (by simp[results,results130,Tryz.isAgg125,Tryz.sizeOf125,go_sem]) rfl ⟨by rw[b.out.1,b.out.2]<;>rfl,(aA _ _).alloc (au _) _⟩
   .have t10:((d.toNat:Int)==10)=false:=(by simpa using a);by_cases y:(d.toNat:Int)=92
    .by_cases l:q+1<s.size
     .have B:(q:Int)+1<(s.size:Int):=(by omega);obtain⟨e,R⟩:∃e,s[q+1]'l=e:=⟨_,rfl⟩
      have D:Hid (bt s (q+1)=(e.toNat:Int)):=(by show _=_;rw[oM l,R]);by_cases k:(e.toNat:Int)=10
      .have b:Hid (qR s (q+1)=Q):=by
        show _=_;rw[<-i.out.1]
        conv=>rhs;rw[qR,aj ⟨j,by rw[f.out];exact a⟩,ai<|by rw[f.out];exact g,ai<|by rintro⟨_,h⟩;exact h<|by rw[D.out];exact k]
       clear g a;go_wp2;go_roundg (s.size - (q+1));exact⟨q+1,by go_num,rfl,by have:=i.out.2.1;omega,by omega,b.out,rfl⟩;omega
      .have uC:((e.toNat:Int)==10)=false:=(by simpa using k);have b:Hid (qR s (q+2)=Q):=by
        show _=_;rw[<-i.out.1]
        conv=>rhs;rw[qR,aj ⟨j,by rw[f.out];exact a⟩,ai<|by rw[f.out];exact g,aj ⟨by rw[f.out];exact y,by rw[D.out];exact k⟩]
       clear g a k;go_wp2;go_roundg (s.size - (q+2));exact⟨q+2,by go_num,rfl,by have:=i.out.2.1;omega,by omega,b.out,rfl⟩;omega
     .have B:¬(q:Int)+1<(s.size:Int):=(by omega);have b:Hid (qR s (q+1)=Q):=by
       show _=_;rw[<-i.out.1]
       conv=>rhs;rw[qR,aj ⟨j,by rw[f.out];exact a⟩,ai<|by rw[f.out];exact g,ai<|by rintro⟨_,h⟩;exact h<|AR l]
      clear g a;go_wp2;go_roundg (s.size - (q+1));exact⟨q+1,by go_num,rfl,by have:=i.out.2.1;omega,by omega,b.out,rfl⟩;omega
    .have t92:((d.toNat:Int)==92)=false:=(by simpa using y);have b:Hid (qR s (q+1)=Q):=by
      show _=_;rw[<-i.out.1]
      conv=>rhs;rw[qR,aj ⟨j,by rw[f.out];exact a⟩,ai<|by rw[f.out];exact g,ai<|by rintro⟨h,_⟩;exact y<|by rw[<-f.out];exact h]
     have U:((d.toNat:Int) !=34)=true:=(by simpa using g);have T:((d.toNat:Int) !=10)=true:=(by simpa using a);go_wp2;go_roundg (s.size - (q+1));exact⟨q+1,by go_num,rfl,by have:=i.out.2.1;omega,by omega,b.out,rfl⟩;omega
 .have C:¬(q:Int)<(s.size:Int):=by omega
  have b:Hid (n=q/\m=q):=by
   have e:Q=(q,false):=(by rw[<-i.out.1,qR,ai<|by rintro⟨h,_⟩;exact j h]);have h:=x.out;rw[e]at h;exact⟨h.1.symm,h.2.symm⟩
  clear j;go_wp2;exact cI (v:= .agg #[.int .i64 1,.int .i64 p,.int .i64 q,.int .i64<|(p:Int)+1,.int .i64 q]) (by simp[results,results130,Tryz.isAgg125,Tryz.sizeOf125,go_sem]) rfl ⟨by rw[b.out.1,b.out.2]<;>rfl,(aA _ _).alloc (au _) _⟩
def asq(s:ByteArray)(p:Nat)(w:World)(d:s.size<=1000)(c:p<s.size):Calls prog 130 #[.string s,.int .i64 p] w λe g=>e= .returned (BC<|dg s p)/\Below w.heap.size w g:=by
 unfold dg;by_cases f:bt s p=34
 .rw[aj f];exact asu s p w d c f
 .rw[ai f];by_cases b:bt s p=47/\bt s (p+1)=47
  .rw[aj b];exact ast s p w d c b
  .rw[ai b];by_cases a:bt s p=47/\bt s (p+1)=42
   .rw[aj a];exact asr s p w d c a
   .rw[ai a];exact ass s p w d c f b a
def X6 {s:ByteArray}{p:Nat}(a:p<s.size):(dg s p).T<=s.size:=by
 unfold dg;split
 .exact Qf (by omega)
 .split
  .exact Mk (by omega)
  .split
   .rename_i h;have:=rA (s:=s) (i:=p+1) (by rw[h.2];decide);exact wS<|by omega
   .simp only;omega
def asp {s:ByteArray}{p:Nat}(d:p<s.size):(dg s p).B<=s.size+2/\(dg s p).E<=s.size+2:=by
 have h:=X6 d;unfold dg at h ⊢;split
 .rename_i a;rw[aj a]at h;simp only at h ⊢;omega
 .rename_i a;rw[ai a]at h;split
  .rename_i b;rw[aj b]at h;simp only at h ⊢;omega
  .rename_i b;rw[ai b]at h;split
   .rename_i c;rw[aj c]at h;simp only at h ⊢;omega
   .simp
def Bh(l:List Tk)(a:List Tk):List Tk:=match l.getLast? with|some u=>l.dropLast++kB u a|none=>a
def am2(a:List Tk):Bh [] a=a:=rfl
def IA(l:List Tk)(u:Tk)(a:List Tk):Bh (l++[u]) a=l++kB u a:=by simp[Bh]
def lW {u:Tk}(h:u.k≠0)(a:List Tk):kB u a=u::a:=ai h
def am1(l:List Tk):Bh l []=l:=by
 rcases zi l with rfl|⟨a,u,rfl⟩
 .rfl
 .rw[Ch,IA];unfold kB;split<;>rfl
def VE(l:List Tk)(t:Tk)(d:List Tk)(h:∀b u,l=b++[u]->u.k≠0∨t.k≠0):Bh l (kB t d)=Bh (l++[t]) d:=by
 rcases zi l with rfl|⟨b,u,rfl⟩
 .rw[am2,IA];rfl
 .rw[Ch]at h ⊢;rw[IA,IA];rcases h b u rfl with a|c
  .rw[lW a,dO];rfl
  .rw[lW c,dO];unfold kB;by_cases a:u.k=0
   .rw[aj a];simp only;rw[ai c];rfl
   .rw[ai a];rfl
def am3(l:List Tk)(u t:Tk)(b:List Tk)(c:u.k=0)(a:t.k=0)(e:u.B=0)(f:u.E=0):Bh (l++[u]) (kB t b)=Bh (l++[⟨u.k,u.F,t.T,u.B,u.E⟩]) b:=by
 rw[IA,IA];congr 1;unfold kB;rw[aj c,aj a];simp only[c,e,f];cases b with
 |nil=>simp[a]
 |cons v g=>
  by_cases d:v.k=0
  .simp[d]
  .simp[d,a]
def TC(s:ByteArray):Nat->List Tk->Prop
 |_,[]=>True
 |p,t::ts=>p<=t.F/\t.F<t.T/\t.T<=s.size/\t.B<=s.size+2/\t.E<=s.size+2/\TC s t.T ts
def TC.mono {s:ByteArray}{p q:Nat}{l:List Tk}(h:TC s p l)(a:q<=p):TC s q l:=by
 cases l with
 |nil=>trivial
 |cons t b=>exact⟨bP a h.1,h.2⟩
def TC.cons {s:ByteArray}{p:Nat}{t:Tk}{f:List Tk}(h:TC s t.T f)(a:p<=t.F)(b:t.F<t.T)(c:t.T<=s.size)(d:t.B<=s.size+2)(e:t.E<=s.size+2):TC s p (kB t f):=by
 unfold kB;split
 .cases f with
  |nil=>exact⟨a,b,c,d,e,trivial⟩
  |cons u n=>
   obtain⟨j,k,g,l,m,i⟩:=h;simp only;split
   .exact⟨a,by simp only;omega,g,by simp,by simp,i⟩
   .exact⟨a,b,c,d,e,j,k,g,l,m,i⟩
 .exact⟨a,b,c,d,e,h⟩
def Z4(s:ByteArray)(p:Nat):TC s p (dD s p):=by
 rw[dD];split
 .rename_i h;have b:=Z4 s (dg s p).T;have hF:=X0 s p;have a:=asp h;exact TC.cons b (by omega) (by have:=BF s p;omega) (X6 h) a.1 a.2
 .trivial
termination_by s.size - p
decreasing_by have:=BF s p;omega
def TC.len {s:ByteArray}:∀{l:List Tk}{p:Nat},TC s p l->l.length<=s.size - p
 |[],_,_=>by simp
 |t::ts,p,h=>by
  obtain⟨b,c,d,e,f,a⟩:=h;have:=TC.len a;simp only[eJ];omega
def lU(l:List Tk):List Value:=l.flatMap λt=>[.int .i64 t.k,.int .i64 t.F,.int .i64 t.T,.int .i64 t.B,.int .i64 t.E]
def MZ(l:List Tk)(t:Tk):lU (l++[t])=lU l++[.int .i64 t.k,.int .i64 t.F,.int .i64 t.T,.int .i64 t.B,.int .i64 t.E]:=by simp[lU]
def agv(l:List Tk):(lU l).length=l.length*5:=by
 induction l with
 |nil=>rfl
 |cons t l ih=>simp[lU,List.length_flatMap]at ih ⊢;omega
def XB:∀(l:List Tk)(i:Nat)(b:i<l.length),(lU l)[i*5]? =some (.int .i64 l[i].k)/\(lU l)[i*5+1]? =some (.int .i64 l[i].F)/\(lU l)[i*5+2]? =some (.int .i64 l[i].T)/\(lU l)[i*5+3]? =some (.int .i64 l[i].B)/\(lU l)[i*5+4]? =some (.int .i64 l[i].E):=by
 intro l
 induction l with
 |nil=>intro i b;simp at b
 |cons a l ih=>
  intro i b;have e:lU (a::l)=[.int .i64 a.k,.int .i64 a.F,.int .i64 a.T,.int .i64 a.B,.int .i64 a.E]++lU l:=by simp[lU]
  cases i with
  |zero=>rw[e];simp
  |succ i=>
   have:=ih i (by simpa using b);rw[e,show(i+1)*5=i*5+5 by omega];simpa using this
def arI(l:List Tk)(u:Tk)(T:Nat):(lU<|l++[u]).set (l.length*5+2) (.int .i64 T)=lU (l++[⟨u.k,u.F,T,u.B,u.E⟩]):=by
 rw[MZ,MZ,xR (h:=by rw[agv];omega),agv];simp[show l.length*5+2 - l.length*5=2 by omega]
def jR(l:List PR):List Value:=l.flatMap λt=>[.int .i64 t.line,.int .i64 t.kind,.int .i64 t.from_,.int .i64 t.dH,.int .i64 t.body,.int .i64 t.end_]
def ajm(w:World)(c:Array Value)(t:TypeId)(j:Nat):(w.alloc (.cells c t)).cell? ⟨w.heap.size,j,none⟩=c[j]? :=by
 have h:(w.alloc (.cells c t)).heap[w.heap.size]? =some (.cells c t (0,0)):=World.alloc_heap_new w _;unfold World.cell?;simp only[h];rfl
def Ey {P:Program}(w:World){g:Array Oper}{rest:List Oper}{o:Oper}{a:Act}{Q:Exit->Act->World->Prop}(y:o.guard=none)(s x:Operand)(t:TypeId)
  (L:o.op= .call {callee:= .builtin .append,args:=#[s,x],argTypes:=#[t,t]})
  (b:Nat) (e:TypeId) (i:TypeInfo) (z:Value) (size bytes:Nat) (N:P.underlying t=some (.slice e)) (J:P.info? e=some i) (O:i.zero=some z)
  (c:i.size=size) (r:i.bytes=bytes) (D:z.cells.size=size) (C:0<size) (R:bytes<=64)
  (v:Value) (n:Nat) (E:List Value) (M:a.eval s=v) (f:w.ownsRow b e size v n E)
  (m:List Value) (G:TypeId) (k:Nat) (hx:a.eval x= .slice (some ⟨k,0,none⟩) 1 1) (A:k=w.heap.size) (S:m.length=size) (H:∀u∈m,u.oneCell'=true) (T:n<=1000000) (q:b<=w.heap.size)
  (h:∀p l,l.ownsRow b e size p (n+1) (E++m)->w.grownBy l v.ownBlock->wpList P g Q rest (a.put o.dst p) l):wpList P g Q (o::rest) a (w.alloc (.cells m.toArray G)):=by
 subst A;refine Jb _ y s x t L b e i z size bytes N J O c r D C v n E M (f.alloc _) ⟨w.heap.size,0,none⟩ 1 1 m hx (by omega) ?_ H ?_ ?_ ?_ ?_
 .intro j u K;have e:(⟨w.heap.size,0,none⟩:Addr).add j=⟨w.heap.size,j,none⟩:=by
   by_cases F:j=0
   .subst F;rfl
   .simp[Addr.add,F]
  rw[e,ajm];simpa using K
 .unfold maxLen;omega
 .have:(n+1)*bytes<=1000001*64:=zl (by omega) R;omega
 .simp;omega
 .intro p l I d _;refine h p l I ⟨d.os,d.tape,d.output,?_,λk A B=> ?_⟩
  .have:=d.size;simp at this;omega
  .rw[d.block k (by simp;omega) B];exact dw w _ k A
def arH {s:ByteArray}{p:Nat}(h:p<s.size):dD s p=kB (dg s p) (dD s (dg s p).T):=by rw[dD,aj h]
def iA {w:World}{B:Nat}{e:TypeId}{z n:Nat}{v:Value}{d:List Value}(h:w.ownsRow B e z v n d):∃a b,v= .slice a n b:=by
 rcases h.2 with⟨rfl,rfl⟩|⟨g,b,c,rfl,_⟩
 .exact⟨none,0,rfl⟩
 .exact⟨_,b,rfl⟩
def nC {w:World}{B:Nat}{e:TypeId}{z n:Nat}{v:Value}{i:List Value}(h:w.ownsRow B e z v n i)(l:0<n):∃g a,v= .slice (some ⟨g,0,none⟩) n a/\n<=a/\B<=g/\g<w.heap.size:=by
 have b:=h.lt;rcases h.2 with⟨_,j⟩|⟨g,a,c,rfl,d,k,f,_⟩
 .omega
 .exact⟨g,a,rfl,f,d,(b g rfl).2⟩
def iZ {w a:World}{B:Nat}{e:TypeId}{z n:Nat}{v:Value}{b:List Value}(h:w.ownsRow B e z v n b)(c:Below w.heap.size w a):a.ownsRow B e z v n b:=
 nB h λ_ _ _ d=>bq c d
def Xz {W a:World}{B:Nat}{e:TypeId}{z n:Nat}{v:Value}{f:List Value}{c:Array Value}{T:TypeId}(d:W.ownsRow B e z v n f)(b:(W.alloc (.cells c T)).grownBy a v.ownBlock):a.heap[W.heap.size]? =some (.cells c T (0,0)):=by
 rw[b.block W.heap.size (by simp) λh=>by have:=(d.lt _ h.symm).2;omega];exact World.alloc_heap_new W _
def cell_of {w:World}{b:Nat}{c:Array Value}{t:TypeId}{f:Nat×Nat}(h:w.heap[b]? =some (.cells c t f))(j:Nat):w.cell? ⟨b,j,none⟩=c[j]? :=by
 unfold World.cell?;simp only[h];rfl
def arK {w:World}{B g a n:Nat}{l:List Tk}{u:Tk}{e:TypeId}(h:w.ownsRow B e 5 (.slice (some ⟨g,0,none⟩) n a) n<|lU<|l++[u])(b:n=l.length+1):w.cell? ⟨g,l.length*5,none⟩=some (.int .i64 u.k):=by
 have:=(XB (l++[u]) l.length<|by simp).1;rw[di h (l.length*5)<|by omega,this];simp
def arL {w:World}{B g a n:Nat}{l:List Tk}{u:Tk}{e:TypeId}(h:w.ownsRow B e 5 (.slice (some ⟨g,0,none⟩) n a) n<|lU<|l++[u])(b:n=l.length+1):w.cell? ⟨g,l.length*5+2,none⟩=some (.int .i64 u.T):=by
 have:=(XB (l++[u]) l.length<|by simp).2.2.1;rw[di h (l.length*5+2)<|by omega,this];simp
def Tryz.amL:(prog.info? 125).map (λi=>(i.zero,i.size,i.bytes))=some (some (.agg #[.int .i64 0,.int .i64 0,.int .i64 0,.int .i64 0,.int .i64 0]),5,40):=by kernel_rfl
def arG(s:ByteArray)(w:World)(hz:s.size<=1000):Calls prog 75 #[.string s] w λe w'=>∃v,e= .returned v/\w'.ownsRow w.heap.size 125 5 v (dD s 0).length (lU<|dD s 0)/\Below w.heap.size w w':=by
 obtain⟨iT,uZ,zN⟩:∃i,prog.info? 125=some i/\(i.zero,i.size,i.bytes)=(some (.agg #[.int .i64 0,.int .i64 0,.int .i64 0,.int .i64 0,.int .i64 0]),5,40):=by simpa using Tryz.amL
 simp only[NT]at zN;obtain⟨vq,vw,vz⟩:=zN;obtain⟨R,hR⟩:=ac<|dD s 0;rw[<-hR];have HR:=ah hR;clear hR;go_enter func75,ntmps75;go_wp2;go_loopg [3,4,5,6] s.size (λgk lv pv _ _ W=>∃(l:List Tk)(p:Nat),p<=s.size/\gk=s.size - p/\l.length<=p/\pv= .int .i64 p/\Bh l (dD s p)=R/\(∀n u,l=n++[u]->u.k=0->u.B=0/\u.E=0)/\W.ownsRow w.heap.size 125 5 lv l.length (lU l)/\Below w.heap.size w W);exact⟨[],0,by omega,rfl,by simp,rfl,HR.out.symm,λn u h=>by simp at h,gQ _ _ _ _,aA _ _⟩;obtain⟨l,p,hp,rfl,Lq,rfl,hj,xZ,f,hb⟩:=hrel;by_cases C:p<s.size
 .have ak:(p:Int)<(s.size:Int):=by omega
  have X:=ah hb;have P:Hid (Bh l (kB (dg s p)<|dD s (dg s p).T)=R):=by show _=_;rw[<-hj,arH C]
  have Jg:=ah xZ;have Y:=asq s p wr hz C;have Nu:Hid (p<(dg s p).T/\(dg s p).T<=s.size):=⟨BF s p,X6 C⟩
  have Z:Hid ((dg s p).k=0->(dg s p).B=0/\(dg s p).E=0):=λh=>by rw[X4 s p h];exact⟨rfl,rfl⟩
  clear hj xZ hb;obtain⟨⟨Q,r,c,o,q⟩,ht⟩:∃t,dg s p=t:=⟨_,rfl⟩
  rw[ht]at Y P Nu Z;clear ht;unfold BC at Y;simp only at Y P Nu Z;obtain⟨Hx,qz⟩:=Nu.out;clear Nu;obtain⟨qa,qc,rfl⟩:=iA f;go_wp2_with fail;refine Y.mono ?_;clear Y;rintro ev W ⟨rfl,K⟩;have a:=iZ f K;have aD:=ah<|X.out.trans<|K.mono X.out.size;have x:=aD.out.size;have A:=ah a;clear f K X a;by_cases hk:Q=0
  .subst hk;rcases zi l with rfl|⟨n,u,rfl⟩
   .have a:=A.out;clear A;simp only[jZ]at a Lq ⊢;go_wp2_with(at_builtin;refine Ey _ rfl _ _ 123 rfl w.heap.size 125 iT _ 5 40 underlying123 uZ vq vw vz rfl (by decide) (by decide) _ _ _ rfl (kT a _) [_,_,_,_,_] _ _ rfl (by simp) rfl (by simp[Value.oneCell']) (by omega) (by simp;omega) ?_);intro v2 I b d;have j:=Xz a d;have V:=cell_of j 2;simp only[lI,p8,l6]at V;have aI:Hid (Below w.heap.size w I):=(aD.out.alloc x _).grown d (by simp;omega) (λy M=>(a.lt y M).1);have bL:Hid (I.ownsRow w.heap.size 125 5 v2 (0+1)<|lU<|([]:List Tk)++[⟨0,r,c,o,q⟩]):=by
     show World.ownsRow _ _ _ _ _ _ _;rw[MZ];exact b
    clear a b d j;go_wp2;go_roundg (s.size - c);case measure=>omega
    case rel=>
     refine⟨([]:List Tk)++[⟨0,r,c,o,q⟩],c,qz,rfl,by simp;omega,rfl,?_,?_,by exact bL.out,aI.out⟩
     .rw[<-P.out];exact(VE ([]:List Tk) ⟨0,r,c,o,q⟩ (dD s c) λl1 u1 h1=>by simp at h1).symm
     .intro N O L z;have J:O=⟨0,r,c,o,q⟩:=(by have:=congrArg List.getLast? L;simp at this;exact this.symm);subst J;exact Z.out<|by first|exact z|trivial
   .rw[Ch]at*;obtain⟨m,hm⟩:=ac n.length;have ae:(n++[u]).length=m+1:=(by simp[hm]);rw[ae]at A Lq ⊢;have a:=A.out;obtain⟨g,gc,ad,kY,aj,iw⟩:=nC a (by omega);simp only[pJ,oC]at ad;obtain⟨rfl,rfl⟩:=ad;have H:=ah hm;have ab:=arK a (by omega);rw[<-hm]at ab;clear hm A;obtain⟨U,G,S,D,F⟩:=u;simp only at ab;by_cases z:U=0
    .subst z;have am:=Dx a<|m*5+2;have aa:=arL a (by rw[H.out]);rw[<-H.out]at aa;simp only at aa;have an:¬g=W.heap.size:=(by omega);have al:¬W.heap.size=g:=(by omega);have af:=Ck a (m*5+2) (.int .i64 c);have HS:=ah af;clear af a;go_wp2;go_roundg (s.size - c);case measure=>omega
     case rel=>
      obtain⟨b1,b2⟩:=Jg.out n ⟨0,G,S,D,F⟩ rfl rfl;refine⟨n++[(⟨0,G,c,D,F⟩:Tk)],c,qz,rfl,by simp[<-H.out];omega,rfl,?_,?_,?_,?_⟩
      .rw[<-P.out];exact(am3 n ⟨0,G,S,D,F⟩ ⟨0,r,c,o,q⟩ (dD s c) rfl rfl b1 b2).symm
      .intro N O L z;have J:O=⟨0,G,c,D,F⟩:=(by have:=congrArg List.getLast? L;simp at this;exact this.symm);subst J;exact⟨b1,b2⟩
      .rw[show(n++[(⟨0,G,c,D,F⟩:Tk)]).length=m+1 by simp[H.out]];have:=HS.out.1;rw[show m*5+2=n.length*5+2 by rw[<-H.out],arI]at this;rw[<-H.out]at this;exact kT this _
      .exact(aD.out.grown HS.out.2 x λy M=>by obtain rfl:=aJ M;exact aj).alloc (by simpa using x) _
    .have ap:((U:Int)==0)=false:=(by simpa using z);have ai:=ah z;clear z;go_wp2_with(at_builtin;refine Ey _ rfl _ _ 123 rfl w.heap.size 125 iT _ 5 40 underlying123 uZ vq vw vz rfl (by decide) (by decide) _ _ _ rfl (kT a _) [_,_,_,_,_] _ _ rfl (by simp) rfl (by simp[Value.oneCell']) (by omega) (by simp;omega) ?_);intro v2 I b d;have j:=Xz a d;have V:=cell_of j 2;simp only[lI,p8,l6]at V;have aI:Hid (Below w.heap.size w I):=(aD.out.alloc x _).grown d (by simp;omega) (λy M=>(a.lt y M).1);have bL:Hid (I.ownsRow w.heap.size 125 5 v2 ((m+1)+1)<|lU<|(n++[⟨U,G,S,D,F⟩])++[⟨0,r,c,o,q⟩]):=by
      show World.ownsRow _ _ _ _ _ _ _;rw[MZ];exact b
     clear a b d j;go_wp2;go_roundg (s.size - c);case measure=>omega
     case rel=>
      refine⟨(n++[⟨U,G,S,D,F⟩])++[⟨0,r,c,o,q⟩],c,qz,rfl,by simp[<-H.out];omega,rfl,?_,?_,by rw[show(n++[(⟨U,G,S,D,F⟩:Tk)]++[(⟨0,r,c,o,q⟩:Tk)]).length=m+1+1 by simp[H.out]];exact bL.out,aI.out⟩
      .rw[<-P.out];exact(VE (n++[⟨U,G,S,D,F⟩]) ⟨0,r,c,o,q⟩ (dD s c) λl1 u1 h1=> .inl (by have:=congrArg List.getLast? h1;simp at this;subst this;exact ai.out)).symm
      .intro N O L z;have J:O=⟨0,r,c,o,q⟩:=(by have:=congrArg List.getLast? L;simp at this;exact this.symm);subst J;exact Z.out<|by first|exact z|trivial
  .have ao:((Q:Int)==0)=false:=(by simpa using hk);have a:=A.out;have ag:=ah hk;clear hk A;go_wp2_with(at_builtin;refine Ey _ rfl _ _ 123 rfl w.heap.size 125 iT _ 5 40 underlying123 uZ vq vw vz rfl (by decide) (by decide) _ _ _ rfl (kT a _) [_,_,_,_,_] _ _ rfl (by simp) rfl (by simp[Value.oneCell']) (by omega) (by simp;omega) ?_);intro v2 I b d;have j:=Xz a d;have V:=cell_of j 2;simp only[lI,p8,l6]at V;have aI:Hid (Below w.heap.size w I):=(aD.out.alloc x _).grown d (by simp;omega) (λy M=>(a.lt y M).1);have bL:Hid (I.ownsRow w.heap.size 125 5 v2 (l.length+1)<|lU<|l++[⟨Q,r,c,o,q⟩]):=by
    show World.ownsRow _ _ _ _ _ _ _;rw[MZ];exact b
   clear a b d j;go_wp2;go_roundg (s.size - c);case measure=>omega
   case rel=>
    refine⟨l++[⟨Q,r,c,o,q⟩],c,qz,rfl,by simp;omega,rfl,?_,?_,by simpa using bL.out,aI.out⟩
    .rw[<-P.out];exact(VE l ⟨Q,r,c,o,q⟩ (dD s c) λ_ _ _=> .inr ag.out).symm
    .intro N O L z;have J:O=⟨Q,r,c,o,q⟩:=(by have:=congrArg List.getLast? L;simp at this;exact this.symm);subst J;exact Z.out<|by first|exact z|trivial
 .obtain rfl:p=s.size:=by omega
  have ak:¬(s.size:Int)<(s.size:Int):=by omega
  have UN:l=R:=by rw[<-hj,I7 C,am1]
  subst UN;have A:=ah f;have X:=ah hb;obtain⟨qa,qc,rfl⟩:=iA f;clear f hb hj xZ HR;go_wp2;go_ret;exact⟨_,rfl,A.out,X.out⟩
def jumps(K:Nat->Act->World->Prop)(Q:Exit->Act->World->Prop):Exit->Act->World->Prop
 | .goto l,a,w=>K l a w
 |e,a,w=>Q e a w
section
variable{P:Program}{a:Act}{w:World}{Q:Exit->Act->World->Prop}{K:Nat->Act->World->Prop}
@[go_sem] theorem atO:jumps K Q .normal a w=Q .normal a w:=rfl
@[go_sem] theorem atM (id:Nat):jumps K Q (.exit id) a w=Q (.exit id) a w:=rfl
@[go_sem] theorem atS:jumps K Q .ret a w=Q .ret a w:=rfl
@[go_sem] theorem atQ (b:List PanicEntry):jumps K Q (.panic b) a w=Q (.panic b) a w:=rfl
@[go_sem] theorem atN (l:Nat):jumps K Q (.goto l) a w=K l a w:=rfl
def asw {r X:Code}(s:Nat)(J:Nat->Nat->Act->World->Prop)
  (first:r.wp P (Exit.then (λa w=>∃n,J s n a w) λ_ _ _=>False) a w)
  (F:findLabel (.seq r (.seq (.label s) X)) s=some (.seq .skip X))
  (pass:∀l n a w,J l n a w->∃C,findLabel (.seq r (.seq (.label s) X)) l=some (.seq .skip C)/\C.wp P (jumps (λv u x=>∃m,m<n/\J v m u x) Q) a w):
  (Code.scope (.seq r (.seq (.label s) X))).wp P Q a w:=by
 have key:∀n l a w,J l n a w->∀b k z,∃e u x,Q e u x/\∃rest,findLabel (.seq r (.seq (.label s) X)) l=some rest/\Arrives P (lone (b.at a (.code rest:: .inScope (.seq r (.seq (.label s) X))::k)) z w) b k z e u x:=by
  intro n
  induction n using Nat.strongRecOn with
  |_ n ih=>
   intro l a w D b k z;obtain⟨C,j,E⟩:=pass l n a w D;have N:(Code.seq .skip C).wp P (jumps (λv u x=>∃m,m<n/\J v m u x) Q) a w:=wp_seq<|wp_skip E;obtain⟨e,c,f,o,d⟩:=N b (.inScope (.seq r (.seq (.label s) X))::k) z;cases e with
   |normal=>exact⟨.normal,c,f,o,_,j,Steps.trans d (.one step_inScope)⟩
   |exit id=>exact⟨.exit id,c,f,o,_,j,λH G=>d H<|by simp[exitTo,G]⟩
   |goto v=>
    obtain⟨m,M,B⟩:=o;obtain⟨q,p,t,i,rest,A,g⟩:=ih m M v c f B b k z;exact⟨q,p,t,i,_,j,.of_steps (d _ (by simp[gotoIn,A])) g⟩
   |ret=>exact⟨_,c,f,o,_,j,d⟩
   |panic L=>exact⟨_,c,f,o,_,j,d⟩
   |outgrown=>exact⟨_,c,f,o,_,j,d⟩
 have y:(Code.seq r (.seq (.label s) X)).wp P (jumps (λv u x=>∃m,J v m u x) Q) a w:=by
  refine wp_seq<|wp_mono first ?_;intro e u x h;cases e with
  |normal=>
   obtain⟨n,D⟩:=h;obtain⟨C,j,E⟩:=pass s n u x D;rw[F]at j;injection j with j
   injection j with _ j
   subst j;refine wp_seq<|wp_label ?_;refine wp_mono E ?_;intro e K O I;cases e with
   |goto v=>obtain⟨m,_,B⟩:=I;exact⟨m,B⟩
   |_=>exact I
  |_=>exact h.elim
 intro b k z;obtain⟨e,c,f,o,d⟩:=y b (.inScope (.seq r (.seq (.label s) X))::k) z;cases e with
 |normal=>exact⟨.normal,c,f,o,.head MV<|Steps.trans d (.one step_inScope)⟩
 |exit id=>exact⟨.exit id,c,f,o,λH G=> .head MV (d H<|by simp[exitTo,G])⟩
 |goto v=>
  obtain⟨m,B⟩:=o;obtain⟨q,p,t,i,rest,A,g⟩:=key m v c f B b k z;exact⟨q,p,t,i,.of_steps (.head MV<|d _ (by simp[gotoIn,A])) g⟩
 |ret=>exact⟨_,c,f,o,.of_steps (.one MV) d⟩
 |panic L=>exact⟨_,c,f,o,.of_steps (.one MV) d⟩
 |outgrown=>exact⟨_,c,f,o,.of_steps (.one MV) d⟩
end
noncomputable def aft:Code:=match Tryz.f107.body with
 |some (.scope c)=>c
 |_=> .skip
noncomputable def IV(l:Nat):Code:=match findLabel aft l with
 |some (.seq _ X)=>X
 |_=> .skip
def AtR(b:Nat)(a:Act):Prop:=∃u0 u1 u2 u3 u5 u6 u7 u8 u9 c d e f g h u16 i j k l m n u23 u24 o u26 p u28 q r s u32 u33 O P Q R u v w x y z u44 A B C D E F G H I J K L M N t U V W X u64 Y Z xu xw xx xy xz S T yG yH yI yJ yK yL yM yN yO yP yQ yR yS:Value,a={tmps:=#[u0,u1,u2,u3,.pointer<|some ⟨b,0,none⟩,u5,u6,u7,u8,u9,c,d,e,f,g,h,u16,i,j,k,l,m,n,u23,u24,o,u26,p,u28,q,r,s,u32,u33,O,P,Q,R,u,v,w,x,y,z,u44,A,B,C,D,E,F,G,H,I,J,K,L,M,N,t,U,V,W,X,u64,Y,Z,xu,xw,xx,xy,xz,S,T,yG,yH,yI,yJ,yK,yL,yM,yN,yO,yP,yQ,yR,yS],defers:=[]}
structure mR(w:World):Prop where
 lc:∃t f,w.heap[(7:Nat)]? =some (.cells #[.int .u8 47,.int .u8 47] t f)
 bb:∃t f,w.heap[(8:Nat)]? =some (.cells #[.int .u8 47,.int .u8 42] t f)
 be:∃t f,w.heap[(9:Nat)]? =some (.cells #[.int .u8 42,.int .u8 47] t f)
def mR.below {w b:World}{n:Nat}(h:mR w)(c:10<=n)(a:Below n w b):mR b:=
 ⟨h.lc.imp λ_ h=>h.imp λ_ h=>(a.block _ (by omega)).trans h,h.bb.imp λ_ h=>h.imp λ_ h=>(a.block _ (by omega)).trans h,h.be.imp λ_ h=>h.imp λ_ h=>(a.block _ (by omega)).trans h⟩
def mR.sz {w:World}(h:mR w):10<=w.heap.size∨w.heap.size<=9+1/\9<w.heap.size:=by
 obtain⟨_,_,a⟩:=h.be;have:=bS a;omega
structure RC where
 w0:World
 rb:Nat
 s:ByteArray
 l:Nat
 n₀:Nat
 J:List PR->World->Prop
 Jx:List PR->World->Prop
 X:List PR
structure oL(C:RC):Prop where
 T:Tl C.l C.n₀ C.J C.Jx C.X
 hn:C.n₀<=C.rb
 h20:10<=C.n₀
 hz:C.s.size<=1000
 env:mR C.w0
structure RW(C:RC)(w:World)(p:RP)(st:Bool)(pre:List PR):Prop where
 rs:Rs w C.rb C.s C.l C.J C.Jx C.X p st pre
 ok:sw C.s p
 be:Below C.n₀ C.w0 w
def LJ(C:RC)(b n:Nat)(a:Act)(w:World):Prop:=AtR C.rb a/\∃p d c,RW C w p d c/\
 ((b=3/\(d=false->C.X=c++cH C.s false p)/\n=if d then 0 else 2*(C.s.size - p.at_)+3)∨
  (d=false/\C.X=c++cH C.s false p/\p.at_<C.s.size/\n=2*(C.s.size - p.at_)+2/\
  ((b=0/\bt C.s p.at_=34)∨(b=1/\bt C.s p.at_=47/\bt C.s (p.at_+1)=47)∨(b=2/\bt C.s p.at_=47/\bt C.s (p.at_+1)=42))))
def RE(C:RC):Ending->World->Prop:=λe b=>(∃v,e= .returned v)/\Below C.n₀ C.w0 b/\(C.J C.X b∨∃a,a<+:C.X/\C.Jx a b)
def RW.drewN {C:RC}{w:World}{p:RP}{b:Bool}{a:List PR}(h:RW C w p b a)(O:oL C)(m:Nat):RW C (w.drewN m) p b a:=
 ⟨h.rs.grown O.T (DM<|oP _ _)<|h.rs.rd.drewN m,h.ok,gH h.be m⟩
def RW.below {C:RC}{w c:World}{p:RP}{e:Bool}{b:List PR}(h:RW C w p e b)(O:oL C)(a:Below w.heap.size w c):RW C c p e b:=by
 have g:c.heap[C.rb]? =w.heap[C.rb]? :=a.block _ h.rs.rd.lt;have f:kK w c:=⟨a.os,a.tape,a.output,a.size,λk o d _=>(a.block k<|bS d).trans d⟩
 exact⟨h.rs.ry O.T f<|g.trans h.rs.rd,h.ok,h.be.trans<|a.mono<|by have:=h.rs.rd.lt;have:=O.hn;omega⟩
def RW.al {C:RC}{w:World}{p:RP}{b:Bool}{a:List PR}(h:RW C w p b a)(O:oL C)(o:Obj):RW C (w.alloc o) p b a:=h.below O<|(aA _ _).alloc (au _) _
def mR.cells {w:World}(h:mR w):(w.cell? ⟨7,0,none⟩=some (.int .u8 47)/\w.cell? ⟨7,1,none⟩=some (.int .u8 47))/\(w.cell? ⟨8,0,none⟩=some (.int .u8 47)/\w.cell? ⟨8,1,none⟩=some (.int .u8 42))/\(w.cell? ⟨9,0,none⟩=some (.int .u8 42)/\w.cell? ⟨9,1,none⟩=some (.int .u8 47)):=
 let⟨_,_,h1⟩:=h.lc
 let⟨_,_,h2⟩:=h.bb
 let⟨_,_,h3⟩:=h.be
 ⟨⟨az h1 0,az h1 1⟩,⟨az h2 0,az h2 1⟩,⟨az h3 0,az h3 1⟩⟩
def RW.env {C:RC}{w:World}{p:RP}{b:Bool}{a:List PR}(h:RW C w p b a)(O:oL C):mR w:=O.env.below O.h20 h.be
def RW.over {C:RC}{w:World}{p:RP}{b:Bool}{a:List PR}(h:RW C w p b a)(O:oL C):Calls prog 177 #[.pointer<|some ⟨C.rb,0,none⟩] w λe f=>e= .returned (.bool<|mH C.s p b)/\RW C f p b a:=
 (Zd w C.rb C.s _ p b h.rs.rd).mono λ_ _ ⟨c,m,d⟩=>⟨c,by rw[d];exact h.drewN O m⟩
def RW.aeb {C:RC}{w:World}{p:RP}{b:Bool}{a:List PR}(h:RW C w p b a)(O:oL C):Calls prog 182 #[.pointer<|some ⟨C.rb,0,none⟩] w λe f=>e= .returned (.bool<|yA C.s p b)/\RW C f p b a:=
 (aec w C.rb C.s _ p b h.rs.rd h.ok.e).mono λ_ _ ⟨c,m,d⟩=>⟨c,by rw[d];exact h.drewN O m⟩
def RW.sign {C:RC}{w:World}{p:RP}{c:Bool}{a:List PR}(h:RW C w p c a)(O:oL C)(b:p.at_<C.s.size):Calls prog 178 #[.pointer<|some ⟨C.rb,0,none⟩] w λe g=>e= .returned (.agg #[.int .u8<|bt C.s p.at_,.int .u8<|bt C.s<|p.at_+1])/\RW C g p c a:=
 (aqU w C.rb C.s _ p c h.rs.rd b (by have:=O.hz;omega)).mono λ_ _ ⟨f,d⟩=>⟨f,h.below O d⟩
def RW.cut {C:RC}{w:World}{p:RP}{st:Bool}{f:List PR}(h:RW C w p st f)(O:oL C)(k t:Nat)(q:k<=2)(r:t<=2)(i:p.at_+t<=C.s.size)(m:st=false->(f++dJ k t p)<+:C.X):
  Calls prog 179 #[.pointer<|some ⟨C.rb,0,none⟩,.int .i64 k,.int .i64 t] w λe s=>(∃v,e= .returned v)/\∃g,(st=true->g=true)/\RW C s (iu t p st) g (f++dJ k t p):=by
 have a:=h.ok.a;have b:=h.ok.b;have c:=h.ok.c;have d:=h.ok.d;have e:=h.ok.e;have z:=O.hz;exact(mE w C.rb C.s C.l C.n₀ C.J C.Jx C.X O.T O.hn p st f h.rs k t q r a c (by omega) (by omega) (by omega) (by omega) m).mono λ_ _ ⟨o,n,g,j,l⟩=>⟨o,g,j,l,h.ok.cut i,h.be.trans n⟩
def RW.open {C:RC}{w:World}{p:RP}{d:Bool}{a:List PR}(h:RW C w p d a)(O:oL C)(c:Nat)(m:c<=2)(f:p.at_+c<=C.s.size)(j:d=false->(a++dJ 0 0 p)<+:C.X):
  Calls prog 181 #[.pointer<|some ⟨C.rb,0,none⟩,.int .i64 c] w λe n=>(∃v,e= .returned v)/\∃b,(d=true->b=true)/\RW C n (cW c p d) b (a++dJ 0 0 p):=
 (aol w C.rb C.s C.l C.n₀ C.J C.Jx C.X O.T O.hn p d a h.rs c m h.ok O.hz j).mono λ_ _ ⟨l,k,b,g,i⟩=>⟨l,b,g,i,h.ok.open f,h.be.trans k⟩
def RW.grown {C:RC}{w d:World}{p b:RP}{c:Bool}{a:List PR}(h:RW C w p c a)(O:oL C)(e:w.grownBy d<|some C.rb)(g:Rd d C.rb C.s (.func (.yield C.l) #[] #[]) b c)(f:sw C.s b):RW C d b c a:=
 ⟨h.rs.grown O.T e g,f,h.be.trans<|Below.Eg e O.hn<|by have:=h.rs.rd.lt;have:=O.hn;omega⟩
def RW.feed {C:RC}{w:World}{p:RP}{c:Bool}{a:List PR}(h:RW C w p c a)(O:oL C)(b:p.at_+1<=C.s.size):
  Calls prog 180 #[.pointer<|some ⟨C.rb,0,none⟩] w λe i=>(∃v,e= .returned v)/\RW C i (oO p) c a:=
 (akV w C.rb C.s _ p c h.rs.rd (by have:=h.ok.e;have:=O.hz;omega) (by have:=h.ok.f;have:=h.ok.e;have:=O.hz;omega)).mono λ_ _ ⟨g,d,f⟩=>⟨g,h.grown O f d<|h.ok.feed b⟩
def RW.aqY {C:RC}{w:World}{p:RP}{b:Bool}{a:List PR}(h:RW C w p b a)(O:oL C):
  Calls prog 183 #[.pointer<|some ⟨C.rb,0,none⟩] w λe g=>(∃v,e= .returned v)/\RW C g (cQ p (if b then p.at_ else bZ C.s p.at_)) b a:=by
 refine(aqZ w C.rb C.s _ p b h.rs.rd h.ok.e (by have:=O.hz;omega)).mono λ_ _ ⟨f,c,d⟩=>⟨f,h.grown O d c ?_⟩
 cases b with
 |true=>exact h.ok.to (au _) h.ok.e
 |false=>exact h.ok.to (FV _ _)<|Mk h.ok.e
def RW.step {C:RC}{w:World}{p:RP}{b:Bool}{a:List PR}(h:RW C w p b a)(O:oL C){j:Nat}(c:p.at_<=j)(d:j<=C.s.size):RW C (w.setCell ⟨C.rb,6,none⟩ (.int .i64 j)) (cQ p j) b a:=
 h.grown O (mX<|oP _ _) (h.rs.rd.s6 j) (h.ok.to c d)
def RW.end {C:RC}{w:World}{p:RP}{b:Bool}{a:List PR}(h:RW C w p b a)(c:b=false->C.X=a)(v:Value):RE C (.returned v) w:=by
 refine⟨⟨_,rfl⟩,h.be,?_⟩;cases b with
 |true=>exact .inr<|h.rs.no rfl
 |false=>refine .inl ?_;have:=h.rs.go rfl;rw[c rfl];exact this
