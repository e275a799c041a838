import Derived.Test.YtkbinfhclaafhaaGreatDoorP27
import Derived.Lib.TrailingZeros
import Derived.Test.YtkbinfhclaafhaaGreatDoorShelfU
namespace Go.Proofs.YtkbinfhclaafhaaGreatDoor
open Go.RowKit
open Go.Proofs.Tryz
set_option maxRecDepth 100000
set_option maxHeartbeats 32000000
set_option linter.all false
def qf(w:World):Prop:=w.cell? ⟨15,15,none⟩=some (.int .u8 4)
def aph(w:World):Calls prog 301 #[.int .i64 16] w λe a=>e= .returned (.bool true)/\a=w:=by
 have b:bits .and .i64 16 15=0:=by decide
 go_enter func301,ntmps301;go_wp2;go_ret;exact⟨rfl,rfl⟩
def ar0(w:World)(h:qf w):Calls prog 308 #[.int .u64 16] w λe a=>e= .returned (.int .i64 4)/\a=w:=by
 have key:IntKind.u64.wrap (bits .and .u64 16 (IntKind.u64.wrap (-16))*285870213051353865) / 288230376151711744=15:=by decide+kernel
 unfold qf at h;go_enter func308,ntmps308;go_wp2_with(simp only[key]);go_ret;exact⟨rfl,rfl⟩
def ar2(w:World)(h:qf w):Calls prog 302 #[.int .u64 16] w λe a=>e= .returned (.int .i64 4)/\a=w:=by
 have H:=ar0 w h;go_enter func302,ntmps302;go_wp2_with fail;refine H.mono ?_;rintro b _ ⟨rfl,rfl⟩;go_wp2;go_ret;exact⟨rfl,rfl⟩
def uR:ByteArray:=⟨#[48,49,50,51,52,53,54,55,56,57,97,98,99,100,101,102,103,104,105,106,107,108,109,110,111,112,113,114,115,116,117,118,119,120,121,122]⟩
def hx(k:Nat):UInt8:=uR.get! k
def L1(k:Nat)(h:k<36):uR[k]'h=hx k:=(get_eq uR k h).symm
def uW(r:Nat):ByteArray:=if r<4096 then⟨#[hx<|r / 16 / 16,hx<|r / 16%16,hx<|r%16]⟩else⟨#[hx<|r / 16 / 16 / 16,hx<|r / 16 / 16%16,hx<|r / 16%16,hx<|r%16]⟩
def SK(a:Nat)(h:a<65536):bits .and .u64 (a:Int) 15=((a%16:Nat):Int):=by
 have:=bits_mask .u64 64 (by decide) wraps_u64 4 (by decide) (a:Int) (by omega) (by omega);simpa using this
def asM:Tryz.zeroCells342=Array.replicate 65 (.int .u8 0):=by kernel_rfl
def ak5(r:Nat)(V:256<=r)(X:r<65536)(w:World)(h:qf w):Calls prog 290 #[.slice none 0 0,.int .u64 r,.int .i64 16,.bool false,.bool false] w λe p=>e= .returned (.tuple #[.slice none 0 0,.string<|uW r])/\Below w.heap.size w p:=by
 have C:Hid (∀W,Calls prog 301 #[.int .i64 16] W λe p=>e= .returned (.bool true)/\p=W):=λW=>aph W
 have k:Below w.heap.size w (w.alloc (.cells Tryz.zeroCells342 342)):=(aA _ _).alloc (au _) _;have D:Hid (Calls prog 302 #[.int .u64 16] (w.alloc (.cells Tryz.zeroCells342 342)) λe p=>e= .returned (.int .i64 4)/\p=w.alloc (.cells Tryz.zeroCells342 342)):=ar2 _ (by unfold qf at h ⊢;exact eu k h);have B:=ah k;have o:∀j,j<65->(w.alloc (.cells Tryz.zeroCells342 342)).cell? ⟨w.heap.size,j,none⟩=some (.int .u8 0):=λj i=>by
  rw[World.cell?_alloc_new];rw[asM];simp[i]
 have f:∀j,(w.alloc (.cells Tryz.zeroCells342 342)).frozen? ⟨w.heap.size,j,none⟩=false:=λj=>World.frozen?_alloc_new _ _ _ _
 clear k h;have R:=SK r (by omega);go_enter func290,ntmps290;go_wp2_with fail;refine(C.out _).mono ?_;rintro O U ⟨rfl,hx⟩;have m:=hx.symm;subst m;clear hx;go_wp2_with fail;refine D.out.mono ?_;rintro O U ⟨rfl,hx⟩;have m:=hx.symm;subst m;clear hx D C;generalize w.alloc (.cells Tryz.zeroCells342 342)=n at*;have N:=o 64 (by omega);have M:=o 63 (by omega);have L:=o 62 (by omega);have K:=o 61 (by omega);have f64:=f 64;have f63:=f 63;have f62:=f 62;have f61:=f 61;clear o f;go_wp2;refine fV 4 ?_;rw[bN];go_wp2;obtain⟨d0,s⟩:∃d:UInt8,d=uR[r%16]'(by show _<36;omega):=⟨_,rfl⟩
 have z:Hid (d0=hx (r%16)):=s.trans<|L1 _ _;unfold uR at s;rw[<-s];clear s;obtain⟨a,E⟩:∃x:Nat,x=r / 16:=⟨_,rfl⟩
 rw[show(r:Int) / 16=(a:Int)by omega,bN];have q:=ah E;have Y:16<=a/\a<4096:=by omega
 have S:=SK a (by omega);clear E R;go_wp2;obtain⟨d1,t⟩:∃d:UInt8,d=uR[a%16]'(by show _<36;omega):=⟨_,rfl⟩
 have A:Hid (d1=hx (a%16)):=t.trans<|L1 _ _;unfold uR at t;rw[<-t];clear t;obtain⟨b,F⟩:∃x:Nat,x=a / 16:=⟨_,rfl⟩
 rw[show(a:Int) / 16=(b:Int)by omega,bN];have EB:=ah F;have Z:b<256:=by omega
 clear F S;by_cases Q:b<16
 .go_wp2;obtain⟨d2,g⟩:∃d:UInt8,d=uR[b]'(by show _<36;omega):=⟨_,rfl⟩
  have v:Hid (d2=hx (b)):=g.trans<|L1 _ _;unfold uR at g;rw[<-g];clear g;have l:(convert 62 9 (.slice (some ⟨w.heap.size,62,none⟩) 3 3)).run prog (((n.setCell ⟨w.heap.size,64,none⟩ (.int .u8 d0.toNat)).setCell ⟨w.heap.size,63,none⟩ (.int .u8 d1.toNat)).setCell ⟨w.heap.size,62,none⟩ (.int .u8 d2.toNat))= .ok (.string ⟨#[d2,d1,d0]⟩) (((n.setCell ⟨w.heap.size,64,none⟩ (.int .u8 d0.toNat)).setCell ⟨w.heap.size,63,none⟩ (.int .u8 d1.toNat)).setCell ⟨w.heap.size,62,none⟩ (.int .u8 d2.toNat)):=ap2 (P:=prog) _ 62 9 5 ⟨w.heap.size,62,none⟩ 3 [d2,d1,d0] underlying62 underlying5 underlying9 (λj i=>by
   match j,i with
   |0,_=>go_simp
   |1,_=>go_simp
   |2,_=>go_simp
   |j+3,i=>simp at i;omega)
  have y:Hid (Below w.heap.size w<|((n.setCell ⟨w.heap.size,64,none⟩ (.int .u8 d0.toNat)).setCell ⟨w.heap.size,63,none⟩ (.int .u8 d1.toNat)).setCell ⟨w.heap.size,62,none⟩ (.int .u8 d2.toNat)):=((B.out.setCell (au _) _).setCell (au _) _).setCell (au _) _;rw[l];go_wp2;go_ret2;exact⟨by rw[uW,aj<|by have:=q.out;have:=EB.out;omega,<-q.out,<-EB.out,<-z.out,<-A.out,<-v.out];rfl,y.out⟩
 .have T:=SK b (by omega);go_wp2;obtain⟨d2,g⟩:∃d:UInt8,d=uR[b%16]'(by show _<36;omega):=⟨_,rfl⟩
  have v:Hid (d2=hx (b%16)):=g.trans<|L1 _ _;unfold uR at g;rw[<-g];clear g;obtain⟨c,G⟩:∃x:Nat,x=b / 16:=⟨_,rfl⟩
  rw[show(b:Int) / 16=(c:Int)by omega,bN];have J:=ah G;have H:c<16:=by omega
  clear G T;go_wp2;obtain⟨d3,u⟩:∃d:UInt8,d=uR[c]'(by show _<36;omega):=⟨_,rfl⟩
  have I:Hid (d3=hx (c)):=u.trans<|L1 _ _;unfold uR at u;rw[<-u];clear u;have l:(convert 62 9 (.slice (some ⟨w.heap.size,61,none⟩) 4 4)).run prog ((((n.setCell ⟨w.heap.size,64,none⟩ (.int .u8 d0.toNat)).setCell ⟨w.heap.size,63,none⟩ (.int .u8 d1.toNat)).setCell ⟨w.heap.size,62,none⟩ (.int .u8 d2.toNat)).setCell ⟨w.heap.size,61,none⟩ (.int .u8 d3.toNat))= .ok (.string ⟨#[d3,d2,d1,d0]⟩) ((((n.setCell ⟨w.heap.size,64,none⟩ (.int .u8 d0.toNat)).setCell ⟨w.heap.size,63,none⟩ (.int .u8 d1.toNat)).setCell ⟨w.heap.size,62,none⟩ (.int .u8 d2.toNat)).setCell ⟨w.heap.size,61,none⟩ (.int .u8 d3.toNat)):=ap2 (P:=prog) _ 62 9 5 ⟨w.heap.size,61,none⟩ 4 [d3,d2,d1,d0] underlying62 underlying5 underlying9 (λj i=>by
   match j,i with
   |0,_=>go_simp
   |1,_=>go_simp
   |2,_=>go_simp
   |3,_=>go_simp
   |j+4,i=>simp at i;omega)
  have y:Hid (Below w.heap.size w<|(((n.setCell ⟨w.heap.size,64,none⟩ (.int .u8 d0.toNat)).setCell ⟨w.heap.size,63,none⟩ (.int .u8 d1.toNat)).setCell ⟨w.heap.size,62,none⟩ (.int .u8 d2.toNat)).setCell ⟨w.heap.size,61,none⟩ (.int .u8 d3.toNat)):=(((B.out.setCell (au _) _).setCell (au _) _).setCell (au _) _).setCell (au _) _;rw[l];go_wp2;go_ret2;exact⟨by rw[uW,ai<|by have:=q.out;have:=EB.out;omega,<-q.out,<-EB.out,<-J.out,<-z.out,<-A.out,<-v.out,<-I.out];rfl,y.out⟩
def oZ:ByteArray:=⟨#[48,49,50,51,52,53,54,55,56,57,97,98,99,100,101,102]⟩
def tC:ByteArray:=⟨#[48,49,50,51,52,53,54,55,56,57,65,66,67,68,69,70]⟩
def aj2:∀k:Fin 16,DF oZ k.val=⟨#[hx k.val]⟩:=by decide+kernel
def Ht(r:Nat)(c:r<65536):iK oZ r=⟨#[hx<|r / 16 / 16 / 16,hx<|r / 16 / 16%16,hx<|r / 16%16,hx<|r%16]⟩:=by
 have h:=λk (b:k<16)=>aj2 ⟨k,b⟩
 simp only at h;rw[iK,h _ (qZ _ (by omega)),h _ (qZ _ (by omega)),h _ (qZ _ (by omega)),h _ (qZ _ (by omega)),ZX (a:=r / 16 / 16 / 16)<|by omega];rfl
def alG(r:Nat)(c:256<=r)(b:r<65536):(uW r).size=(if r<4096 then 3 else 4)/\((⟨#[48,48,48]⟩:ByteArray)++uW r).extract (3+(uW r).size - 4) (3+(uW r).size)=iK oZ r:=by
 rw[Ht r b];unfold uW;split
 .refine⟨rfl,?_⟩;rw[ZX (a:=r / 16 / 16)<|by omega,show r / 16 / 16 / 16=0 by omega];rfl
 .exact⟨rfl,rfl⟩
def ak3(r:Nat)(c:256<=r)(d:r<65536)(w:World)(h:qf w):Calls prog 269 #[.int .i64 r,.int .i64 16] w λe f=>e= .returned (.string<|uW r)/\Below w.heap.size w f:=by
 have H:=ak5 r c d w h;clear h;have i:¬(r:Int)<0:=by omega
 go_enter func269,ntmps269;go_wp2_with fail;refine H.mono ?_;rintro g j ⟨rfl,a⟩;have b:=ah a;clear a H;go_wp2;go_ret;exact⟨rfl,b.out⟩
def ak4(r:Nat)(c:256<=r)(d:r<65536)(w:World)(h:qf w):Calls prog 251 #[.int .i64 r,.int .i64 16] w λe f=>e= .returned (.string<|uW r)/\Below w.heap.size w f:=by
 have H:=ak3 r c d w h;clear h;go_enter func251,ntmps251;go_wp2_with fail;refine H.mono ?_;rintro g i ⟨rfl,a⟩;have b:=ah a;clear a H;go_wp2;go_ret;exact⟨rfl,b.out⟩
def Be(r:Nat)(a:256<=r)(b:r<65536)(w:World)(h:qf w):Calls prog 222 #[.int .i32 r] w λe j=>e= .returned (.string<|iK oZ r)/\Below w.heap.size w j:=by
 have H:=ak4 r a b w h;obtain⟨f,d⟩:=alG r a b;rw[<-d];clear h d;have l:3<=(uW r).size/\(uW r).size<=4:=by rw[f];split<;>omega
 clear f;generalize uW r=z at*;have i:((⟨#[48,48,48]⟩:ByteArray)++z).size=3+z.size:=by rw[C8];rfl
 go_enter func222,ntmps222;go_wp2_with fail;refine H.mono ?_;rintro k m ⟨rfl,c⟩;have g:=ah c;clear c H;go_wp2;go_ret;exact⟨rfl,g.out⟩
section
open Go.RowKit Go.Shelf
def akG(r:Nat)(d:256<=r)(a:r<65536)(w:World)(h:qf w):Calls prog 171 #[.int .i32 r] w λe f=>e= .returned (.string<|⟨#[92,117]⟩++iK oZ r)/\Below w.heap.size w f:=by
 have H:=Be r d a w h;clear h;have i:(iK oZ r).size=4:=by rw[Ht r a];rfl
 generalize iK oZ r=z at*;go_enter func171,ntmps171;go_wp2_with fail;refine H.mono ?_;rintro g j ⟨rfl,b⟩;have c:=ah b;clear b H;go_wp2;go_ret;exact⟨rfl,c.out⟩
def Tryz.bxU:Builder.Extra prog Tryz.lays158_ren where
 sizeBuilder:=by kernel_rfl
 liesBuilder:=by kernel_rfl
 t5:=underlying5
 a5:=Tryz.isAgg5
 z5:=Tryz.sizeOf5
 v5:=Tryz.zeroValue5
 infoByte:=by kernel_rfl
 cellsByte:=by kernel_rfl
 sizeByte:=by kernel_rfl
 neB5:=by decide
def Ir(k:Nat):UInt8:=tC.get! k
def KA:∀k:Fin 16,DF tC k.val=⟨#[Ir k.val]⟩/\(hx k.val).toNat<128/\Lib.toUpperA [hx k.val]=[Ir k.val]:=by decide+kernel
def ar7(a b c d:Nat)(f:a<16)(g:b<16)(i:c<16)(j:d<16):Lib.toUpperA [hx a,hx b,hx c,hx d]=[Ir a,Ir b,Ir c,Ir d]:=by
 have h:=λk (l:k<16)=>(KA ⟨k,l⟩).2.2
 have e:Lib.toUpperA [hx a,hx b,hx c,hx d]=Lib.toUpperA [hx a]++(Lib.toUpperA [hx b]++(Lib.toUpperA [hx c]++Lib.toUpperA [hx d])):=by rfl
 rw[e,h a f,h b g,h c i,h d j];rfl
def ak9(r:Nat)(b:r<65536):iK tC r=⟨(Lib.toUpperA (iK oZ r).data.toList).toArray⟩:=by
 have h:=λk (c:k<16)=>(KA ⟨k,c⟩).1
 simp only at h;rw[Ht r b];show _=(⟨(Lib.toUpperA [hx<|r / 16 / 16 / 16,hx<|r / 16 / 16%16,hx<|r / 16%16,hx<|r%16]).toArray⟩:ByteArray)
 rw[ar7 _ _ _ _ (by omega) (by omega) (by omega) (by omega),iK,h _ (qZ _ (by omega)),h _ (qZ _ (by omega)),h _ (qZ _ (by omega)),h _ (qZ _ (by omega)),ZX (a:=r / 16 / 16 / 16)<|by omega];rfl
def anS(r:Nat)(q:256<=r)(d:r<65536)(w:World)(h:qf w):Calls prog 173 #[.int .i32 r] w λe l=>e= .returned (.string<|⟨#[60,85,43]⟩++iK tC r++⟨#[62]⟩)/\Below w.heap.size w l:=by
 have H:=Be r q d w h;have n:Hid (∀W,Calls prog 224 #[.string<|iK oZ r] W λe l=>e= .returned (.string<|iK tC r)/\Below W.heap.size W l):=λW=>by
  rw[ak9 r d];refine Any.strings_ToUpper_ascii Tryz.lays158 Tryz.bxU _ W (by rw[Ht r d];show 4<=_;omega) ?_;intro j b a;have i:=NK a;rw[Ht r d]at i;have c:=λk (g:k<16)=>(KA ⟨k,g⟩).2.1
  simp only[fW,J6,F4]at i;rcases i with rfl|rfl|rfl|rfl<;>exact c _ (by omega)
 have t:(iK tC r).size=4:=by
  have h:=λk (g:k<16)=>(KA ⟨k,g⟩).1
  simp only at h;rw[iK,h _ (qZ _ (by omega)),h _ (qZ _ (by omega)),h _ (qZ _ (by omega)),h _ (qZ _ (by omega))];rfl
 clear h;generalize iK oZ r=z at*;generalize iK tC r=u at*;go_enter func173,ntmps173;go_wp2_with fail;refine H.mono ?_;rintro p s ⟨rfl,a⟩;have m:=ah a;have f:=a.size;clear a H;go_wp2_with fail;refine(n.out s).mono ?_;rintro p v ⟨rfl,a⟩;have o:=ah<|m.out.trans<|a.mono f;clear a;go_wp2;go_ret;exact⟨rfl,o.out⟩
end
structure Ed where
 a:Int
 c:Int
 n:ByteArray
def Gp(w:World)(b d:Nat)(e:List Ed):Prop:=∀i (h:i<e.length),w.cell? ⟨b,d+i*3,none⟩=some (.int .i64 e[i].a)/\w.cell? ⟨b,d+i*3+1,none⟩=some (.int .i64 e[i].c)/\w.cell? ⟨b,d+i*3+2,none⟩=some (.string e[i].n)
def Gp.below {w e:World}{b a:Nat}{d:List Ed}(h:Gp w b a d)(c:Below w.heap.size w e):Gp e b a d:=λi f=>
 let⟨h1,h2,h3⟩:=h i f
 ⟨eu c h1,eu c h2,eu c h3⟩
def CQ(s:ByteArray)(p:Nat)(e:Ed):Bool:=decide ((p:Int)<=e.a)&&(decide (0<=e.c)&&(decide (e.a<=(s.size:Int))&&decide (e.c<=(s.size:Int) - e.a)))
def jA(a:List Ed):Nat:=(a.map (·.n.size)).sum
def Xr(a b:List Ed):jA (a++b)=jA a+jA b:=by simp[jA]
def Qo(a:List Ed)(k:Nat):jA (a.take k)<=jA a:=by
 have:jA a=jA (a.take k)+jA (a.drop k):=by rw[<-Xr,Sy]
 omega
def mS(s:ByteArray)(x:ByteArray×Nat)(e:Ed):ByteArray×Nat:=if CQ s x.2 e=true then(x.1++s.extract x.2 e.a.toNat++e.n,(e.a+e.c).toNat)else x
def apE(s:ByteArray)(a:List Ed)(b x m z:Nat)(w:World)(hs:s.size<=1000000000000000)(H:a.length=m)(hm:m<=1000000000000000)(G:Gp w b x a)(hN:jA a<=1000000000000000):
  Calls prog 53 #[.string s,.slice (some ⟨b,x,none⟩) m z] w λe U=>e= .returned (.string<|(a.foldl (mS s) (⟨#[]⟩,0)).1++s.extract (a.foldl (mS s) (⟨#[]⟩,0)).2 s.size)/\Below w.heap.size w U:=by
 have I:=ah G;have C:=ah H;clear G H;go_enter func53,ntmps53;go_wp2;go_loopg [5,6,7] m (λgk T S iv W=>∃(k p:Nat)(t:ByteArray),k<=m/\gk=m - k/\T= .string t/\S= .int .i64 p/\iv= .int .i64 k/\p<=s.size/\t.size<=p+jA (a.take k)/\Below w.heap.size w W/\(a.take k).foldl (mS s) (⟨#[]⟩,0)=(t,p));exact⟨0,0,⟨#[]⟩,by omega,rfl,rfl,rfl,rfl,by omega,mQ _,aA _ _,rfl⟩;obtain⟨k,p,t,hk,rfl,rfl,rfl,rfl,y,ht,u,v⟩:=hrel;have Q:=Qo a k;have R:t.size<=2000000000000000:=by omega
 have g:=u.size;by_cases B:k<m
 .have o:k<a.length:=by rw[C.out];exact B
  obtain⟨M,N,O⟩:=(I.out.below u) k o;have c:(a.take<|k+1).foldl (mS s) (⟨#[]⟩,0)=mS s (t,p) a[k]:=by
   rw[uM,aM o,Ci,v];rfl
  have A:(k:Int)<(m:Int):=by omega
  have l:=ah u;have q:jA (a.take<|k+1)=jA (a.take k)+a[k].n.size:=by rw[uM,aM o,Xr];simp[jA]
  generalize a[k]=e at*;obtain⟨f,i,F⟩:=e;simp only at M N O q;have r:=ah q;clear q;unfold mS CQ at c;simp only at c;clear u v;by_cases V:(p:Int)<=f
  .by_cases X:0<=i
   .by_cases Y:f<=(s.size:Int)
    .by_cases Z:i<=(s.size:Int) - f
     .obtain⟨d,rfl⟩:∃d:Nat,f=d:=⟨f.toNat,by omega⟩
      obtain⟨j,rfl⟩:∃j:Nat,i=j:=⟨i.toNat,by omega⟩
      rw[aj<|by simp;omega]at c;have D:((d:Int)).toNat=d:=(by omega);have E:((d:Int)+(j:Int)).toNat=d+j:=(by omega);rw[D,E]at c;have h:=ah c;have g1:¬(d:Int)<(p:Int):=(by omega);have g2:¬(j:Int)<0:=(by omega);have g3:¬(s.size:Int)<(d:Int):=(by omega);have g4:¬(s.size:Int) - (d:Int)<(j:Int):=(by omega);have g5:(d:Int)<=(s.size:Int):=(by omega);have hx:(s.extract p d).size=d - p:=(by rw[Ak];omega);have P:=r.out;have K:Hid ((t++s.extract p d++F).size<=d+j+jA (a.take<|k+1)):=by
       show _<=_;rw[C8,C8,hx];omega
      have L:F.size<=1000000000000000:=(by have:=Qo a<|k+1;omega);clear c D E r;go_wp2_with fail;go_quiet(fail);go_wp2;go_roundg (m - (k+1));exact⟨k+1,d+j,_,by omega,rfl,rfl,by go_num,by go_num,by omega,K.out,gH (l.out.alloc g _) _,h.out⟩;omega
     .rw[ai<|by simp;omega]at c;have h:=ah c;clear c;have g4:(s.size:Int) - f<i:=(by omega);have g3:¬(s.size:Int)<f:=(by omega);have g1:¬f<(p:Int):=(by omega);have g2:¬i<0:=(by omega);go_wp2;go_roundg (m - (k+1));exact⟨k+1,p,t,by omega,rfl,rfl,rfl,by go_num,y,by have:=r.out;omega,l.out.alloc g _,h.out⟩;omega
    .rw[ai<|by simp;omega]at c;have h:=ah c;clear c;have g3:(s.size:Int)<f:=(by omega);have g1:¬f<(p:Int):=(by omega);have g2:¬i<0:=(by omega);go_wp2;go_roundg (m - (k+1));exact⟨k+1,p,t,by omega,rfl,rfl,rfl,by go_num,y,by have:=r.out;omega,l.out.alloc g _,h.out⟩;omega
   .rw[ai<|by simp;omega]at c;have h:=ah c;clear c;have g2:i<0:=(by omega);have g1:¬f<(p:Int):=(by omega);go_wp2;go_roundg (m - (k+1));exact⟨k+1,p,t,by omega,rfl,rfl,rfl,by go_num,y,by have:=r.out;omega,l.out.alloc g _,h.out⟩;omega
  .rw[ai<|by simp;omega]at c;have h:=ah c;clear c;have g1:f<(p:Int):=(by omega);go_wp2;go_roundg (m - (k+1));exact⟨k+1,p,t,by omega,rfl,rfl,rfl,by go_num,y,by have:=r.out;omega,l.out.alloc g _,h.out⟩;omega
 .have e:a.take k=a:=ku (by rw[C.out];omega);rw[e]at v;have J:=ah v;have l:=ah u;have A:¬(k:Int)<(m:Int):=by omega
  clear v u e;go_wp2;go_ret;exact⟨by rw[J.out];rfl,l.out⟩
def arf {P:Program}{c:Array Oper}{o:Oper}{a:Act}{w:World}{K:Act->World->Prop}{Q:Exit->Act->World->Prop}{E:Prop}(d:o.guard=none)(f:FuncId)(y x:Tmp)(q:TypeId)
  (m:o.op= .call {callee:= .value (.tmp y),args:=#[.tmp x],argTypes:=#[q]}) (j:a.eval (.tmp y)= .func (.func f) #[] #[]) (g:∀args w,(callFunc f args).run P w= .ok (.enter f args) w) (v:Value) (i:a.eval (.tmp x)=v) (R:Value->World->Prop)
  (l:Calls P f #[v] w λe b=>∃u,e= .returned u/\R u b) (h:∀u b,R u b->K (a.put o.dst u) b):if Region.wanted o (yielded c a.tmps)=true then Oper.wp P o a w K Q else E:=by
 have p:Region.wanted o (yielded c a.tmps)=true:=by simp[Region.wanted,d]
 rw[aj p];have n:(execOp a.eval o).run P w= .ok (.enter f #[v]) w:=by
  simp only[Act.eval]at j i;simp[execOp,m,resolve,invoke,g,Act.eval,j,i,go_sem]
 unfold Oper.wp;rw[n,ZY];refine l.mono ?_;rintro e b ⟨u,rfl,k⟩;exact h u b k
def aqa(r:Nat)(i:256<=r)(j:r<55296)(w:World):Calls prog 221 #[.int .i32 r] w λe c=>e= .returned (.int .i64 (wd r:Nat))/\c=w:=by
 have d:¬(r:Int)<0:=by omega
 have f:¬(r:Int)<=127:=by omega
 have g:¬(55296:Int)<=r:=by omega
 have h:(r:Int)<=65535:=by omega
 rw[wd,ai<|by omega];by_cases a:(r:Int)<2048
 .have b:(r:Int)<=2047:=by omega
  rw[aj a];go_enter func221,ntmps221;go_wp2;go_ret;exact⟨rfl,rfl⟩
 .have b:¬(r:Int)<=2047:=by omega
  rw[ai a,aj<|by omega];go_enter func221,ntmps221;go_wp2;go_ret;exact⟨rfl,rfl⟩
def Tryz.Vp:(prog.info? 66).map (λi=>(i.zero,i.size,i.bytes))=some (some (.agg #[.int .i64 0,.int .i64 0,.string ⟨#[]⟩]),3,32):=by kernel_rfl
def KD(e:Ed):List Value:=[.int .i64 e.a,.int .i64 e.c,.string e.n]
def bY(a:List Ed):List Value:=a.flatMap KD
def Co(a b:List Ed):bY (a++b)=bY a++bY b:=by simp[bY]
def jD(a:Int->Bool)(b:Nat->ByteArray):List Int->Nat->List Ed
 |[],_=>[]
 |r::rs,p=>if a r then⟨p,wd r,b r.toNat⟩::jD a b rs (p+wd r)else jD a b rs (p+wd r)
def Mr(w:World)(a b c:Value)(e:TypeId):∀j u,[a,b,c][j]? =some u->(w.alloc (.cells #[a,b,c] e)).cell? ((⟨w.heap.size,0,none⟩:Addr).add j)=some u:=by
 intro j u h
 match j,h with
 |0,h=>simp at h;subst h;simp[Addr.add]
 |1,h=>simp at h;subst h;simp[Addr.add]
 |2,h=>simp at h;subst h;simp[Addr.add]
 |j+3,h=>simp at h
def Fv(s:ByteArray)(D C E a f:Nat)(M:List Int)(U G:Nat)(y:Int->Bool)(i:Nat->ByteArray)(w:World)(af:a<=f)(ag:f<=s.size)(hs:s.size<=100000)(hr:eZ (s.extract a f)=some M)
  (Ij:∀args w,(callFunc U args).run prog w= .ok (.enter U args) w) (K:∀args w,(callFunc G args).run prog w= .ok (.enter G args) w)
  (hm:∀r W,Below w.heap.size w W->Calls prog U #[.int .i32 r] W λe d=>e= .returned (.bool<|y r)/\Below W.heap.size W d)
  (hw:∀(r:Nat) W,y r=true->Below w.heap.size w W->Calls prog G #[.int .i32 r] W λe d=>e= .returned (.string<|i r)/\Below W.heap.size W d)
  (hB:∀r:Int,y r=true->256<=r/\r<55296):
  Calls prog 169 #[.string s,.agg #[.int .i64 D,.int .i64 C,.int .i64 E,.int .i64 a,.int .i64 f],.func (.func U) #[] #[],.func (.func G) #[] #[]] w λe d=>∃v,e= .returned v/\d.ownsRow w.heap.size 66 3 v (jD y i M a).length (bY<|jD y i M a)/\Below w.heap.size w d:=by
 obtain⟨iE,sU,ab,ad,ae⟩:=gu Tryz.Vp;have HM:=ah hm;have HW:=ah hw;have tH:=ah hB;have Y:=ah K;have ao:(s.extract a f).size<=f - a:=by rw[Ak];omega
 have ze:=ah<|uw hr;obtain⟨R,hR⟩:=ac<|jD y i M a;rw[<-hR];have HR:=ah hR.symm;clear hm hw hB hr hR K;go_enter func169,ntmps169;go_wp2;generalize s.extract a f=z at*;have D8:(w.alloc (.cells #[.int .i64 D,.int .i64 C,.int .i64 E,.int .i64 a,.int .i64 f] 75)).heap.size=w.heap.size+1:=by simp
 go_loopg [9,10,11] z.size (λgk v _ _ W=>∃(p:Nat)(F:List Int)(b:List Ed),p<=z.size/\gk=z.size - p/\RA z p F/\b++jD y i F (a+p)=R/\b.length<=p/\W.ownsRow w.heap.size 66 3 v b.length (bY b)
  /\W.heap[w.heap.size+1]? =some (.stringIter z p)/\W.heap[w.heap.size]? =some (.cells #[.int .i64 D,.int .i64 C,.int .i64 E,.int .i64 a,.int .i64 f] 75 (0,0))/\Below w.heap.size w W)
 case atStart=>
  refine⟨0,M,[],by omega,rfl,ze.out,HR.out,by simp,gQ _ _ _ _,?_,?_,((aA _ _).alloc (au _) _).alloc (by simp) _⟩
  .have:=GZ (w.alloc (.cells #[.int .i64 D,.int .i64 C,.int .i64 E,.int .i64 a,.int .i64 f] 75)) z 0;rw[D8]at this;exact this
  .exact(dw _ _ _ (by simp)).trans (World.alloc_heap_new _ _)
 case round=>
  obtain⟨p,Es,b,hp,rfl,Q,t,ak,c,hit,uf,S⟩:=hrel;obtain⟨ea,ec,rfl⟩:=eH c;cases Es with
  |cons r F=>
   obtain⟨wi,n,J,rK,I,hn,A,mN,O,B⟩:=Vx Q hit S (by omega);have l:wi.ownsRow w.heap.size 66 3 (.slice ea b.length ec) b.length (bY b):=nB c λk o hk ho=>by rw[B,GJ];exact ho;rintro rfl;exact Bp c hit hk
   have lY:Hid (wi.heap[w.heap.size]? =some (.cells #[.int .i64 D,.int .i64 C,.int .i64 E,.int .i64 a,.int .i64 f] 75 (0,0))):=(by show _=_;rw[B,GJ _ _ _ _ _ (by omega)];exact uf);have Av:=ah l;have tK:=ah rK;rw[jD,A]at t;have xG:=HM.out r wi O.out;clear Q rK hit S c l uf B;go_wp2_with fail;refine xG.mono ?_;rintro ev m ⟨rfl,j⟩;have qM:=ah<|bq j mN.out;have P:=ah<|O.out.trans<|j.mono O.out.size;have ir:=ah<|bq j lY.out;have mO:=ah<|iZ Av.out j;clear J j xG mN O lY Av;cases hh:y r
   .rw[hh,ai<|by simp]at t;have H:=ah t;clear t;go_wp2;go_roundg (z.size - (p+n));exact⟨p+n,F,b,I,rfl,tK.out,by rw[<-pH];exact H.out,by omega,mO.out,qM.out,ir.out,P.out⟩;omega
   .obtain⟨al,am⟩:=tH.out r hh;obtain⟨g,rfl⟩:∃k:Nat,r=k:=⟨r.toNat,by omega⟩
    rw[hh,aj rfl]at t;have H:Hid ((b++[⟨((a+p:Nat):Int),(n:Nat),i g⟩])++jD y i F (a+p+n)=R):=(by show _=_;rw[<-t,dO];simp);clear t;have Au:Hid (∀args w,(callFunc 221 args).run prog w= .ok (.enter 221 args) w):=jE func221 (by kernel_rfl) (by kernel_rfl);have pY:Hid (Calls prog 221 #[.int .i32 g] m.drew λe d=>∃u,e= .returned u/\(u= .int .i64 (n:Nat)/\d=m.drew)):=(aqa g (by omega) (by omega) _).mono (λe d h=>⟨_,h.1,by rw[A],h.2⟩);have pZ:Hid (Calls prog G #[.int .i32 g] m.drew λe d=>∃u,e= .returned u/\(u= .string (i g)/\Below m.drew.heap.size m.drew d)):=(HW.out g m.drew hh P.out.drew).mono (λe d h=>⟨_,h.1,rfl,h.2⟩);have c3:m.cell? ⟨w.heap.size,3,none⟩=some (.int .i64 a):=az ir.out 3;have aa:=P.out.size;have an:=wrap_small ((a:Int)+(p:Int)) (by omega) (by omega);have cN:Hid (b.length<=1000000):=(by show _<=_;omega);clear A hh;go_wp2_with fail
    go_region_law (first
     |(refine agl (by rfl) 221 _ 21 (by rfl) Au.out (.int .i32 g) (by rfl) (λu d=>u= .int .i64 (n:Nat)/\d=m.drew) pY.out ?_;rintro u w6 ⟨rfl,h6⟩;subst h6)
     |(refine arf (by rfl) G _ _ 21 (by rfl) (by rfl) Y.out (.int .i32 g) (by rfl) (λu d=>u= .string (i g)/\Below m.drew.heap.size m.drew d) pZ.out ?_;rintro u q ⟨rfl,L⟩;have lV:Hid (Below w.heap.size w q):=P.out.drew.trans<|L.mono aa;have RZ:Hid (q.heap[w.heap.size]? =some (.cells #[.int .i64 D,.int .i64 C,.int .i64 E,.int .i64 a,.int .i64 f] 75 (0,0))):=bq L ir.out;have Jp:Hid (q.heap[w.heap.size+1]? =some (.stringIter z<|p+n)):=bq L qM.out;have N:q.ownsRow w.heap.size 66 3 (.slice ea b.length ec) b.length (bY b):=iZ (w:=m.drew) mO.out L;have t3:q.cell? ⟨w.heap.size,3,none⟩=some (.int .i64 a):=az RZ.out 3;have Un:=lV.out.size;clear L pZ)
     |(refine Gh (by rfl) _ _ 37 (by rfl) w.heap.size 66 iE (.agg #[.int .i64 0,.int .i64 0,.string ⟨#[]⟩]) 3 32 underlying37 sU ab ad ae rfl (by decide) (by decide) (.slice ea b.length ec) b.length (bY b) (by rfl) (kT N (.cells #[.int .i64 ((a:Int)+(p:Int)),.int .i64 (n:Nat),.string (i g)] 66)) q.heap.size [.int .i64 ((a:Int)+(p:Int)),.int .i64 (n:Nat),.string (i g)] (by rfl) (by rfl) (Mr q _ _ _ _) (by intro u hu;simp at hu;rcases hu with rfl|rfl|rfl<;>rfl) cN.out (by simp;omega) ?_;intro v8 V yu T _;have rO:Hid (Below w.heap.size w V):=(lV.out.alloc Un _).grown T (by simp;omega) (λx hx=>(N.lt x hx).1);have Z:Hid (V.heap[w.heap.size]? =some (.cells #[.int .i64 D,.int .i64 C,.int .i64 E,.int .i64 a,.int .i64 f] 75 (0,0))):=by{show _=_;rw[T.block w.heap.size (by simp;omega)<|NR<|jG N RZ.out<|by decide];exact bq ((aA q.heap.size q).alloc (au _) _) RZ.out};have X:Hid (V.heap[w.heap.size+1]? =some (.stringIter z<|p+n)):=by{show _=_;rw[T.block (w.heap.size+1) (by have:=bS Jp.out;simp;omega)<|NR<|Bp N Jp.out];exact bq ((aA q.heap.size q).alloc (au _) _) Jp.out};have JC:Hid (V.ownsRow w.heap.size 66 3 v8 (b.length+1)<|bY b++[.int .i64<|(a:Int)+(p:Int),.int .i64 (n:Nat),.string<|i g]):=yu;clear yu T))
    all_goals
     go_wp2;go_roundg (z.size - (p+n));exact⟨p+n,F,_,I,rfl,tK.out,by rw[<-pH];exact H.out,by simp;omega,by rw[Co,bH];exact JC.out,X.out,Z.out,rO.out⟩;omega
  |nil=>
   have HB:=ah S;have HO:=ah c;have H:Hid (b=R):=(by show _=_;rw[<-t];simp[jD]);have J:∀ty,(Instr.next (.pointer<|some ⟨w.heap.size+1,0,none⟩) true ty).run prog wr= .ok (.tuple #[.bool false]) wr:=λty=>GK wr (w.heap.size+1) z p ty hit<|by have:p=z.size:=Q;omega
   clear S t hit Q c uf;go_wp2;go_ret;exact⟨_,rfl,by rw[<-H.out];exact HO.out,HB.out⟩
def ap0 {P:Program}(w:World)(B J:Nat)(t I e:TypeId)(i:TypeInfo)(z:Value)(size bytes:Nat)(E:P.underlying t=some (.slice e))(C:P.info? e=some i)(S:i.zero=some z)
  (c:i.size=size) (s:i.bytes=bytes) (G:z.cells.size=size) (D:0<size) (v u:Value) (n m:Nat) (H l:List Value) (F:w.ownsRow B e size v n H) (o:w.ownsRow J e size u m l)
  (K:∀y∈l,y.oneCell'=true) (q:n+m<=maxLen) (a:(n+m)*bytes<=140737488355328) (b:B<=w.heap.size):
  ∃f k,(Builtin.append_ #[t,t] I #[v,u]).run P w= .ok f k/\k.ownsRow B e size f (n+m) (H++l)/\w.grownBy k v.ownBlock/\(f.ownBlock=v.ownBlock∨f.ownBlock=some w.heap.size):=by
 rcases o.2 with⟨rfl,rfl⟩|⟨g,h,p,rfl,r,Q,j,x,A,d⟩
 .have R:l=[]:=JZ (by simpa using o.1);subst R;refine⟨v,w,?_,by simpa using F,jO _ _,.inl rfl⟩;rcases F.2 with⟨rfl,rfl⟩|⟨g,h,p,rfl,r,Q,j,x,A,d⟩
  .simp[Builtin.append_,Bv E,sizeOf,typeInfo,C,Builtin.lenOf,Builtin.firstCells]
  .simp[Builtin.append_,Bv E,sizeOf,typeInfo,C,Builtin.lenOf,Builtin.firstCells,loadCells,j];rfl
 .obtain⟨f,k,L,M,N,_,O⟩:=gT (P:=P) w B t I e i z size bytes E C S c s G D v n H F ⟨g,0,none⟩ m h l o.1 (o.cells (g:=g) rfl) K q a b;exact⟨f,k,L,M,N,O⟩
def Jc {P:Program}(w:World){g:Array Oper}{rest:List Oper}{o:Oper}{a:Act}{Q:Exit->Act->World->Prop}(p:o.guard=none)(s x:Operand)(t:TypeId)
  (J:o.op= .call {callee:= .builtin .append,args:=#[s,x],argTypes:=#[t,t]})
  (B C:Nat) (e:TypeId) (i:TypeInfo) (z:Value) (size bytes:Nat) (N:P.underlying t=some (.slice e)) (I:P.info? e=some i) (S:i.zero=some z)
  (d:i.size=size) (l:i.bytes=bytes) (r:z.cells.size=size) (q:0<size) (T:bytes<=64) (v u:Value) (n m:Nat) (A k:List Value) (M:a.eval s=v) (hx:a.eval x=u) (R:w.ownsRow B e size v n A) (O:w.ownsRow C e size u m k)
  (D:∀y∈k,y.oneCell'=true) (V:n<=1000000) (U:m<=1000000) (c:B<=w.heap.size)
  (h:∀f j,j.ownsRow B e size f (n+m) (A++k)->w.grownBy j v.ownBlock->(f.ownBlock=v.ownBlock∨f.ownBlock=some w.heap.size)->wpList P g Q rest (a.put o.dst f) j):wpList P g Q (o::rest) a w:=by
 refine wpList_plain p λK H=> ?_
 have b:(n+m)*bytes<=140737488355328:=by
  have:(n+m)*bytes<=2000000*64:=zl (by omega) T;omega
 obtain⟨f,j,L,E,F,G⟩:=ap0 (P:=P) w B C t o.type e i z size bytes N I S d l r q v u n m A k R O D (by unfold maxLen;omega) b c;unfold Oper.wp execOp;simp only[J,resolve,invoke,builtin,GY,Z0,SD,ZQ,mP,Dq,M,hx,L];exact H _ _ (h f j E F G)
def PW(w:World)(B:Nat)(e:TypeId)(a b c:Value)(d:B<=w.heap.size):(w.alloc (.cells #[a,b,c] e)).ownsRow B e 3 (.slice (some ⟨w.heap.size,0,none⟩) 1 1) 1 [a,b,c]:=
 ⟨rfl,.inr ⟨w.heap.size,1,#[a,b,c],rfl,d,World.alloc_heap_new _ _,au _,by decide,rfl,rfl⟩⟩
def Kt(r:Int)(h:cls r=1∨cls r=2∨cls r=6∨13<=cls r):256<=r/\r<55296:=by
 unfold cls at h
 repeat' split at h
 all_goals omega
def K4(r:Int)(h:eX r=true):256<=r/\r<55296:=by
 unfold eX at h;simp only[Gn,zx,DD]at h;rcases h with(((h|h)|h)|h)|h
 .exact Kt r (by omega)
 .exact Kt r (by omega)
 .exact Kt r (by omega)
 .exact Kt r (by omega)
 .omega
def Ej {w:World}{B c:Nat}{e:TypeId}{z n:Nat}{v:Value}{d:List Value}(h:w.ownsRow c e z v n d)(k:B<=c):w.ownsRow B e z v n d:=by
 refine⟨h.1,?_⟩;rcases h.2 with h|⟨g,a,b,f,i,j⟩
 .exact .inl h
 .exact .inr ⟨g,a,b,f,bP k i,j⟩
def zA(r:Nat):ByteArray:=⟨#[92,117]⟩++iK oZ r
def uo(r:Nat):ByteArray:=⟨#[60,85,43]⟩++iK tC r++⟨#[62]⟩
def qJ(r:Int):Bool:=jJ<|cls r
def XE(r:Int)(h:qJ r=true):256<=r/\r<55296:=by
 unfold qJ jJ at h;simp only[ED,DD]at h;exact Kt r<|by omega
def kH(s:ByteArray)(x:PR):List Ed:=
 if x.kind=1 then jD eX zA (vF s x.body x.end_) x.body
 else if x.kind=2/\nV (vF s x.body x.end_) x.body≠ -1 then [⟨x.body,0,⟨#[226,129,168]⟩⟩]++jD qJ uo (vF s x.body x.end_) x.body++[⟨x.end_,0,⟨#[226,129,169]⟩⟩]
 else []
def N2(b:Int->Bool)(c:Nat->ByteArray):∀(a:List Int)(p:Nat),(jD b c a p).length<=a.length
 |[],_=>au _
 |r::a,p=>by
  have:=N2 b c a<|p+wd r;unfold jD;split<;>simp<;>omega
def Hp(c:List Ed):∀y∈bY c,y.oneCell'=true:=by
 intro y b;unfold bY at b;obtain⟨e,_,a⟩:=GQ.1 b;simp only[KD,fW,J6,F4]at a;rcases a with rfl|rfl|rfl<;>rfl
def akc(s:ByteArray)(x:PR)(w:World)(hs:s.size<=100000)(D:Sp w)(H:qf w)(hx:zo s x):
  Calls prog 103 #[.string s,tj x] w λe g=>∃v,e= .returned v/\g.ownsRow w.heap.size 66 3 v (kH s x).length (bY<|kH s x)/\Below w.heap.size w g:=by
 obtain⟨iE,sU,N,O,P⟩:=gu Tryz.Vp;obtain⟨xl,J,A,B,c,j⟩:=x;obtain⟨ft,tl,⟨rs,n⟩,C⟩:=hx;simp only at ft tl n C;unfold tj kH vF;simp only;obtain⟨d,a⟩:=ac<|w.alloc (.cells #[.int .i64 J,.int .i64 A,.int .i64 B,.int .i64 c,.int .i64 j] 75);have k:Hid (Below w.heap.size w d):=by show Below _ _ _;rw[a];exact(aA _ _).alloc (au _) _
 have y:w.heap.size<=d.heap.size:=k.out.size;have S:∀r W,Below d.heap.size d W->Calls prog 170 #[.int .i32 r] W λe g=>e= .returned (.bool<|eX r)/\Below W.heap.size W g:=λr W i=>Vt r W<|D.below<|k.out.trans<|i.mono y
 have o:∀(r:Nat) W,eX r=true->Below d.heap.size d W->Calls prog 171 #[.int .i32 r] W λe g=>e= .returned (.string<|zA r)/\Below W.heap.size W g:=λr W h i=>akG r (by have:=K4 r h;omega) (by have:=K4 r h;omega) W<|eu (k.out.trans<|i.mono y) H
 have l:∀r W,Below d.heap.size d W->Calls prog 172 #[.int .i32 r] W λe g=>e= .returned (.bool<|qJ r)/\Below W.heap.size W g:=λr W i=>Vv r W<|D.below<|k.out.trans<|i.mono y
 have p:∀(r:Nat) W,qJ r=true->Below d.heap.size d W->Calls prog 173 #[.int .i32 r] W λe g=>e= .returned (.string<|uo r)/\Below W.heap.size W g:=λr W h i=>anS r (by have:=XE r h;omega) (by have:=XE r h;omega) W<|eu (k.out.trans<|i.mono y) H
 by_cases h1:J=1
 .subst h1;obtain⟨T,U,⟨t,b⟩⟩:=C (by omega);rw[aj rfl,b];simp only[tW];have F:=Fv s 1 A B c j t 170 171 eX zA d T U hs b (jE func170 (by kernel_rfl)<|by kernel_rfl) (jE func171 (by kernel_rfl)<|by kernel_rfl) S o K4;generalize jD eX zA t c=R at*;rw[a]at F;clear S o l p n C D H b;go_enter func103,ntmps103;go_wp2_with fail;refine F.mono ?_;rintro ev z ⟨v,rfl,I,f⟩;rw[<-a]at I f;have HO:=ah<|Ej I y;have K:=ah<|k.out.trans<|f.mono y;clear I f F;go_wp2;go_ret;exact⟨_,rfl,HO.out,K.out⟩
 have ab:((J:Int)==1)=false:=by simp;omega
 rw[ai h1];by_cases h2:J=2
 .subst h2;obtain⟨T,U,⟨t,b⟩⟩:=C (by omega);rw[b];simp only[tW,oC];have G:=EJ s c j t d T U hs b<|D.below k.out;have M:t.length<=100000:=by
   have:=MI<|uw b;rw[Ak]at this;omega
  have Z:Hid ((jD qJ uo t c).length<=100000):=bP (N2 _ _ _ _) M;have JW:Hid (d.heap[w.heap.size]? =some (.cells #[.int .i64 (2:Nat),.int .i64 A,.int .i64 B,.int .i64 c,.int .i64 j] 75 (0,0))):=by show _=_;rw[a];exact World.alloc_heap_new _ _
  generalize nV t c=q at*;cases hq:q== -1
  .have m:q≠ -1:=(by simpa using hq);rw[aj m];have F:Hid (∀W,Below d.heap.size d W->Calls prog 169 #[.string s,.agg #[.int .i64 (2:Nat),.int .i64 A,.int .i64 B,.int .i64 c,.int .i64 j],.func (.func 172) #[] #[],.func (.func 173) #[] #[]] W λe g=>∃v,e= .returned v/\g.ownsRow W.heap.size 66 3 v (jD qJ uo t c).length (bY<|jD qJ uo t c)/\Below W.heap.size W g):=λW i=>
    Fv s 2 A B c j t 172 173 qJ uo W T U hs b (jE func172 (by kernel_rfl)<|by kernel_rfl) (jE func173 (by kernel_rfl)<|by kernel_rfl) (λr V hV=>l r V<|i.trans<|hV.mono i.size) (λr V h hV=>p r V h<|i.trans<|hV.mono i.size) XE
   generalize jD qJ uo t c=R at*;rw[a]at G;clear S o l p n C D H b m M;go_enter func103,ntmps103;go_wp2_with fail;refine G.mono ?_;rintro ev z ⟨rfl,f⟩;rw[<-a]at f;have aD:=ah f;have E:=ah<|bq f JW.out;have ae:=bS E.out;have c0:=az E.out 0;have c1:=az E.out 1;have c2:=az E.out 2;have c3:=az E.out 3;have c4:=az E.out 4;have L:=f.size;clear f G;go_wp2_with fail;refine(F.out _ (aD.out.alloc L _)).mono ?_;rintro ev w3 ⟨v,rfl,I,u⟩;have Y:w3.ownsRow w.heap.size 66 3 (.slice (some ⟨z.heap.size,0,none⟩) 1 1) 1 (bY [⟨c,0,⟨#[226,129,168]⟩⟩]):=iZ (PW z w.heap.size 66 _ _ _ (by omega)) u;have ir:Hid (w3.heap[w.heap.size]? =some (.cells #[.int .i64 (2:Nat),.int .i64 A,.int .i64 B,.int .i64 c,.int .i64 j] 75 (0,0))):=bq u<|bq ((aA z.heap.size z).alloc (au _) _) E.out;have aG:Hid (Below w.heap.size w w3):=k.out.trans<|(aD.out.trans<|((aA z.heap.size z).alloc (au _) (.cells #[.int .i64 c,.int .i64 0,.string ⟨#[226,129,168]⟩] 66)).mono L|>.trans (u.mono<|by simp;omega)).mono y;have Q:=aG.out.size;clear u F c0 c1 c2 c3 c4;go_wp2_with(at_builtin;refine Jc _ rfl _ _ 37 rfl w.heap.size _ 66 iE (.agg #[.int .i64 0,.int .i64 0,.string ⟨#[]⟩]) 3 32 underlying37 sU N O P rfl (by decide) (by decide) _ _ _ _ _ _ rfl rfl Y I (Hp _) (by omega) (bP Z.out<|by omega) Q ?_);intro v5 w5 X bU _;have GH:Hid (w5.heap[w.heap.size]? =some (.cells #[.int .i64 (2:Nat),.int .i64 A,.int .i64 B,.int .i64 c,.int .i64 j] 75 (0,0))):=(by show _=_;rw[bU.block w.heap.size (bS ir.out)<|NR<|jG Y ir.out<|by decide];exact ir.out);have bG:Hid (Below w.heap.size w w5):=aG.out.grown bU Q (λx hx=>(Y.lt x hx).1);have af:=bS GH.out;have jg:=bG.out.size;have c4:=az GH.out 4;rw[<-Co]at X;have aa:=Z.out;clear Y I bU Z;go_wp2_with(at_builtin;refine Jc _ rfl _ _ 37 rfl w.heap.size w.heap.size 66 iE (.agg #[.int .i64 0,.int .i64 0,.string ⟨#[]⟩]) 3 32 underlying37 sU N O P rfl (by decide) (by decide) _ _ _ _ _ _ rfl rfl (kT X _) (PW w5 w.heap.size 66 _ _ _ jg) (Hp [⟨j,0,⟨#[226,129,169]⟩⟩]) (by omega) (by omega) (by simp;omega) ?_);intro v6 w6 rH iL _;have JB:Hid (w6.ownsRow w.heap.size 66 3 v6 (1+R.length+1)<|bY ([⟨c,0,⟨#[226,129,168]⟩⟩]++R)++bY [⟨j,0,⟨#[226,129,169]⟩⟩]):=rH;have dR:Hid (Below w.heap.size w w6):=(bG.out.alloc jg _).grown iL (by simp;omega) (λx hx=>(X.lt x hx).1);clear rH iL X;go_wp2;go_ret;refine⟨_,rfl,?_,dR.out⟩;have h:=JB.out;rw[<-Co,show 1+R.length+1=(R++[(⟨j,0,⟨#[226,129,169]⟩⟩:Ed)]).length+1 by simp;omega]at h;exact h
  .have m:¬q≠ -1:=(by simpa using hq);rw[ai m];rw[a]at G;clear S o l p n C D H b m;go_enter func103,ntmps103;go_wp2_with fail;refine G.mono ?_;rintro ev z ⟨rfl,f⟩;rw[<-a]at f;have K:=ah<|k.out.trans<|f.mono y;clear f G;go_wp2;go_ret;exact⟨_,rfl,gQ _ _ _ _,K.out⟩
 .have ad:((J:Int)==2)=false:=by simp;omega
  rw[ai λh=>h2 h.1];have K:Hid (Below w.heap.size w<|w.alloc (.cells #[.int .i64 J,.int .i64 A,.int .i64 B,.int .i64 c,.int .i64 j] 75)):=a▸k.out;clear S o l p n C D H h1 h2 a k;go_enter func103,ntmps103;go_wp2;go_ret;exact⟨_,rfl,gQ _ _ _ _,K.out⟩
def IK(k:Nat)(p:Nat)(r:Int):List Ed:=if k=1 then [⟨p,wd r,zA r.toNat⟩]else if 13<=cls r then [⟨p,wd r,uo r.toNat⟩]else []
def gU(s:ByteArray)(x:PR):List Int->Nat->Bool->List Ed->Int×Bool×List Ed
 |[],_,sm,own=>(-1,sm,own)
 |r::rs,p,sm,own=>
  if eX r=true/\x.from_<=p/\p<x.dH then
   if x.kind=0∨x.kind=1/\oN s p x.body=true then((p:Int),sm,own)
   else gU s x rs (p+wd r) true (own++IK x.kind p r)
  else gU s x rs (p+wd r) sm own
def F5(x:PR)(q:Bool×List Ed):List Ed:=if x.kind=2/\q.1=true then [⟨x.body,0,⟨#[226,129,168]⟩⟩]++q.2++[⟨x.end_,0,⟨#[226,129,169]⟩⟩]else q.2
def vA(s:ByteArray)(a:List Int):List PR->List Ed->List Ed×Int
 |[],l=>(l, -1)
 |x::xs,l=>if 0<=(gU s x a 0 false []).1 then([],(gU s x a 0 false []).1)else vA s a xs (l++F5 x (gU s x a 0 false []).2)
def agm {P:Program}{d:Array Oper}{o:Oper}{a:Act}{w:World}{K:Act->World->Prop}{Q:Exit->Act->World->Prop}{E:Prop}(g:o.guard=none)(f:FuncId)(x:Tmp)(c:Value)(r j:TypeId)
  (n:o.op= .call {callee:= .value (.func f),args:=#[.tmp x,.const c],argTypes:=#[r,j]}) (i:∀args w,(callFunc f args).run P w= .ok (.enter f args) w) (v:Value) (k:a.eval (.tmp x)=v) (R:Value->World->Prop)
  (m:Calls P f #[v,c] w λe b=>∃u,e= .returned u/\R u b) (h:∀u b,R u b->K (a.put o.dst u) b):if Region.wanted o (yielded d a.tmps)=true then Oper.wp P o a w K Q else E:=by
 have q:Region.wanted o (yielded d a.tmps)=true:=by simp[Region.wanted,g]
 rw[aj q];have p:(execOp a.eval o).run P w= .ok (.enter f #[v,c]) w:=by
  simp only[Act.eval]at k;simp[execOp,n,resolve,invoke,i,Act.eval,k,go_sem]
 unfold Oper.wp;rw[p,ZY];refine m.mono ?_;rintro e b ⟨u,rfl,l⟩;exact h u b l
def akH(s:ByteArray)(f t:Nat)(c:t<=s.size)(b:s.size<=100000)(w:World):Calls prog 136 #[.string s,.int .i64 f,.int .i64 t] w λe d=>e= .returned (.bool<|oN s t f)/\d=w:=by
 by_cases a:f<=t
 .exact akI s f t a c b w
 .rw[oN,ai<|by omega];have h:¬(f:Int)<(t:Int):=by omega
  go_enter func136,ntmps136;go_wp2;refine fV 1 ?_;rw[bN];go_wp2;go_ret;exact⟨rfl,rfl⟩
def sW(l:List Int):Nat:=(l.map wd).sum
def Qv(r:Int):0<wd r:=by
 unfold wd;split
 .omega
 split
 .omega
 split<;>omega
def zZ(r:Int)(l:List Int):sW (r::l)=wd r+sW l:=by simp[sW]
def Pz(s:ByteArray)(x:PR)(B:List Int):∀(A:List Int)(p:Nat)(a:Bool)(own:List Ed),(∀r∈A,eX r=false)->gU s x (A++B) p a own=gU s x B (p+sW A) a own
 |[],p,a,own,_=>by simp[sW]
 |r::A,p,a,own,h=>by
  rw[uL,gU,ai<|by rw[h r<|by simp];simp,Pz s x B A _ a own (λy b=>h y<|by simp[b]),zZ,pH]
def LU(s:ByteArray)(x:PR)(B:List Int):∀(A:List Int)(p:Nat)(b:Bool)(own:List Ed),p+sW A<=x.from_->gU s x (A++B) p b own=gU s x B (p+sW A) b own
 |[],p,b,own,_=>by simp[sW]
 |r::A,p,b,own,h=>by
  have:=Qv r;rw[zZ]at h;rw[uL,gU,ai λa=>by have:=a.2.1;omega,LU s x B A _ b own (by omega),zZ,pH]
def Vn(s:ByteArray)(x:PR):∀(B:List Int)(p:Nat)(b:Bool)(own:List Ed),x.dH<=p->gU s x B p b own=(-1,b,own)
 |[],_,_,_,_=>rfl
 |r::B,p,b,own,h=>by rw[gU,ai λa=>by have:=a.2.2;omega,Vn s x B _ b own (by omega)]
def L3(s:ByteArray)(x:PR)(a:x.kind=0)(B:List Int):∀(M:List Int)(p:Nat),x.from_<=p->p+sW M<=x.dH->nV M p≠ -1->(gU s x (M++B) p false []).1=nV M p
 |[],_,_,_,h=>absurd rfl h
 |r::M,p,h1,h2,h3=>by
  have:=Qv r;rw[zZ]at h2;rw[nV]at h3;rw[uL,gU,nV];cases hh:eX r
  .rw[hh,ai<|by simp]at h3;rw[ai<|by simp,ai<|by simp];exact L3 s x a B M _ (by omega) (by omega) h3
  .rw[aj ⟨rfl,h1,by omega⟩,aj (.inl a),aj rfl]
def KG:∀(M:List Int)(p:Nat),nV M p= -1↔∀r∈M,eX r=false
 |[],_=>by simp[nV]
 |r::M,p=>by
  rw[nV];cases hh:eX r
  .rw[ai<|by simp,KG M];simp[hh]
  .rw[aj rfl];constructor
   .intro h;omega
   .intro h;have:=h r (by simp);rw[hh]at this;cases this
def agG(r:Int):qJ r=decide (13<=cls r):=by unfold qJ jJ;rw[mz (Hh r).2,Bool.and_true]
def agH(r:Int)(h:eX r=false):qJ r=false:=by
 rw[agG];unfold eX at h;simp only[Gm,Cm]at h;exact rB<|by have:=h.1.2;omega
def Vo(s:ByteArray)(x:PR)(c:x.kind=2)(B:List Int):∀(M:List Int)(p:Nat)(a:Bool)(own:List Ed),x.from_<=p->p+sW M<=x.dH->gU s x (M++B) p a own=gU s x B (p+sW M) (a||M.any eX) (own++jD qJ uo M p)
 |[],p,a,own,_,_=>by simp[sW,jD]
 |r::M,p,a,own,h1,h2=>by
  have:=Qv r;rw[zZ]at h2;rw[uL,gU,jD,Nz,zZ];cases hh:eX r
  .rw[ai<|by simp,agH r hh,ai<|by simp,C7,Vo s x c B M _ a own (by omega) (by omega),pH]
  .rw[aj ⟨rfl,h1,by omega⟩,ai (by rw[c];rintro(h|⟨h,_⟩)<;>cases h),Vo s x c B M _ true _ (by omega) (by omega),pH,IK,ai<|by rw[c];decide,agG];by_cases b:13<=cls r
   .rw[aj b,mz b,aj rfl];simp
   .rw[ai b,rB b,ai<|by simp];simp
def Fh:Bool->List Int->Bool
 |e,[]=>e
 |e,r::rs=>Fh (r==92&& !e) rs
def M8(s:ByteArray)(x:PR)(b:x.kind=1)(B:List Int):∀(M:List Int)(e:Bool)(p:Nat)(a:Bool)(own:List Ed),x.from_<=p->p+sW M<=x.dH->(∀A r C,M=A++r::C->oN s (p+sW A) x.body=Fh e A)->
  (sJ M e p≠ -1->(gU s x (M++B) p a own).1=sJ M e p)/\(sJ M e p= -1->gU s x (M++B) p a own=gU s x B (p+sW M) (a||M.any eX) (own++jD eX zA M p))
 |[],e,p,a,own,_,_,_=>by simp[sW,jD,sJ]
 |r::M,e,p,a,own,h1,h2,hF=>by
  have:=Qv r;rw[zZ]at h2;have c:oN s p x.body=e:=by have:=hF [] r M rfl;simpa [sW,Fh]using this
  have ih:=λa own=>M8 s x b B M (r==92&& !e) (p+wd r) a own (by omega) (by omega) (λA y C h=>by
   have:=hF (r::A) y C (by rw[h];rfl);rw[zZ,<-pH]at this;exact this)
  rw[uL,gU,jD,Nz,zZ,sJ];cases hh:eX r
  .rw[Yh,ai<|by simp,ai<|by simp,ai<|by simp,C7,<-pH];exact ih a own
  .cases e
   .rw[M4,ai<|by simp,aj ⟨rfl,h1,by omega⟩,ai<|by rw[b,c];simp,aj rfl,IK,aj b,<-pH,Bool.true_or,Bool.or_true];obtain⟨d,f⟩:=ih true (own++[⟨p,wd r,zA r.toNat⟩]);refine⟨d,λh=> ?_⟩;rw[f h,Bool.true_or,dO];rfl
   .rw[Bool.true_and,aj rfl,aj ⟨rfl,h1,by omega⟩,aj (.inr ⟨b,c⟩)];exact⟨λ_=>rfl,λh=>by omega⟩
def OB(s:ByteArray)(t:Nat):∀(k p:Nat),p+k<=t->(∀j,j<k->bt s (p+j)≠92)->oN s t p=oN s t (p+k)
 |0,p,_,_=>rfl
 |k+1,p,h,hb=>by
  have a:¬bt s p=92:=by simpa using hb 0<|by omega
  have ih:=OB s t k (p+1) (by omega) (λj b=>by have:=hb (j+1) (by omega);rwa [show p+(j+1)=p+1+j by omega]at this);rw[show p+(k+1)=p+1+k by omega,<-ih]
  conv=>lhs;rw[oN,aj<|by omega,ai a]
def afP(s:ByteArray)(p:Nat)(h:p<s.size)(o:aW s p≠0):(aW s p=1/\bt s p=iD s p)∨(1<aW s p/\iD s p≠92/\∀j,j<aW s p->bt s (p+j)≠92):=by
 have a:∀i,i<s.size->bt s i=((s.get! i).toNat:Int):=λi u=>by rw[bt,aj u]
 have f:iD s p=92->aW s p=1:=λc=>by rw[<-Xx s p h o,c];rfl
 rcases Ex s p h o with⟨e,_,d⟩|⟨e,g,d,k,l,m,n⟩|⟨e,g,d,k,l,m,n,r,t⟩|⟨e,g,d,k,l,m,n,r,t,v,q⟩
 .exact .inl ⟨e,by rw[a p h,d]⟩
 .refine .inr ⟨by omega,λc=>by have:=f c;omega,λj b=> ?_⟩;rw[e]at b
  match j,b with
  |0,_=>rw[a _ (by omega)];simp only[p9];omega
  |1,_=>rw[a _ (by omega)];omega
 .refine .inr ⟨by omega,λc=>by have:=f c;omega,λj b=> ?_⟩;rw[e]at b
  match j,b with
  |0,_=>rw[a _ (by omega)];simp only[p9];omega
  |1,_=>rw[a _ (by omega)];omega
  |2,_=>rw[a _ (by omega)];omega
 .refine .inr ⟨by omega,λc=>by have:=f c;omega,λj b=> ?_⟩;rw[e]at b
  match j,b with
  |0,_=>rw[a _ (by omega)];simp only[p9];omega
  |1,_=>rw[a _ (by omega)];omega
  |2,_=>rw[a _ (by omega)];omega
  |3,_=>rw[a _ (by omega)];omega
def OA(s:ByteArray)(t:Nat):∀(n:Nat)(A:List Int)(p:Nat),A.length<=n->RX s p t A->oN s t p=Fh false A
 |_,[],p,_,h=>by have:p=t:=h;subst this;rw[oN,ai<|by omega];rfl
 |0,_::_,_,hn,_=>by simp at hn
 |n+1,r::A,p,hn,⟨h1,h2,h3,h4⟩=>by
  have d:=CY h4;rcases afP s p h1 h2 with⟨e,c⟩|⟨e,i,c⟩
  .by_cases b:r=92
   .rw[oN,aj<|by omega,aj<|by rw[c,<-h3];exact b];cases A with
    |nil=>
     have:p+aW s p=t:=h4;rw[aj<|by omega,b];rfl
    |cons g A=>
     obtain⟨g1,g2,g3,g4⟩:=h4;have a:=CY g4;rw[ai<|by omega,b];show _=Fh (g==92&& !(92==(92:Int)&& !false)) A;rw[show(g==92&& !(92==(92:Int)&& !false))=false by simp];rw[e]at g1 g2 g4 a;have ih:=OA s t n A _ (by simp at hn;omega) g4;rw[<-ih];rcases afP s (p+1) g1 g2 with⟨f,_⟩|⟨f,_,k⟩
     .rw[f]
     .have:=OB s t (aW s (p+1) - 1) (p+2) (by omega) (λj l=>by have:=k (j+1) (by omega);rwa [show p+1+(j+1)=p+2+j by omega]at this);rw[this,show p+2+(aW s (p+1) - 1)=p+1+aW s (p+1)by omega]
   .have ih:=OA s t n A _ (by simp at hn;omega) h4;rw[Fh,show(r==92)=false by simpa using b,M4,<-ih,e];exact OB s t 1 p (by omega) λj l=>by rw[show p+j=p by omega,c,<-h3];exact b
  .have ih:=OA s t n A _ (by simp at hn;omega) h4;rw[Fh,show(r==92)=false by rw[h3];simpa using i,M4,<-ih];exact OB s t (aW s p) p d c
def IY {x:ByteArray}:∀(r:List Int)(a b:Nat),RX x a b r->a+sW r=b
 |[],a,b,h=>by have:a=b:=h;simpa [sW]using this
 |y::r,a,b,⟨h1,h2,h3,h4⟩=>by
  have:=IY r _ b h4;rw[zZ,CZ h1 h2 h3];omega
def Xa {x:ByteArray}:∀(r:List Int)(a b:Nat),RX x a b r->(∀q,a<=q->q<b->bt x q<128)->∀y∈r,eX y=false
 |[],_,_,_,_,y,d=>by cases d
 |z::r,a,b,⟨h1,h2,h3,h4⟩,hq,y,d=>by
  have g:=CY h4;rcases fW.1 d with rfl|d
  .cases hh:eX y
   .rfl
   .have i:=K4 y hh;have c:=hq a (au _) (by omega);rcases Ex x a h1 h2 with⟨_,_,e⟩|⟨_,_,e,_⟩|⟨_,_,e,_⟩|⟨_,_,e,_⟩
    .rw[<-h3]at e;rw[bt,aj h1]at c;omega
    all_goals rw[bt,aj h1]at c;omega
  .exact Xa r _ b h4 (λq h f=>hq q (by omega) f) y d
def afz {s:ByteArray}{a b:Nat}{r:List Int}(c:b<=s.size)(h:RX s a b r):vF s a b=r:=by unfold vF;rw[IX c h];rfl
def afX {x:ByteArray}:∀(A:List Int)(C:List Int)(a b:Nat),RX x a b (A++C)->RX x a (a+sW A) A
 |[],_,a,_,_=>by show a=a+sW [];simp[sW]
 |y::A,C,a,b,⟨h1,h2,h3,h4⟩=>by
  refine⟨h1,h2,h3,?_⟩;have:=afX A C _ b h4;rw[zZ,CZ h1 h2 h3,<-pH];exact this
def aoY(s:ByteArray)(c:List Int)(x:PR)(hr:RA s 0 c)(hx:PX s x)(hk:x.kind<=2):
  (mW s x≠ -1->(gU s x c 0 false []).1=mW s x)/\(mW s x= -1->(gU s x c 0 false []).1= -1/\F5 x (gU s x c 0 false []).2=kH s x):=by
 have b:=hx.tl;have aa:=hx.ft;obtain⟨A,i,T,Z,f⟩:=Bt (by omega:x.from_<=s.size) hx.aF c 0 hr (by omega);have z:=IY A 0 _ Z;rw[fZ]at z;have S:gU s x c 0 false []=gU s x i x.from_ false []:=by rw[T,LU s x i A 0 false [] (by omega),fZ,z]
 rw[S];by_cases k:x.kind=0
 .obtain⟨M,C,Y,v,hC⟩:=Bt b hx.aT i _ f (by omega);have sM:=IY M _ _ v;unfold mW kH F5;rw[aj k,ai<|by omega,ai λh=>by omega,ai λh=>by omega,afz b v,Y];refine⟨λh=>L3 s x k C M _ (au _) (by omega) h,λh=> ?_⟩;rw[Pz s x C M _ _ _ ((KG M _).1 h),Vn s x C _ _ _ (by omega)];exact⟨rfl,rfl⟩
 obtain⟨m,I,J,K,L,N,O⟩:=hx.bd k;obtain⟨F,t,W,hF,R⟩:=Bt (by omega:x.body<=s.size) K i _ f m;obtain⟨D,j,U,l,X⟩:=Bt (by omega:x.end_<=s.size) L t _ R I;obtain⟨E,C,V,u,hC⟩:=Bt b hx.aT j _ X J;have sF:=IY F _ _ hF;have B:=IY D _ _ l;have sE:=IY E _ _ u;have H:=Xa F _ _ hF N;have G:=Xa E _ _ u O;rw[W,Pz s x t F _ _ _ H,sF,U];have a:∀q own,gU s x j x.end_ q own=(-1,q,own):=λq own=>by rw[V,Pz s x C E _ _ _ G,Vn s x C _ _ _ (by omega)]
 unfold mW kH F5;rw[ai k,afz (by omega) l];by_cases d:x.kind=1
 .rw[aj d,aj d,ai λh=>by omega];obtain⟨i1,i2⟩:=M8 s x d j D false x.body false [] m (by omega) (λP r Q e=>by
   rw[e]at l;exact OA s _ P.length P _ (au _) (afX P (r::Q) _ _ l))
  refine⟨i1,λh=> ?_⟩;rw[i2 h,B,a];exact⟨rfl,by simp⟩
 .have n:x.kind=2:=by omega
  rw[ai d,ai d,Vo s x n j D _ _ _ m (by omega),B,a];refine⟨λh=>absurd rfl h,λ_=>⟨rfl,?_⟩⟩;simp only[C7,si];by_cases g:nV D x.body= -1
  .rw[ai (λh=>by
    have:=List.any_eq_true.1 h.2;obtain⟨y,o,w⟩:=this;rw[(KG D _).1 g y o]at w;cases w),ai λh=>h.2 g]
   have hb:∀(M:List Int)(p:Nat),(∀r∈M,eX r=false)->jD qJ uo M p=[]:=by
    intro M
    induction M with
    |nil=>intro p _;rfl
    |cons r M ih=>intro p h;rw[jD,agH r<|h r<|by simp,ai<|by simp];exact ih _ (λy o=>h y<|by simp[o])
   exact hb D _ ((KG D _).1 g)
  .have ha:D.any eX=true:=by
    rcases hd:D.any eX with _|_
    .exact absurd ((KG D x.body).2 (λr h=>by
      have:=List.any_eq_false.1 hd r h;simpa using this)) g
    .rfl
   rw[aj ⟨n,ha⟩,aj ⟨n,g⟩]
def eY(s:ByteArray):List PR->List Ed->List Ed×Int
 |[],l=>(l, -1)
 |x::xs,l=>if mW s x≠ -1 then([],mW s x)else eY s xs (l++kH s x)
def DY:∀(M:List Int)(p:Nat),nV M p≠ -1->0<=nV M p
 |[],_,h=>absurd rfl h
 |r::M,p,h=>by
  rw[nV]at h ⊢;split at h
  .rename_i a;rw[aj a];omega
  .rename_i a;rw[ai a];exact DY M _ h
def Fu:∀(M:List Int)(e:Bool)(p:Nat),sJ M e p≠ -1->0<=sJ M e p
 |[],_,_,h=>absurd rfl h
 |r::M,e,p,h=>by
  rw[sJ]at h ⊢;split at h
  .rename_i a;rw[aj a];omega
  .rename_i a;rw[ai a];exact Fu M _ _ h
def TG(s:ByteArray)(x:PR)(h:mW s x≠ -1):0<=mW s x:=by
 unfold mW at h ⊢;split at h
 .rename_i a;rw[aj a];exact DY _ _ h
 .rename_i a;rw[ai a];split at h
  .rename_i b;rw[aj b];exact Fu _ _ _ h
  .exact absurd rfl h
def aed(s:ByteArray)(d:List Int)(e:RA s 0 d):∀(c:List PR)(l:List Ed),(∀x∈c,PX s x/\x.kind<=2)->vA s d c l=eY s c l
 |[],l,_=>rfl
 |x::c,l,h=>by
  obtain⟨hx,i⟩:=h x (by simp);obtain⟨f,k⟩:=aoY s d x e hx i;rw[vA,eY];by_cases b:mW s x= -1
  .obtain⟨n,m⟩:=k b;rw[ai<|by omega,ai λa=>a b,m];exact aed s d e c _ (λy j=>h y<|by simp[j])
  .have g:=TG s x b;rw[aj<|by rw[f b];exact g,aj b,f b]
