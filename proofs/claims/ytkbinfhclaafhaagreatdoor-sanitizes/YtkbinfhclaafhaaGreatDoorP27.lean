import Derived.Test.YtkbinfhclaafhaaGreatDoorP26
namespace Go.Proofs.YtkbinfhclaafhaaGreatDoor
open Go.RowKit
open Go.Proofs.Tryz
set_option maxRecDepth 100000
set_option maxHeartbeats 32000000
set_option linter.all false
structure PX(x:ByteArray)(y:PR):Prop where
 ft:y.from_<y.dH
 tl:y.dH<=x.size
 aF:Asc x y.from_
 aT:Asc x y.dH
 bd:y.kind≠0->y.from_<=y.body/\y.body<=y.end_/\y.end_<=y.dH/\Asc x y.body/\Asc x y.end_/\(∀q,y.from_<=q->q<y.body->bt x q<128)/\(∀q,y.end_<=q->q<y.dH->bt x q<128)
def OD {s:ByteArray}{a e q:Nat}(g:a<=e)(i:e<=s.size)(b:bt s e=10)(j:q<=e - a):bt (s.extract a e) q=bt s (a+q):=by
 have f:(s.extract a e).size=e - a:=by simp;omega
 by_cases h:q<e - a
 .have c:q<(s.extract a e).size:=by omega
  have d:a+q<s.size:=by omega
  rw[oM c,oM d,Yi]
 .rw[AR<|by omega,show a+q=e by omega,b]
def aiA {s:ByteArray}{a e q:Nat}(d:a<=e)(f:e<=s.size)(b:bt s e=10)(g:q<=e - a)(h:Asc s<|a+q):Asc (s.extract a e) q:=by
 rcases h with h|h|⟨i,h⟩
 .exact .inl (by omega)
 .exact .inr (.inl<|by rw[OD d f b g];exact h)
 .by_cases c:q=0
  .exact .inl c
  .refine .inr (.inr ⟨by omega,?_⟩);rw[OD d f b<|by omega,show a+(q - 1)=a+q - 1 by omega];exact h
def anw(s:ByteArray)(a p:Nat)(f:p<=s.size):∃e c,aR s a p=s.extract a e::c/\p<=e/\e<=s.size/\bt s e=10:=by
 fun_induction aR s a p with
 |case1 a i b d ih=>exact⟨i,_,rfl,au _,f,d⟩
 |case2 a i b d ih=>
  obtain⟨e,c,g,k,h,j⟩:=ih (by omega);exact⟨e,c,g,by omega,h,j⟩
 |case3 a i b=>exact⟨i,_,rfl,au _,f,AR b⟩
def PG(a:List ByteArray)(y:PR):Prop:=∃x,a[y.line]? =some x/\PX x y
structure SF(s:ByteArray)(k F T B E:Nat):Prop where
 aT:Asc s T
 wf:k≠0->Asc s B/\Asc s E/\F<=B/\B<=E/\E<=T/\(∀q,F<=q->q<B->bt s q<128)/\(∀q,E<=q->q<T->bt s q<128)
def Fq {b:Type}{L:List b}{n:Nat}{x:b}{d:List b}(h:L.drop n=x::d):L[n]? =some x/\L.drop (n+1)=d:=by
 have c:n<L.length:=by
  rcases cP n L.length with a|a
  .exact a
  .rw[rV a]at h;cases h
 rw[kO c]at h;injection h with a e
 exact⟨by rw[aM c,a],e⟩
def agT {s:ByteArray}{B a p:Nat}(b:Asc s a)(c:Asc s p)(d:Asc s B):Asc s (wi B a p):=by
 unfold wi;split
 .exact b
 .split
  .exact c
  .exact d
def FU {s:ByteArray}{o:List ByteArray}{k F T B E r d f p:Nat}(A:SF s k F T B E)(z:o.drop r=aR s d p)(D:p<=s.size)(t:d<=f)(hF:F<=f)(M:f<=p)(G:p<=T)(i:Asc s f)(j:Asc s p):∀y∈ey r k d f p B E,PG o y:=by
 intro y g;unfold ey at g;split at g
 .rename_i C;simp only[qX]at g;subst g;obtain⟨e,U,w,Q,l,m⟩:=anw s d p D;obtain⟨x,_⟩:=Fq<|z.trans w;refine⟨s.extract d e,x,?_⟩;have H:(s.extract d e).size=e - d:=by simp;omega
  have h:∀q,d<=q->q<=p->Asc s q->Asc (s.extract d e) (q - d):=λq a b c=>aiA (by omega) l m (by omega)<|by rw[show d+(q - d)=q by omega];exact c
  refine⟨by simp only;omega,by simp only;omega,h f t M i,h p (by omega) (au _) j,λn=> ?_⟩;simp only at n;obtain⟨u,v,P,N,O,I,J⟩:=A.wf n;simp only[ai n];have R:f<=wi B f p/\wi B f p<=p:=by unfold wi;split;omega;split<;>omega
  have S:f<=wi E f p/\wi E f p<=p:=by unfold wi;split;omega;split<;>omega
  have V:wi B f p<=wi E f p:=by
   unfold wi;split
   .split;omega;split<;>omega
   .split
    .split;omega;split<;>omega
    .split;omega;split<;>omega
  refine⟨by omega,by omega,by omega,h _ (by omega) (by omega) (agT i j u),h _ (by omega) (by omega) (agT i j v),λq K L=> ?_,λq K L=> ?_⟩
  .rw[OD (by omega) l m<|by omega];refine I (d+q) (by omega) ?_;have:d+q<wi B f p:=(by omega);unfold wi at this;split at this
   .omega
   .split at this<;>omega
  .rw[OD (by omega) l m<|by omega];refine J (d+q) ?_ (by omega);have:wi E f p<=d+q:=(by omega);unfold wi at this;split at this
   .omega
   .split at this<;>omega
 .cases g
def Xf {s:ByteArray}{h:List ByteArray}{k F T B E ln bg fr p:Nat}(e:SF s k F T B E)(m:T<=s.size)(c:h.drop ln=aR s bg p)(g:bg<=fr)(hF:F<=fr)(n:fr<=p)(o:p<=T)(i:Asc s fr):
  (∀y∈lT s k T B E ln bg fr p,PG h y)/\h.drop (jt s T ln bg p).1=aR s (jt s T ln bg p).2 T/\(jt s T ln bg p).2<=T:=by
 by_cases a:p<T
 .by_cases b:bt s p=10
  .have j:Asc s p:= .inr (.inl<|by rw[b];decide);have l:Asc s (p+1):= .inr (.inr ⟨by omega,by rw[lJ,b];decide⟩);have d:=c;rw[VQ (by omega) b]at d;have ih:=Xf (ln:=ln+1) (bg:=p+1) (fr:=p+1) (p:=p+1) e m (Fq d).2 (au _) (by omega) (au _) a l;rw[Ge a b,Hs a b];refine⟨λy f=> ?_,ih.2⟩;rcases jL.1 f with f|f
   .exact FU e c (by omega) g hF n (by omega) i j y f
   .exact ih.1 y f
  .rw[Bx a b,Ct a b];rw[VP (by omega) b]at c;exact Xf e m c g hF (by omega) a i
 .obtain rfl:p=T:=by omega
  rw[Bw a,Hr a];exact⟨FU e c (by omega) g hF n (au _) i e.aT,c,by simp only;omega⟩
termination_by T - p
def Fp {s:ByteArray}{f:List ByteArray}:∀(c:List Tk)(p e d:Nat),CC s p c->TW s true c->f.drop e=aR s d p->d<=p->∀y∈fK s c e d,PG f y
 |[],_,_,_,_,_,_,_,y,a=>by cases a
 |t::c,p,e,d,hc,ht,hL,hb,y,a=>by
  obtain⟨i,j,k,l⟩:=hc;subst i;have q:SF s t.k t.F t.T t.B t.E:=by
   by_cases b:t.k=0
   .exact⟨(ht.1 b).2,λh=>absurd b h⟩
   .have w:=ht.2.1 b;exact⟨w.aT,λ_=>⟨w.aB,w.aE,w.fb,w.be,w.et,w.lb,w.le⟩⟩
  have g:Asc s t.F:=by
   by_cases b:t.k=0
   .exact(ht.1 b).1 rfl
   .exact(ht.2.1 b).aF
  obtain⟨m,n,o⟩:=Xf q k hL hb (au _) (au _) (gF j) g;rw[fK]at a;rcases jL.1 a with a|a
  .exact m y a
  .exact Fp c t.T _ _ l ht.2.2 n o y a
def Wy(s:ByteArray):∀y∈fK s (dD s 0) 0 0,PG (aR s 0 0) y:=
 Fp _ 0 0 0 (QD s 0<|by omega) (arY s) rfl (au _)
def Vk(c:UInt8):∀l:List UInt8,(Lib.indexByte l c= -1/\∀m:Nat,l[m]? ≠some c)∨∃j:Nat,Lib.indexByte l c=(j:Int)/\l[j]? =some c/\∀m:Nat,m<j->l[m]? ≠some c
 |[]=> .inl ⟨rfl,λm=>by simp⟩
 |b::l=>by
  unfold Lib.indexByte;by_cases a:b=c
  .right;refine⟨0,?_,by simp[a],λm g=>by omega⟩;simp[a]
  .rcases Vk c l with⟨d,e⟩|⟨j,d,e,f⟩
   .left;refine⟨by simp[a,d],λm=> ?_⟩;cases m with
    |zero=>simpa using a
    |succ m=>simpa using e m
   .right;refine⟨j+1,?_,by simpa using e,λm g=> ?_⟩
    .have h:¬((j:Int)= -1):=(by omega);simp[a,d]
    .cases m with
     |zero=>simpa using a
     |succ m=>simpa using f m<|by omega
def VR {s:ByteArray}{a:Nat}:∀(d i:Nat),i+d<=s.size->(∀m,i<=m->m<i+d->bt s m≠10)->aR s a i=aR s a (i+d)
 |0,i,_,_=>rfl
 |d+1,i,h,hb=>by
  rw[VP (by omega)<|hb i (au _)<|by omega,VR d (i+1) (by omega) λm b c=>hb m (by omega)<|by omega];congr 1;omega
def Tz {s:ByteArray}{a m:Nat}(h:a+m<s.size):(s.extract a s.size).data.toList[m]? =some (s[a+m]'h):=by
 rw[Lib.extract_to_end,zj,Lib.data_getElem? _ _ h]
def akL {s:ByteArray}{b m:Nat}{c:UInt8}(h:(s.extract b s.size).data.toList[m]? =some c):∃h:b+m<s.size,s[b+m]'h=c:=by
 by_cases a:b+m<s.size
 .rw[Tz a]at h;exact⟨a,aJ h⟩
 .rw[Lib.extract_to_end,zj,List.getElem?_eq_none_iff.2<|by rw[<-Lib.size_eq];omega]at h;cases h
def S4 {s:ByteArray}{i:Nat}(h:i<s.size):bt s i=10↔s[i]'h=10:=by
 rw[oM h];constructor
 .intro e;apply UInt8.toNat_inj.1;have:(s[i]'h).toNat=10:=by omega
  rw[this];rfl
 .intro e;rw[e];rfl
def PB(s:ByteArray):Lib.indexB s ⟨#[10]⟩=Lib.indexByte s.data.toList 10:=Lib.one s ⟨#[10]⟩ rfl
def aq9(s:ByteArray):∀(k a:Nat),a<=s.size->Lib.countB (s.extract a s.size) ⟨#[10]⟩=k->Lib.splitB ⟨#[10]⟩ 0 k (s.extract a s.size)=aR s a a:=by
 intro k
 induction k with
 |zero=>
  intro a i e;rcases Vk 10 (s.extract a s.size).data.toList with⟨c,d⟩|⟨j,c,d,h⟩
  .rw[VR (s.size - a) a (by omega) λm h r=> ?_,aee<|by omega,Lib.splitB_zero,show a+(s.size - a)=s.size by omega];intro b;have l:m<s.size:=(by omega);rw[S4 l]at b;refine d (m - a) ?_;rw[Tz<|by omega];simp only[show a+(m - a)=m by omega,b]
  .rw[Lib.countB_hit _ ⟨#[10]⟩ j (by decide) (by rw[PB];exact c)]at e;omega
 |succ k ih=>
  intro a i e;rcases Vk 10 (s.extract a s.size).data.toList with⟨c,d⟩|⟨j,c,d,h⟩
  .rw[Lib.countB_miss _ ⟨#[10]⟩ (by rw[PB];exact c)]at e;omega
  .obtain⟨o,f⟩:=akL d;rw[Lib.countB_hit _ ⟨#[10]⟩ j (by decide) (by rw[PB];exact c)]at e;rw[Lib.splitB_hit _ 0 k _ j (by rw[PB];exact c)];rw[VR j a (by omega) λm r t=> ?_,VQ o<|(S4 o).2 f]
   .have p:(s.extract a s.size).extract 0 (j+0)=s.extract a (a+j):=by
     rw[ahl];congr 1<;>omega
    have q:(s.extract a s.size).extract (j+(⟨#[10]⟩:ByteArray).size) (s.extract a s.size).size=s.extract (a+j+1) s.size:=by
     rw[ahl];have n:(s.extract a s.size).size=s.size - a:=(by simp);have g:(⟨#[10]⟩:ByteArray).size=1:=rfl;rw[n,g];congr 1<;>omega
    rw[q]at e ⊢;rw[p,ih (a+j+1) (by omega)<|by omega]
   .intro b;have l:m<s.size:=(by omega);rw[S4 l]at b;refine h (m - a) (by omega) ?_;rw[Tz<|by omega];simp only[show a+(m - a)=m by omega,b]
def ara(s:ByteArray):Lib.splitB ⟨#[10]⟩ 0 (Lib.countB s ⟨#[10]⟩) s=aR s 0 0:=by
 have h:=aq9 s (Lib.countB s ⟨#[10]⟩) 0 (by omega) (by rw[show s.extract 0 s.size=s by simp]);rw[show s.extract 0 s.size=s by simp]at h;exact h
def alN:(prog.info? 9).map (λi=>(i.zero,i.size,i.bytes))=some (some (.string ByteArray.empty),1,16):=by kernel_rfl
def Xp(s:ByteArray)(m:Int)(w:World)(c:s.size<4294967281)(b:w.cell? ⟨10,0,none⟩=some (.int .i64 m)):
  Calls prog 62 #[.string s,.string ⟨#[10]⟩] w λe d=>e= .returned (.slice (some ⟨w.heap.size,0,none⟩) (aR s 0 0).length (aR s 0 0).length)/\d=w.alloc (.cells (iX<|aR s 0 0).toArray 9):=by
 have h:=Any.strings_Split Tryz.lays146 alN s ⟨#[10]⟩ m w c b (by decide);have a:=Lib.splitB_all ⟨#[10]⟩ (by decide) 0 _ s rfl;rw[ara]at h a;rw[<-a]at h;exact h
def Xu(s:ByteArray)(p:Nat):aW s p=if(Utf8.decode s p).1=65533/\(Utf8.decode s p).2=1 then 0 else(Utf8.decode s p).2:=by
 unfold aW nK;rw[<-Lib.decode_at]
def ajW(n e f g h i j k:Nat)(c:1<n->f=i)(l:2<n->g=j)(m:3<n->h=k):Lib.decodeN n e f g h=Lib.decodeN n e i j k:=by
 by_cases a:3<n
 .rw[c<|by omega,l<|by omega,m a]
 .by_cases b:2<n
  .rw[c<|by omega,l b];unfold Lib.decodeN;simp[a]
  .by_cases d:1<n
   .rw[c d];unfold Lib.decodeN;simp[a,b]
   .unfold Lib.decodeN;simp[a,b,d]
def aj0(s:ByteArray)(p:Nat)(h:p<s.size):Lib.decodeGo (s.extract p s.size)=Utf8.decode s p:=by
 have a:=Xo s p;unfold Lib.decodeGo;rw[ai<|by omega,Lib.decode_at,Lib.decode_at,a];have c:=DI s p 0 (by omega);rw[c];exact ajW _ _ _ _ _ _ _ _ (λb=>by rw[DI s p 1<|by omega]) (λb=>by rw[DI s p 2<|by omega]) (λb=>by rw[DI s p 3<|by omega])
def aj1(s:ByteArray)(p:Nat)(w:World)(h:p<s.size)(a:Lib.Utf8Tabs (Tryz.lays197_ren.g 3) (Tryz.lays197_ren.g 4) w):
  Calls prog 174 #[.string<|s.extract p s.size] w λe b=>e= .returned (.tuple #[.int .i32 (Utf8.decode s p).1,.int .i64 (Utf8.decode s p).2])/\Below w.heap.size w b:=by
 have:=Any.utf8_DecodeRuneInString Tryz.lays197 (s.extract p s.size) w a;rw[aj0 s p h]at this;exact this
def ajY(s:ByteArray)(p:Nat):(Utf8.decode s p).1<2000000/\(Utf8.decode s p).2<=4:=by
 rw[Lib.decode_at];have a:=(s.get! p).toNat_lt;unfold Lib.decodeN
 repeat' split
 all_goals simp only
 all_goals omega
def Xv(s:ByteArray)(p:Nat)(h:p<s.size)(c:aW s p≠0):p+aW s p<=s.size:=by
 rcases Ex s p h c with⟨a,_⟩|⟨a,b,_⟩|⟨a,b,_⟩|⟨a,b,_⟩<;>omega
def aqb(s:ByteArray)(w:World)(O:s.size<=1000)(B:∀W,Below w.heap.size w W->Lib.Utf8Tabs (Tryz.lays197_ren.g 3) (Tryz.lays197_ren.g 4) W):
  Calls prog 104 #[.string s] w λe M=>e= .returned (.int .i64 (kU s 0:Nat))/\Below w.heap.size w M:=by
 have F:=ah B;obtain⟨R,v⟩:=ac<|kU s 0;rw[<-v];have E:=ah v.symm;clear B v;go_enter func104,ntmps104;go_wp2;go_loopg [3,4,5] s.size (λgk L _ _ W=>∃(p:Nat),p<=s.size/\gk=s.size - p/\L= .int .i64 p/\kU s p=R/\Below w.heap.size w W);exact⟨0,by omega,rfl,rfl,E.out,aA _ _⟩;obtain⟨p,N,rfl,rfl,f,l⟩:=hrel;have o:=ah l;have g:=l.size;by_cases d:p<s.size
 .have n:(p:Int)<(s.size:Int):=by omega
  have t:=ah<|aj1 s p wr d<|F.out wr l;have a:=Xu s p;obtain⟨H,I⟩:=ajY s p;have z:Hid (1<=(Utf8.decode s p).2):=by show _<=_;rw[Lib.decode_at];exact Lib.decodeN_ge1 _ _ _ _ _
  generalize(Utf8.decode s p).1=r at*;generalize(Utf8.decode s p).2=k at*;clear l;by_cases q:r=65533
  .by_cases x:k=1
   .rw[aj ⟨q,x⟩]at a;have m:p=R:=(by rw[<-f,Ox d a]);have D:=ah m;subst q;subst x;clear f m a;go_wp2_with fail;refine t.out.mono ?_;rintro A C ⟨rfl,b⟩;have j:=ah<|o.out.trans<|b.mono g;clear b;go_wp2;go_ret;exact⟨by rw[D.out];rfl,j.out⟩
   .rw[ai λh=>x h.2]at a;have J:((k:Int)==1)=false:=(by simp;omega);subst q;have c:aW s p≠0:=(by have G:=z.out;omega);have i:p+k<=s.size:=(by have:=Xv s p d c;omega);have u:Hid (kU s (p+k)=R):=(by show _=_;rw[<-a,<-Oy d c];exact f);have y:0<k:=(by omega);clear f c a;go_wp2_with fail;refine t.out.mono ?_;rintro A C ⟨rfl,b⟩;have j:=ah<|o.out.trans<|b.mono g;clear b;go_wp2;go_roundg (s.size - (p+k));exact⟨p+k,i,rfl,by go_num,u.out,j.out⟩;omega
  .rw[ai λh=>q h.1]at a;have K:((r:Int)==65533)=false:=(by simp;omega);have c:aW s p≠0:=(by have G:=z.out;omega);have i:p+k<=s.size:=(by have:=Xv s p d c;omega);have u:Hid (kU s (p+k)=R):=(by show _=_;rw[<-a,<-Oy d c];exact f);have y:0<k:=(by omega);clear f c a;go_wp2_with fail;refine t.out.mono ?_;rintro A C ⟨rfl,b⟩;have j:=ah<|o.out.trans<|b.mono g;clear b;go_wp2;go_roundg (s.size - (p+k));exact⟨p+k,i,rfl,by go_num,u.out,j.out⟩;omega
 .have n:¬(p:Int)<(s.size:Int):=by omega
  rw[Tv d]at f;subst f;clear l;go_wp2;go_ret;exact⟨rfl,o.out⟩
def ajX(n o i h j k s q p:Nat)(x:i<256)(l1:h<256)(y:j<256)(z:k<256)(m:nK n i h j k≠0)(w:nK n i h j k<=o)(r:1<nK n i h j k->h=s)(t:2<nK n i h j k->j=q)(v:3<nK n i h j k->k=p):Lib.decodeN o i s q p=Lib.decodeN n i h j k:=by
 by_cases a:i<128
 .rw[Fe a,Fe a]
 by_cases b:i<194
 .exact absurd (jI<|Oj (by omega) b) m
 by_cases c:245<=i
 .exact absurd (jI<|Ol c<|by omega) m
 by_cases d:i<224
 .by_cases e:n<2∨h<128∨191<h
  .exact absurd (jI<|Od (by omega) d (by omega) e) m
  .have l:=Kw (n:=n) (b0:=i) (b1:=h) (b2:=j) (b3:=k) (by omega) d (by omega) (by omega) (by omega);have u:nK n i h j k=2:=(by rw[tA l<|by omega]);obtain rfl:=r (by omega);rw[l,Kw (n:=o) (b0:=i) (b1:=h) (b2:=q) (b3:=p) (by omega) d (by omega) (by omega)<|by omega]
 by_cases f:i<240
 .by_cases e:n<3∨h<128∨191<h∨j<128∨191<j
  .exact absurd (jI<|Oe (by omega) f (by omega) (by omega) e) m
  .by_cases g:i%16*4096+h%64*64+j%64<2048∨(55296<=i%16*4096+h%64*64+j%64/\i%16*4096+h%64*64+j%64<=57343)
   .exact absurd (jI<|Og (by omega) f g) m
   .have l:=Ky (n:=n) (b0:=i) (b1:=h) (b2:=j) (b3:=k) (by omega) f (by omega) (by omega) (by omega) (by omega) (by omega) (by omega) (by omega);have u:nK n i h j k=3:=(by rw[tA l<|by omega]);obtain rfl:=r (by omega);obtain rfl:=t (by omega);rw[l,Ky (n:=o) (b0:=i) (b1:=h) (b2:=j) (b3:=p) (by omega) f (by omega) (by omega) (by omega) (by omega) (by omega) (by omega)<|by omega]
 by_cases e:n<4∨h<128∨191<h∨j<128∨191<j∨k<128∨191<k
 .exact absurd (jI<|Oh (by omega) (by omega) (by omega) (by omega) (by omega) e) m
 .by_cases g:i%8*262144+h%64*4096+j%64*64+k%64<65536∨1114111<i%8*262144+h%64*4096+j%64*64+k%64
  .exact absurd (jI<|Oi (by omega) (by omega) g) m
  .have l:=Kz (n:=n) (b0:=i) (b1:=h) (b2:=j) (b3:=k) (by omega) (by omega) (by omega) (by omega) (by omega) (by omega) (by omega) (by omega) (by omega) (by omega) (by omega);have u:nK n i h j k=4:=(by rw[tA l<|by omega]);obtain rfl:=r (by omega);obtain rfl:=t (by omega);obtain rfl:=v (by omega);rw[l,Kz (n:=o) (b0:=i) (b1:=h) (b2:=j) (b3:=k) (by omega) (by omega) (by omega) (by omega) (by omega) (by omega) (by omega) (by omega) (by omega) (by omega)<|by omega]
def Qn {x:ByteArray}{a b c:Nat}(f:b<=x.size)(h:c<b)(e:a<=c):(x.extract a b).get! (c - a)=x.get! c:=by
 have d:c - a<(x.extract a b).size:=by simp;omega
 rw[get_eq _ _ d,get_eq _ _ (by omega:c<x.size),Yi];congr 1;omega
def ajZ {x:ByteArray}{a b c:Nat}(f:b<=x.size)(j:a<=c)(h:c<b)(i:aW x c≠0)(k:c+aW x c<=b):Utf8.decode (x.extract a b) (c - a)=Utf8.decode x c:=by
 rw[Lib.decode_at,Lib.decode_at];have g:(x.extract a b).size=b - a:=by simp;omega
 rw[g,Qn f h j];have e:aW x c=nK (x.size - c) (x.get! c).toNat (x.get!<|c+1).toNat (x.get!<|c+2).toNat (x.get!<|c+3).toNat:=rfl;refine ajX (x.size - c) _ _ _ _ _ _ _ _ (x.get! c).toNat_lt (x.get!<|c+1).toNat_lt (x.get!<|c+2).toNat_lt (x.get!<|c+3).toNat_lt (by rw[<-e];exact i) (by rw[<-e];omega) (λd=> ?_) (λd=> ?_) (λd=> ?_)
 .rw[<-e]at d;rw[show c - a+1=c+1 - a by omega,Qn f (by omega)<|by omega]
 .rw[<-e]at d;rw[show c - a+2=c+2 - a by omega,Qn f (by omega)<|by omega]
 .rw[<-e]at d;rw[show c - a+3=c+3 - a by omega,Qn f (by omega)<|by omega]
def RX(x:ByteArray):Nat->Nat->List Int->Prop
 |a,b,[]=>a=b
 |a,b,r::rs=>a<x.size/\aW x a≠0/\r=iD x a/\RX x (a+aW x a) b rs
def CY {x:ByteArray}:∀{c:List Int}{a b:Nat},RX x a b c->a<=b
 |[],a,b,h=>Nat.le_of_eq h
 |r::c,a,b,h=>by have:=CY h.2.2.2;omega
def mg {x:ByteArray}{p q:Nat}(k:p<x.size)(i:aW x p≠0)(t:p<q)(u:q<p+aW x p):¬Asc x q:=by
 have o:=I6 x p k i;have key:∀j,j<aW x p->1<aW x p->¬bt x (p+j)<128:=by
  intro j v w;have b:p+j<x.size:=by omega
  have e:bt x (p+j)=((x.get!<|p+j).toNat:Int):=by unfold bt;rw[aj b]
  rw[e];rcases Ex x p k i with⟨a,_⟩|⟨a,_,c,d,f,g,_⟩|⟨a,_,c,d,f,g,l,m,_⟩|⟨a,_,c,d,f,g,l,m,r,s,_⟩
  .omega
  .match j,(by omega:j<2)with
   |0,_=>simp only[p9];omega
   |1,_=>omega
  .match j,(by omega:j<3)with
   |0,_=>simp only[p9];omega
   |1,_=>omega
   |2,_=>omega
  .match j,(by omega:j<4)with
   |0,_=>simp only[p9];omega
   |1,_=>omega
   |2,_=>omega
   |3,_=>omega
 intro n;rcases n with h|h|⟨_,h⟩
 .omega
 .exact key (q - p) (by omega) (by omega) (by rw[show p+(q - p)=q by omega];exact h)
 .exact key (q - 1 - p) (by omega) (by omega) (by rw[show p+(q - 1 - p)=q - 1 by omega];exact h)
def Bt {x:ByteArray}{q:Nat}(o:q<=x.size)(g:Asc x q):∀(a:List Int)(p:Nat),RA x p a->p<=q->∃b c,a=b++c/\RX x p q b/\RA x q c
 |a,p,h,hp=>by
  by_cases n:p=q
  .subst n;exact⟨[],a,rfl,rfl,h⟩
  .cases a with
   |nil=>have:p=x.size:=h;omega
   |cons r a=>
    obtain⟨e,f,l,m⟩:=h;by_cases d:q<p+aW x p
    .exact absurd g (mg e f (by omega) d)
    .obtain⟨b,c,i,j,k⟩:=Bt o g a (p+aW x p) m (by omega);exact⟨r::b,c,by rw[i];rfl,⟨e,f,l,j⟩,k⟩
def afr {t:ByteArray}:∀(f:Nat)(a:List Int)(p:Nat),RA t p a->t.size<=p+f->runesFrom t f p=some a
 |0,a,p,h,hf=>by
  cases a with
  |nil=>exact Gd t 0 p<|by omega
  |cons r a=>have:=h.1;omega
 |f+1,a,p,h,hf=>by
  cases a with
  |nil=>have:p=t.size:=h;exact Gd t (f+1) p<|by omega
  |cons r a=>
   obtain⟨b,c,d,e⟩:=h;have g:runesFrom t (f+1) p=(runesFrom t f<|p+aW t p).map (iD t p::·):=(by simp[runesFrom,b,c]);rw[g,afr f a _ e (by omega),d];rfl
def afW {x:ByteArray}{a b:Nat}(i:b<=x.size):∀(d:List Int)(c:Nat),a<=c->RX x c b d->RA (x.extract a b) (c - a) d
 |[],c,ha,h=>by
  have:c=b:=h;show c - a=(x.extract a b).size;simp;omega
 |r::d,c,ha,h=>by
  obtain⟨n,f,l,g⟩:=h;have e:=CY g;have j:=ajZ i ha (by omega) f e;have k:aW (x.extract a b) (c - a)=aW x c:=by rw[Xu,Xu,j]
  have m:iD (x.extract a b) (c - a)=iD x c:=by unfold iD;rw[j]
  refine⟨by simp;omega,by rw[k];exact f,by rw[m];exact l,?_⟩;rw[k,show c - a+aW x c=c+aW x c - a by omega];exact afW i d (c+aW x c) (by omega) g
def IX {x:ByteArray}{a b:Nat}{c:List Int}(d:b<=x.size)(h:RX x a b c):eZ (x.extract a b)=some c:=by
 have:=afW d c a (au _) h;rw[oK]at this;exact afr _ c 0 this (by omega)
def afq {x:ByteArray}{i:List Int}{a b:Nat}(h:RA x 0 i)(f:a<=b)(q:b<=x.size)(p:Asc x a)(g:Asc x b):∃c d e,i=c++(d++e)/\RX x 0 a c/\RX x a b d/\RA x b e:=by
 obtain⟨c,r,j,k,l⟩:=Bt (by omega:a<=x.size) p i 0 h (by omega);obtain⟨d,e,m,n,o⟩:=Bt q g r a l f;exact⟨c,d,e,by rw[j,m],k,n,o⟩
def Gb(a:ByteArray)(x:PR):List Int:=(eZ<|a.extract x.from_ x.dH).getD []
def jH(a:ByteArray):List PR->Nat->List Int
 |[],_=>[]
 |x::xs,k=>List.replicate (Gb a x).length (k:Int)++jH a xs (k+1)
def MI {s:ByteArray}:∀{a:List Int}{p:Nat},RA s p a->a.length<=s.size - p
 |[],_,_=>by simp
 |r::a,p,h=>by
  obtain⟨b,c,_,d⟩:=h;have:=MI d;have:=I6 s p b c;simp only[eJ];omega
def aff(a:ByteArray):∀(l:List PR)(k:Nat),(∀x∈l,zo a x)->(jH a l k).length<=l.length*a.size
 |[],_,_=>by simp[jH]
 |x::xs,k,h=>by
  have ih:=aff a xs (k+1) (λy c=>h y<|xQ _ c);obtain⟨d,e,⟨j,b⟩,_⟩:=h x NJ;have f:=MI<|uw b;have g:(a.extract x.from_ x.dH).size<=a.size:=by simp;omega
  have i:(Gb a x).length<=a.size:=by unfold Gb;rw[b,tW];omega
  rw[jH,bH,ah2,eJ,Nat.add_mul,Nat.one_mul];omega
def aoP(a:ByteArray)(l:List PR)(v:Value)(w:World)(hs:a.size<=600)(hl:l.length<=600)(hv:AA w v l)(hx:∀x∈l,zo a x):
  Calls prog 184 #[.string a,v] w λe w'=>∃v',e= .returned v'/\w'.ownsRow w.heap.size 3 1 v' (jH a l 0).length ((jH a l 0).map (Value.int .i64))/\Below w.heap.size w w':=by
 obtain⟨iI,fP,fQ,fR,fS⟩:=gu Tryz.FR;obtain⟨x,c,rfl,O⟩:=hv;have tH:Hid ((jH a l 0).length<=360000):=by
  show _<=_;have U:=aff a l 0 hx;have h2:l.length*a.size<=600*600:=zl hl hs;omega
 obtain⟨n,hn⟩:=ac l.length;have HN:=ah hn;rw[<-hn]at hl O ⊢;have HX:=ah O;have dS:=ah hx;obtain⟨R,V⟩:=ac<|jH a l 0;rw[<-V]at tH ⊢;have HR:=ah V.symm;clear hn O hx V;go_enter func184,ntmps184;go_wp2;go_loopg [5,6,7,10] n (λgk Q _ _ gw W=>∃(i:Nat)(o:List Int),i<=n/\gk=n - i/\gw= .int .i64 i/\o++jH a (l.drop i) i=R/\W.ownsRow w.heap.size 3 1 Q o.length (o.map<|Value.int .i64)/\Below w.heap.size w W);exact⟨0,[],by omega,rfl,rfl,HR.out,gQ _ _ _ _,aA _ _⟩
 rename World=>h
 obtain⟨i,o,hi,rfl,rfl,C,b,j⟩:=hrel;obtain⟨oa,oc,rfl⟩:=iA b;have oF:=ah j;have X:=j.size;have ag:o.length<=360000:=by
  have U:=tH.out;rw[<-C,bH]at U;omega
 by_cases aa:i<n
 .have f:i<l.length:=by rw[<-HN.out];exact aa
  obtain⟨g,rfl,ae,hP⟩:=HX.out (by omega);obtain⟨p0,p1,p2,p3,p4⟩:=(hP.below j) i f;obtain⟨k1,k2,⟨M,N⟩,_⟩:=dS.out (l[i]'f)<|pF f;rw[kO f,jH]at C;have af:=He p0;have I:Gb a (l[i]'f)=M:=by unfold Gb;rw[N];rfl
  rw[I]at C;generalize l[i]'f=y at*;obtain⟨yl,yk,J,F,yb,ye⟩:=y;simp only at p0 p1 p2 p3 p4 k1 k2 N;have ze:=ah<|uw N;obtain⟨t,L⟩:=ac<|a.extract J F;have ai:t.size<=600:=by rw[L];simp;omega
  have HT:=ah L.symm;rw[<-L]at ze;have P:=ah C;have ad:=MI ze.out;have y8:=ah b;have Y:(i:Int)<(n:Int):=by omega
  have U:(J:Int)<=(F:Int):=by omega
  have h2:(F:Int)<=(a.size:Int):=by omega
  clear hP f j C N I L b;go_wp2;rw[HT.out];have D8:(h.alloc (.cells #[.int .i64 yk,.int .i64 J,.int .i64 F,.int .i64 yb,.int .i64 ye] 75)).heap.size=h.heap.size+1:=by simp
  go_loopg [5] t.size (λgk Q W=>∃(p m:Nat)(A:List Int),p<=t.size/\gk=t.size - p/\RA t p A/\m+A.length=M.length/\W.heap[h.heap.size+1]? =some (.stringIter t p)/\W.ownsRow w.heap.size 3 1 Q (o.length+m) ((o++List.replicate m (i:Int)).map (Value.int .i64))/\Below w.heap.size w W);case atStart=>
   refine⟨0,0,M,by omega,rfl,ze.out,by omega,?_,?_,(oF.out.alloc X _).alloc (by simp;omega) _⟩
   .have:=GZ (h.alloc (.cells #[.int .i64 yk,.int .i64 J,.int .i64 F,.int .i64 yb,.int .i64 ye] 75)) t 0;rw[D8]at this;exact this
   .have:=(y8.out.alloc (.cells #[.int .i64 yk,.int .i64 J,.int .i64 F,.int .i64 yb,.int .i64 ye] 75)).alloc (.stringIter t 0);rw[J8,l5];exact this
  case round=>
   obtain⟨p,m,A,hp,rfl,K,hm,hit,b,j⟩:=hrel;obtain⟨qa,qc,rfl⟩:=iA b;have Uq:=j.size;by_cases z:p<t.size
   .cases A with
    |nil=>exact absurd K<|by show¬p=t.size;omega
    |cons r A=>
     obtain⟨_,hz,_,rK⟩:=K;have tK:=ah rK;have Z:p+aW t p<=t.size:=I6 t p z hz;have aj:0<aW t p:=(by omega);have hw:=I5 t p hz;have D:∀E,(Instr.next (.pointer<|some ⟨h.heap.size+1,0,none⟩) true E).run prog wr= .ok (.tuple #[.bool true,.int .i64 p,.int .i32<|iD t p]) (wr.iterAt (h.heap.size+1) t<|p+aW t p):=λE=>by
      rw[Sd wr (h.heap.size+1) t p E hit z,hw];rfl
     simp only[eJ]at hm;generalize aW t p=q at*;generalize iD t p=r' at*;obtain⟨wi,u⟩:=ac<|wr.iterAt (h.heap.size+1) t<|p+q;have mN:Hid (wi.heap[h.heap.size+1]? =some (.stringIter t<|p+q)):=(by show _=_;rw[u];exact Sc wr _ t p _ hit);have aD:Hid (Below w.heap.size w wi):=(by show Below _ _ _;rw[u];exact Sb j (by omega) _ _);have d:wi.ownsRow w.heap.size 3 1 (.slice qa (o.length+m) qc) (o.length+m) ((o++List.replicate m (i:Int)).map (Value.int .i64)):=nB b λk ob hk ho=>by
      rw[u,GJ]
      .exact ho
      .rintro rfl;exact Bp b hit hk
     rw[<-u]at D;have G:=aD.out.size;have ab:o.length+m<=1000000:=(by omega);clear u b hit rK hz hw j;go_wp2_with(at_builtin;refine qK _ rfl _ _ 31 rfl w.heap.size 3 iI (.int .i64 0) 8 underlying31 fP fQ fR fS rfl (by decide) _ _ _ rfl d _ _ rfl rfl ab G ?_);intro v2 w2 s B;have BN:Hid (w2.heap[h.heap.size+1]? =some (.stringIter t<|p+q)):=by
      show _=_;rw[B.block _ (bS mN.out) (Bp d mN.out).symm];exact mN.out
     have S:Hid (Below w.heap.size w w2):=aD.out.grown B G (λy hy=>(d.lt y hy).1);have T:Hid (w2.ownsRow w.heap.size 3 1 v2 (o.length+(m+1))<|(o++List.replicate (m+1) (i:Int)).map (Value.int .i64)):=by
      show World.ownsRow _ _ _ _ _ _ _;rw[NN,<-dO,fB,<-pH];simpa [dO]using s
     clear D d s B;go_wp2;go_roundg (t.size - (p+q));exact⟨p+q,m+1,A,Z,rfl,tK.out,by omega,BN.out,T.out,S.out⟩;omega
   .have D:∀E,(Instr.next (.pointer<|some ⟨h.heap.size+1,0,none⟩) true E).run prog wr= .ok (.tuple #[.bool false]) wr:=λE=>GK wr (h.heap.size+1) t p E hit z
    cases A with
    |cons r A=>exact absurd K.1 z
    |nil=>
     have H:m=M.length:=(by simpa using hm);have S:=ah j;have T:Hid (wr.ownsRow w.heap.size 3 1 (.slice qa (o.length+m) qc) (o++List.replicate m (i:Int)).length ((o++List.replicate m (i:Int)).map (Value.int .i64))):=by
      show World.ownsRow _ _ _ _ _ _ _;rw[bH,ah2];exact b
     have pz:Hid ((o++List.replicate m (i:Int))++jH a (l.drop<|i+1) (i+1)=R):=by
      show _=_;rw[<-P.out,H,dO]
     clear K hit b j H;go_wp2;go_roundg (n - (i+1));exact⟨i+1,o++List.replicate m (i:Int),by omega,rfl,by go_num,pz.out,T.out,S.out⟩;omega
 .obtain rfl:i=n:=by omega
  have Y:¬(i:Int)<(i:Int):=by omega
  rw[rV<|by rw[HN.out];exact au _,jH,l5]at C;subst C;have y8:=ah b;clear b j;go_wp2;go_ret;exact⟨_,rfl,y8.out,oF.out⟩
def xU(l:List Int):Bool:=if l.length=0 then true else Lib.downOK (λx y=>decide (x<y)) l.toArray (l.length - 1)
def amU(l:List Int)(v:Value)(w:World)(o:l.length<=1000)(m:jB w v l):
  Calls prog 185 #[v] w λe k=>e= .returned (.bool<|xU l)/\Below w.heap.size w k:=by
 unfold xU;by_cases d:l.length=0
 .rw[aj d];obtain⟨x,c,rfl,_⟩:=m.form;rw[d];exact(AnyO.slices_IsSorted_int_none Tryz.laysSorted x c w).mono λe k ⟨f,h⟩=>⟨f,by rw[h];exact aA _ _⟩
 .rw[ai d];obtain⟨x,c,rfl,hx⟩:=m.form;obtain⟨b,j,rfl,n⟩:=hx (by omega);refine(AnyO.slices_IsSorted_int Tryz.laysSorted b j c l.toArray w (λi g=> ?_)<|by simp;omega).mono ?_
  .have a:i<l.length:=(by simpa using g);rw[n i a];congr 2;rw[aO,aM a];simp[a]
  .rintro e k ⟨f,q,h⟩;exact⟨f,by rw[h];exact below_drewN w q⟩
def BA(b a:List Int):List Int:=(nA<|gV b (b.map cls) 0).map λj=>a.getD j.toNat 0
def aqR(a:ByteArray)(b:List Int)(l:List PR)(v:Value)(w:World)(aL aT aC:Addr)(hs:a.size<=600)(hr:eZ a=some b)(T:b.length<=300)(hl:l.length<=600)(hE:Env w aL aT aC)(hB:Br w)(hv:AA w v l)(hx:∀x∈l,zo a x)(hM:(jH a l 0).length=b.length):
  Calls prog 109 #[.string a,v] w λe A=>e= .returned (.bool<|xU<|BA b<|jH a l 0)/\Below w.heap.size w A:=by
 obtain⟨iI,fP,fQ,fR,fS⟩:=gu Tryz.FR;have Y:=aoP a l v w hs hl hv hx;have p5:Hid (∀W,Below w.heap.size w W->Calls prog 55 #[.string a,.int .i64 0] W λe A=>∃g,e= .returned (.slice (some ⟨g,0,none⟩) b.length b.length)/\aY A W.heap.size 3 g b.length (iv<|gV b (b.map cls) 0)/\Below W.heap.size W A):=λW hW=>aiH a b 0 W aL aT aC hs hr T (hE.below hW)<|hB.below hW
 have HOr:Hid (∀W g B,aY W B 3 g b.length (iv<|gV b (b.map cls) 0)->Calls prog 59 #[.slice (some ⟨g,0,none⟩) b.length b.length] W λe A=>∃g,e= .returned (.slice (some ⟨g,0,none⟩) b.length b.length)/\aY A W.heap.size 3 g b.length (iv<|nA<|gV b (b.map cls) 0)/\Below W.heap.size W A):=λW g B h=>by
  rw[<-aoq (VN b)];exact aiK _ g 0 b.length b.length W (Mj b) (by omega) (h.lt g rfl).2 (λk m=>by rw[fZ];exact jk h k m) (VN b)
 have JF:=ah<|Wm b;have z:(nA<|gV b (b.map cls) 0).length=b.length:=by rw[Wn,Mj]
 have L:Hid (BA b (jH a l 0)=(nA<|gV b (b.map cls) 0).map λj=>(jH a l 0).getD j.toNat 0):=rfl;rw[hM]at Y;obtain⟨s,M⟩:=ac<|BA b<|jH a l 0;rw[<-M]at L ⊢;have yY:Hid (∀W v,jB W v s->Calls prog 185 #[v] W λe A=>e= .returned (.bool<|xU s)/\Below W.heap.size W A):=λW v h=>amU s v W (by rw[L.out,ja,z];omega) h
 generalize xU s=R at*;generalize gV b (b.map cls) 0=LV at*;generalize nA LV=J at*;generalize jH a l 0=K at*;obtain⟨n,hN⟩:=ac b.length;rw[<-hN]at T Y p5 HOr JF z hM;have rR:=ah hM;have p6:=ah z;clear hN z hM M hE hB hv hx hr;go_enter func109,ntmps109;go_wp2_with fail;refine Y.mono ?_;clear Y;rintro ev f ⟨az,rfl,E,G⟩;obtain⟨na,nc,rfl⟩:=iA E;have Y1:=ah E;have aD:=ah G;have al:=G.size;clear E G;go_wp2_with(at_make;refine wpList_make_own _ rfl _ _ 31 rfl f.heap.size 3 iI (.int .i64 0) 1 underlying31 fP fQ fR .i64 .i64 _ n rfl rfl (by omega) (by rw[fS];omega) (by unfold maxLen;omega) (by omega) ?_);intro W2 r Q;have aI:Hid (Below f.heap.size f W2):=(aA _ _).grown Q (au _) (λk m=>by cases m);have ay:=aI.out.size;have Yo:=ah<|aD.out.trans<|aI.out.mono al;have bL:=ah r;clear r Q;go_wp2_with fail;refine(p5.out _ Yo.out).mono ?_;rintro ev W3 ⟨gl,rfl,U,H⟩;have uJ:=ah U;have aG:=ah H;have am:=H.size;clear U H;go_wp2_with fail;refine(HOr.out _ _ _ uJ.out).mono ?_;rintro ev t ⟨C,rfl,V,O⟩;have Ry:=ah V;have cT:=ah<|aG.out.trans<|O.mono am;have uj:=cT.out.size;have uH:=ah<|iZ bL.out cT.out;have ab:=ah<|iZ (iZ Y1.out aI.out) cT.out;have ae:Hid (Below w.heap.size w t):=Yo.out.trans (cT.out.mono<|by omega);clear V O p5 HOr;have ad:Hid (∀g,(Value.slice na n nc).ownBlock=some g->g<f.heap.size):=λg hg=>(Y1.out.lt g hg).2
 have Yn:Hid (C<t.heap.size/\W3.heap.size<=C):=⟨(Ry.out.lt C rfl).2,(Ry.out.lt C rfl).1⟩
 have an:f.heap.size<W2.heap.size:=(bL.out.lt f.heap.size rfl).2;have ao:f.heap.size<W3.heap.size:=by omega
 go_wp2;go_loopg [6,8,19] n (λgk sv _ gw W=>∃(i:Nat),i<=n/\gk=n - i/\gw= .int .i64 i/\W.ownsRow f.heap.size 3 1 sv i ((s.take i).map (Value.int .i64))/\(∀k,sv.ownBlock=some k->k=f.heap.size∨t.heap.size<=k)/\t.heap.size<=W.heap.size/\Below w.heap.size w W/\(∀k,k<t.heap.size->k≠f.heap.size->W.heap[k]? =t.heap[k]?));exact⟨0,by omega,rfl,rfl,by simpa using uH.out,λk m=> .inl (by simpa [Value.ownBlock]using m.symm),au _,ae.out,λ_ _ _=>rfl⟩
 rename World=>wa
 obtain⟨i,hi,rfl,rfl,c,F,ax,N,p⟩:=hrel;obtain⟨sa,sc,rfl⟩:=iA c;have P:=N.size;by_cases ak:i<n
 .have d:i<J.length:=by rw[p6.out];exact ak
  obtain⟨VA,VB⟩:=JF.out (J[i]'d)<|pF d;have D:wa.ownsRow W3.heap.size 3 1 (.slice (some ⟨C,0,none⟩) n n) n (iv J):=nB Ry.out λk o m ho=>by
   obtain rfl:C=k:=(by simpa [Value.ownBlock]using m);rw[p C Yn.out.1<|by have:=Yn.out.2;omega];exact ho
  have Ib:wa.cell? ⟨C,i,none⟩=some (.int .i64<|J[i]'d):=by rw[di D i<|by omega];simp[iv,d]
  obtain⟨u,I⟩:∃u:Nat,J[i]'d=(u:Int):=⟨(J[i]'d).toNat,by omega⟩
  have E:wa.ownsRow w.heap.size 3 1 (.slice na n nc) n (K.map<|Value.int .i64):=nB ab.out λk o m ho=>by
   have av:=ad.out k m;rw[p k (by omega)<|by omega];exact ho
  obtain⟨ng,nd,S,aw,_,ap⟩:=nC E (by omega);simp only[pJ,oC]at S;obtain⟨rfl,rfl⟩:=S;have aj:u<n:=by omega
  have CB:u<K.length:=by rw[rR.out];exact aj
  have aq:wa.cell? ⟨ng,u,none⟩=some (.int .i64<|K.getD u 0):=by
   rw[di E u<|by omega,jq,aM CB,aO,aM CB];rfl
  have X:s.take (i+1)=s.take i++[K.getD u 0]:=by
   have Ub:i<s.length:=(by rw[L.out,ja];exact d);rw[pG Ub];congr 2;simp only[L.out,List.getElem_map,I,Cg]
  rw[I]at Ib;have p7:=ah X;generalize K.getD u 0=q at*;have ai:(i:Int)<(n:Int):=by omega
  have ar:(u:Int)<(n:Int):=by omega
  have xD:=ah F;have aa:=ah p;have HB:=ah N;clear I X D E d CB VA VB F p N;have ag:f.heap.size<=wa.heap.size:=by omega
  go_wp2_with(at_builtin;refine Ag _ rfl _ _ 31 rfl f.heap.size 3 iI (.int .i64 0) 8 underlying31 fP fQ fR fS rfl (by decide) _ _ _ rfl c _ _ _ rfl rfl rfl (by omega) ag ?_);intro v5 w5 cK Z nt;have bG:Hid (Below w.heap.size w w5):=HB.out.grown Z P (λy hy=>by have:=(c.lt y hy).1;omega);have kM:Hid (w5.ownsRow f.heap.size 3 1 v5 (i+1)<|(s.take<|i+1).map (Value.int .i64)):=by
   show World.ownsRow _ _ _ _ _ _ _;rw[p7.out,fB,ZP];exact cK
  have QG:Hid (∀k,v5.ownBlock=some k->k=f.heap.size∨t.heap.size<=k):=λk m=>by
   rcases nt with h|h
   .rw[h]at m;exact xD.out k m
   .rw[h]at m;have:=aJ m
    first|omega|(simp at this;omega)
  have EG:Hid (∀k,k<t.heap.size->k≠f.heap.size->w5.heap[k]? =t.heap[k]?):=λk h1 h2=>by
   rw[Z.block k (by omega) λe=>by rcases xD.out k e.symm with h|h<;>omega];exact aa.out k h1 h2
  have af:t.heap.size<=w5.heap.size:=by have:=Z.size;omega
  clear c cK Z nt;go_wp2;go_roundg (n - (i+1));exact⟨i+1,by omega,rfl,by go_num,kM.out,QG.out,af,bG.out,EG.out⟩;omega
 .obtain rfl:i=n:=by omega
  have ai:¬(i:Int)<(i:Int):=by omega
  have Ub:s.length=i:=by rw[L.out,ja];exact p6.out
  rw[ku<|by omega]at c;have Dl:=ah<|jB.Mx c;have HB:=ah N;clear c F N p Ub;go_wp2_with fail;refine(yY.out _ _ Dl.out).mono ?_;rintro ev w6 ⟨rfl,fC⟩;have dR:=ah<|HB.out.trans<|fC.mono P;clear fC;go_wp2;go_ret;exact⟨rfl,dR.out⟩
def MM(a:ByteArray)(b:List Int)(l:List PR):Bool:=(found (b.map cls)==0)&&xU (BA b<|jH a l 0)&&l.all (qi a)
def amS(a:ByteArray)(c:List Int)(l:List PR)(v:Value)(w:World)(aL p o:Addr)(y:a.size<=600)(t:eZ a=some c)(u:c.length<=300)(H:l.length<=600)(q:Env w aL p o)(E:Br w)(z:AA w v l)(hx:∀x∈l,zo a x)(G:(jH a l 0).length=c.length):
  Calls prog 64 #[.string a,v] w λe n=>e= .returned (.bool<|MM a c l)/\Below w.heap.size w n:=by
 have r:=ah<|aoL a c w aL p o y t q;have B:Hid (∀W,Below w.heap.size w W->Calls prog 109 #[.string a,v] W λe n=>e= .returned (.bool<|xU<|BA c<|jH a l 0)/\Below W.heap.size W n):=λW i=>aqR a c l v W aL p o y t u H (q.below i) (E.below i) (z.below i) hx G
 have J:Hid (∀W,Below w.heap.size w W->Calls prog 110 #[.string a,v] W λe n=>e= .returned (.bool<|l.all<|qi a)/\Below W.heap.size W n):=λW i=>amz a l v W aL p o y H (q.below i) (z.below i) hx
 have K:Hid (MM a c l=((found (c.map cls)==0)&&xU (BA c<|jH a l 0)&&l.all (qi a))):=rfl;generalize MM a c l=R at*;generalize xU (BA c<|jH a l 0)=D at*;generalize l.all (qi a)=C at*;generalize found (c.map cls)=F at*;have g:=K.out;clear q E z hx G t;by_cases hF:F=0
 .subst hF;cases D
  .simp at g;subst g;go_enter func64,ntmps64;go_wp2_with fail;refine r.out.mono ?_;rintro k I ⟨rfl,b⟩;have f:=ah b;have h:=b.size;clear b;go_wp2_with fail;refine(B.out _ f.out).mono ?_;rintro k M ⟨rfl,d⟩;have j:=ah<|f.out.trans<|d.mono h;clear d;go_wp2;go_ret;exact⟨rfl,j.out⟩
  .simp at g;subst g;go_enter func64,ntmps64;go_wp2_with fail;refine r.out.mono ?_;rintro k I ⟨rfl,b⟩;have f:=ah b;have h:=b.size;clear b;go_wp2_with fail;refine(B.out _ f.out).mono ?_;rintro k M ⟨rfl,d⟩;have j:=ah<|f.out.trans<|d.mono h;have A:=j.out.size;clear d;go_wp2_with fail;refine(J.out _ j.out).mono ?_;rintro k N ⟨rfl,m⟩;have L:=ah<|j.out.trans<|m.mono A;clear m;go_wp2;go_ret;exact⟨rfl,L.out⟩
 .have s:=ae hF;rw[s]at g;simp at g;subst g;go_enter func64,ntmps64;go_wp2_with fail;refine r.out.mono ?_;rintro k I ⟨rfl,b⟩;have f:=ah b;clear b;go_wp2;go_ret;exact⟨rfl,f.out⟩
def pR:Nat->List Int->List Nat
 |_,[]=>[]
 |p,r::rs=>p::pR (p+wd r) rs
def WE(p:Nat)(a:List Int):(pR p a).length=a.length:=by
 induction a generalizing p with
 |nil=>rfl
 |cons r a ih=>simp[pR,ih]
def ao3(p:Nat)(a:List Int)(j:Nat)(b:j<a.length):(dA p a).getD j 0=(pR p a).getD j 0:=by
 induction a generalizing p j with
 |nil=>simp at b
 |cons r a ih=>
  cases j with
  |zero=>simp[dA,pR]
  |succ j=>simpa [dA,pR]using ih (p+wd r) j<|by simpa using b
def CZ {x:ByteArray}{a:Nat}{r:Int}(b:a<x.size)(c:aW x a≠0)(d:r=iD x a):wd r=aW x a:=by rw[d];exact Xx x a b c
def afc {x:ByteArray}:∀(c:List Int)(a b:Nat)(d:List Int),RX x a b c->pR a (c++d)=pR a c++pR b d
 |[],a,b,d,h=>by have:a=b:=h;subst this;rfl
 |r::c,a,b,d,h=>by
  obtain⟨e,f,g,i⟩:=h;have j:=CZ e f g;rw[uL,pR,pR,j,afc c _ b d i];rfl
def afd {x:ByteArray}:∀(d:List Int)(a b:Nat),RX x a b d->∀q∈pR a d,a<=q/\q<b
 |[],a,b,_,q,c=>by cases c
 |r::d,a,b,h,q,c=>by
  obtain⟨f,g,i,e⟩:=h;have k:=CZ f g i;have j:=CY e;rw[pR,k]at c;rcases fW.1 c with rfl|c
  .omega
  .have:=afd d _ b e q c;omega
def afe {x:ByteArray}:∀(c:List Int)(a:Nat),RA x a c->∀q∈pR a c,a<=q
 |[],a,_,q,b=>by cases b
 |r::c,a,h,q,b=>by
  obtain⟨d,e,f,g⟩:=h;have i:=CZ d e f;rw[pR,i]at b;rcases fW.1 b with rfl|b
  .omega
  .have:=afe c _ g q b;omega
def We {x:ByteArray}:∀(c:List PR)(a k:Nat)(b:List Int),zz a x.size c->RA x a b->(∀y∈c,PX x y)->jH x c k=(pR a b).map (λq=>pI q c k)
 |[],a,k,b,hc,hr,_=>by
  have s:a=x.size:=hc;cases b with
  |nil=>rfl
  |cons r b=>have:=hr.1;omega
 |y::ys,a,k,b,hc,hr,hx=>by
  obtain⟨m,u,n⟩:=hc;have i:=hx y NJ;obtain⟨d,j,o,e,l⟩:=Bt i.tl i.aT b a hr (by omega);have g:Gb x y=d:=by unfold Gb;rw[m,IX i.tl e];rfl
  rw[jH,g,o,afc d a y.dH j e,fB];congr 1
  .have p:∀q∈pR a d,pI q (y::ys) k=(k:Int):=λq f=>by
    have:=afd d a y.dH e q f;rw[pI,aj ⟨by omega,this.2⟩]
   rw[J3 p,List.map_const',WE]
  .rw[We ys y.dH (k+1) j n l λz t=>hx z<|xQ _ t];refine J3 λq f=> ?_
   have:=afe j y.dH l q f;rw[pI,ai λh=>by omega]
def an5 {x:ByteArray}{a:List PR}{b:List Int}(c:zz 0 x.size a)(d:RA x 0 b)(hx:∀y∈a,PX x y):(jH x a 0).length=b.length:=by
 rw[We a 0 0 b c d hx,ja,WE]
def aqS {x:ByteArray}{c:List PR}{a:List Int}(d:zz 0 x.size c)(g:RA x 0 a)(hx:∀y∈c,PX x y):BA a (jH x c 0)=Xk a c:=by
 unfold BA Xk;refine J3 λj e=> ?_
 obtain⟨h,i⟩:=Wm a j e;have b:j.toNat<a.length:=by omega
 rw[ao3 0 a _ b,We c 0 0 a d g hx];have f:j.toNat<(pR 0 a).length:=by rw[WE];exact b
 rw[aO,jq,aO,aM f];rfl
def agQ:∀(l:List Int)(a:Int),BD a l=true↔(∀x,l[0]? =some x->a<=x)/\∀i,i+1<l.length->l.getD i 0<=l.getD (i+1) 0
 |[],a=>by simp[BD]
 |k::ks,a=>by
  rw[BD];by_cases h:k<a
  .rw[aj h];constructor
   .intro g;cases g
   .intro⟨e,_⟩;have:=e k rfl;omega
  .rw[ai h,agQ ks k];constructor
   .rintro⟨e,c⟩;refine⟨λx hx=>by have:k=x:=(by simpa using hx);omega,λi d=> ?_⟩;cases i with
    |zero=>
     cases ks with
     |nil=>simp at d
     |cons b f=>simpa using e b rfl
    |succ i=>simpa using c i<|by simpa using d
   .rintro⟨_,c⟩;refine⟨λx hx=> ?_,λi d=> ?_⟩
    .cases ks with
     |nil=>cases hx
     |cons b f=>
      have j:b=x:=(by simpa using hx);subst j;simpa using c 0<|by simp
    .simpa using c (i+1)<|by simpa using d
def down_up {l:List Int}(h:∀x∈l, -1<=x):xU l=BD (-1) l:=by
 rw[C6,agQ];unfold xU;by_cases c:l.length=0
 .have:l=[]:=Sn.1 c;subst this;simp
 .rw[ai c,Lib.downOK_iff];have a:∀i,i<l.length->l.toArray[i]! =l.getD i 0:=λi b=>by
   rw[aO,aM b];simp[b]
  constructor
  .intro d;refine⟨λx hx=>h x<|NK hx,λi b=> ?_⟩;have:=d i (by omega);rw[a _ (by omega),a _ (by omega)]at this;simp at this;exact this
  .rintro⟨_,e⟩ i b;rw[a _ (by omega),a _ (by omega)];have:=e i (by omega);simp;exact this
def aeU(q:Nat):∀(l:List PR)(k:Nat), -1<=pI q l k
 |[],_=>by simp[pI]
 |x::xs,k=>by
  rw[pI];split
  .omega
  .exact aeU q xs (k+1)
def aor {x:ByteArray}{a:List PR}{b:List Int}(c:zz 0 x.size a)(d:RA x 0 b)(hx:∀y∈a,PX x y):xU (BA b<|jH x a 0)=CR b a:=by
 rw[aqS c d hx];unfold CR;refine down_up λz e=> ?_
 obtain⟨j,_,rfl⟩:=jM.1 e;exact aeU _ _ _
def afg {x:ByteArray}{k:List Int}{y:PR}(b:RA x 0 k)(hx:PX x y):zo x y:=by
 obtain⟨p,j,q,_,_,e,_⟩:=afq b (gF hx.ft) hx.tl hx.aF hx.aT;refine⟨gF hx.ft,hx.tl,⟨j,IX hx.tl e⟩,λg=> ?_⟩;obtain⟨l,a,m,c,d,_,_⟩:=hx.bd g;have h:=hx.tl;obtain⟨n,i,o,_,_,f,_⟩:=afq b a (by omega:y.end_<=x.size) c d;exact⟨a,by omega,i,IX (by omega) f⟩
def Vx {w wr:World}{B b p:Nat}{z:ByteArray}{r:Int}{f:List Int}(g:RA z p (r::f))(hit:wr.heap[b]? =some (.stringIter z p))(i:Below B w wr)(h:B<=b):
  ∃wi n,(∀d,(Instr.next (.pointer<|some ⟨b,0,none⟩) true d).run prog wr= .ok (.tuple #[.bool true,.int .i64 p,.int .i32 r]) wi)/\RA z (p+n) f/\p+n<=z.size/\0<n/\wd r=n
   /\Hid (wi.heap[b]? =some (.stringIter z<|p+n))/\Hid (Below B w wi)/\wi=wr.iterAt b z (p+n):=by
 obtain⟨a,c,e,j⟩:=g;refine⟨_,aW z p,λd=> ?_,j,I6 z p a c,by omega,CZ a c e,Sc wr _ z p _ hit,Sb i h _ _,rfl⟩;rw[Sd wr b z p d hit a,I5 z p c,e];rfl
def nV:List Int->Nat->Int
 |[],_=> -1
 |r::rs,p=>if eX r then(p:Int)else nV rs (p+wd r)
def sJ:List Int->Bool->Nat->Int
 |[],_,_=> -1
 |r::rs,e,p=>if e&&eX r then(p:Int)else sJ rs (r==92&& !e) (p+wd r)
def EJ(s:ByteArray)(f t:Nat)(j:List Int)(w:World)(N:f<=t)(S:t<=s.size)(Q:s.size<=100000)(y:eZ (s.extract f t)=some j)(x:Sp w):
  Calls prog 167 #[.string s,.int .i64 f,.int .i64 t] w λe u=>e= .returned (.int .i64<|nV j f)/\Below w.heap.size w u:=by
 have E:Hid (∀(r:Int)(W:World),Below w.heap.size w W->Calls prog 170 #[.int .i32 r] W λe u=>e= .returned (.bool<|eX r)/\Below W.heap.size W u):=λr W G=>Vt r W<|x.below G
 have H:(s.extract f t).size<=t - f:=by rw[Ak];omega
 have L:=ah<|uw y;obtain⟨R,m⟩:=ac<|nV j f;rw[<-m];have F:=ah m.symm;clear x y m;go_enter func167,ntmps167;go_wp2;generalize s.extract f t=z at*;go_loopg [7,8] z.size (λgk _ _ W=>∃(p:Nat)(k:List Int),p<=z.size/\gk=z.size - p/\RA z p k/\nV k (f+p)=R/\W.heap[w.heap.size]? =some (.stringIter z p)/\Below w.heap.size w W);exact⟨0,j,by omega,rfl,L.out,F.out,GZ w z 0,(aA _ _).alloc (au _) _⟩;obtain⟨p,C,P,rfl,h,a,hit,i⟩:=hrel;cases C with
 |cons r k=>
  obtain⟨wi,n,d,A,o,O,g,I,l, -⟩:=Vx h hit i<|au _;have K:=ah A;rw[nV,g]at a;have B:=E.out r wi l.out;clear h A g hit i;go_wp2_with fail;refine B.mono ?_;rintro M T ⟨rfl,b⟩;have J:=ah<|bq b I.out;have v:=ah<|l.out.trans<|b.mono l.out.size;clear d b B;cases hh:eX r
  .rw[hh,ai<|by simp]at a;have c:=ah a;clear a;go_wp2;go_roundg (z.size - (p+n));exact⟨p+n,k,o,rfl,K.out,by rw[<-pH];exact c.out,J.out,v.out⟩;omega
  .rw[hh,aj rfl]at a;have c:=ah a;clear a;go_wp2;go_ret;exact⟨dM<|by rw[<-c.out];omega,v.out⟩
 |nil=>
  have D:=ah i;have c:=ah a;have d:∀q,(Instr.next (.pointer<|some ⟨w.heap.size,0,none⟩) true q).run prog wr= .ok (.tuple #[.bool false]) wr:=λq=>GK wr w.heap.size z p q hit<|by have:p=z.size:=h;omega
  clear i a hit h;go_wp2;go_ret;exact⟨dM c.out,D.out⟩
def akE(s:ByteArray)(f t:Nat)(m:List Int)(w:World)(O:f<=t)(T:t<=s.size)(S:s.size<=100000)(C:eZ (s.extract f t)=some m)(B:Sp w):
  Calls prog 168 #[.string s,.int .i64 f,.int .i64 t] w λe u=>e= .returned (.int .i64<|sJ m false f)/\Below w.heap.size w u:=by
 have I:Hid (∀(r:Int)(W:World),Below w.heap.size w W->Calls prog 170 #[.int .i32 r] W λe u=>e= .returned (.bool<|eX r)/\Below W.heap.size W u):=λr W K=>Vt r W<|B.below K
 have L:(s.extract f t).size<=t - f:=by rw[Ak];omega
 have N:=ah<|uw C;obtain⟨R,o⟩:=ac<|sJ m false f;rw[<-o];have J:=ah o.symm;clear B C o;go_enter func168,ntmps168;go_wp2;generalize s.extract f t=z at*;go_loopg [7,8,9] z.size (λgk A _ _ W=>∃(p:Nat)(i:List Int)(x:Bool),A= .bool x/\p<=z.size/\gk=z.size - p/\RA z p i/\sJ i x (f+p)=R/\W.heap[w.heap.size]? =some (.stringIter z p)/\Below w.heap.size w W);exact⟨0,m,false,rfl,by omega,rfl,N.out,J.out,GZ w z 0,(aA _ _).alloc (au _) _⟩;obtain⟨p,G,x,rfl,Q,rfl,k,a,hit,l⟩:=hrel;cases G with
 |cons r i=>
  obtain⟨wi,n,g,E,d,P,h,D,j, -⟩:=Vx k hit l<|au _;have F:=ah E;rw[sJ,h]at a;have v:=I.out r wi j.out;clear k E h hit l;cases x
  .rw[M4,ai<|by simp]at a;cases KM:r==92;all_goals
    rw[KM]at a;have b:=ah a;clear a v;go_wp2;go_roundg (z.size - (p+n));exact⟨p+n,i,_,rfl,d,rfl,F.out,by rw[<-pH];exact b.out,D.out,j.out⟩;omega
  .go_wp2_with fail;refine v.mono ?_;rintro A U ⟨rfl,c⟩;have M:=ah<|bq c D.out;have y:=ah<|j.out.trans<|c.mono j.out.size;clear g c v;cases hh:eX r
   .rw[hh,Yh,ai<|by simp,Bool.not_true,Yh]at a;have b:=ah a;clear a;cases KM:r==92;all_goals
     go_wp2;go_roundg (z.size - (p+n));exact⟨p+n,i,_,rfl,d,rfl,F.out,by rw[<-pH];exact b.out,M.out,y.out⟩;omega
   .rw[hh,Bool.and_self,aj rfl]at a;have b:=ah a;clear a;go_wp2;go_ret;exact⟨dM<|by rw[<-b.out];omega,y.out⟩
 |nil=>
  have H:=ah l;have b:=ah a;have g:∀q,(Instr.next (.pointer<|some ⟨w.heap.size,0,none⟩) true q).run prog wr= .ok (.tuple #[.bool false]) wr:=λq=>GK wr w.heap.size z p q hit<|by have:p=z.size:=k;omega
  clear l a hit k;go_wp2;go_ret;exact⟨dM b.out,H.out⟩
def vF(s:ByteArray)(f t:Nat):List Int:=(eZ<|s.extract f t).getD []
def mW(s:ByteArray)(x:PR):Int:=if x.kind=0 then nV (vF s x.from_ x.dH) x.from_ else if x.kind=1 then sJ (vF s x.body x.end_) false x.body else -1
def ak1(s:ByteArray)(x:PR)(w:World)(p:s.size<=100000)(h:Sp w)(hx:zo s x):
  Calls prog 102 #[.string s,tj x] w λe E=>e= .returned (.int .i64<|mW s x)/\Below w.heap.size w E:=by
 obtain⟨G,j,n,y,m,v⟩:=x;obtain⟨o,u,⟨t,a⟩,g⟩:=hx;simp only at o u a g;unfold tj mW vF;simp only;have c:Hid (Below w.heap.size w<|w.alloc (.cells #[.int .i64 j,.int .i64 n,.int .i64 y,.int .i64 m,.int .i64 v] 75)):=(aA _ _).alloc (au _) _;by_cases i:j=0
 .subst i;rw[aj rfl,a];simp only[tW];have f:=EJ s n y t _ o u p a (h.below c.out);generalize nV t n=q at*;clear a g h;go_enter func102,ntmps102;go_wp2_with fail;refine f.mono ?_;rintro B F ⟨rfl,b⟩;have k:=ah<|c.out.trans<|b.mono c.out.size;clear b f;go_wp2;go_ret;exact⟨rfl,k.out⟩
 have C:((j:Int)==0)=false:=by simpa using i
 rw[ai i];by_cases l:j=1
 .subst l;obtain⟨z,A,⟨r,d⟩⟩:=g i;rw[aj rfl,d];simp only[tW];have f:=akE s m v r _ z A p d (h.below c.out);generalize sJ r false m=q at*;clear a g h d;go_enter func102,ntmps102;go_wp2_with fail;refine f.mono ?_;rintro B F ⟨rfl,b⟩;have k:=ah<|c.out.trans<|b.mono c.out.size;clear b f;go_wp2;go_ret;exact⟨rfl,k.out⟩
 .have D:((j:Int)==1)=false:=by simp;omega
  rw[ai l];clear a g h i l;go_enter func102,ntmps102;go_wp2;go_ret;exact⟨rfl,c.out⟩
