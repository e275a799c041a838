import Derived.Test.YtkbinfhclaafhaaGreatDoorW08
import Derived.Lib.ValidU
import Derived.Lib.RuneCount
namespace Go.Proofs.YtkbinfhclaafhaaGreatDoor
open Go.RowKit
open Go.Proofs.Tryz
set_option maxRecDepth 100000
set_option maxHeartbeats 32000000
set_option linter.all false
open Go.Value renaming int->Y,slice->R,string->cd,bool->ce,tuple->de,agg->df
open Go.IntKind renaming i64->Z
open Option renaming none->U,some->V
open Go.Addr renaming mk->S
open Go.Obj renaming cells->bi
open Go.Ending renaming returned->bj
open Go renaming World->cw,Value->cJ,Calls->cP
open Go.RowKit renaming Below->cD,Hid->dd
open Bool renaming false->da,true->db
def G1(l:aw)(b s u n:Nat)(w:cw)(E:l.length=n)(Q:n<=1000)(D:bJ w b s l):cP prog 46 #[.slice (V<|S b s U) n u] w λe G=>∃v,e=bj v/\G.ownsRow w.1.size 3 1 v n ((l.map cls).map (Value.int .i64))/\cD w.1.size w G:=by
 obtain⟨N,L,A,B,C⟩:=fP Tryz.Dp;have I:=ah D;have t:=ah E;clear D E;go_enter func46,ntmps46;go_wp2;go_loopw [3,4] (λv i wr=>∃k:Nat,k<=n/\i=Y Z k/\wr.ownsRow w.1.size 3 1 v k (((l.take k).map cls).map (Value.int .i64))/\cD w.1.size w wr) (λ_ i _=>n - (intOf i).toNat);case atStart=>exact⟨0,lB _,rfl,fh _ _ _ _,aA _ _⟩
 case round=>
  obtain⟨k,P,rfl,d,o⟩:=hrel;have z:=o.size;by_cases r:k<n
  .have f:=(I.out.below o) k (by rw[t.out];exact r);obtain⟨x,hx⟩:=ac<|l.getD k 0;rw[<-hx]at f;have J:dd ((l.take<|k+1).map cls=(l.take k).map cls++[cls x]):=by
    have q:k<l.length:=(by rw[t.out];exact r);show(l.take<|k+1).map cls=(l.take k).map cls++[cls x]
    rw[hx,pR q,gu];simp[aN,aK q]
   clear hx;have F:(k:Int)<(n:Int):=(by omega);go_wp2_with fail;refine(PT x _).mono ?_;rintro e H ⟨rfl,a⟩;have h:H.ownsRow w.1.size 3 1 _ k (((l.take k).map cls).map (Value.int .i64)):=d.kept ⟨a.os,a.tape,a.output,a.size,λj M _=>a.block j M⟩ (row:=U) (by rcases d.2 with⟨rfl,_⟩|⟨g,c,K,rfl,_⟩<;>simp[Value.ownBlock]);have p:cD w.1.size w H:=o.trans<|a.mono z;have O:=p.size;clear d o a f;go_wp2_with(at_builtin;refine Ct _ rfl _ _ 31 rfl w.1.size 3 N (Y Z 0) 8 underlying31 L A B C rfl (by decide) _ _ _ rfl h _ _ rfl rfl (by omega) (by omega) ?_);intro R T m y;clear h;go_wp2;go_roundw;case rel=>exact⟨k+1,by omega,by go_num,by rw[J.out];simpa using m,p.trans y⟩
   case measure=>simp[intOf];omega
  go_wp2;go_ret;refine⟨_,rfl,?_,o⟩;have e:k=n:=(by omega);subst e;rwa [jY<|by rw[t.out];omega]at d
def ale(w:cw):cP prog 46 #[R U 0 0] w λe a=>e=bj (R U 0 0)/\a=w:=by go_enter func46,ntmps46;go_wp2;refine dN 1 ?_;rw[bB];go_wp2;go_ret;exact⟨rfl,rfl⟩
def GY(l:aw)(v:cJ)(w:cw)(h:l.length<=1000)(i:dF w v l):cP prog 46 #[v] w λe d=>∃f,e=bj f/\d.ownsRow w.1.size 3 1 f l.length ((l.map cls).map (Value.int .i64))/\cD w.1.size w d:=by rcases i with⟨rfl,rfl⟩|⟨b,c,a,rfl,g⟩;refine(ale w).mono ?_;rintro e d ⟨rfl,rfl⟩;exact⟨_,rfl,fh _ _ _ _,aA _ _⟩;exact G1 l b c a l.length w rfl h g
def bu(s:bc):Int:=if 600<s.size then 1 else match cK s with
 |none=>2
 |some l=>if fH 10 l=db then 2 else if 300<l.length then 1 else 0
def iF(s:bc):aw:=if bu s=0 then(cK s).getD []else []
def jm(e:Int):cJ:=df #[Y Z e,Y Z (if e=0 then 0 else -1),Y Z (if e=0 then 0 else -1)]
def Py {s:bc}(h:600<s.size):bu s=1:=aj h
def Pz {s:bc}(h:¬600<s.size)(a:cK s=U):bu s=2:=by unfold bu;rw[ai h,a]
def Uz {s:bc}{l:aw}(h:¬600<s.size)(b:cK s=V l)(a:fH 10 l=db):bu s=2:=by unfold bu;rw[ai h,b];exact aj a
def UA {s:bc}{l:aw}(h:¬600<s.size)(c:cK s=V l)(a:¬fH 10 l=db)(b:300<l.length):bu s=1:=by unfold bu;rw[ai h,c];exact(ai a).trans (aj b)
def UB {s:bc}{l:aw}(h:¬600<s.size)(c:cK s=V l)(a:¬fH 10 l=db)(b:¬300<l.length):bu s=0:=by unfold bu;rw[ai h,c];exact(ai a).trans (ai b)
def LI {s:bc}(h:bu s≠0):iF s=[]:=ai h
def Uy {s:bc}{l:aw}(h:bu s=0)(a:cK s=V l):iF s=l:=by unfold iF;rw[aj h,a];rfl
def aj9(s:bc)(w:cw)(b:(600:Int)<(s.size:Int)):cP prog 45 #[cd s] w λe a=>e=bj (de #[R U 0 0,df #[Y Z 1,Y Z (-1),Y Z (-1)]])/\cD w.1.size w a:=by go_enter func45,ntmps45;go_wp2;exact bU (v:=de #[R U 0 0,df #[Y Z 1,Y Z (-1),Y Z (-1)]]) (by simp[results,results45,go_sem]) rfl ⟨rfl,(aA _ _).alloc (au _) _⟩
def aka(s:bc)(w:cw)(N:(s.size:Int)<=600):cP prog 45 #[cd s] w λe C=>cD w.1.size w C/\∃v,e=bj (de #[v,jm<|bu s])/\dF C v (iF s)/\(bu s≠0->v=R U 0 0):=by
 have o:¬600<s.size:=by omega
 go_enter func45,ntmps45;go_wp2_with fail;refine(ar7 s _ (by omega)).mono ?_;rintro e D ⟨j,(⟨f,p,rfl⟩|⟨v,l,f,J,rfl,b⟩)⟩
 .obtain⟨k,I⟩:=uW j;have a:=ah<|Pz o f;have i:=ah f;clear f;have M:(0:Int)<=(p:Int):=by omega
  go_wp2_with fail;refine(vp 10 _).mono ?_;rintro e E ⟨rfl,rfl⟩;go_wp2;have H:cD w.1.size w (((E.setCell (S w.1.size 0 U)<|Y Z 2).setCell (S w.1.size 1 U) (Y Z (-1))).setCell (S w.1.size 2 U) (Y Z (-1))):=
   (((((aA _ _).alloc (au _) _).trans (j.mono<|by simp)).setCell (au _) _).setCell (au _) _).setCell (au _) _
  refine bU (v:=de #[R U 0 0,df #[Y Z 2,Y Z (-1),Y Z (-1)]]) (by simp[results,results45,go_sem,k]) rfl ⟨H,_,by rw[a.out];rfl,?_,λ_=>rfl⟩;exact .inl ⟨rfl,LI<|by rw[a.out];decide⟩
 obtain⟨k,I⟩:=uW j;have i:=ah f;have r:=ah b;have m:=dF.uo b;clear f b;have A:∀x y z:cJ,cD w.1.size w (((D.setCell (S w.1.size 0 U) x).setCell (S w.1.size 1 U) y).setCell (S w.1.size 2 U) z):=λ_ _ _=>
  (((((aA _ _).alloc (au _) _).trans (j.mono<|by simp)).setCell (au _) _).setCell (au _) _).setCell (au _) _
 have q:=ah A;have F:dd (∀x y z:cJ,dF (((D.setCell (S w.1.size 0 U) x).setCell (S w.1.size 1 U) y).setCell (S w.1.size 2 U) z) v l):=λ_ _ _=>
  dF.uo (gA (gA (gA r (by simp) _) (by simp) _) (by simp) _)
 clear A;obtain⟨d,c,t,K⟩:∃d c t,v=R t d c/\d=l.length:=by rcases r.out.2 with⟨rfl,L⟩|⟨g,c,G,rfl,_⟩;exact⟨_,_,_,rfl,by omega⟩;exact⟨_,_,_,rfl,rfl⟩
 obtain⟨rfl,rfl⟩:=K;go_wp2_with fail;refine(uT 10 l _ _ (by omega) m).mono ?_;rintro e E ⟨rfl,rfl⟩;clear m r j;by_cases n:fH 10 l=db
 .have a:=ah<|Uz o i n;go_wp2;refine bU (v:=de #[R U 0 0,df #[Y Z 2,Y Z (-1),Y Z (-1)]]) (by simp[results,results45,go_sem,k]) rfl ⟨q _ _ _,_,by rw[a.out];rfl,?_,λ_=>rfl⟩;exact .inl ⟨rfl,LI<|by rw[a.out];decide⟩
 have u:=ah n;have n:fH 10 l=da:=(by simpa using n);by_cases B:300<l.length
 .have a:=ah<|UA o i u B;go_wp2;refine bU (v:=de #[R U 0 0,df #[Y Z 1,Y Z (-1),Y Z (-1)]]) (by simp[results,results45,go_sem,k]) rfl ⟨q _ _ _,_,by rw[a.out];rfl,?_,λ_=>rfl⟩;exact .inl ⟨rfl,LI<|by rw[a.out];decide⟩
 have a:=ah<|UB o i u B;go_wp2;refine bU (v:=de #[R t l.length c,df #[Y Z 0,Y Z 0,Y Z 0]]) (by simp[results,results45,go_sem,k]) rfl ⟨q _ _ _,_,by rw[a.out];rfl,?_,λh=>absurd a h⟩;rw[Uy a.out i.out];exact F.out _ _ _
def _root_.Go.World.ownsRow.low {w:cw}{b a:Nat}{e:TypeId}{size:Nat}{v:cJ}{n:Nat}{f:List cJ}(h:w.ownsRow b e size v n f)(l:a<=b):w.ownsRow a e size v n f:=by refine⟨h.1,?_⟩;rcases h.2 with h|⟨g,c,d,i,j,k⟩;exact .inl h;exact .inr ⟨g,c,d,i,bM l j,k⟩
def UC(s:bc)(w:cw):cP prog 45 #[cd s] w λe a=>cD w.1.size w a/\∃v,e=bj (de #[v,jm<|bu s])/\dF a v (iF s)/\(bu s≠0->v=R U 0 0):=by by_cases h:(600:Int)<(s.size:Int);refine(aj9 s w h).mono ?_;rintro e a ⟨rfl,c⟩;have b:bu s=1:=Py (by omega);exact⟨c,_,by rw[b];rfl,.inl ⟨rfl,LI<|by rw[b];decide⟩,λ_=>rfl⟩;exact aka s w<|by omega
def LK(s:bc):(iF s).length<=300:=by
 unfold iF;split
 .rename_i h;unfold bu at h;split at h;simp at h;cases hr:cK s with
  |none=>simp
  |some l=>rw[hr]at h;simp only at h;split at h;simp at h;split at h;simp at h;simp;omega
 simp
def arv(s:bc)(w:cw):cP prog 27 #[cd s] w λe f=>cD w.1.size w f/\∃v,e=bj (de #[v,jm<|bu s])/\dF f v ((iF s).map cls):=by
 have E:=LK s;go_enter func27,ntmps27;go_wp2_with fail;refine(UC s _).mono ?_;rintro e r ⟨k,v,rfl,i,_⟩;obtain⟨l,D⟩:=uW k;obtain⟨d,m,n⟩:∃d m,jm (bu s)=df #[Y Z d,Y Z m,Y Z m]:=⟨_,_,rfl⟩
 have y:=ah n;rw[n];clear n;go_wp2_with fail;have u:dF (r.alloc<|bi #[Y Z d,Y Z m,Y Z m] 47) v (iF s):=i.below<|(aA _ _).alloc (au _) _;have x:dd (∀W,dF W v (iF s)->w.1.size+1<=W.1.size->cP prog 46 #[v] W λe f=>∃b,e=bj b/\f.ownsRow (w.1.size+1) 3 1 b (iF s).length (((iF s).map cls).map (Value.int .i64))/\cD W.1.size W f):=λW h B=>
  (GY _ v W (by omega) h).mono λe f ⟨b,C,F,o⟩=>⟨b,C,F.low B,o⟩
 have z:=ah u;have t:dd (cD w.1.size w r):=((aA _ _).alloc (au _) _).trans (k.mono<|by simp);have q:w.1.size<r.1.size:=by have:=k.size;simp at this;omega
 clear i u k
 go_region_with (go_at_call 46;refine(x _ ?_ ?_).mono ?_;exact z.out;(simp;omega);rintro e j ⟨b,rfl,c,g⟩;obtain⟨a,p⟩:=uW g)
 all_goals
  have A:cD w.1.size w (((j.setCell (S w.1.size 0 U)<|Y Z d).setCell (S w.1.size 1 U) (Y Z m)).setCell (S w.1.size 2 U) (Y Z m)):=
   (((((t.out.alloc t.out.size _).drew).trans (g.mono<|by simp;omega)).setCell (au _) _).setCell (au _) _).setCell (au _) _
  have G:dF (((j.setCell (S w.1.size 0 U)<|Y Z d).setCell (S w.1.size 1 U) (Y Z m)).setCell (S w.1.size 2 U) (Y Z m)) b ((iF s).map cls):=
   dF.uo (gA (gA (gA c (by simp) _) (by simp) _) (by simp) _)
  have H:j.cell? (S w.1.size 0 U)=V (Y Z 0):=(a _ _ (by simp;omega)).trans ((gW _ _ (S w.1.size 0 U) q).trans ((l _ _ (by simp)).trans (by simp)));have I:j.cell? (S w.1.size 1 U)=V (Y Z 0):=(a _ _ (by simp;omega)).trans ((gW _ _ (S w.1.size 1 U) q).trans ((l _ _ (by simp)).trans (by simp)));have J:j.cell? (S w.1.size 2 U)=V (Y Z 0):=(a _ _ (by simp;omega)).trans ((gW _ _ (S w.1.size 2 U) q).trans ((l _ _ (by simp)).trans (by simp)));clear a p l D;go_wp2;exact bU (v:=de #[b,df #[Y Z d,Y Z m,Y Z m]]) (by simp[results,results27,go_sem,H,I,J]) rfl ⟨A,b,by rw[y.out],G⟩
def amP(s:bc)(p k:Nat):(⟨(s.data.toList.drop p).toArray⟩:bc).get! k=s.get! (p+k):=by
 obtain⟨d⟩:=s;show(d.toList.drop p).toArray[k]! =d[p+k]!;by_cases h:p+k<d.size
 .have a:k<(d.toList.drop p).toArray.size:=by simp;omega
  rw[Mk (d.toList.drop p).toArray k a,Mk d (p+k) h];simp
 have a:¬k<(d.toList.drop p).toArray.size:=by simp;omega
 rw[getElem!_neg (d.toList.drop p).toArray k a,getElem!_neg d (p+k) h]
def decodeL_drop(s:bc)(p:Nat)(_h:p<s.size):Lib.decodeL (s.data.toList.drop p)=Utf8.decode s p:=by
 unfold Lib.decodeL;rw[Lib.decode_at,Lib.decode_at];have e:(⟨(s.data.toList.drop p).toArray⟩:bc).size - 0=s.size - p:=by simp only[ByteArray.size];simp
 rw[e];simp only[amP,qE,fV]
def Zc(s:bc)(p:Nat):aQ s p=if(Utf8.decode s p).1=65533/\(Utf8.decode s p).2=1 then 0 else(Utf8.decode s p).2:=by unfold aQ oL;rw[Lib.decode_at]
def Fu(s:bc)(p:Nat)(h:aQ s p≠0):(Utf8.decode s p).2=aQ s p:=by rw[Zc]at h ⊢;split at h;exact absurd rfl h;rename_i a;rw[ai a]
def ah3(s:bc):∀f p,Lib.validGoD f (s.data.toList.drop p)=(runesFrom s f p).isSome
 |0,_=>rfl
 |f+1,p=>by
  unfold Lib.validGoD runesFrom;by_cases a:p<s.size;have d:¬s.data.toList.drop p=[]:=(by rw[ai9];simp only[Ov];exact Nat.not_le.2 a);rw[ai d,aj a,decodeL_drop s p a];by_cases c:(Utf8.decode s p).1=65533/\(Utf8.decode s p).2=1;have b:aQ s p=0:=(by rw[Zc,aj c]);rw[aj c,aj b];rfl;have b:aQ s p≠0:=(by rw[Zc,ai c];have:=Lib.width_pos s p;omega);rw[ai c,ai b,Fu s p b,Pe,ah3 s f<|p+aQ s p];simp;have e:s.data.toList.drop p=[]:=by rw[ai9];simp only[Ov];exact Nat.not_lt.1 a
  rw[aj e,ai a];rfl
def valid_eq(s:bc):Lib.validD s.data.toList=(cK s).isSome:=by have:=ah3 s s.size 0;rw[List.drop_zero]at this;unfold Lib.validD cK;rw[<-this];congr 1
def count_eq(s:bc):∀f p l,runesFrom s f p=V l->Lib.runeCountFrom s f p=l.length
 |0,_,l,h=>by simp[runesFrom]at h;subst h;rfl
 |f+1,p,l,h=>by
  unfold runesFrom at h;unfold Lib.runeCountFrom;by_cases b:p<s.size
  .rw[aj b]at h ⊢;by_cases a:aQ s p=0;rw[aj a]at h;cases h;rw[ai a]at h;cases hr:runesFrom s f (p+aQ s p)with
   |none=>rw[hr]at h;cases h
   |some c=>rw[hr]at h;simp at h;subst h;rw[Fu s p a,count_eq s f _ c hr];simp;omega
  rw[ai b]at h ⊢;simp at h;subst h;rfl
def runeCount_eq {s:bc}{l:aw}(h:cK s=V l):Lib.runeCount s=l.length:=count_eq s s.size 0 l h
def KE(s:bc):∀f p l,s.size<=p+f->runesFrom s f p=V l->(fH 10 l=db↔∃q,p<=q/\q<s.size/\(s.get! q).toNat=10)
 |0,p,l,hf,h=>by simp[runesFrom]at h;subst h;simp only[fH,ai6,Ib,false_iff];rintro⟨q,a,b,_⟩;omega
 |f+1,p,l,hf,h=>by
  unfold runesFrom at h;by_cases e:p<s.size
  .rw[aj e]at h;by_cases i:aQ s p=0;rw[aj i]at h;cases h;rw[ai i]at h;cases hr:runesFrom s f (p+aQ s p)with
   |none=>rw[hr]at h;cases h
   |some j=>
    rw[hr]at h;simp at h;subst h;have ih:=KE s f (p+aQ s p) j (by omega) hr;have key:fK s p=10↔∃q,p<=q/\q<p+aQ s p/\(s.get! q).toNat=10:=by
     have y:(s.get! p).toNat=(s[p]'e).toNat:=(by rw[get_eq s p e]);rcases zk s p e i with⟨d,a,u⟩|⟨d,g,a,b,c,k,_⟩|⟨d,g,a,b,c,k,m,n,_⟩|⟨d,g,a,b,c,k,m,n,v,w,_⟩;constructor;intro h;exact⟨p,by omega,by omega,by omega⟩;rintro⟨q,a,b,c⟩;have:q=p:=(by omega);subst this;omega;all_goals
      have x:=(decode_high s p e<|by omega).1;constructor;intro h;unfold fK at h;omega;rintro⟨q,g1,g2,g3⟩;have:q=p∨q=p+1∨q=p+2∨q=p+3:=(by omega);rcases this with rfl|rfl|rfl|rfl<;>omega
    have o:fH 10 (fK s p::j)=db↔fK s p=10∨fH 10 j=db:=(by simp only[fH,List.contains_cons,Fz,vS];constructor;rintro(h|h);exact .inl h.symm;exact .inr h;rintro(h|h);exact .inl h.symm;exact .inr h);have r:p+aQ s p<=s.size:=by rcases zk s p e i with⟨d,_⟩|⟨d,g,_⟩|⟨d,g,_⟩|⟨d,g,_⟩<;>omega
    rw[o,key,ih];constructor;rintro(⟨q,a,b,c⟩|⟨q,a,b,c⟩);exact⟨q,a,by omega,c⟩;exact⟨q,by omega,b,c⟩;rintro⟨q,a,b,c⟩;by_cases t:q<p+aQ s p;exact .inl ⟨q,a,t,c⟩;exact .inr ⟨q,by omega,b,c⟩
  rw[ai e]at h;simp at h;subst h;simp only[fH,ai6,Ib,false_iff];rintro⟨q,a,b,_⟩;omega
def amw {s:bc}{l:aw}(h:cK s=V l):s.data.toList.contains 10=fH 10 l:=by
 rw[Cv,KE s s.size 0 l (by omega) h];rw[List.contains_iff_mem,List.mem_iff_getElem];constructor
 .rintro⟨q,b,e⟩;have a:q<s.size:=by simpa using b
  refine⟨q,by omega,a,?_⟩;rw[get_eq s q a];have:s[q]'a=10:=(show s.data[q]'a=10 from by simpa using e)
  rw[this];rfl
 rintro⟨q,_,b,e⟩;refine⟨q,by simpa using b,?_⟩;rw[get_eq s q b]at e;have:s.data[q]'b=10:=j5.1 (by show(s[q]'b).toNat=_;rw[e];rfl);simpa using this
section
attribute [local go_sem ↓] Go.wp_at_zero Go.wp_at_succ
def apI(w:cw)(y:cJ)(e:TypeId):∀j u,[y][j]? =V u->(w.alloc<|bi #[y] e).cell? (((S w.1.size 0 U):Addr).add j)=V u:=by
 intro j u a
 match j,a with
 |0,a=>simp at a;subst a;simp[Addr.add]
def ajX(w:cw)(a:Obj)(r:Option Nat):w.grownBy (w.alloc a) r:=⟨rfl,rfl,rfl,by simp,λk b _=>dh w a k b⟩
def afu(s:bc)(l:aw)(d:Int)(w:cw)(hs:s.size<=600)(hr:cK s=V l)(hl:l≠[])(aF:∀(r:Int)(W:cw),cD w.1.size w W->cP prog 66 #[Y .i32 r] W λe B=>e=bj (Y Z<|cls r)/\cD W.1.size W B):cP prog 84 #[cd s,Y Z d] w λe B=>∃L:LP,e=bj (.pointer<|V<|S L.lb 0 U)/\LX B L L.cs (List.replicate L.n 0)/\L.cs=l.map cls/\L.rs=l/\L.n=l.length/\L.p=gT (l.map cls) d/\L.B=w.1.size/\cD w.1.size w B:=by
 obtain⟨a6,Wf,a3,a4,D⟩:=fP Tryz.aeD;obtain⟨iC,Wh,aY,aZ,a0⟩:=fP Tryz.JQ;have HR:=ah hr;have qw:=ah aF;obtain⟨W0,G⟩:=ac<|w.alloc<|bi #[R U 0 0,R U 0 0,R U 0 0,R U 0 0,R U 0 0,Y Z 0] 141;have ad:cD w.1.size w W0:=by rw[G];exact(aA _ _).alloc (au _) _
 have Ml:W0.1[w.1.size]? =V (bi #[R U 0 0,R U 0 0,R U 0 0,R U 0 0,R U 0 0,Y Z 0] 141 (0,0)):=by rw[G];exact pM
 have Mm:W0.1.size=w.1.size+1:=by rw[G];simp
 clear hr aF;go_enter func84,ntmps84;go_wp2;rw[<-G];obtain⟨W1,T⟩:=ac<|(W0.iter s 0);have mD:dd (NL W1 w.1.size w.1.size (w.1.size+1) s 0 (R U 0 0) (R U 0 0) [] []):=by rw[T];have EJ:cD W0.1.size W0 (W0.iter s 0):=(aA _ _).alloc (au _) _;exact⟨aR EJ Ml,fh _ _ _ _,fh _ _ _ _,by rw[<-Mm];exact F7 _ _ _,au _⟩
 have aD:dd (cD w.1.size w W1):=by rw[T];exact ad.alloc ad.size _
 rw[<-T];clear T G ad Ml Mm;obtain⟨a,af⟩:=ac w.1.size;obtain⟨E,hit⟩:=ac<|w.1.size+1;have rV:dd (w.1.size<=a/\w.1.size<=E):=⟨by omega,by omega⟩
 have KV:dd (NL W1 w.1.size a E s 0 (R U 0 0) (R U 0 0) [] []):=by rw[af,hit];exact mD.out
 rw[<-hit,<-af];clear mD af hit;go_loopg [7] s.size (λgk _ W=>∃(p:Nat)(q:aw)(vr vt:cJ),p<=s.size/\gk=s.size - p/\nQ s p q/\NL W w.1.size a E s p vr vt q q/\cD w.1.size w W);exact⟨0,[],_,_,by omega,rfl,nQ.start s,KV,aD⟩;clear KV aD;obtain⟨p,q,vr,vt,hp,rfl,hR,o,hB⟩:=hrel;have WG:q.length<=p:=by obtain⟨f,_,h,_⟩:=hR;exact h
 by_cases z:p<s.size
 .have hz:aQ s p≠0:=by intro h0;have:=hR.bad z h0;rw[HR.out]at this;cases this
  have HS:=ah<|hR.step z hz;have a1:p+aQ s p<=s.size:=by rcases zk s p z hz with⟨e1,_⟩|⟨e1,hn,_⟩|⟨e1,hn,_⟩|⟨e1,hn,_⟩<;>omega
  have WU:0<aQ s p:=by omega
  have hw:=Fu s p hz;have ai:∀ty,(Instr.next (.pointer<|V<|S E 0 U) db ty).run prog wr= .ok (de #[ce db,Y Z p,Y .i32<|fK s p]) (wr.iterAt E s<|p+aQ s p):=λty=>by rw[Pc wr E s p ty o.iter z,hw];rfl
  have D5:dd (NL (wr.iterAt E s<|p+aQ s p) w.1.size a E s (p+aQ s p) vr vt q q):=o.next _;have iD:dd (cD w.1.size w<|wr.iterAt E s<|p+aQ s p):=O8 hB rV.out.2 _ _;clear hR hz hw o hB;generalize aQ s p=k at*;generalize fK s p=r at*;generalize wr.iterAt E s (p+k)=wi at*;obtain⟨ra,rc,rfl⟩:=eV D5.out.rr;obtain⟨ta,tc,rfl⟩:=eV D5.out.rt;have s0:wi.cell? (S a 0 U)=V (R ra q.length rc):=az D5.out.cell 0;have vk:=D5.out.rr;have aE:=iD.out.size;go_wp2_with(at_builtin;refine rT _ rfl _ _ 138 rfl w.1.size 21 a6 (Y .i32 0) 4 underlying138 Wf a3 a4 D rfl (by decide) _ _ _ rfl vk _ _ rfl rfl (by omega) aE ?_);intro v5 w5 cG bQ;obtain⟨a5,BC,rfl⟩:=eV cG;obtain⟨Mu,c5,f5⟩:=D5.out.N5 cG bQ;have bF:dd (cD w.1.size w w5):=iD.out.grown bQ aE (λx hx=>(vk.lt x hx).1);have dU:dd (cD w.1.size w<|w5.setCell (S a 0 U)<|R a5 (q.length+1) BC):=bF.out.setCell (p:=(S a 0 U)) rV.out.1 _;have vL:=ah Mu;clear cG bQ Mu bF vk s0 ai;go_wp2;clear c5 f5;generalize w5.setCell (S a 0 U) (R a5 (q.length+1) BC)=j at*;have s1:j.cell? (S a 1 U)=V (R ta q.length tc):=az vL.out.cell 1;have yU:=dU.out.size;have aa:=kj func66 (by kernel_rfl) (by kernel_rfl);have Bb:=ah aa;clear aa;have KO:dd (cP prog 66 #[Y .i32 r] j.drew λe B=>∃u,e=bj u/\(u=Y Z (cls r)/\cD j.drew.1.size j.drew B)):=(qw r j.drew dU.out.drew).mono (λe B h=>⟨_,h.1,rfl,h.2⟩);have cZ:dd (q.length<=1000000):=by show _<=_;omega
  go_region_law (first
   |(refine ahx (by rfl) 66 _ 21 (by rfl) Bb.out (Y .i32 r) (by rfl) (λu B=>u=Y Z (cls r)/\cD j.drew.1.size j.drew B) KO.out ?_;rintro u w7 ⟨rfl,nV⟩;have CI:dd (NL w7 w.1.size a E s (p+k) (R a5 (q.length+1) BC) (R ta q.length tc) (q++[r]) q):=vL.out.below<|(aA _ _).drew.trans nV;have mS:dd (cD w.1.size w w7):=dU.out.drew.trans<|nV.mono yU;have t1:w7.cell? (S a 1 U)=V (R ta q.length tc):=az CI.out.cell 1;have a9:(w7.alloc<|bi #[Y Z<|cls r] 108).cell? (S a 1 U)=V (R ta q.length tc):=(gW _ _ (S a 1 U) (dg CI.out.cell)).trans t1;have H:=CI.out.rt;have VR:=mS.out.size;clear nV KO Bb)
   |(refine Hy (by rfl) _ _ 139 (by rfl) w.1.size 108 iC (Y Z 0) 1 8 underlying139 Wh aY aZ a0 rfl (by decide) (by decide) (R ta q.length tc) q.length (iv (q.map cls)) (by rfl) (lZ H (bi #[Y Z (cls r)] 108)) w7.1.size [Y Z (cls r)] (by rfl) (by rfl) (apI w7 _ _) (by intro u hu;simp at hu;subst hu;rfl) cZ.out (by simp;omega) ?_;intro v8 w8 y8 M _;obtain⟨a8,aX,rfl⟩:=eV y8;obtain⟨aC,c8,f8⟩:=CI.out.YB y8 ((ajX w7 _ _).trans M);have sX:dd (cD w.1.size w w8):=(mS.out.alloc VR _).grown M (by simp;omega) (λx hx=>(H.lt x hx).1);clear y8 M))
  all_goals
   have aP:=ah aC;have Sz:dd (cD w.1.size w<|w8.setCell (S a 1 U)<|R a8 (q.length+1) aX):=sX.out.setCell (p:=(S a 1 U)) rV.out.1 _;clear aC c8 f8 sX;go_wp2;go_roundg (s.size - (p+k));exact⟨p+k,q++[r],_,_,a1,rfl,HS,aP,Sz⟩;omega
 have aT:q=l:=by have:=hR.stop z;rw[HR.out]at this;exact(aI this).symm
 subst aT;have ag:0<q.length:=kF.2 hl;have MT:q.length<=600:=by omega
 have ai:∀ty,(Instr.next (.pointer<|V<|S E 0 U) db ty).run prog wr= .ok (de #[ce da]) wr:=λty=>FY wr E s p ty o.iter z
 obtain⟨F,cr,rfl,_,aJ,Wb⟩:=iq o.rr ag;obtain⟨t,ct,rfl,_,aL,am⟩:=iq o.rt ag;have aq:=kq o.rt o.cell (by decide);have ao:=kq o.rr o.cell (by decide);obtain⟨n,hn⟩:=ac q.length;have a7:=run_make_row' (P:=prog) 139 108 (Y Z 0) 8 underlying139 Tryz.JQ rfl .i64 .i64 n (by omega) (by omega);have Wt:=run_make_row' (P:=prog) 31 3 (Y Z 0) 8 underlying31 Tryz.sQ rfl .i64 .i64 n (by omega) (by omega);rw[<-hn]at o ag MT;have Ai:LB wr a (.slice (V<|S F 0 U) n cr) (.slice (V<|S t 0 U) n ct) (R U 0 0) (R U 0 0) (R U 0 0) (Y Z 0):=o.cell;have vk:wr.ownsRow w.1.size 21 1 (.slice (V<|S F 0 U) n cr) n (qN q):=by have:=o.rr;rw[<-hn]at this;exact this
 have H:wr.ownsRow w.1.size 108 1 (.slice (V<|S t 0 U) n ct) n (iv<|q.map cls):=by have:=o.rt;rw[<-hn]at this;exact this
 have an:a<wr.1.size:=dg o.cell;have Ru:t≠a:=λe=>aq<|by rw[e];rfl
 have E8:F≠a:=λe=>ao<|by rw[e];rfl
 have Ba:dd ((q.map cls).length=n/\q.length=n/\w.1.size<=F/\w.1.size<=t/\w.1.size<=a):=⟨by simp[hn],hn.symm,Wb,am,rV.out.1⟩
 clear o hR aq ao WG z Wb am hl hn
 -- the classes
 have BK:LB (wr.alloc<|bi (madeCells #[Y Z 0] n) 108) a _ _ _ _ _ _:=Ai.grown (En wr _ U) (by simp);have c1:=Ai.c1;obtain⟨d2,e2⟩:=BK.c2;have Mv:aW (wr.alloc<|bi (madeCells #[Y Z 0] n) 108) w.1.size 108 wr.1.size n (List.replicate n<|Y Z 0):=aW.made hB.size (by omega);have ae:wr.grownBy ((wr.alloc<|bi (madeCells #[Y Z 0] n) 108).setCell (S a 2 U) (.slice (V<|S wr.1.size 0 U) n n)) (V a):=(En wr _ _).trans (Hw _ a 2 _);have y:=BK.s2 (.slice (V<|S wr.1.size 0 U) n n);have qI:aW ((wr.alloc<|bi (madeCells #[Y Z 0] n) 108).setCell (S a 2 U) (.slice (V<|S wr.1.size 0 U) n n)) w.1.size 108 wr.1.size n (List.replicate n<|Y Z 0):=Mv.setOther a 2 _ (by omega);have bN:cD w.1.size w ((wr.alloc<|bi (madeCells #[Y Z 0] n) 108).setCell (S a 2 U) (.slice (V<|S wr.1.size 0 U) n n)):=(hB.alloc hB.size _).setCell (p:=(S a 2 U)) rV.out.1 _;have Al:=jw vk ae E8;have JJ:=jw H ae Ru;have D:((wr.alloc<|bi (madeCells #[Y Z 0] n) 108).setCell (S a 2 U) (.slice (V<|S wr.1.size 0 U) n n)).1.size=wr.1.size+1:=by simp
 have h2:=And.intro y<|And.intro qI<|And.intro bN<|And.intro Al<|And.intro JJ D;have H2:=ah h2;have K:dd (F<wr.1.size/\t<wr.1.size/\a<wr.1.size):=⟨aJ,aL,an⟩
 clear Ai BK Mv ae y qI bN Al JJ D vk H hB aJ aL an h2;obtain⟨c,kR⟩:=ac wr.1.size;go_wp2;generalize((wr.alloc<|bi (madeCells #[Y Z 0] n) 108).setCell (S a 2 U) (.slice (V<|S wr.1.size 0 U) n n))=W2 at*;rw[<-kR]at H2 K ⊢;clear kR c1 d2 e2 ai;obtain⟨y,qI,bN,Al,JJ,D⟩:=H2.out;clear H2
 -- the copy
 obtain⟨b,pE,EO,aG⟩:=U2 (P:=prog) (w:=W2.drew) (sT:=139) (e:=108) (ty:=3) (g:=c) underlying139 Tryz.Y6 (aW.heap qI) (by simp) (IW JJ) (λv hv=>by simp only[iv,jX]at hv;obtain⟨x,_,rfl⟩:=hv;rfl);have i:W2.grownBy b (V c):=(show W2.grownBy W2.drew (V c)from⟨rfl,rfl,rfl,au _,λ_ _ _=>rfl⟩).trans aG;have aO:t≠c/\F≠c/\a≠c:=by have:=K.out;omega
 have C:LB b a _ _ _ _ _ _:=y.grown i (by simp;omega);have lK:aW b w.1.size 108 c n (iv<|q.map cls):=aW.Rw EO (by have:=qI.lt c rfl;exact this.1) (by rw[oC,Ba.out.1]) (by omega);have cA:cD w.1.size w b:=bN.grown i bN.size (λk A=>by cases A;exact(qI.lt c rfl).1);have Am:=jw Al i aO.2.1;have Nf:=jw JJ i aO.1;have I:c+1<=b.1.size:=by have:=i.size;omega
 obtain⟨c2,_⟩:=y.c2;have c1:=y.c1;have h3:=And.intro C<|And.intro lK<|And.intro cA<|And.intro Am<|And.intro Nf I;have H3:=ah h3;clear y qI bN Al JJ D EO aG i C lK cA Am Nf I h3;go_region;all_goals
  clear c1 c2 pE;obtain⟨C,lK,cA,Am,Nf,I⟩:=H3.out;clear H3;have ab:LB (b.alloc<|bi (madeCells #[Y Z 0] n) 3) a _ _ _ _ _ _:=C.grown (En b _ U) (by simp);have c1:=C.c1;obtain⟨d3,e3⟩:=ab.c3;have sJ:aW (b.alloc<|bi (madeCells #[Y Z 0] n) 3) w.1.size 3 b.1.size n (List.replicate n<|Y Z 0):=aW.made cA.size (by omega);have X:b.grownBy ((b.alloc<|bi (madeCells #[Y Z 0] n) 3).setCell (S a 3 U) (.slice (V<|S b.1.size 0 U) n n)) (V a):=(En b _ _).trans (Hw _ a 3 _);have N:=ab.s3 (.slice (V<|S b.1.size 0 U) n n);have jS:aW ((b.alloc<|bi (madeCells #[Y Z 0] n) 3).setCell (S a 3 U) (.slice (V<|S b.1.size 0 U) n n)) w.1.size 3 b.1.size n (List.replicate n<|Y Z 0):=sJ.setOther a 3 _ (by have:=K.out;omega);have kO:cD w.1.size w ((b.alloc<|bi (madeCells #[Y Z 0] n) 3).setCell (S a 3 U) (.slice (V<|S b.1.size 0 U) n n)):=(cA.alloc cA.size _).setCell (p:=(S a 3 U)) rV.out.1 _;have ET:=jw Am X E8;have O:=jw Nf X Ru;have ES:((b.alloc<|bi (madeCells #[Y Z 0] n) 3).setCell (S a 3 U) (.slice (V<|S b.1.size 0 U) n n)).ownsRow w.1.size 108 1 (.slice (V<|S c 0 U) n n) n (iv<|q.map cls):=jw lK X (by have:=K.out;omega);have iJ:((b.alloc<|bi (madeCells #[Y Z 0] n) 3).setCell (S a 3 U) (.slice (V<|S b.1.size 0 U) n n)).1.size=b.1.size+1:=(by simp);have h5:=And.intro N<|And.intro jS<|And.intro kO<|And.intro ET<|And.intro O<|And.intro ES iJ;have H5:=ah h5;have CV:=ah I;have UO:=N.c1;clear C lK cA Am Nf I ab sJ X N jS kO ET O ES iJ h5;obtain⟨Q,aH⟩:=ac b.1.size;go_wp2_with fail;generalize((b.alloc<|bi (madeCells #[Y Z 0] n) 3).setCell (S a 3 U) (.slice (V<|S b.1.size 0 U) n n))=W5 at*;rw[<-aH]at H5 CV ⊢;clear aH c1 d3 e3 UO;obtain⟨N,jS,kO,ET,O,ES,iJ⟩:=H5.out;clear H5;have aB:cP prog 140 #[.slice (V<|S t 0 U) n ct] W5 λe B=>∃g,e=bj (.slice (V<|S g 0 U) n n)/\aW B W5.1.size 3 g n (iv<|oD<|q.map cls)/\cD W5.1.size W5 B:=apk (q.map cls) n t 0 ct W5 Ba.out.1 (by omega) (λk A=>by rw[fV];exact jx O k A)<|by have:=K.out;have:=CV.out;omega
  have CH:=ah aB;have c1:=N.c1;have h5:=And.intro N<|And.intro jS<|And.intro kO<|And.intro ET<|And.intro O<|And.intro ES iJ;have H5:=ah h5;clear N jS kO ET O ES iJ h5 aB;refine CH.out.mono ?_;rintro ev j ⟨m,rfl,Wo,gz⟩;clear CH;obtain⟨N,jS,kO,ET,O,ES,iJ⟩:=H5.out;clear H5;obtain⟨aU,aV⟩:=Wo.lt m rfl;have Ah:=N.below gz;obtain⟨d4,e4⟩:=Ah.c4;have yQ:=Ah.s4 (.slice (V<|S m 0 U) n n);have iy:j.grownBy (j.setCell (S a 4 U) (.slice (V<|S m 0 U) n n)) (V a):=Hw _ a 4 _;have ED:cD w.1.size w (j.setCell (S a 4 U) (.slice (V<|S m 0 U) n n)):=(kO.trans<|gz.mono kO.size).setCell (p:=(S a 4 U)) rV.out.1 _;have Nb:=jw (fS ET gz) iy E8;have JK:=jw (fS O gz) iy Ru;have M6:=jw (fS ES gz) iy (by have:=K.out;omega);have M7:=jw (fS jS gz) iy (by have:=K.out;have:=CV.out;omega);have GR:=jw Wo iy (by have:=K.out;have:=CV.out;omega);have J:dd (Q≠a/\Q≠F/\Q≠t/\Q≠c/\Q≠m/\c≠a/\c≠F/\c≠t/\c≠m):=by have h1:=K.out;have h2:=CV.out;refine⟨?_,?_,?_,?_,?_,?_,?_,?_,?_⟩<;>omega
  have Nq:∀g,g=a∨g=F∨g=t∨g=c∨g=Q∨g=m->g<(j.setCell (S a 4 U) (.slice (V<|S m 0 U) n n)).1.size:=by have h1:=K.out;have h2:=CV.out;have h3:=gz.size;intro g hg;rw[ajz];omega
  have ay:Bl (j.setCell (S a 4 U) (.slice (V<|S m 0 U) n n)) a t m n ct n (.slice (V<|S F 0 U) n cr) (.slice (V<|S c 0 U) n n) (.slice (V<|S Q 0 U) n n) 0 (q.map cls):=
   ⟨yQ,λk A=>by rw[fV];exact jx JK k A,λk A=>by rw[fV];exact jx GR k A,Ba.out.1⟩
  have OP:dd (cP prog 141 #[.pointer<|V<|S a 0 U,Y Z d] (j.setCell (S a 4 U) (.slice (V<|S m 0 U) n n)) λe B=>e=bj (Y Z<|gT (q.map cls) d)/\B=(j.setCell (S a 4 U) (.slice (V<|S m 0 U) n n))):=aqv _ a t m n ct n _ _ _ 0 (q.map cls) ay (by omega) d;have h7:=And.intro yQ<|And.intro ED<|And.intro Nb<|And.intro JK<|And.intro M6<|And.intro M7<|And.intro GR Nq;have H7:=ah h7;clear N jS kO ET O ES iJ Ah yQ iy ED Nb JK M6 M7 GR Nq ay h7 Wo gz aU aV c1;go_wp2_with fail;generalize(j.setCell (S a 4 U) (.slice (V<|S m 0 U) n n))=W7 at*;refine OP.out.mono ?_;rintro ev wx ⟨rfl,hx⟩;have a2:=hx.symm;subst a2;clear OP d4 e4;obtain⟨yQ,ED,Nb,JK,M6,M7,GR,Nq⟩:=H7.out;clear H7;generalize aM:gT (q.map cls) d=pp at*;obtain⟨d5,e5⟩:=yQ.c5;have ax:=yQ.s5<|Y Z pp;have M:W7.grownBy (W7.setCell (S a 5 U)<|Y Z pp) (V a):=Hw _ a 5 _;have av:cD w.1.size w (W7.setCell (S a 5 U)<|Y Z pp):=ED.setCell (p:=(S a 5 U)) rV.out.1 _;have ap:=jw Nb M E8;have ar:=jw JK M Ru;have aj:=jw M6 M J.out.2.2.2.2.2.1;have ak:=jw M7 M J.out.1;have al:=jw GR M (by rintro rfl;exact kq GR yQ (by decide) rfl);have HX:dd (LX (W7.setCell (S a 5 U)<|Y Z pp) ⟨w.1.size,a,F,t,c,Q,m,n,cr,ct,pp,q,q.map cls⟩ (q.map cls)<|List.replicate n 0):=by refine⟨ax,λk A=> ?_,λk A=>by rw[fV];exact jx ar k A,λk A=>by rw[fV];exact jx al k A,Ba.out.1,aj,?_,?_,?_,?_⟩;rw[cT ap k<|by simpa using A];have:k<q.length:=(by rw[Ba.out.2.1];exact A);simp[qN,aN,aK this];show World.ownsRow _ _ _ _ _ _ _;rw[iv,List.map_replicate];exact ak;intro g hg;rw[ajz];apply Nq;unfold LP.has at hg;omega;exact⟨J.out.1,J.out.2.1,J.out.2.2.1,J.out.2.2.2.1,J.out.2.2.2.2.1⟩;exact⟨J.out.2.2.2.2.2.1,J.out.2.2.2.2.2.2.1,J.out.2.2.2.2.2.2.2.1,J.out.2.2.2.2.2.2.2.2⟩
  have sX:=ah av;have aS:=ah aM;clear yQ ED Nb JK M6 M7 GR Nq ax M av ap ar aj ak al aM;go_wp2;go_ret;exact⟨⟨w.1.size,a,F,t,c,Q,m,n,cr,ct,pp,q,q.map cls⟩,rfl,HX,rfl,rfl,Ba.out.2.1.symm,aS.out.symm,rfl,sX⟩
end
def asx(w:cw)(L:LP)(h:LX w L L.cs<|List.replicate L.n 0)(H:L.B<=w.1.size)(hp:0<=L.p/\L.p<=125)(X:L.n<=1000):cP prog 85 #[.pointer<|V<|S L.lb 0 U] w λe n=>e=bj (de #[])/\LX n L (kP L.cs L.p) (bf L.cs L.p)/\cD L.B w n:=by
 obtain⟨s,r⟩:=ac w.1.size;have d:cD w.1.size w (w.alloc<|bi #[.pointer<|V<|S L.lb 0 U,R U 0 0,Y Z 0,Y Z 0,Y Z 0] 212):=(aA _ _).alloc (au _) _;have m:dd (XP (w.alloc<|bi #[.pointer<|V<|S L.lb 0 U,R U 0 0,Y Z 0,Y Z 0,Y Z 0] 212) L s (R U 0 0) L.cs (List.replicate L.n 0) ⟨[],0,0,0⟩):=
  ⟨⟨by rw[r];exact pM,⟨rfl,.inl ⟨rfl,rfl⟩⟩,by rw[r];exact H⟩,h.below d,λg Q=>⟨by have:=h.lt g Q;omega,by simp[Value.ownBlock]⟩⟩
 have O:(w.alloc<|bi #[.pointer<|V<|S L.lb 0 U,R U 0 0,Y Z 0,Y Z 0,Y Z 0] 212).cell? (S L.lb 5 U)=V (Y Z L.p):=az m.out.ln.cell 5;have D:=ah<|d.mono H;have x:=ah h.len;clear h d;go_enter func85,ntmps85;go_wp2_with fail;rw[<-r];clear r;refine(RN _ L.B s _ _ _ L.p (-1) da m.out.wk (by simp)).mono ?_;rintro y w2 ⟨rfl,v2,I,hF⟩;have z:=ah<|m.out.Ex I hF;have E:=ah<|hF.I7 m.out.wk D;have M:w2.cell? (S L.lb 1 U)=V (.slice (V<|S L.gt 0 U) L.n L.ct):=az z.out.ln.cell 1;clear I hF m D O;go_wp2;clear M;go_loopg [18] L.n (λP kv W=>∃(k:Nat)(v:cJ)(a f:aw),k<=L.n/\P=L.n - k/\kv=Y Z k/\XP W L s v a f (fE L.cs L.p k)/\cD L.B w W/\oW L.n k a (λj=>AB (L.cs.getD j 0) (iM L.cs L.p j).o) (λj=>L.cs.getD j 0)/\oW L.n k f (λj=>(iM L.cs L.p j).l) (λ_=>0));case atStart=>
  refine⟨0,v2,L.cs,List.replicate L.n 0,by omega,rfl,rfl,z,E,⟨x,λj _=>by rw[ai<|by omega]⟩,⟨by simp,λj T=> ?_⟩⟩;rw[ai<|by omega,aN,T9,aj T];rfl
 case round=>
  clear z E;obtain⟨k,v,a,f,hk,rfl,rfl,q,b,i,p⟩:=hrel;by_cases c:k<L.n
  .have J:(k:Int)<(L.n:Int):=(by omega);have G:a.getD k 0=L.cs.getD k 0:=(by have:=i.2 k c;rw[ai<|by omega]at this;exact this);have t:dd (oW L.n (k+1) (a.set k<|AB (a.getD k 0) (bq (eP (fE L.cs L.p k)<|L.cs.getD k 0).st).o) (λj=>AB (L.cs.getD j 0) (iM L.cs L.p j).o) λj=>L.cs.getD j 0):=(by rw[G];exact i.step c);have u:=ah<|p.step c;have C:dd (cP prog 143 #[.pointer<|V<|S s 0 U,Y Z k] wr λy n=>y=bj (de #[])/\∃v',XP n L s v' (a.set k<|AB (a.getD k 0) (bq (eP (fE L.cs L.p k)<|L.cs.getD k 0).st).o) (f.set k (bq (eP (fE L.cs L.p k)<|L.cs.getD k 0).st).l) (fE L.cs L.p<|k+1)/\cD L.B wr n):=asW wr L s v a f (fE L.cs L.p k) k q (zF L.cs L.p hp k) (by omega) X k c;have A:=ah b;clear q b i p G;go_wp2_with fail;refine C.out.mono ?_;rintro y w3 ⟨rfl,v3,B,F⟩;have iN:=ah B;have N:dd _:=A.out.trans F;clear B F C;go_wp2;go_roundg (L.n - (k+1));exact⟨k+1,v3,_,_,by omega,rfl,by go_num,iN,N,t,u⟩;omega
  obtain rfl:k=L.n:=(by omega);have K:=ah q.ln;have A:=ah b;have t:dd (a=kP L.cs L.p):=(by show _=_;rw[i.done,kP,x.out]);have u:dd (f=bf L.cs L.p):=(by show _=_;rw[p.done,bf,x.out]);clear q b i p;go_wp2;go_end0;refine⟨rfl,?_,A⟩;rw[<-t.out,<-u.out];exact K.out
def Tryz.RZ:(prog.info? 3).map (·.size)=V 1:=by kernel_rfl
def Cy(a:Int)(b o c:aw)(k:Nat):Prop:=c.length=b.length/\(∀j,j<b.length->bX (b.getD j 0)=db->c.getD j 0=o.getD j 0)/\(0<k->bX (b.getD 0 0)=da->c.getD 0 0=a)
def Cy.keep {a:Int}{b o e:aw}{k:Nat}(h:Cy a b o e k)(f:bX (b.getD k 0)=db):Cy a b o e (k+1):=
 ⟨h.1,h.2.1,λ_ c=>by rcases IL k with d|d;subst d;rw[f]at c;cases c;exact h.2.2 d c⟩
def Cy.set {a v:Int}{c o e:aw}{k:Nat}(h:Cy a c o e k)(i:k<c.length)(l:bX (c.getD k 0)=da)(m:k=0->v=a):Cy a c o (e.set k v) (k+1):=by refine⟨by simp[h.1],?_,?_⟩;intro j g b;rw[getD_set_ne<|by rintro rfl;rw[l]at b;cases b];exact h.2.1 j g b;intro _ f;rcases IL k with d|d;subst d;rw[Ac<|by rw[h.1];exact i,m rfl];rw[getD_set_ne<|by omega];exact h.2.2 d f
def afU {w:cw}{B b g n c:Nat}{e:TypeId}{z:Nat}{f:List cJ}(h:w.ownsRow B e z (.slice (V<|S g 0 U) n c) n f)(k:b<=g):w.ownsRow b e z (.slice (V<|S g 0 U) n c) n f:=by refine⟨h.1,?_⟩;rcases h.2 with⟨h,_⟩|⟨l,d,a,i,m,j⟩;cases h;cases i;exact .inr ⟨g,c,a,rfl,k,j⟩
def ahr:∀(c:List cJ)(b:List Sq)(j:Nat),c.length=b.length->j<b.length->(wP c b)[j*4]? =V (c.getD j .nilFunc)/\(wP c b)[j*4+1]? =V (Y Z (b.getD j ⟨[],0,0,0⟩).level)/\(wP c b)[j*4+2]? =V (Y Z (b.getD j ⟨[],0,0,0⟩).aq)/\(wP c b)[j*4+3]? =V (Y Z (b.getD j ⟨[],0,0,0⟩).ay)
 |[],[],j,_,h=>by simp at h
 |a::c,s::b,0,_,_=>by simp[wP]
 |a::c,s::b,j+1,h,hj=>by have ih:=ahr c b j (by simpa using h) (by simpa using hj);rw[wP,show(j+1)*4=j*4+4 by omega];simpa using ih
def ase(c:aw)(d:List Bool):(dB c d).length<=c.length:=by
 have h:=congrArg List.length (AJ c d).1;have e:=Bk (l8 d)<|List.range c.length;rw[Pn]at e;have f:∀l:List ba,(∀r∈l,r≠[])->l.length<=l.flatten.length:=by
  intro l
  induction l with
  |nil=>intro _;simp
  |cons a l ih=>intro b;have:=ih (λr g=>b r<|by simp[g]);have:=kF.2 (b a<|by simp);simp only[eU,Bj,bG];omega
 have i:=f _ (AJ c d).2.1;omega
def ao7(E:aw)(d:Int)(n b y O:Nat)(w:cw)(hl:E.length=n)(hn:n<=1000)(a1:0<n)(hc:bJ w b y E)(hb:b<w.1.size):cP prog 48 #[.slice (V<|S b y U) n O,Y Z d] w λQ L=>∃g c,Q=bj (.slice (V<|S g 0 U) n c)/\L.ownsRow w.1.size 3 1 (.slice (V<|S g 0 U) n c) n (iv<|fQ E (E.map cls) d)/\cD w.1.size w L:=by
 have bd:=run_make_row' (P:=prog) 31 3 (Y Z 0) 8 underlying31 Tryz.sQ rfl .i64 .i64 n (by omega) (by omega);obtain⟨f,ad⟩:=ac<|E.map cls;have qw:dd (cP prog 46 #[.slice (V<|S b y U) n O] w λe L=>∃v,e=bj v/\L.ownsRow w.1.size 3 1 v n (iv f)/\cD w.1.size w L):=by rw[ad];exact G1 E b y O n w hl hn hc
 rw[<-ad];have aH:f.length=n:=by rw[ad,jh,hl]
 obtain⟨a,Q7⟩:=ac<|gT f d;have aS:=ah Q7;have a7:a=0∨a=1:=by rw[Q7];exact Yk f d
 obtain⟨LV,Gk⟩:=ac<|fQ E f d;rw[<-Gk];have HQ:dd (LV=nS a a f (((iL f (bf f a) (aO f) a).flatMap (rQ E<|je f a)).foldl mo (bf f a))):=by show _=_;rw[Gk,Q7];rfl
 have J:dd (E.length=n/\f.length=n):=⟨hl,aH⟩
 have HI:dd (bJ w b y E/\b<w.1.size):=⟨hc,hb⟩
 clear hl hc hb ad aH Q7 Gk;go_enter func48,ntmps48;go_wp2_with fail;refine qw.out.mono ?_;rintro Q M ⟨cv,rfl,QL,aF⟩;obtain⟨D,cc,rfl,av,kR,Wa⟩:=iq QL a1;have FB:=ah QL;have aD:=ah aF;have mW:dd (D<M.1.size/\w.1.size<=D/\n<=cc):=⟨kR,Wa,av⟩
 have qW:dd (cP prog 70 #[.slice (V<|S D 0 U) n cc] M λe L=>e=bj (Y Z<|found f)/\L=M):=Vq f D 0 cc n M J.out.2 (by omega)<|J7 QL;clear QL aF av kR Wa qw;have h3:((d !=0)=da/\a=d)∨((d !=0)=db/\(d !=1)=da/\a=d)∨((d !=0)=db/\(d !=1)=db/\a=found f):=by rw[aS.out,gT];by_cases h0:d=0;exact .inl ⟨by simpa using h0,by rw[aj (.inl h0)]⟩;by_cases h1:d=1;exact .inr (.inl ⟨by simpa using h0,by simpa using h1,by rw[aj (.inr h1)]⟩);exact .inr (.inr ⟨by simpa using h0,by simpa using h1,by rw[ai<|by omega]⟩)
 rcases h3 with⟨q0,hd⟩|⟨q0,q1,hd⟩|⟨q0,q1,hd⟩;subst hd;clear qW;go_wp2_with fail
 rotate_left
 subst hd;clear qW;go_wp2_with fail
 rotate_left
 have HV:=ah hd.symm;clear hd;go_wp2_with fail;refine qW.out.mono ?_;rintro Q wx ⟨rfl,hx⟩;have a5:=hx.symm;subst a5;rw[HV.out];clear qW HV;go_wp2_with fail;all_goals
  refine(amn f a D 0 cc n M J.out.2 (by omega) mW.out.2.2 (J7 FB) mW.out.1<|by omega).mono ?_;rintro Q m ⟨g1,g2,g3,rfl,ab,eN,fu,p5⟩;have a6:M.1.size<=m.1.size:=ab.size;have am:=eN.ge;have aJ:=fu.ge;have aL:=p5.ge;obtain⟨W3,F⟩:=ac<|m.alloc<|bi (madeCells #[Y Z 0] n) 3;have aG:cD m.1.size m W3:=by rw[F];exact(aA _ _).alloc (au _) _
  have lK:aW W3 m.1.size 3 m.1.size n (List.replicate n<|Y Z 0):=by rw[F];exact aW.made (au _)<|by omega
  have ar:=eN.keep aG am.2;have T:(bf f a).length=n:=by rw[aim];exact J.out.2
  have HZ:dd (M.1.size<=m.1.size/\cD M.1.size M m/\g1<m.1.size/\g2<m.1.size/\g3<m.1.size/\cD m.1.size m W3/\m.1.size<W3.1.size):=⟨a6,ab,am.2,aJ.2,aL.2,aG,by rw[F];simp⟩
  have HR:dd (aW m M.1.size 3 g1 n (iv<|bf f a)/\aW m M.1.size 3 g2 n (iv<|je f a)/\aW m M.1.size 4 g3 n (bv<|aO f)):=⟨eN,fu,p5⟩
  have EO:=lK.heap;have qX:dd ((∀l∈bf f a,0<=l/\l<=125)/\(bf f a).length=n):=⟨auk f a<|by omega,T⟩
  have bh:dd (∀s∈iL f (bf f a) (aO f) a,0<s.at'.length/\s.at'.length<=f.length/\(∀p∈s.at',p<f.length)/\0<=s.level/\s.level<=125):=asp (by rw[aim]) qX.out.1;have VV:∀j v,(iv<|bf f a)[j]? =V v->W3.cell? (S g1 j U)=V v:=λj v hj=>by have a0:j<n:=(by have:=(tJ.1 hj).1;rw[oC,T]at this;exact this);rw[ar.cell j a0];exact hj
  have nK:=ah<|aD.out.trans<|ab.mono aD.out.size;obtain⟨u,Wm⟩:=ac<|bf f a;have CF:=ah Wm;rw[<-Wm]at VV T;clear eN fu p5 ab ar lK Wm am aJ aL;have Wd:(m.alloc<|bi (madeCells #[Y Z 0] n) 3).1[m.1.size]? =V (bi (List.replicate n<|Y Z 0).toArray 3 (0,0)):=by rw[<-F];exact EO
  have ax:∀j v,(iv u)[j]? =V v->(m.alloc<|bi (madeCells #[Y Z 0] n) 3).cell? (((S g1 0 U):Addr).add j)=V v:=λj v hj=>by have:=VV j v hj;rw[<-F];simp only[Addr.add];split;rename_i h0;subst h0;exact this;simpa using this
  have O1:=ah F;have FM:=ah T;clear EO VV T F;have MH:=run_copy_row (P:=prog) (m.alloc<|bi (madeCells #[Y Z 0] n) 3) 31 31 3 3 m.1.size 0 n n (S g1 0 U) n n (List.replicate n<|Y Z 0).toArray 3 (iv u) underlying31 Tryz.RZ Wd (by rw[oC,FM.out];exact(Nat.min_self n).symm) ax (by rw[oC,FM.out];simp) (λv hv=>by simp only[iv,jX]at hv;obtain⟨q,_,rfl⟩:=hv;rfl);have DV:dd ((((m.alloc<|bi (madeCells #[Y Z 0] n) 3).setRow m.1.size ((List.replicate n<|Value.int .i64 0).toArray.toList.take 0++iv u++(List.replicate n<|Value.int .i64 0).toArray.toList.drop (0+(iv u).length)).toArray)).1[m.1.size]? =V (bi (iv u).toArray 3 (0,0))):=by show _=_;rw[setRow_heap _ _ _ _ _ _ Wd];have:(List.replicate n<|Value.int .i64 0).toArray.toList.take 0++iv u++(List.replicate n<|Value.int .i64 0).toArray.toList.drop (0+(iv u).length)=iv u:=(by rw[iZ,r8,lu<|by rw[oC,FM.out];simp,mH]);rw[this]
  have R:=below_setRow (aA m.1.size<|m.alloc<|bi (madeCells #[Y Z 0] n) 3) (au _) ((List.replicate n<|Value.int .i64 0).toArray.toList.take 0++iv u++(List.replicate n<|Value.int .i64 0).toArray.toList.drop (0+(iv u).length)).toArray;rw[<-O1.out]at R;obtain⟨z,an⟩:=ac<|(m.alloc<|bi (madeCells #[Y Z 0] n) 3).setRow m.1.size ((List.replicate n<|Value.int .i64 0).toArray.toList.take 0++iv u++(List.replicate n<|Value.int .i64 0).toArray.toList.drop (0+(iv u).length)).toArray;rw[O1.out,<-an,<-O1.out]at R;rw[<-an]at MH DV;clear an;rw[oC,FM.out]at MH;have K:cD m.1.size m z:=HZ.out.2.2.2.2.2.1.trans R;have sP:m.1.size<z.1.size:=lW HZ.out.2.2.2.2.2.2 R.size;have sJ:aW z m.1.size 3 m.1.size n (iv u):=aW.Rw DV (au _) (by rw[oC,FM.out]) (by omega);obtain⟨t,ae⟩:=ac m.1.size;have ao:cD w.1.size w z:=nK.out.trans<|K.mono nK.out.size;have eN:=HR.out.1.keep K HZ.out.2.2.1;have fu:=HR.out.2.1.keep K HZ.out.2.2.2.1;have p5:=HR.out.2.2.keep K HZ.out.2.2.2.2.1;have az:z.ownsRow w.1.size 3 1 (.slice (V<|S D 0 U) n cc) n (iv f):=kS FB λk o hk ho=>by have:D=k:=(by simpa [Value.ownBlock]using hk);subst this;rw[K.block D<|by have:=mW.out.1;have:=HZ.out.1;omega,HZ.out.2.1.block D mW.out.1];exact ho
  have HX:dd (bJ z D 0 f/\bJ z g1 0 u/\AZ z g3 0 (aO f)/\bJ z b y E/\bJ z g2 0 (je f a)):=⟨J7 az,by rw[CF.out];exact eN.ints,p5.bools,HI.out.1.stay ao HI.out.2,fu.ints⟩
  have HY:dd (D<z.1.size/\g1<z.1.size/\g3<z.1.size/\b<z.1.size/\g2<z.1.size/\t<z.1.size/\D≠t/\g3≠t/\cD w.1.size w z/\w.1.size<=t):=by have h1:=mW.out.1;have h2:=HZ.out;have h3:=HI.out.2;have h4:=nK.out.size;exact⟨by omega,by omega,by omega,by omega,by omega,by omega,by omega,by omega,ao,by omega⟩
  have s9:dd (bI z m.1.size t n n u):=by rw[ae];exact sJ
  have Bc:=ah ae;clear R DV K sP sJ ao eN fu p5 az Wd ax;go_wp2_with fail;rw[<-ae];clear MH ae O1;refine(asr f u (aO f) a n D 0 cc g1 0 n g3 0 n z J.out.2 FM (by rw[aik];exact J.out.2) (by omega) (λl hl=>by rw[CF.out]at hl;have:=qX.out.1 l hl;omega) (by omega) HX.out.1 HX.out.2.1 HX.out.2.2.1 HY.out.1 HY.out.2.1 HY.out.2.2.1).mono ?_;rintro Q w5 ⟨sv,dL,rfl,bV,GX,ag,al⟩;have zP:dd (∃r,r=iL f u (aO f) a):=⟨_,rfl⟩
  obtain⟨r,hS⟩:=zP.out;rw[<-hS]at GX ag al;obtain⟨sa,sc,rfl⟩:=eV GX;have aT:dd (∀s∈r,0<s.at'.length/\s.at'.length<=n/\(∀p∈s.at',p<n)/\0<=s.level/\s.level<=1000):=by intro s hs;rw[hS,CF.out]at hs;have:=bh.out s hs;rw[J.out.2]at this;exact⟨this.1,this.2.1,this.2.2.1,this.2.2.2.1,by omega⟩
  have ap:=ah hS;have Bf:=ah GX;have af:dd (dL.length=r.length/\∀i,i<r.length->w5.ownsRow z.1.size 3 1 (dL.getD i .nilFunc) (r.getD i ⟨[],0,0,0⟩).at'.length (iv<|nl (r.getD i ⟨[],0,0,0⟩).at')):=⟨ag,al⟩
  have bF:=ah bV;have kC:=ah<|fS s9 bV;clear bV GX ag al hS;have bc:r.length<=100000:=by have h1:=ahq f u (aO f) a (dB u<|aO f) n (dB u<|aO f).length;have h2:r=vH f u (aO f) a (dB u<|aO f) n (dB u<|aO f).length:=(by rw[ap.out];unfold iL vH;rw[Pt,J.out.2]);have h3:=ase u<|aO f;rw[FM.out]at h3;rw[<-h2]at h1;omega
  go_wp2;go_loopg [12] r.length (λgh gD W=>∃(j:Nat)(o:aw),j<=r.length/\gh=r.length - j/\gD=Y Z j/\bI W m.1.size t n n o/\w5.grownBy W (V t)/\o=((r.take j).flatMap (rQ E<|je f a)).foldl mo u);exact⟨0,u,by omega,rfl,rfl,kC,kI _ _,rfl⟩;clear kC;obtain⟨j,o,hj,rfl,rfl,B,x,hE⟩:=hrel;have Ii:=ah B;have sZ:=ah x;have HE:=ah hE;have iJ:z.1.size<=w5.1.size:=bF.out.size;have C:=HY.out;by_cases A:j<r.length
  .obtain⟨gs,aV,hv,a9,iU,ba⟩:=iq Bf.out (by omega);obtain⟨a3,a4⟩:sa=V (S gs 0 U)/\sc=aV:=(by simpa using hv);clear hv;subst a3;subst a4;have aP:r.getD j ⟨[],0,0,0⟩∈r:=dP A;have X:=aT.out _ aP;obtain⟨ga,ca,VN,a8,aU,a'⟩:=iq (af.out.2 j A) X.1;have ak:=af.out.2 j A;rw[VN]at ak;have rK:=ahr dL r j af.out.1 A;have e0:=cT Bf (j*4) (by omega);have e1:=cT Bf (j*4+1) (by omega);have e2:=cT Bf (j*4+2) (by omega);have e3:=cT Bf (j*4+3) (by omega);rw[rK.1,VN,<-sH x iU (by omega)]at e0;rw[rK.2.1,<-sH x iU (by omega)]at e1;rw[rK.2.2.1,<-sH x iU (by omega)]at e2;rw[rK.2.2.2,<-sH x iU (by omega)]at e3;have HN:dd (((r.take<|j+1).flatMap (rQ E<|je f a)).foldl mo u=(rQ E (je f a)<|r.getD j ⟨[],0,0,0⟩).foldl mo o):=(by show _=_;rw[hE,pR A,T7,CY];simp[aN,aK A]);have TG:dd (∀W,W.heap=wr.heap->cP prog 73 #[df #[.slice (V<|S ga 0 U) (r.getD j ⟨[],0,0,0⟩).at'.length ca,Y Z (r.getD j ⟨[],0,0,0⟩).level,Y Z (r.getD j ⟨[],0,0,0⟩).aq,Y Z (r.getD j ⟨[],0,0,0⟩).ay],.slice (V<|S b y U) n O,.slice (V<|S g2 0 U) n n,.slice (V<|S t 0 U) n n] W λQ L=>Q=bj (de #[])/\bI L m.1.size t n n ((rQ E (je f a)<|r.getD j ⟨[],0,0,0⟩).foldl mo o)/\W.grownBy L (V t)):=by
    intro W hW;have BD:∀(N k:Nat),N<w5.1.size->N≠t->W.cell? (S N k U)=w5.cell? (S N k U):=λN k h1 h2=>by rw[<-sH x h1 h2];simp only[World.cell?,hW]
    have aY:bI W m.1.size t n n o:=kS B λk oo _ ho=>by rw[hW];exact ho
    refine asL E (je f a) o (r.getD j ⟨[],0,0,0⟩) n (r.getD j ⟨[],0,0,0⟩).at'.length ga 0 ca b y O g2 0 n t n m.1.size W rfl X.1 (by omega) X.2.2.1 X.2.2.2 ?_ ?_ ?_ ?_ ?_ ?_ J.out.1 (by rw[auj];exact J.out.2) aY (by omega);intro k hk;rw[fV,BD ga k aU<|by omega];exact jx ak k hk;rw[hW];have:=x.size;omega;intro k hk;rw[BD b (y+k) (by omega)<|by have:=Bc.out;have:=HI.out.2;have:=nK.out.size;omega];rw[bF.out.cell (p:=(S b (y+k) U)) C.2.2.2.1];exact HX.out.2.2.2.1 k hk;rw[hW];have:=x.size;omega;intro k hk;rw[BD g2 (0+k) (by omega)<|by have:=Bc.out;have:=HZ.out.2.2.2.1;omega];rw[bF.out.cell (p:=(S g2 (0+k) U)) C.2.2.2.2.1];exact HX.out.2.2.2.2 k hk;rw[hW];have:=x.size;omega
   generalize r.getD j ⟨[],0,0,0⟩=sj at*;obtain⟨be,Kl,Km,Kj⟩:=sj;simp only at e1 e2 e3 TG;clear B x hE rK VN ak aP X;go_wp2_with fail;refine(TG wr rfl).mono ?_;rintro Q w6 ⟨rfl,aE,aB⟩;have aQ:=ah aE;have KH:=ah<|sZ.out.trans aB;clear aE aB TG e0 e1 e2 e3;go_wp2;go_roundg (r.length - (j+1));exact⟨j+1,_,by omega,rfl,by simp,aQ,KH,HN.out.symm⟩;omega
  have HO:dd (o=(r.flatMap<|rQ E<|je f a).foldl mo u):=by show _=_;rw[hE,show j=r.length by omega,Pt]
  have aM:o.length=n:=B.len;have HF:dd (AZ w5 g3 0 (aO f)/\bJ w5 D 0 f):=⟨HX.out.2.2.1.stay bF C.2.2.1,HX.out.1.stay bF C.1⟩
  have pP:=ah aM;clear B x hE aM;go_wp2;go_loopg [13] n (λgh gD W=>∃(k:Nat)(I:aw),k<=n/\gh=n - k/\gD=Y Z k/\bI W m.1.size t n n I/\w5.grownBy W (V t)/\Cy a f o I k);exact⟨0,o,by omega,rfl,rfl,Ii,sZ,by rw[pP.out,J.out.2],λ_ _ _=>rfl,λh=>by omega⟩;clear Ii sZ;obtain⟨k,I,hk,rfl,rfl,B,x,BI⟩:=hrel;have Ii:=ah B;have sZ:=ah x;by_cases A:k<n
  .have H:k<f.length:=(by rw[J.out.2];exact A);have cf:=HF.out.1 k (by rw[aik];exact H);rw[aij f k H,fV,<-sH x (by omega) C.2.2.2.2.2.2.2.1]at cf;have G:=B.cell k A;have aZ:=B.frozen k;cases hlb:bX<|f.getD k 0
   .rw[hlb]at cf;cases k with
    |zero=>have HN:dd (Cy a f o (I.set 0 a) 1):=BI.set H hlb (λ_=>rfl);generalize I.getD 0 0=oc at G;clear B x BI hlb H iJ C;go_wp2;go_roundg (n - 1);exact⟨1,_,by omega,rfl,rfl,Ii.out.set 0 a,sZ.out.trans<|Ii.out.grown 0 a,HN⟩;omega
    |succ q=>have p8:=B.cell q (by omega);have HN:dd (Cy a f o (I.set (q+1)<|I.getD q 0)<|q+1+1):=BI.set H hlb (λh=>by omega);generalize I.getD (q+1) 0=oc at G;generalize I.getD q 0=pv at p8 HN;have CQ:dd (bI ((wr.setCell (S t (q+1) U)<|Y Z a).setCell (S t (q+1) U) (Y Z pv)) m.1.size t n n (I.set (q+1) pv)/\w5.grownBy ((wr.setCell (S t (q+1) U)<|Y Z a).setCell (S t (q+1) U) (Y Z pv)) (V t)):=(by have h2:=(B.set (q+1) a).set (q+1) pv;rw[Uf]at h2;exact⟨h2,(x.trans<|B.grown (q+1) a).trans ((B.set (q+1) a).grown (q+1) pv)⟩);clear B x BI hlb H iJ C;go_wp2;go_roundg (n - (q+1+1));exact⟨q+1+1,_,by omega,rfl,by simp,CQ.out.1,CQ.out.2,HN⟩;omega
   rw[hlb]at cf;have HN:=ah<|BI.keep hlb;clear B x BI hlb H iJ C G aZ;go_wp2;go_roundg (n - (k+1));exact⟨k+1,I,by omega,rfl,by simp,Ii,sZ,HN⟩;omega
  obtain rfl:k=n:=(by omega);have a2:=x.size;have BD:∀(N q:Nat),N<w5.1.size->N≠t->wr.cell? (S N q U)=w5.cell? (S N q U):=λN q h1 h2=>sH x h1 h2
  have aR:dd (nS a a f I=LV):=by show _=_;rw[HQ.out,MZ f o I a (by rw[pP.out,J.out.2]) BI.1 BI.2.1,HO.out,ap.out,CF.out]
  have Lh:dd (cP prog 74 #[.slice (V<|S D 0 U) k cc,.slice (V<|S t 0 U) k k,.slice (V<|S g3 0 U) k k,Y Z a] wr λQ L=>Q=bj (.slice (V<|S t 0 U) k k)/\bI L m.1.size t k k (nS a a f I)/\wr.grownBy L (V t)):=by refine atw f I a k D 0 cc g3 0 k m.1.size t k wr J.out.2 (by omega) ?_ ?_ (by omega) (by omega) B C.2.2.2.2.2.2.1 C.2.2.2.2.2.2.2.1 (λh h'=>BI.2.2 h h');intro q hq;rw[BD D (0+q) (by omega) C.2.2.2.2.2.2.1];exact HF.out.2 q hq;intro q hq;rw[BD g3 (0+q) (by omega) C.2.2.2.2.2.2.2.1];exact HF.out.1 q hq
  have kV:dd (cD w.1.size w wr):=(C.2.2.2.2.2.2.2.2.1.trans<|bF.out.mono<|by have:=C.2.2.2.2.2.2.2.2.1.size;omega).grown x (by have:=C.2.2.2.2.2.2.2.2.1.size;omega) (λq hq=>by have:=aI hq;have:=C.2.2.2.2.2.2.2.2.2;omega);have aX:w.1.size<=t:=C.2.2.2.2.2.2.2.2.2;clear B x BI iJ C a2 BD;go_wp2_with fail;refine Lh.out.mono ?_;rintro Q w7 ⟨rfl,VA,aC⟩;rw[aR.out]at VA;have KL:=ah<|afU VA aX;have mS:dd (cD w.1.size w w7):=kV.out.grown aC kV.out.size (λq hq=>by have:=aI hq;omega);clear VA aC Lh;go_wp2;refine bU (v:= .slice (V<|S t 0 U) k k) (by simp[results,results48,go_sem]) rfl ⟨t,k,rfl,KL,mS⟩
section
attribute [local go_sem ↓] Go.wp_at_zero Go.wp_at_succ
def agL(w:cw):cP prog 86 #[] w λe a=>∃g,e=bj (.slice (V<|S g 0 U) 10 10)/\(∀k,k<10->a.cell? (S g k U)=V (.func (.func<|rP k) #[] #[]))/\w.1.size<=g/\g<a.1.size/\cD w.1.size w a:=by
 go_enter func86,ntmps86;go_wp2;go_ret;refine⟨_,rfl,λk b=> ?_,au _,by simp,(aA _ _).alloc (au _) _⟩
 match k,b with
 |0,_=>simp[rP]
 |1,_=>simp[rP]
 |2,_=>simp[rP]
 |3,_=>simp[rP]
 |4,_=>simp[rP]
 |5,_=>simp[rP]
 |6,_=>simp[rP]
 |7,_=>simp[rP]
 |8,_=>simp[rP]
 |9,_=>simp[rP]
def aki(ar:∀(W:cw)(L:LP)(ks ls:aw),LX W L ks ls->L.n<=1000->(∀p,0<=ls.getD p 0/\ls.getD p 0<=1000)->(0<=L.p/\L.p<=1000)->cP prog 87 #[.pointer<|V<|S L.lb 0 U] W λe o=>∃av b,e=bj av/\zV o W.1.size L ks ls av b/\b.map jk.at'=((dB ls<|aO L.cs).filter (iG L.cs)).map (cE L.cs (dB ls<|aO L.cs) L.n)/\cD W.1.size W o) (s:bc) (l:aw) (d:Int) (w:cw) (hs:s.size<=600) (hr:cK s=V l) (hl:l≠[]) (a1:l.length<=1000) (aH:Br w) (aL:∀c∈l.map cls,0<=c/\c<=21) (aJ:∀(r:Int)(W:cw),cD w.1.size w W->cP prog 66 #[Y .i32 r] W λe o=>e=bj (Y Z<|cls r)/\cD W.1.size W o):cP prog 55 #[cd s,Y Z d] w λe o=>∃g,e=bj (.slice (V<|S g 0 U) l.length l.length)/\aW o w.1.size 3 g l.length (iv<|fQ l (l.map cls) d)/\cD w.1.size w o:=by
 have aY:=ah ar;clear ar;have zL:=ah<|afu s l d w hs hr hl aJ;have kA:=ah aH;have M3:0<=gT (l.map cls) d/\gT (l.map cls) d<=1:=by rcases Yk (l.map cls) d with h|h<;>omega
 clear hs hr hl aH aJ;go_enter func55,ntmps55;go_wp2_with fail;refine zL.out.mono ?_;rintro ev w1 ⟨L,rfl,hX,QC,az,ay,Mt,Ai,ad⟩;clear zL;have OL:dd (∀c∈L.cs,0<=c/\c<=21):=by show∀c∈L.cs,_;rw[QC];exact aL
 have hp:0<=L.p/\L.p<=125:=by rw[Mt];omega
 have HEq:dd (fQ l (l.map cls) d=fQ L.rs L.cs d/\L.p=gT L.cs d/\l.length=L.n/\w.1.size=L.B):=⟨by rw[az,QC],by rw[QC];exact Mt,ay.symm,Ai.symm⟩
 have MT:L.n<=1000:=by omega
 have J:L.cs.length=L.n:=hX.len;have ag:dd (cP prog 85 #[.pointer<|V<|S L.lb 0 U] w1 λe o=>e=bj (de #[])/\LX o L (kP L.cs L.p) (bf L.cs L.p)/\cD L.B w1 o):=asx w1 L hX (by rw[Ai];exact ad.size) hp MT;have aD:dd (cD L.B w w1):=by show cD _ _ _;rw[Ai];exact ad
 clear hX QC az ay Mt ad aL M3 a1;go_wp2_with fail;refine ag.out.mono ?_;rintro ev t ⟨rfl,p6,aF⟩;clear ag;have bN:cD L.B w t:=aD.out.trans aF;have C:L.B<=t.1.size:=by have:=bN.size;rw[<-HEq.out.2.2.2]at*;omega
 obtain⟨n,hn⟩:=ac L.n;have a3:=run_make_row' (P:=prog) 31 3 (Y Z 0) 8 underlying31 Tryz.sQ rfl .i64 .i64 n (by omega) (by omega);have c3:=p6.f3;rw[<-hn]at c3;have aG:cD t.1.size t (t.alloc<|bi (madeCells #[Y Z 0] n) 3):=(aA _ _).alloc (au _) _;have Aj:=p6.below aG;have lK:aW (t.alloc<|bi (madeCells #[Y Z 0] n) 3) L.B 3 t.1.size n (List.replicate n<|Y Z 0):=aW.made C (by omega);have cA:cD L.B w (t.alloc<|bi (madeCells #[Y Z 0] n) 3):=bN.alloc C _;have a5:(t.alloc<|bi (madeCells #[Y Z 0] n) 3).1.size=t.1.size+1:=by simp
 have dO:=ah p6.lt;have PE:=Aj.f3;rw[<-hn]at PE;have K:=Aj.rl;unfold aW at K;rw[<-hn]at K;obtain⟨G,pE,aQ,E⟩:=U2 (P:=prog) (w:=t.alloc<|bi (madeCells #[Y Z 0] n) 3) (sT:=31) (e:=3) (ty:=3) (g:=t.1.size) underlying31 Tryz.RZ (aW.heap lK) (by simp) K (λv hv=>by simp only[iv,jX]at hv;obtain⟨x,_,rfl⟩:=hv;rfl);have ab:∀g,L.has g->g≠t.1.size:=λg hg=>by have:=p6.lt g hg;omega
 have aE:LX G L (kP L.cs L.p) (bf L.cs L.p):=Aj.same E.size λg hg=>E.block g (Aj.lt g hg) λe=>ab g hg<|aI e
 have sJ:aW G L.B 3 t.1.size n (iv<|bf L.cs L.p):=aW.Rw aQ C (by rw[oC,ZR,hn];exact J) (by omega);have aa:cD L.B w G:=cA.grown E (by omega) (λk hk=>by cases hk;exact C);have sP:t.1.size<G.1.size:=by have:=E.size;omega
 have ap:Br G:=kA.out.below (by have:=aa;rw[<-HEq.out.2.2.2]at this;exact this);have M:dd (FS G L (kP L.cs L.p) (bf L.cs L.p) t.1.size (bf L.cs L.p)/\cD L.B w G/\t.1.size<G.1.size/\Br G):=⟨⟨aE,by rw[<-hn];exact sJ,ab⟩,aa,sP,ap⟩
 have O5:=ah C;have FN:=ah hn;have a6:n<=1000:=by omega
 clear p6 aF bN aG Aj lK cA a5 C aD hn K aQ E aE sJ aa sP ap ab;obtain⟨i,aP⟩:=ac t.1.size;have CO:=ah<|agL G;go_wp2_with fail;rw[<-aP]at M dO O5 ⊢;clear aP c3 PE a3 pE;refine CO.out.mono ?_;rintro ev A ⟨g,rfl,am,bQ,an,bV⟩;clear CO;have Ad:=M.out.1.below bV;have kO:cD L.B w A:=M.out.2.1.trans (bV.mono<|by have:=M.out.2.2.1;have:=O5.out;omega);have aq:=M.out.2.2.2.below bV;have iJ:i<A.1.size:=by have:=M.out.2.2.1;have:=bV.size;omega
 have aN:g≠i:=by have:=M.out.2.2.1;omega
 have OZ:dd (cP prog 87 #[.pointer<|V<|S L.lb 0 U] A λe o=>∃av b,e=bj av/\zV o A.1.size L (kP L.cs L.p) (bf L.cs L.p) av b/\b.map jk.at'=((dB (bf L.cs L.p)<|aO L.cs).filter (iG L.cs)).map (cE L.cs (dB (bf L.cs L.p)<|aO L.cs) L.n)/\cD A.1.size A o):=
  aY A L _ _ Ad.ln MT (λp=>by have:=Sk (cs:=L.cs) hp p;omega) (by omega)
 have H:dd (TZ A.1.size L i g):=⟨by have:=O5.out;omega,iJ,O5.out,an,aN,λx hx=>by have:=dO.out x hx;omega,by obtain⟨tt,fr,e⟩:=kA.out;have:=dg e;rw[<-HEq.out.2.2.2];exact this⟩
 have H5:dd (FS A L (kP L.cs L.p) (bf L.cs L.p) i (bf L.cs L.p)/\(∀k,k<10->A.cell? (S g k U)=V (.func (.func<|rP k) #[] #[]))/\Br A/\cD L.B w A):=⟨Ad,am,aq,kO⟩
 clear M Ad kO aq iJ aN am bQ an bV;go_wp2_with fail;refine OZ.out.mono ?_;rintro ev W6 ⟨av,b,rfl,hQ,ER,gz⟩;clear OZ;obtain⟨B,hB⟩:=ac A.1.size;rw[<-hB]at hQ H;have ak:LV W6 w B L (kP L.cs L.p) (bf L.cs L.p) i g av b 0 (bf L.cs L.p):=⟨H5.out.1.below gz,λk hk=>cell_grown (r:=U) (I2 gz) (H5.out.2.1 k hk)<|by simp,hQ.row,λq F=>hQ.all q<|by simpa using F,H5.out.2.2.1.below gz,H5.out.2.2.2.trans<|gz.mono<|by have:=H.out.lo;omega⟩
 have S4:=ah ak;have z:dd (B<=W6.1.size):=by show _<=_;rw[hB];exact gz.size
 have TD:=ah<|asU J ER;have yw:=ah hQ.ap;have aX:dd (∀q∈b,uz L (bf L.cs L.p) q∈iL L.cs (bf L.cs L.p) (aO L.cs) L.p):=λq F=>by rw[<-TD.out];exact jX.2 ⟨q,F,rfl⟩
 obtain⟨ra,rc,rfl⟩:=eV hQ.row;have Q9:b.length<=1000:=by
  have h1:(b.map jk.at').length<=L.n:=by
   rw[ER,jh];refine bM (Bk _ _) ?_;have hR:=ZP L.cs L.p;have h2:=Mj (dB (bf L.cs L.p)<|aO L.cs).flatten L.cs.length hR.vC (λa ha=>by obtain⟨r,hr,ha⟩:=Ud.1 ha;exact hR.lt r hr a ha);have h3:∀l:List ba,(∀r∈l,r≠[])->l.length<=l.flatten.length:=by
    intro l
    induction l with
    |nil=>intro _;simp
    |cons a l ih=>intro hl;have h1:=ih (λr hr=>hl r<|by simp[hr]);have h2:0<a.length:=kF.2 (hl a<|by simp);simp only[eU,Bj,bG];omega
   have:=h3 _ hR.ne;omega
  rw[jh]at h1;omega
 obtain⟨N,hN⟩:=ac b.length;rw[<-hN]at S4 Q9 ⊢;have nL:=ah hN.symm;clear hQ ER gz hB ak H5 hN;go_wp2;go_loopg [33] N (λgk iv W=>∃(j:Nat),j<=N/\gk=N - j/\iv=Y Z j/\B<=W.1.size/\LV W w B L (kP L.cs L.p) (bf L.cs L.p) i g (R ra N rc) b j ((((b.take j).map (uz L<|bf L.cs L.p)).flatMap (pL L.rs<|kP L.cs L.p)).foldl jl (bf L.cs L.p)));exact⟨0,by omega,rfl,rfl,z,S4⟩;clear S4 z;obtain⟨j,hj,rfl,rfl,X,m⟩:=hrel;by_cases a2:j<N
 .have aR:j<b.length:=by rw[nL.out];exact a2
  obtain⟨q,F⟩:∃q,b[j]? =V q:=⟨_,aK aR⟩
  have u:=m.row;rw[nL.out]at u;obtain⟨rg,N7,aU,_,_,_⟩:=iq u (by omega);have GQ:ra=V (S rg 0 U):=(show ra=V (S rg 0 U)/\rc=N7 by simpa using aU).1;subst GQ;have c1:wr.cell? (S rg j U)=V (.pointer<|V<|S q.sb 0 U):=by rw[cT u j<|by omega,jC,F];rfl
  have O:=m.sq q (by rw[drop_cons F];exact Pp);obtain⟨f,rK⟩:=ac<|uz L (bf L.cs L.p) q;have ae:f∈iL L.cs (bf L.cs L.p) (aO L.cs) L.p:=by rw[rK];exact aX.out q<|Pq F
  obtain⟨s1,s2,_,_,s5⟩:=RY OL.out hp ae;have D:f.at'=q.at':=by rw[rK];rfl
  have nG:0<=f.level:=by rw[rK];exact(Sk hp _).1
  have yR:zW wr B L f.level f.aq f.ay (bz (kP L.cs L.p) q.at') q (bz (kP L.cs L.p) q.at'):=by rw[rK];exact O.sqs
  have aV:(b.take<|j+1).map (uz L<|bf L.cs L.p)=(b.take j).map (uz L<|bf L.cs L.p)++[f]:=by rw[uO,F,gu,rK];rfl
  have T:((b.take j).map (uz L<|bf L.cs L.p)).Sublist (iL L.cs (bf L.cs L.p) (aO L.cs) L.p):=by rw[<-TD.out];exact(aju j b).map _
  have al:=aqA OL L.rs hp _ T;have TL:dd (LV wr w B L (kP L.cs L.p) (bf L.cs L.p) i g (.slice (V<|S rg 0 U) N rc) b (j+1)<|(((b.take j).map (uz L<|bf L.cs L.p)).flatMap (pL L.rs<|kP L.cs L.p)).foldl jl (bf L.cs L.p)):=⟨m.fs,m.rl,m.row,λq' a4=>m.sq q'<|by rw[drop_cons F];exact yG _ a4,m.br,m.hb⟩
  have di:=ah yR;have I:dd (B<=q.gc/\q.m<=1000/\0<q.m/\q.at'.length=q.m/\(∀q'∈b.drop (j+1),Fw q q')/\(∀p∈q.at',p<L.n)/\B<=q.gp/\B<=q.sb):=by refine⟨(O.sq.row.lt q.gc rfl).1,?_,O.pos,O.len,alK yw F,λp M3=>by rw[<-J];exact(s5 p<|by rw[D];exact M3).1,O.lo.1,O.lo.2⟩;have h1:=Mj q.at' L.n ?_ (λp M3=>by rw[<-J];exact(s5 p<|by rw[D];exact M3).1);rw[O.len]at h1;omega;rw[<-D];have h2:=YZ L.cs L.p;exact h2.sublist<|by rw[Ls];exact iY<|jX.2 ⟨f,ae,rfl⟩
  have qY:dd (((((b.take<|j+1).map (uz L<|bf L.cs L.p)).flatMap (pL L.rs<|kP L.cs L.p)).foldl jl (bf L.cs L.p))=(pL L.rs (kP L.cs L.p) f).foldl jl ((((b.take j).map (uz L<|bf L.cs L.p)).flatMap (pL L.rs<|kP L.cs L.p)).foldl jl (bf L.cs L.p))):=by show _=_;rw[aV,T7,CY];simp
  have Lh:dd (pL L.rs (kP L.cs L.p) f=jN q.at' f.level (RT f.level f.aq f.ay (bz (kP L.cs L.p) q.at') (bz L.rs q.at') 10)):=by show _=_;rw[pL,<-arP,D]
  have Td:dd (∀p,0<=((((b.take j).map (uz L<|bf L.cs L.p)).flatMap (pL L.rs<|kP L.cs L.p)).foldl jl (bf L.cs L.p)).getD p 0/\((((b.take j).map (uz L<|bf L.cs L.p)).flatMap (pL L.rs<|kP L.cs L.p)).foldl jl (bf L.cs L.p)).getD p 0<=1000):=λp=>by have:=al p;omega
  have aS:(bz (kP L.cs L.p) q.at').length=q.m:=by rw[RQ];exact I.out.2.2.2.1
  have Dh:(j:Int)<(N:Int):=by omega
  have z:=ah X;clear aR u aU O ae s5 yR aV T al m X;generalize((((b.take j).map (uz L<|bf L.cs L.p)).flatMap (pL L.rs<|kP L.cs L.p)).foldl jl (bf L.cs L.p))=oo at*;generalize pL L.rs (kP L.cs L.p) f=tp at*;obtain⟨k0,ao⟩:=ac<|bz (kP L.cs L.p) q.at';rw[<-ao]at di Lh aS;clear ao F rK D;go_wp2;go_loopg [39] 10 (λgk iv W=>∃k:Nat,k<=10/\gk=10 - k/\iv=Y Z k/\B<=W.1.size/\LV W w B L (kP L.cs L.p) (bf L.cs L.p) i g (.slice (V<|S rg 0 U) N rc) b (j+1) oo/\zW W B L f.level f.aq f.ay k0 q (RT f.level f.aq f.ay k0 (bz L.rs q.at') k));exact⟨0,by omega,rfl,rfl,z,TL,di⟩;clear TL di z c1;obtain⟨k,hk,rfl,rfl,X,m,hS⟩:=hrel;by_cases aT:k<10
  .have ck:=m.rl k aT;have a0:=arO k;have HR:=ah<|arN hS m.br I.out.2.1 I.out.2.2.1 nG s1 s2 aS k;have HV:=ah m;have af:=ah<|BO hS.sq.row;have aZ:(k:Int)<10:=(by omega);have z:=ah X;clear m hS X;generalize rP k=fk at*;go_wp2_with fail;refine HR.out.mono ?_;rintro ev W7 ⟨rfl,aC,iy⟩;have TN:dd (LV W7 w B L (kP L.cs L.p) (bf L.cs L.p) i g (.slice (V<|S rg 0 U) N rc) b (j+1) oo):=HV.out.rule H af I.out.1 I.out.2.2.2.2.1 iy (by have:=H.out.lo;have:=z.out;omega);have Tz:=ah aC;have TX:dd (B<=W7.1.size):=(by have:=iy.size;have:=z.out;show _<=_;omega);clear aC iy HR HV af z ck a0;go_wp2;go_roundg (10 - (k+1));exact⟨k+1,by omega,rfl,by go_num,TX,TN,Tz⟩;omega
  obtain rfl:k=10:=(by omega);have aZ:¬((10:Nat):Int)<10:=(by omega);have ai:dd (cP prog 88 #[.pointer<|V<|S q.sb 0 U,.slice (V<|S i 0 U) n n] wr λe o=>e=bj (de #[])/\bI o L.B i n n (tp.foldl jl oo)/\wr.grownBy o (V i)):=by have:=asy wr B q.sb q.gc q.m q.cc q.gp q.op q.cp _ _ f.level f.aq f.ay _ q.at' L.B i n oo hS.sq hS.pl I.out.2.2.2.1 (by rw[FN.out];exact m.fs.row) (by have:=H.out.Vt;have:=I.out;omega) (by rw[FN.out];exact I.out.2.2.2.2.2.1) I.out.2.1 nG Td;rw[<-Lh.out]at this;exact this
  have HV:=ah m;have z:=ah X;clear m hS X;go_wp2_with fail;refine ai.out.mono ?_;rintro ev W7 ⟨rfl,aB,iy⟩;have TN:dd (LV W7 w B L (kP L.cs L.p) (bf L.cs L.p) i g (.slice (V<|S rg 0 U) N rc) b (j+1)<|tp.foldl jl oo):=HV.out.impl H (by rw[<-FN.out];exact aB) iy (by have:=H.out.lo;have:=z.out;omega);have TX:dd (B<=W7.1.size):=(by have:=iy.size;have:=z.out;show _<=_;omega);clear aB iy ai HV z;go_wp2;go_roundg (N - (j+1));exact⟨j+1,by omega,rfl,by go_num,TX,by rw[qY.out];exact TN.out⟩;omega
 obtain rfl:j=N:=by omega
 have Dh:¬(j:Int)<(j:Int):=by omega
 have Vy:=m.fs;have HB:=ah m.hb;have FL:dd (L.B<=wr.1.size):=by have:=H.out.lo;show _<=_;omega
 have Q:(b.take j).map (uz L<|bf L.cs L.p)=iL L.cs (bf L.cs L.p) (aO L.cs) L.p:=by rw[jY<|by rw[nL.out];exact au _,TD.out]
 rw[Q]at Vy;have aM:=ao6 (cs:=L.cs) (para:=L.p) OL.out L.rs d HEq.out.2.1 hp;generalize((iL L.cs (bf L.cs L.p) (aO L.cs) L.p).flatMap (pL L.rs<|kP L.cs L.p)).foldl jl (bf L.cs L.p)=oo at*;have yB:dd (cP prog 89 #[.pointer<|V<|S L.lb 0 U,.slice (V<|S i 0 U) L.n L.n] wr λe o=>e=bj (de #[])/\FS o L (kP L.cs L.p) (bf L.cs L.p) i (Aa L.p<|l1 L.p L.cs oo)/\wr.grownBy o (V i)):=asz wr L _ _ i oo Vy MT OL;rw[<-FN.out]at yB;rw[aM]at yB;clear Vy Q aM m X;go_wp2_with fail;refine yB.out.mono ?_;rintro ev W8 ⟨rfl,ax,jH⟩;have aj:dd (aW W8 L.B 3 i n (iv<|fQ L.rs L.cs d)/\cD L.B w W8):=⟨by have:=ax.row;rw[<-FN.out]at this;exact this,HB.out.grown jH FL λy hy=>by cases hy;exact H.out.Vs⟩
 clear yB ax jH;go_wp2;go_ret;exact⟨i,by rw[HEq.out.2.2.1,<-FN.out];rfl,by rw[HEq.out.1,HEq.out.2.2.1,HEq.out.2.2.2,<-FN.out];exact aj.out.1,by rw[HEq.out.2.2.2];exact aj.out.2⟩
end
section
attribute [local go_sem ↓] Go.wp_at_zero Go.wp_at_succ
def Xd {w:cw}{b c:Nat}{l:aw}(h:bJ w b c l)(j:Nat)(u:cJ)(d:(iv l)[j]? =V u):w.cell? (S b (c+j) U)=V u:=by
 have a:j<l.length:=by have:=(tJ.1 d).1;rwa [oC]at this
 rw[h j a,<-d];simp[iv,aN,aK a]
def aeL {l:aw}:∀u∈iv l,u.oneCell'=db:=λu a=>by simp only[iv,jX]at a;obtain⟨x,_,rfl⟩:=a;rfl
def akQ(w:cw)(L:LP)(ks z:aw)(h:LX w L ks z)(hn:L.n<=1000)(bt:∀p,0<=z.getD p 0/\z.getD p 0<=1000)(hp:0<=L.p/\L.p<=1000):cP prog 87 #[.pointer<|V<|S L.lb 0 U] w λe o=>∃av qs,e=bj av/\zV o w.1.size L ks z av qs/\qs.map jk.at'=((dB z<|aO L.cs).filter (iG L.cs)).map (cE L.cs (dB z<|aO L.cs) L.n)/\cD w.1.size w o:=by
 obtain⟨iI,gZ,ia,ic,ig⟩:=fP Tryz.sQ;obtain⟨iP,br,Nu,Nv,Nw⟩:=fP Tryz.aos;have ao:=h.len;have HX:dd (∀W,cD w.1.size w W->LX W L ks z):=λW C=>h.below C
 have VE:nt L.n (dB z<|aO L.cs):=by have:=YQ z<|aO L.cs;rw[h.kl.2]at this;exact this
 have S7:dd (∀k,k<(jJ (aO L.cs) L.n).length->(jJ (aO L.cs) L.n).getD k 0<L.n):=λk hk=>(aeU<|dP hk).1
 have bP:=Xy (aO L.cs) L.n;have ax:cD w.1.size w (w.alloc<|bi #[.pointer<|V<|S L.lb 0 U] 136):=(aA _ _).alloc (au _) _;have CO:dd (cP prog 154 #[.pointer<|V<|S L.lb 0 U] (w.alloc<|bi #[.pointer<|V<|S L.lb 0 U] 136) λe o=>∃v g i,e=bj v/\Ek o (w.alloc<|bi #[.pointer<|V<|S L.lb 0 U] 136).1.size v g (jJ (aO L.cs) L.n) i/\i.map (ey<|jJ (aO L.cs) L.n)=dB z (aO L.cs)/\cD (w.alloc<|bi #[.pointer<|V<|S L.lb 0 U] 136).1.size (w.alloc<|bi #[.pointer<|V<|S L.lb 0 U] 136) o):=asc _ L ks z (h.below ax) hn;have bv:=@mV prog;have VX:(w.alloc<|bi #[.pointer<|V<|S L.lb 0 U] 136).1[w.1.size]? =V (bi #[.pointer<|V<|S L.lb 0 U] 136 (0,0)):=pM;have aF:=ah VX;have cM:=ah ax;clear h ax VX;generalize jJ (aO L.cs) L.n=left at*;obtain⟨x,hR⟩:=ac<|dB z<|aO L.cs;rw[<-hR]at CO VE ⊢;clear hR;have Io:=ah VE;clear VE;go_enter func87,ntmps87;go_wp2_with fail;refine CO.out.mono ?_;rintro ev t ⟨rv,g,i,rfl,dI,WJ,ay⟩;clear CO;have bx:(w.alloc<|bi #[.pointer<|V<|S L.lb 0 U] 136).1.size=w.1.size+1:=by simp
 have fW:cD w.1.size w t:=cM.out.trans (ay.mono<|by omega);have aq:t.1[w.1.size]? =V (bi #[.pointer<|V<|S L.lb 0 U] 136 (0,0)):=aR ay aF;have aP:Ek t w.1.size rv g left i:=⟨AE dI.row<|by omega,dI.lf,dI.ok,λhn=>⟨bM (by omega) (dI.lt hn).1,(dI.lt hn).2⟩,dI.ty⟩
 have aX:SE ((t.alloc (.map #[] 0)).alloc (bi #[.map<|V t.1.size] 217)) w.1.size w.1.size (t.1.size+1) t.1.size g L rv left i 0:=by
  have am:cD t.1.size t ((t.alloc (.map #[] 0)).alloc (bi #[.map<|V t.1.size] 217)):=((aA _ _).alloc (au _) _).alloc (by simp) _;have nZ:((t.alloc (.map #[] 0)).alloc (bi #[.map<|V t.1.size] 217)).1[t.1.size+1]? =V (bi #[.map<|V t.1.size] 217 (0,0)):=by have:(t.alloc (.map #[] 0)).1.size=t.1.size+1:=(by simp);rw[<-this];exact pM
  refine⟨aR am aq,nZ,?_,aP.below am⟩;have:(t.alloc (.map #[] 0)).1[t.1.size]? =V (.map #[] 0):=pM;exact aR ((aA _ _).alloc (au _) _) this
 have bN:cD w.1.size w ((t.alloc (.map #[] 0)).alloc (bi #[.map<|V t.1.size] 217)):=(fW.alloc fW.size _).alloc (by simp;have:=fW.size;omega) _;obtain⟨ra,rc,rfl⟩:=eV dI.row;have vO:=ah aX;have aG:=ah bN;have uJ:=ah WJ;have aI:=ah fW.size;have dK:=ah dI.ok;have bn:i.length<=1000:=by
  have O:=Mj x.flatten L.n Io.out.vC (λa ha=>by obtain⟨r,hr,ha⟩:=Ud.1 ha;exact Io.out.lt r hr a ha);have h2:x.length<=x.flatten.length:=by
   have:∀l:List ba,(∀r∈l,r≠[])->l.length<=l.flatten.length:=by
    intro l
    induction l with
    |nil=>intro _;simp
    |cons a l ih=>intro hl;have O:=ih (λr hr=>hl r<|by simp[hr]);have h2:0<a.length:=kF.2 (hl a<|by simp);simp only[eU,Bj,bG];omega
   exact this x Io.out.ne
  have h3:i.length=x.length:=by rw[<-WJ,jh]
  omega
 clear dI WJ ay fW aq aP aX bN bx;obtain⟨Q,aB⟩:=ac w.1.size;obtain⟨mb,aC⟩:=ac t.1.size;obtain⟨mx,aD⟩:=ac<|t.1.size+1;obtain⟨N,hN⟩:=ac i.length;go_wp2;generalize(t.alloc (.map #[] 0)).alloc (bi #[.map<|V t.1.size] 217)=W2 at*;have aL:dd (SE W2 w.1.size Q mx mb g L (R ra N rc) left i 0):=by rw[aB,aD,aC,hN];exact vO.out
 have FL:dd (w.1.size<=mb):=by show _<=_;rw[aC];exact aI.out
 rw[<-aD,<-aB,<-hN];rw[<-hN]at bn;have nL:=ah hN.symm;clear vO aI aB aC aD hN bv aF cM;go_loopg [18] N (λgk iv W=>∃k:Nat,k<=N/\gk=N - k/\iv=Y Z k/\cD w.1.size w W/\SE W w.1.size Q mx mb g L (R ra N rc) left i k);exact⟨0,by omega,rfl,rfl,aG,aL⟩;clear aG aL;obtain⟨k,hk,rfl,rfl,C,B⟩:=hrel;by_cases az:k<N
 .have D:k<i.length:=by rw[nL.out];exact az
  have G:=B.r.row;rw[nL.out]at G;obtain⟨rg,N7,ak,_,_,_⟩:=iq G (by omega);have GQ:ra=V (S rg 0 U):=by simpa using(show ra=V (S rg 0 U)/\rc=N7 by simpa using ak).1
  subst GQ;have c1:wr.cell? (S rg k U)=V (qh g<|i.getD k (0,0)):=by rw[cT G k<|by omega,jC,aK D,aN,aK D];rfl
  have a9:=akm (w:=wr.drew) D B.mp dK (by rw[uJ.out];exact Io.out);obtain⟨aY,a0⟩:=dK.out _ (dP (d:=(0,0)) D);have c2:=B.r.lf (i.getD k (0,0)).1 (by rw[iz];omega);rw[fV,pH _ _ (by omega)]at c2;have c3:=B.m;have bL:dd (SE (ChangeMaps.setBlock wr.drew mb (.map (mL g left (i.take<|k+1)).toArray (k+1))) w.1.size Q mx mb g L (.slice (V<|S rg 0 U) N rc) left i (k+1)):=(B.below (aA _ _).drew).store;have HB:dd (cD w.1.size w<|ChangeMaps.setBlock wr.drew mb (.map (mL g left (i.take<|k+1)).toArray (k+1))):=E1 C.drew FL _;have bs:(k:Int)<(N:Int):=by omega
  clear B C G ak;generalize ChangeMaps.setBlock wr.drew mb (.map (mL g left (i.take<|k+1)).toArray (k+1))=W3 at*;generalize i.getD k (0,0)=ab at*;obtain⟨a,b⟩:=ab;simp only[qh]at c1 a9 c2 aY a0;generalize left.getD a 0=hd at*;obtain⟨l,hl⟩:=ac<|b - a;rw[<-hl]at c1 a9;have a5:(0:Int)<(l:Int):=by omega
  clear hl aY a0;go_wp2;go_region;all_goals
   go_wp2;go_roundg (N - (k+1));exact⟨k+1,by omega,rfl,by go_num,HB,bL⟩;omega
 obtain rfl:k=N:=by omega
 have bs:¬(k:Int)<(k:Int):=by omega
 have HB:=ah C;have HS:=ah B;clear C B;have bK:=kj func155 (by kernel_rfl) (by kernel_rfl);have a8:i.take k=i:=jY (by rw[nL.out];exact au _);have uG:dd (∀(W:cw),cD w.1.size w W->SE W w.1.size Q mx mb g L (R ra k rc) left i k->∀M T m H K,0<m->m<=1000->W.cell? ⟨M,T+(m - 1),U⟩=V (Y Z ((K:Nat):Int))->K<L.n->cP prog 155 #[.slice (V<|S M T U) m H,.pointer<|V<|S mx 0 U,.pointer<|V<|S Q 0 U] W λe o=>e=bj (wN g i<|iK L.cs x K)/\cD W.1.size W o):=λW C B M T m H K O h2 h3 h4=>by have hm:=B.mp;rw[a8,<-nL.out]at hm;have:=arR W L ks z (HX W C) Q mx mb g M T m H K left i B.l B.m hm dK (by rw[uJ.out];exact Io.out) O h2 h3 h4;rw[uJ.out]at this;exact this
 have Tw:dd (nt L.cs.length x):=by show nt _ _;rw[ao];exact Io.out
 go_wp2;go_loopg [8,31] k (λgk av iv W=>∃(j:Nat)(qs:List jk),j<=k/\gk=k - j/\iv=Y Z j/\cD w.1.size w W/\SE W w.1.size Q mx mb g L (R ra k rc) left i k/\zV W w.1.size L ks z av qs/\qs.map jk.at'=(((i.take j).map (ey left)).filter (iG L.cs)).map (cE L.cs x L.n)/\qs.length<=j);exact⟨0,[],by omega,rfl,rfl,HB,HS,⟨fh _ _ _ _,λq hq=>by simp at hq,.nil⟩,by simp,by simp⟩;clear HB HS;obtain⟨j,qs,hj,rfl,rfl,C,B,hQ,ER,WG⟩:=hrel;obtain⟨qa,qc,rfl⟩:=eV hQ.row;by_cases az:j<k
 .have D:j<i.length:=(by rw[nL.out];exact az);have G:=B.r.row;rw[nL.out]at G;obtain⟨rg,N7,ak,_,_,_⟩:=iq G (by omega);have GQ:ra=V (S rg 0 U):=(by simpa using(show ra=V (S rg 0 U)/\rc=N7 by simpa using ak).1);subst GQ;have c1:wr.cell? (S rg j U)=V (qh g<|i.getD j (0,0)):=by rw[cT G j<|by omega,jC,aK D,aN,aK D];rfl
  have E:=dK.out _ (dP (d:=(0,0)) D);have c2:=B.r.lf (i.getD j (0,0)).1 (by rw[iz];omega);rw[fV,pH _ _ (by omega)]at c2;have c3:=B.l;have yX:left.getD (i.getD j (0,0)).1 0<L.n:=S7.out _ (by omega);have Dj:ey left (i.getD j (0,0))∈x:=(by rw[<-uJ.out];exact jX.2 ⟨_,dP D,rfl⟩);have al:=ate (ey left) i (0,0) j D;have a3:=B.r.lt (by rintro rfl;simp at E;omega);have a4:=B.r.ty (by rintro rfl;simp at E;omega);have Dh:(j:Int)<(k:Int):=(by omega);have HB:=ah C;have HS:=ah B;have HQ:=ah hQ;have OT:=ah ER;have P:=(AL E).2.2;have ai:=(AL E).1;have bR:=(AL E).2.1;clear B C G ak hQ ER;generalize i.getD j (0,0)=ab at*;obtain⟨a,b⟩:=ab;have aj:=ahc E;simp only[qh]at c1 c2 E yX P ai;have qY:=ah al;have a2:=akq L.cs (ey left (a,b)) _ ai;have Bc:dd (∀W,cD w.1.size w W->cP prog 157 #[.pointer<|V<|S L.lb 0 U,Y Z (left.getD a 0:Nat)] W λe o=>e=bj (ce (!(iG L.cs<|ey left (a,b))))/\o=W):=λW hW=>by rw[a2,Bool.not_not];exact amU W L ks z (HX W hW) _ yX
  have zN:=ah Dj;have bh:=ah aj;have bl:left.getD (b - 1) 0<L.n:=S7.out _ (by omega);have pQ:dd (Bo wr.drew w.1.size wr.1.size g a (b - a) (b - a)<|ey left (a,b)):=by obtain⟨cs,hc⟩:=a4;refine⟨?_,⟨cs,_,hc⟩,a3.1,P,.inl rfl⟩;have:=(HS.out.below (aA _ _).drew).r.lf.sub b a (by rw[iz];exact E.2);rw[fV,<-afz]at this;exact this
  have cL:wr.drew.cell? ⟨g,a+(b - a - 1),U⟩=V (Y Z ((left.getD (b - 1) 0:Nat):Int)):=by have:=(HS.out.below (aA _ _).drew).r.lf (b - 1) (by rw[iz];omega);rw[fV,pH _ _ (by omega)]at this;rw[show a+(b - a - 1)=b - 1 by omega];exact this
  have Ba:=ah cL;obtain⟨l,hl⟩:=ac<|b - a;rw[<-hl]at c1 pQ Ba P;have a5:0<l:=(by omega);have bB:(0:Int)<(l:Int):=(by omega);have aq:l<=1000:=(by omega);clear aj a2 Dj a3 a4 al cL E hl;generalize bD:left.getD a 0=hd at*;generalize left.getD (b - 1) 0=bA at*;generalize ey left (a,b)=r0 at*;go_wp2;cases hbg:iG L.cs r0
  .rw[hbg]at Bc;have HF:dd (((((i.take<|j+1).map (ey left)).filter (iG L.cs)).map (cE L.cs x L.n))=(((i.take j).map (ey left)).filter (iG L.cs)).map (cE L.cs x L.n)):=by show _=_;rw[qY.out,tD,tG,hbg];simp
   go_region_held3 (λo=>o.cell? (S Q 0 U)=V (.pointer<|V<|S L.lb 0 U)/\o.cell? (S g a U)=V (Y Z ((hd:Nat):Int))) (go_keep) (first|(go_at_call 157;refine(Bc _ HB.out.drew).mono ?_;rintro ev wx ⟨rfl,rfl⟩))
   all_goals
    go_wp2;go_roundg (k - (j+1));exact⟨j+1,qs,by omega,rfl,by go_num,HB.out.drew,HS.out.below (aA _ _).drew,HQ.out.below (aA _ _).drew,by rw[HF.out];exact OT.out,by omega⟩;omega
  rw[hbg]at Bc;have HF:dd (((((i.take<|j+1).map (ey left)).filter (iG L.cs)).map (cE L.cs x L.n))=(((i.take j).map (ey left)).filter (iG L.cs)).map (cE L.cs x L.n)++[cE L.cs x L.n r0]):=by show _=_;rw[qY.out,tD,tG,hbg];simp
  have Kz:=ah hbg;clear hbg
  go_region_held3 (λo=>o.cell? (S Q 0 U)=V (.pointer<|V<|S L.lb 0 U)/\o.cell? (S g a U)=V (Y Z ((hd:Nat):Int))) (go_keep) (first|(go_at_call 157;refine(Bc _ HB.out.drew).mono ?_;rintro ev wx ⟨rfl,rfl⟩))
  all_goals
   have iD:=ah HB.out.drew;have D7:dd (SE wr.drew w.1.size Q mx mb g L (.slice (V<|S rg 0 U) k rc) left i k):=HS.out.below (aA _ _).drew;have aE:dd (zV wr.drew w.1.size L ks z (R qa qs.length qc) qs):=HQ.out.below (aA _ _).drew;have aJ:dd (Bo wr.drew w.1.size wr.drew.1.size g a l l r0):=pQ.out;clear HB HS HQ pQ c1 c2 c3;generalize wr.drew=X at*;obtain⟨XN,Wv⟩:=ac<|wN g i<|iK L.cs x<|r0.getLastD 0;have bc:=ah Wv;have D5:dd (cP prog 155 #[.slice (V<|S g a U) l l,.pointer<|V<|S mx 0 U,.pointer<|V<|S Q 0 U] X λe o=>e=bj XN/\cD X.1.size X o):=(by have:=uG.out X iD D7 g a l l bA a5 aq Ba bl;rw[<-bh.out,<-Wv]at this;exact this);clear Wv;go_wp2_with fail;refine D5.out.mono ?_;rintro ev W5 ⟨rfl,bV⟩;have bF:=ah bV;clear D5 bV Ba Bc;go_wp2;go_loopg [11,12] (L.n - r0.length) (λgk pv mv W=>∃(f:Nat)(c:ba)(M T m H:Nat),c=cE L.cs x f r0/\gk=L.n - c.length/\f+1<=c.length/\pv= .slice (V<|S M T U) m H/\mv=wN g i (iK L.cs x<|c.getLastD 0)/\cD X.1.size X W/\Bo W w.1.size X.1.size M T m H c);exact⟨0,r0,g,a,l,l,rfl,rfl,by rw[P];omega,rfl,bc.out,bF.out,aJ.out.below bF.out⟩;clear bF aJ;obtain⟨f,c,M,T,m,H,J,rfl,bO,rfl,rfl,C,hP⟩:=hrel;have bH:c.length<=L.n:=(by rw[J,<-ao];exact Gt Tw f zN Kz);have VM:∀p∈c,p<L.n:=(by rw[J,<-ao];exact PM Tw zN f);have hm:=hP.len;have ad:cD w.1.size w wr:=iD.out.trans<|C.mono iD.out.size;have ae:=D7.out.below C;cases hnx:iK L.cs x (c.getLastD 0)with
   |none=>
    rw[show wN g i U=Value.slice U 0 0 from rfl];have KB:dd (cE L.cs x L.n r0=c):=(by have:=Gq (a:=f) (p:=r0) (by rw[<-J];exact hnx)<|L.n - f;rw[show f+(L.n - f)=L.n by omega,<-J]at this;exact this);have OM:dd (cP prog 158 #[.pointer<|V<|S L.lb 0 U,.slice (V<|S M T U) m H] wr λe o=>∃sb gr cr gc cc gb,e=bj (.pointer<|V<|S sb 0 U)/\aZ o wr.1.size sb gc m cc (.slice (V<|S M T U) m H) (.slice (V<|S gr 0 U) m cr) (.slice (V<|S gb 0 U) m m) (z.getD (c.headD 0) 0) (jA (z.getD (c.headD 0) 0)<|lD z (aO L.cs) L.p<|c.headD 0) (jA (z.getD (c.headD 0) 0)<|rz L.cs z (aO L.cs) L.p<|c.getLastD 0) (bz ks c)/\o.ownsRow wr.1.size 21 1 (.slice (V<|S gr 0 U) m cr) m (qN<|bz L.rs c)/\aW o wr.1.size 108 gb m (iv<|bz ks c)/\gb≠gc/\wr.1.size<=sb/\sb<o.1.size/\cD wr.1.size wr o):=
     apH wr L ks z (HX wr ad) hn M T m H c hP.pl hm (by omega) (by omega) VM bt hp
    have bd:=ah hP;have kV:=ah ad;have TH:=ah ae;have Tn:=ah<|aE.out.below C;have bI:=ae.l;have bu:0<m:=(by omega);clear hnx J hP C ad ae VM aE D7 iD;go_wp2_with fail;refine OM.out.mono ?_;rintro ev W6 ⟨sb,gr,cr,gc,cc,gb,rfl,rK,a7,yT,aU,GW,bm,gz⟩;clear OM;have Np:=kV.out.size;have VD:=Tn.out.below gz;have aM:qZ W6 w.1.size L ks z ⟨sb,gr,cr,gc,cc,gb,M,T,H,m,c⟩:=(by have WC:=bd.out.below gz;exact⟨⟨rK.cell,AE rK.row Np⟩,AE a7 Np,AE yT Np,WC.pl,WC.ty,⟨WC.lo,bM Np GW⟩,aU,hm,bu⟩);have a1:∀q'∈qs,Fw q' ⟨sb,gr,cr,gc,cc,gb,M,T,H,m,c⟩:=λq' a6=>by have O:=(Tn.out.all q' a6).sq.row.lt q'.gc rfl;have h2:=Bu (Tn.out.all q' a6).be q'.gb rfl;have h3:=rK.row.lt gc rfl;have h4:=Bu yT gb rfl;refine⟨?_,?_,?_⟩<;>simp only<;>omega
    have bk:=ah aM;have bg:=ah a1;have Tm:=ah VD;have dU:=ah<|kV.out.trans<|gz.mono Np;have nO:=ah<|TH.out.below gz;have Rb:=VD.row;have yU:=dU.out.size;clear rK a7 yT aU GW bm gz VD aM a1;go_wp2_with(at_builtin;refine rT _ rfl _ _ 144 rfl w.1.size 146 iP (.pointer U) 8 underlying144 br Nu Nv Nw rfl (by decide) _ _ _ rfl Rb _ _ rfl rfl (by omega) yU ?_);intro v7 w7 Di iy;have bf:=ah<|Tm.out.push bk bg Di iy;have mS:dd (cD w.1.size w w7):=dU.out.grown iy yU (λy hy=>(Rb.lt y hy).1);have Tz:dd (SE w7 w.1.size Q mx mb g L (.slice (V<|S rg 0 U) k rc) left i k):=(by exact nO.out.app Rb iy);clear Di iy Rb;go_wp2;go_roundg (k - (j+1));exact⟨j+1,_,by omega,rfl,by go_num,mS,Tz,bf,by rw[HF.out,gu,OT.out,KB.out];rfl,by rw[bG,fL];omega⟩;omega
   |some k'=>
    obtain⟨JA,_,_⟩:=XV hnx;have Wk:k'<i.length:=(by rw[<-uJ.out,jh]at JA;exact JA);have s:=dK.out _ (dP (d:=(0,0)) Wk);have Ak:=Qv left i k' Wk;rw[uJ.out]at Ak;have ag:=ak7 (a:=f) (p:=r0) (by rw[<-J];exact hnx);rw[<-J,Ak]at ag;obtain⟨A,I,VK⟩:∃A I,i.getD k' (0,0)=(A,I):=⟨_,_,rfl⟩
    obtain⟨n,ap⟩:=ac<|I - A;have jq:wN g i (V k')=Value.slice (V<|S g A U) n n:=(by rw[wN,VK,qh,ap]);rw[jq];rw[VK]at s ag;have MR:=(AL s).2.2;have aV:=(AL s).2.1;have aS:=ahc s;simp only at s MR;rw[<-ap]at MR;have aQ:(c++ey left (A,I)).length<=L.n:=(by rw[<-ag,<-ao];exact Gt Tw (f+1) zN.out Kz);rw[bG,MR]at aQ;have F:bJ wr g A (nl<|ey left (A,I)):=(by have:=ae.r.lf.sub I A (by rw[iz];exact s.2);rw[fV,<-afz]at this;exact this);obtain⟨Aw,QY⟩:=ac<|left.getD (I - 1) 0;have aT:Aw<L.n:=(by rw[QY];exact S7.out _ (by omega));obtain⟨JY,Ww⟩:=ac<|wN g i<|iK L.cs x Aw;have KU:dd (JY=wN g i (iK L.cs x<|(c++ey left (A,I)).getLastD 0)):=(by show _=_;rw[aoR _ _ aV,aS,<-QY];exact Ww);have mq:=ah ag.symm;have kV:=ah ad;have an:X.1.size<=wr.1.size:=C.size;have bE:0<n:=(by omega);clear Ak ag jq hnx J VK aV aS JA Wk VM ae ad;generalize ey left (A,I)=r' at*;obtain⟨bp,_,_,_,bo⟩:=hP;have zI:dd ((n=I - A/\A<I/\I<=left.length)/\JY=wN g i (iK L.cs x Aw)/\Aw=left.getD (I - 1) 0/\r'.length=n/\c.length=m/\m+n<=L.n/\Aw<L.n):=⟨⟨ap,s⟩,Ww,QY,MR,hm,by omega,aT⟩
    have bQ:m+n<=1000:=(by omega);have bC:(0:Int)<(n:Int):=(by omega);clear ap s Ww QY MR hm aT aQ;rcases bo with bq|⟨bw,ar⟩
    .subst bq;go_wp2_with(at_builtin;refine wpList_append_grows _ rfl _ _ 31 rfl 3 iI (Y Z 0) 1 8 underlying31 gZ ia ic ig rfl (by decide) (V<|S M T U) H H (iv<|nl c) rfl (λh=>by cases h) (by rw[oC,iz,zI.out.2.2.2.2.1];omega) (λbb am j u hj=>by cases am;rw[ZT];exact Xd bp j u hj) (S g A U) n n (iv<|nl r') rfl (by rw[oC,iz,zI.out.2.2.2.1];omega) (λj u hj=>by rw[ZT];exact Xd F j u hj) aeL (by omega) (by unfold maxLen;omega) (by omega) ?_);intro v6 w6 oh i7;have af:iv (nl c)++iv (nl r')=iv (nl<|c++r'):=(by simp[iv,nl]);rw[af]at oh;obtain⟨g6,c6,rfl,_,_,_⟩:=iq oh (by omega);have dU:dd (cD X.1.size X w6):=C.grown i7 an (λy hy=>by cases hy);have D6:=ah<|Bo.own (AE oh an) iD.out.size;clear oh i7 af F kV;have nO:=ah<|D7.out.below dU;have vL:dd (cP prog 155 #[.slice (V<|S g A U) n n,.pointer<|V<|S mx 0 U,.pointer<|V<|S Q 0 U] w6 λe o=>e=bj JY/\cD w6.1.size w6 o):=(by have he:=zI.out;have hc:w6.cell? ⟨g,A+(n - 1),U⟩=V (Y Z ((Aw:Nat):Int)):=(by have:=nO.out.r.lf (I - 1) (by rw[iz];omega);rw[fV,pH _ _ (by omega)]at this;rw[show A+(n - 1)=I - 1 by omega,he.2.2.1];exact this);have:=uG.out w6 (iD.out.trans<|dU.out.mono iD.out.size) nO.out g A n n Aw (by omega) (by omega) hc he.2.2.2.2.2.2;rw[<-he.2.1]at this;exact this);have KT:dd (r'.length=n/\c.length=H/\H+n<=L.n):=⟨zI.out.2.2.2.1,zI.out.2.2.2.2.1,zI.out.2.2.2.2.2.1⟩
     go_wp2_with fail;refine vL.out.mono ?_;rintro ev W7 ⟨rfl,nV⟩;have mS:=ah<|dU.out.trans<|nV.mono dU.out.size;have vM:=ah<|D6.out.below nV;clear vL nV;go_wp2;go_roundg (L.n - (c++r').length);exact⟨f+1,c++r',g6,0,H+n,c6,mq,rfl,by have O:=KT.out;rw[bG,O.1];omega,rfl,KU.out,mS.out,vM.out⟩;have O:=KT.out;rw[bG,O.1,O.2.1];omega
    subst bw;go_wp2_with(at_builtin;refine Kt _ rfl _ _ 31 rfl X.1.size 3 iI (Y Z 0) 1 8 underlying31 gZ ia ic ig rfl (by decide) (.slice (V<|S M 0 U) m H) m (iv<|nl c) rfl ar (S g A U) n n (iv<|nl r') rfl (by rw[oC,iz,zI.out.2.2.2.1];omega) (λj u hj=>by rw[ZT];exact Xd F j u hj) aeL (by unfold maxLen;omega) (by omega) an ?_);intro v6 w6 oh i7 _;have af:iv (nl c)++iv (nl r')=iv (nl<|c++r'):=(by simp[iv,nl]);rw[af]at oh;obtain⟨g6,c6,rfl,_,_,_⟩:=iq oh (by omega);have dU:dd (cD X.1.size X w6):=C.grown i7 an (λy hy=>(ar.lt y hy).1);have D6:=ah<|Bo.own oh iD.out.size;clear oh i7 af F kV;have nO:=ah<|D7.out.below dU;have vL:dd (cP prog 155 #[.slice (V<|S g A U) n n,.pointer<|V<|S mx 0 U,.pointer<|V<|S Q 0 U] w6 λe o=>e=bj JY/\cD w6.1.size w6 o):=(by have he:=zI.out;have hc:w6.cell? ⟨g,A+(n - 1),U⟩=V (Y Z ((Aw:Nat):Int)):=(by have:=nO.out.r.lf (I - 1) (by rw[iz];omega);rw[fV,pH _ _ (by omega)]at this;rw[show A+(n - 1)=I - 1 by omega,he.2.2.1];exact this);have:=uG.out w6 (iD.out.trans<|dU.out.mono iD.out.size) nO.out g A n n Aw (by omega) (by omega) hc he.2.2.2.2.2.2;rw[<-he.2.1]at this;exact this);have KT:dd (r'.length=n/\c.length=m/\m+n<=L.n):=⟨zI.out.2.2.2.1,zI.out.2.2.2.2.1,zI.out.2.2.2.2.2.1⟩
    go_wp2_with fail;refine vL.out.mono ?_;rintro ev W7 ⟨rfl,nV⟩;have mS:=ah<|dU.out.trans<|nV.mono dU.out.size;have vM:=ah<|D6.out.below nV;clear vL nV;go_wp2;go_roundg (L.n - (c++r').length);exact⟨f+1,c++r',g6,0,m+n,c6,mq,rfl,by have O:=KT.out;rw[bG,O.1];omega,rfl,KU.out,mS.out,vM.out⟩;have O:=KT.out;rw[bG,O.1,O.2.1];omega
 obtain rfl:j=k:=(by omega);have Dh:¬(j:Int)<(j:Int):=(by omega);have HB:=ah C;have HQ:=ah hQ;have OT:dd (qs.map jk.at'=(x.filter<|iG L.cs).map (cE L.cs x L.n)):=by show _=_;rw[ER,a8,uJ.out]
 clear C hQ ER B;go_wp2;go_ret;exact⟨_,rfl,qs,HQ,OT,HB⟩
end
def OV(w:cw):cP prog 70 #[R U 0 0] w λe f=>e=bj (Y Z 0)/\f=w:=by go_enter func70,ntmps70;go_wp2;go_loopg [3] 0 (λb d W=>b=0/\d=Y Z 0/\W=w);exact⟨rfl,rfl,rfl⟩;obtain⟨rfl,rfl,c⟩:=hrel;have a:=c.symm;subst a;go_wp2;go_ret;exact⟨rfl,rfl⟩
def ald(a:Option Addr)(c:Nat)(w:cw):cP prog 46 #[R a 0 c] w λe b=>e=bj (R U 0 0)/\b=w:=by go_enter func46,ntmps46;go_wp2;refine dN 1 ?_;rw[bB];go_wp2;go_ret;exact⟨rfl,rfl⟩
def NN(w:cw):(Instr.makeSlice 31 (Y Z 0)<|Y Z 0).run prog w= .ok (.slice (V<|S w.1.size 0 U) 0 0) (w.alloc<|bi (madeCells #[Y Z 0] 0) 3):=
 run_make_row' (P:=prog) 31 3 (Y Z 0) 8 underlying31 Tryz.sQ rfl .i64 .i64 0 (by omega) (by omega) w
def afn(w:cw):(Instr.makeSlice 36 (Y Z 0)<|Y Z 0).run prog w= .ok (.slice (V<|S w.1.size 0 U) 0 0) (w.alloc<|bi (madeCells #[ce da] 0) 4):=
 run_make_row' (P:=prog) 36 4 (ce da) 1 underlying36 Tryz.JP rfl .i64 .i64 0 (by omega) (by omega) w
def amm(a:Int)(w:cw):cP prog 71 #[R U 0 0,Y Z a] w λe c=>∃g1 g2 g3,e=bj (de #[.slice (V<|S g1 0 U) 0 0,.slice (V<|S g2 0 U) 0 0,.slice (V<|S g3 0 U) 0 0])/\cD w.1.size w c/\g1<c.1.size/\g2<c.1.size/\g3<c.1.size:=by
 have i:=NN;have h:=afn;go_enter func71,ntmps71;go_wp2;obtain⟨d,b⟩:=ac<|((((w.alloc<|bi #[Y Z a,Y Z (-1),ce da] 181).alloc (bi #[.slice (V<|S w.1.size 0 U) 1 1,Y Z 0,Y Z 0,Y Z 0] 184)).alloc (bi (madeCells #[Y Z 0] 0) 3)).alloc (bi (madeCells #[Y Z 0] 0) 3)).alloc (bi (madeCells #[ce da] 0) 4);have g:dd (cD w.1.size w d/\d.1.size=w.1.size+5):=by rw[b];exact⟨(((((aA w.1.size w).alloc (au _) _).alloc (by simp) _).alloc (by simp;omega) _).alloc (by simp;omega) _).alloc (by simp;omega) _,by simp⟩
 rw[<-b];clear b i h;go_loopg [11] 0 (λj m W=>j=0/\m=Y Z 0/\W=d);exact⟨rfl,rfl,rfl⟩;obtain⟨rfl,rfl,k⟩:=hrel;have f:=k.symm;subst f;go_wp2;have l:=g.out.2;refine bU (v:=de #[.slice (V ⟨w.1.size+1+1,0,U⟩) 0 0,.slice (V ⟨w.1.size+1+1+1,0,U⟩) 0 0,.slice (V ⟨w.1.size+1+1+1+1,0,U⟩) 0 0]) (by simp[results,results71,go_sem]) rfl ⟨_,_,_,rfl,g.out.1,by omega,by omega,by omega⟩
def atv(c:Int)(w:cw)(g g3:Nat):cP prog 74 #[R U 0 0,.slice (V<|S g 0 U) 0 0,.slice (V<|S g3 0 U) 0 0,Y Z c] w λe m=>e=bj (.slice (V<|S g 0 U) 0 0)/\cD w.1.size w m:=by
 have k:=afn;go_enter func74,ntmps74;go_wp2;obtain⟨d,a⟩:=ac<|w.alloc<|bi (madeCells #[ce da] 0) 4;have j:dd (cD w.1.size w d):=by rw[a];exact(aA _ _).alloc (au _) _
 rw[<-a];clear a k;go_loopg [10,11] 0 (λf l i W=>f=0/\l=ce db/\i=Y Z (-1)/\W=d);exact⟨rfl,rfl,rfl,rfl⟩;obtain⟨rfl,rfl,rfl,h⟩:=hrel;have b:=h.symm;subst b;go_wp2;go_loopg [13] 0 (λf i W=>f=0/\i=Y Z 0/\W=d);exact⟨rfl,rfl,rfl⟩;obtain⟨rfl,rfl,h⟩:=hrel;have b:=h.symm;subst b;go_wp2;refine bU (v:= .slice (V<|S g 0 U) 0 0) (by simp[results,results74,go_sem]) rfl ⟨rfl,j⟩
def asq(d:Int)(w:cw)(g1 g3:Nat)(j:g1<w.1.size)(l:g3<w.1.size):cP prog 72 #[R U 0 0,.slice (V<|S g1 0 U) 0 0,.slice (V<|S g3 0 U) 0 0,Y Z d] w λe f=>e=bj (R U 0 0)/\cD w.1.size w f:=by
 have m:dd (cP prog 121 #[.slice (V<|S g1 0 U) 0 0,.slice (V<|S g3 0 U) 0 0] w λg f=>∃v:cJ,g=bj v/\cD w.1.size w f/\∃a c,v=R a 0 c):=
  (ag8 [] [] 0 g1 0 0 g3 0 0 w rfl rfl (by omega) (λk h=>by simp at h) (λk h=>by simp at h) j l).mono λg f ⟨v,y,p,q,r,_⟩=>⟨v,p,q,eV r⟩
 clear j l;go_enter func72,ntmps72;go_wp2_with fail;refine m.out.mono ?_;rintro g x ⟨v,rfl,b,a,c,rfl⟩;have n:=ah b;clear b m;go_wp2;go_loopg [10,11] 0 (λo u t W=>o=0/\u=R U 0 0/\t=Y Z 0/\W=x);exact⟨rfl,rfl,rfl,rfl⟩;obtain⟨rfl,rfl,rfl,s⟩:=hrel;have i:=s.symm;subst i;go_wp2;refine bU (v:=R U 0 0) (by simp[results,results72,go_sem]) rfl ⟨rfl,n⟩
def XH(d:Int)(a:Option Addr)(c:Nat)(w:cw):cP prog 48 #[R a 0 c,Y Z d] w λi E=>∃g,i=bj (.slice (V<|S g 0 U) 0 0)/\E.ownsRow w.1.size 3 1 (.slice (V<|S g 0 U) 0 0) 0 []/\cD w.1.size w E:=by
 have t:=NN;have H:((d !=0)=da)∨((d !=0)=db/\(d !=1)=da)∨((d !=0)=db/\(d !=1)=db):=by cases(d !=0)<;>cases(d !=1)<;>simp
 go_enter func48,ntmps48;go_wp2_with fail;refine(ald a c w).mono ?_;rintro i M ⟨rfl,hx⟩;have b:=hx.symm;subst b;have F:∀(W:cw)(g g1:Nat),(Builtin.copy_ #[31,31] 3 #[.slice (V<|S g 0 U) 0 0,.slice (V<|S g1 0 U) 0 0]).run prog W= .ok (goInt 0) W:=λW g g1=>nX (P:=prog) W 31 31 3 3 _ _ 0 0 0 0 underlying31 Tryz.RZ rfl
 rcases H with D|⟨D,L⟩|⟨D,L⟩;go_wp2_with fail
 rotate_left
 go_wp2_with fail
 rotate_left
 go_wp2_with fail;refine(OV w).mono ?_;rintro i M ⟨rfl,hx⟩;have b:=hx.symm;subst b;go_wp2_with fail;all_goals
  refine(amm _ w).mono ?_;rintro i j ⟨g1,g2,g3,rfl,f,q,r,s⟩;obtain⟨k,e⟩:=ac<|j.alloc<|bi (madeCells #[Y Z 0] 0) 3;have h:cD j.1.size j k:=by rw[e];exact(aA _ _).alloc (au _) _
  have l:w.1.size<=j.1.size:=f.size;have C:aW k w.1.size 3 j.1.size 0 (List.replicate 0<|Y Z 0):=by rw[e];exact aW.made l<|by omega
  have A:=ah<|f.trans<|h.mono l;have K:=ah C;have z:dd (g1<k.1.size/\g3<k.1.size):=by have:=h.size;exact⟨by omega,by omega⟩
  clear f h C q r s;go_wp2_with fail;rw[<-e];clear e;generalize j.1.size=o at*;refine(asq _ k g1 g3 z.out.1 z.out.2).mono ?_;rintro i y ⟨rfl,m⟩;have B:=ah<|A.out.trans<|m.mono A.out.size;have I:=ah<|fS K m;clear m t F;go_wp2;go_loopg [12] 0 (λn u W=>n=0/\u=Y Z 0/\W=y);exact⟨rfl,rfl,rfl⟩;obtain⟨rfl,rfl,p⟩:=hrel;have b:=p.symm;subst b;go_wp2;go_loopg [13] 0 (λn u W=>n=0/\u=Y Z 0/\W=y);exact⟨rfl,rfl,rfl⟩;obtain⟨rfl,rfl,p⟩:=hrel;have b:=p.symm;subst b;go_wp2_with fail;refine(atv _ y o g3).mono ?_;rintro i N ⟨rfl,x⟩;have J:=ah<|B.out.trans<|x.mono B.out.size;have G:=ah<|fS I x;clear x;go_wp2;refine bU (v:= .slice (V<|S o 0 U) 0 0) (by simp[results,results48,go_sem]) rfl ⟨o,rfl,G,J⟩
def akX {w:cw}{b k:Nat}{v:cJ}(h:w.cell? (S b k U)=V v):b<w.1.size:=by rcases dc b w.1.size with a|a;exact a;simp only[World.cell?,sV a]at h;cases h
def WQ(a:aw)(d:Int)(v:cJ)(w:cw)(n:a.length<=1000)(o:dF w v a):cP prog 48 #[v,Y Z d] w λi h=>∃g c,i=bj (.slice (V<|S g 0 U) a.length c)/\h.ownsRow w.1.size 3 1 (.slice (V<|S g 0 U) a.length c) a.length (iv<|fQ a (a.map cls) d)/\cD w.1.size w h:=by rcases o with⟨rfl,rfl⟩|⟨b,l,e,rfl,m⟩;refine(XH d U 0 w).mono ?_;rintro i h ⟨g,rfl,j,k⟩;refine⟨g,0,rfl,?_,k⟩;have:fQ [] ([].map cls) d=[]:=rfl;rw[this];exact j;rcases IL a.length with f|f;obtain rfl:=Lq f;refine(XH d _ e w).mono ?_;rintro i h ⟨g,rfl,j,k⟩;refine⟨g,0,rfl,?_,k⟩;have:fQ [] ([].map cls) d=[]:=rfl;rw[this];exact j;exact ao7 a d a.length b l e w rfl n f m (akX<|m 0 f)
