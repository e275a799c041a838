import Derived.Test.YtkbinfhclaafhaaGreatDoorW17
namespace Go.Proofs.YtkbinfhclaafhaaGreatDoor
open Go.RowKit
open Go.Proofs.Tryz
set_option maxRecDepth 100000
set_option maxHeartbeats 32000000
set_option linter.all false
section
open Go.ChangeShapes Go.WideShapes Go.ChangeAt Go.RowKit Go.Deep Go.Lib
def akS {H:Type}(a b:List<|DataW H):Rows.uptoBulkAll (a++b)=Rows.uptoBulkAll a+Rows.uptoBulkAll b:=by
 induction a with
 |nil=>simp[Rows.uptoBulkAll]
 |cons x a ih=>simp[Rows.uptoBulkAll,ih];omega
def akT {H:Type}{l:List (DataW H)}{d:DataW H}(h:d∈l):Rows.uptoBulk d<=Rows.uptoBulkAll l:=by
 induction l with
 |nil=>cases h
 |cons x l ih=>simp only[Rows.uptoBulkAll];rcases gI.1 h with rfl|h;omega;have:=ih h;omega
def FH:prog.cellsOf 88=3:=by kernel_rfl
def alP {H:Type}{j:TypeId×Value->H}{w:World}{c:Nat}{u:Nat->Bool}{f:Bool}{d:Nat}{i:List Value}{x:DataW H×List MemPlace} (h:DataW.trod j prog w c u f d 88 i=some x):∃e:Ed,i=[.int .i64 e.a,.int .i64 e.c,.string e.n]/\e.n.size+1<=Rows.uptoBulk x.1/\e.a<=9223372036854775807:=by
 obtain⟨v,y,z,n,hx,p,q,r,t⟩:=trod_struct3 underlying88 h;rw[FH]at p
 match i,p with
 |[c0,c1,c2],_=>obtain⟨a,l,_,g⟩:=zH underlying3 (by simpa [PK]using q);obtain⟨b,m,_,_⟩:=zH underlying3 (by simpa [PK]using r);obtain⟨s,o,k,_⟩:=aiz underlying9 (by simpa [L1]using t);simp at l m o;subst l m o;refine⟨⟨a,b,s⟩,rfl,?_,?_⟩;rw[hx,k];simp only[Rows.uptoBulk,Rows.uptoBulkAll];have:s.data.toList.length=s.size:=rfl;show s.size+1<=_;omega;simp[Lit.wf,IntKind.min,IntKind.max,IntKind.signed,IntKind.bits]at g;exact g.2
def ap5 {H:Type}{z:TypeId×Value->H}{W:World}{p:Nat}{v:Value}{x:DataW H×List MemPlace} (h:DataW.trod z prog W 0 (λ_=>true) true p 27 [v]=some x) (V:Rows.uptoBulk x.1<=1048576):(∃O g,v= .slice O 0 g)∨∃b c m g,∃d:List Ed,v= .slice (some ⟨b,c,none⟩) m g/\d.length=m/\0<m/\m<=1048576/\vK W b c d/\iu d<=1048576/\∀e∈d,e.a<=9223372036854775807:=by
 rcases open_slice underlying27 h with⟨J,_⟩|⟨a,j,g,m,n,D,Pl,J,_,Y,_,Z,rfl,r⟩;exact .inl ⟨_,_,by simpa using J⟩;have K:v= .slice (some a) j g:=by simpa using J
 subst K;by_cases S:j=0;subst S;exact .inl ⟨_,_,rfl⟩;right;have I:m=g:=by simpa using Z
 subst I;rw[FH]at r;obtain⟨b,c,f⟩:=a;have l:∀i,i<j->∃e:Ed,W.cell? ((⟨b,c,f⟩:Addr).add (i*3))=some (.int .i64 e.a)/\W.cell? ((⟨b,c,f⟩:Addr).add (i*3+1))=some (.int .i64 e.c)/\W.cell? ((⟨b,c,f⟩:Addr).add (i*3+2))=some (.string e.n)/\e.n.size+1<=Rows.uptoBulk (D i)/\e.a<=9223372036854775807:=by intro i s;obtain⟨P,F,ht⟩:=r i (by omega);obtain⟨e,rfl,C,U⟩:=alP ht;obtain⟨_,_,E⟩:=ajy F;refine⟨e,?_,?_,?_,C,U⟩;have:=E 0 (by omega);rw[add_add]at this;simpa using this;have:=E 1 (by omega);rw[add_add]at this;simpa using this;have:=E 2 (by omega);rw[add_add]at this;simpa using this
 have o:f=none:=by obtain⟨e,w,_⟩:=l 0 (by omega);simpa [Addr.add]using ajx w
 subst o;have q:∀k,k<=j->∃d:List Ed,d.length=k/\vK W b c d/\iu d+k<=Rows.uptoBulkAll ((List.range k).map D)/\∀e∈d,e.a<=9223372036854775807:=by
  intro k
  induction k with
  |zero=>intro _;exact⟨[],rfl,λi s=>absurd s<|by simp,by simp[iu],λe X=>by cases X⟩
  |succ k ih=>intro hk;obtain⟨d,y,B,N,A⟩:=ih (by omega);obtain⟨e,w,L,M,h4,T⟩:=l k (by omega);refine⟨d++[e],by simp[y],λi s=> ?_,?_,?_⟩;by_cases t:i<d.length;rw[ajd t];exact B i t;have u:i=k:=(by simp at s;omega);subst u;have R:(d++[e])[i]'s=e:=(by rw[aje<|by omega];simp[y]);rw[R];rw[add_plain]at w L M;exact⟨w,by rw[oZ];exact L,by rw[oZ];exact M⟩;rw[IJ,gu,akS,R6];simp only[ni,Eb,Rows.uptoBulkAll,iu,Lz,List.sum_nil];unfold iu at N;omega;intro Q G;rcases ji.1 G with h|h;exact A Q h;simp at h;subst h;exact T
 obtain⟨d,y,B,N,A⟩:=q j<|au _;simp only[Rows.uptoBulk]at V;exact⟨b,c,j,m,d,rfl,y,by omega,by omega,B,by omega,A⟩
end
section
open Go.ChangeShapes Go.WideShapes Go.ChangeAt Go.RowKit Go.Deep Go.Lib
def ap3 {H:Type}{d:TypeId×Value->H}{w:World}{e:Nat}{i:List Value}{x:DataW H×List MemPlace} (h:DataW.trod d prog w 0 (λ_=>true) true e 29 i=some x) (r:Rows.uptoBulk x.1<=1048576):∃o:o6,i=[.int .i64 o.k,.int .i64 o.a,.string o.s,o.e]/\(∃g n c,o.e= .slice g n c)/\AX w o:=by
 obtain⟨C,D,E,A,n,hx,t,u,v,y,z⟩:=Joins.trod_struct4 underlying29 h;rw[FO]at t
 match i,t with
 |[c0,c1,c2,c3],_=>
  obtain⟨a,k,_,_⟩:=zH underlying3 (by simpa [PK]using u);obtain⟨b,m,_,_⟩:=zH underlying3 (by simpa [PK]using v);obtain⟨s,p,j,_⟩:=aiz underlying9 (by simpa [L1]using y);have f:DataW.trod d prog w 0 (λ_=>true) true n 27 [c3]=some A:=by simpa [ak3]using z
  obtain⟨g,l,c,q⟩:=Joins.slice_form underlying27 f;simp at k m p q;subst k m p;rw[hx,j]at r;simp only[Rows.uptoBulk,Rows.uptoBulkAll]at r;have B:s.data.toList.length=s.size:=rfl;refine⟨⟨a,b,s,c3⟩,rfl,⟨g,l,c,q⟩,?_,?_⟩;show s.size<=_;omega;exact ap5 f<|by omega
def ap6 {H:Type}{F:TypeId×Value->H}{W:World}{u:Nat}{E:List Value}{x:DataW H×List MemPlace} (h:DataW.trod F prog W 0 (λ_=>true) true u 22 E=some x) (X:Rows.uptoBulk x.1<=1048576):(∃C j,E=[.slice C 0 j])∨∃b f e j,∃d:List o6,E=[.slice (some ⟨b,f,none⟩) e j]/\d.length=e/\F5 W b f d/\(∀o∈d,AX W o)/\∃l r ps,x=(.slice l r,ps)/\l.length=e:=by
 rcases open_slice underlying22 h with⟨rfl,_⟩|⟨a,e,j,m,n,D,Pl,rfl,_,Z,_,hm,rfl,w⟩;exact .inl ⟨_,_,rfl⟩;by_cases T:e=0;subst T;exact .inl ⟨_,_,rfl⟩;right;have L:m=j:=by simpa using hm
 subst L;rw[FO]at w;obtain⟨b,f,g⟩:=a;have p:∀i,i<e->∃o:o6,W.cell? ((⟨b,f,g⟩:Addr).add (i*4))=some (.int .i64 o.k)/\W.cell? ((⟨b,f,g⟩:Addr).add (i*4+1))=some (.int .i64 o.a)/\W.cell? ((⟨b,f,g⟩:Addr).add (i*4+2))=some (.string o.s)/\W.cell? ((⟨b,f,g⟩:Addr).add (i*4+3))=some o.e/\(∃C n c,o.e= .slice C n c)/\AX W o:=by
  intro i t;obtain⟨R,K,ht⟩:=w i (by omega);have Q:Rows.uptoBulk (D i)<=1048576:=by have s:D i∈(List.range e).map D:=List.mem_map_of_mem<|IG.2 t;have G:=akT s;simp only[Rows.uptoBulk]at X;omega
  obtain⟨o,rfl,Y,N⟩:=ap3 ht Q;obtain⟨_,_,A⟩:=ajy K;refine⟨o,?_,?_,?_,?_,Y,N⟩;have:=A 0 (by omega);rw[add_add]at this;simpa using this;have:=A 1 (by omega);rw[add_add]at this;simpa using this;have:=A 2 (by omega);rw[add_add]at this;simpa using this;have:=A 3 (by omega);rw[add_add]at this;simpa using this
 have q:g=none:=by obtain⟨o,s,_⟩:=p 0 (by omega);simpa [Addr.add]using ajx s
 subst q;have v:∀k,k<=e->∃d:List o6,d.length=k/\F5 W b f d/\∀o∈d,AX W o:=by
  intro k
  induction k with
  |zero=>intro _;exact⟨[],rfl,λi t=>absurd t<|by simp,λo ho=>by cases ho⟩
  |succ k ih=>intro hk;obtain⟨d,B,J,I⟩:=ih (by omega);obtain⟨o,s,G,O,P,U,V⟩:=p k (by omega);refine⟨d++[o],by simp[B],λi t=> ?_,?_⟩;by_cases y:i<d.length;rw[ajd y];exact J i y;have z:i=k:=(by simp at t;omega);subst z;have S:(d++[o])[i]'t=o:=(by rw[aje<|by omega];simp[B]);rw[S];rw[add_plain]at s G O P;exact⟨s,by rw[oZ];exact G,by rw[oZ];exact O,by rw[oZ];exact P,U⟩;intro o' M;rcases ji.1 M with h|h;exact I o' h;simp at h;subst h;exact V
 obtain⟨d,B,J,I⟩:=v e<|au _;exact⟨b,f,e,m,d,rfl,B,J,I,_,_,_,rfl,by simp⟩
end
