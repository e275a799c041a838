import Derived.Test.YtkbinfhclaafhaaGreatDoorP06
namespace Go.Proofs.YtkbinfhclaafhaaGreatDoor
open Go.RowKit
open Go.Proofs.Tryz
set_option maxRecDepth 100000
set_option maxHeartbeats 32000000
set_option linter.all false
def ahe(a b c:Value)(n:Nat):(Builtin.zeroCells #[a,b,c] n).toList.length=n*3:=by simp[Builtin.zeroCells]
def asL(a b c:Value)(n:Nat)(u:Value)(h:u∈(Builtin.zeroCells #[a,b,c] n).toList):u=a∨u=b∨u=c:=by
 simp[Builtin.zeroCells]at h;obtain⟨i,_,rfl⟩:=h;have d:i%3=0∨i%3=1∨i%3=2:=by omega
 rcases d with h|h|h<;>simp[h]
def ap1(w:World)(h:TypeId)(b o n c:Nat)(i:0<n)(e:∀j,j<n*3->(w.cell? ⟨b,o+j,none⟩).isSome=true)(f:∀j,j<n*3->w.frozen? ⟨b,o+j,none⟩=false):
  (Builtin.clear_ #[208] h #[.slice (some ⟨b,o,none⟩) n c]).run prog w= .ok (.tuple #[]) (w.setCells b o (Builtin.zeroCells #[.int .i64 0,.int .i64 0,.bool false] n).toList):=by
 have a:=run_storeCells_cells (P:=prog) b o (Builtin.zeroCells #[.int .i64 0,.int .i64 0,.bool false] n).toList 0 w (by rw[ahe];simpa using e) (by rw[ahe];simpa using f) (by intro v g;rcases asL _ _ _ _ _ g with rfl|rfl|rfl<;>rfl);simp only[p9]at a;obtain⟨m,rfl⟩:∃m,n=m+1:=⟨n - 1,by omega⟩
 have d:(Value.agg #[.int .i64 0,.int .i64 0,.bool false]).cells=#[.int .i64 0,.int .i64 0,.bool false]:=rfl;simp[Builtin.clear_,Bv underlying208,Tryz.zeroValue215,d,a]
def G1:∀(a:List aV)(n:Nat),(jS a).take (n*3)=jS (a.take n)
 |[],n=>by simp[jS]
 |e::a,0=>by simp[jS]
 |e::a,n+1=>by
  have h:∀l:List aV,jS (e::l)= .int .i64 e.l:: .int .i64 e.o:: .bool e.i::jS l:=λl=>by simp[jS,aV.cells]
  rw[Sz,h,h,show(n+1)*3=n*3+1+1+1 by omega];simp only[Sz];rw[G1 a n]
def bQ.cut {w:World}{B s g c n:Nat}{j:Value}{x:XS}{vs:List Value}(h:bQ w B s (.slice (some ⟨g,0,none⟩) x.st.length c) j x)(r:n<x.st.length):
  bQ ((w.setCells g (n*3) vs).setCell ⟨s,1,none⟩ (.slice (some ⟨g,0,none⟩) n c)) B s (.slice (some ⟨g,0,none⟩) n c) j {x with st:=x.st.take n}/\bz w ((w.setCells g (n*3) vs).setCell ⟨s,1,none⟩ (.slice (some ⟨g,0,none⟩) n c)) s (.slice (some ⟨g,0,none⟩) x.st.length c) (.slice (some ⟨g,0,none⟩) n c)/\(w.setCells g (n*3) vs).cell? ⟨s,1,none⟩=some (.slice (some ⟨g,0,none⟩) x.st.length c)/\(w.setCells g (n*3) vs).frozen? ⟨s,1,none⟩=false:=by
 have f:=cJ h.cell;have m:g≠s:=by simpa [Value.ownBlock]using h.ne
 obtain⟨t,o,a,p⟩:=P6 vs (n*3) w _ h.row;have i:(w.setCells g (n*3) vs).heap[s]? =some (.cells #[j,.slice (some ⟨g,0,none⟩) x.st.length c,.int .i64 x.aK,.int .i64 x.aN,.int .i64 x.valid] 212 (0,0)):=by rw[a.block s f<|by simpa using m.symm];exact h.cell
 have l:=P7 o n (by omega);rw[Xy _ _ (n*3) p,G1]at l;refine⟨⟨by rw[eW i];rfl,?_,h.low⟩,⟨a.os,a.tape,a.output,by have:=a.size;simpa using this,?_,.inl rfl⟩,az i 1,cB i 1⟩
 .have:=jW l (s:=s) (by simpa [Value.ownBlock]using m) 1 (.slice (some ⟨g,0,none⟩) n c);simpa [jN<|gF r]using this
 .intro k q b d;rw[iF]
  .exact a.block k q (λe=>d<|by rw[e];rfl)
  .exact b
def ajU(w:World)(B s:Nat)(v d:Value)(x:XS)(n:Nat)(h:bQ w B s v d x)(q:n<x.st.length)(A:x.st.length<=1000000):Calls prog 264 #[.pointer<|some ⟨s,1,none⟩,.int .i64 n] w λe i=>e= .returned (.tuple #[])/\∃f,bQ i B s f d {x with st:=x.st.take n}/\bz w i s v f:=by
 obtain⟨g,c,rfl,b,C,p⟩:=gI h.row (by omega);have u:w.cell? ⟨s,1,none⟩=some (.slice (some ⟨g,0,none⟩) x.st.length c):=az h.cell 1;have f0:w.frozen? ⟨s,1,none⟩=false:=cB h.cell 1;have m:=ap1 w 0 g (n*3) (x.st.length - n) (c - n) (by omega) (λj z=>by
   rw[di h.row (n*3+j)<|by omega];have:n*3+j<(jS x.st).length:=(by rw[KF];omega);rw[aM this];rfl) (λj _=>Dx h.row<|n*3+j)
 have o:n<=c:=by omega
 have r:((n:Int)<(x.st.length:Int)):=by omega
 obtain⟨a,hF,y,f5⟩:=h.cut (vs:=(Builtin.zeroCells #[.int .i64 0,.int .i64 0,.bool false]<|x.st.length - n).toList) q;have l:=ah a;have k:=ah hF;clear h a hF;generalize w.setCells g (n*3) (Builtin.zeroCells #[.int .i64 0,.int .i64 0,.bool false]<|x.st.length - n).toList=t at*;generalize x.st.length=L at*;go_enter func264,ntmps264;go_wp2;go_end0;exact⟨rfl,_,l.out,k.out⟩
def bQ.below {w c:World}{B s:Nat}{v b:Value}{x:XS}(h:bQ w B s v b x)(a:Below w.heap.size w c):bQ c B s v b x:=⟨by rw[a.block s<|cJ h.cell];exact h.cell,fu h.row a,h.low⟩
def bz.pre {w f g:World}{s:Nat}{v e:Value}(a:Below w.heap.size w f)(h:bz f g s v e):bz w g s v e:=
 ⟨h.os.trans a.os,h.tape.trans a.tape,h.output.trans a.output,bP a.size h.size,λk b c d=>by rw[h.block k (kQ b a.size) c d];exact a.block k b,by
  rcases h.own with h|h
  .exact .inl h
  .exact .inr λk b=>bP a.size<|h k b⟩
def bz.post {w f g:World}{s:Nat}{v e:Value}(h:bz w f s v e)(a:Below w.heap.size f g):bz w g s v e:=
 ⟨a.os.trans h.os,a.tape.trans h.tape,a.output.trans h.output,bP h.size a.size,λk d b c=>by rw[a.block k d];exact h.block k d b c,h.own⟩
def bQ.setOther {w:World}{B s g:Nat}{v a:Value}{x:XS}(h:bQ w B s v a x)(c:g≠s)(b:v.ownBlock≠some g)(k:Nat)(u:Value):bQ (w.setCell ⟨g,k,none⟩ u) B s v a x:=
 ⟨by
  rw[iF]
  .exact h.cell
  .exact c.symm,jW h.row b k u,h.low⟩
def afi(w:World)(B s:Nat)(v D:Value)(x:XS)(st:List aV)(e:aV)(h:bQ w B s v D x)(n:x.st=st++[e])(hl:st.length<=100000):Calls prog 237 #[.pointer<|some ⟨s,1,none⟩] w λu z=>u= .returned (.tuple #[.agg #[.int .i64 e.l,.int .i64 e.o,.bool e.i],.bool true])/\∃y,bQ z B s y D {x with st:=st}/\bz w z s v y:=by
 have o:x.st.length=st.length+1:=by rw[n];simp
 obtain⟨a,c,rfl⟩:=eH h.row;have Z:=cJ h.cell;have J:Hid (∀W,Below w.heap.size w W->Calls prog 263 #[.pointer<|some ⟨s,1,none⟩,.int .i64 st.length] W λu z=>u= .returned (.tuple #[.agg #[.int .i64 e.l,.int .i64 e.o,.bool e.i],.bool true])/\Below W.heap.size W z):=λW C=>
  wC W B s _ D x st.length e (h.below C) (by rw[n];simp)
 have K:Hid (∀W,Below w.heap.size w W->Calls prog 264 #[.pointer<|some ⟨s,1,none⟩,.int .i64 st.length] W λu z=>u= .returned (.tuple #[])/\∃y,bQ z B s y D {x with st:=st}/\bz W z s (.slice a x.st.length c) y):=λW C=>by
  have:=ajU W B s _ D x st.length (h.below C) (by omega) (by omega);rw[show x.st.take st.length=st by rw[n];simp]at this;exact this
 have G:Hid (∀W,Below w.heap.size w W->W.cell? ⟨s,1,none⟩=some (.slice a (st.length+1) c)):=λW C=>by
  rw[<-o];exact az (h.below C).cell 1
 have M:Hid (∀k,w.heap.size<=k->(Value.slice a x.st.length c).ownBlock≠some k):=by
  intro k hk X;have:=uu h.row _ X;omega
 have U:=G.out (w.alloc (.cells #[.int .i64 0,.int .i64 0,.bool false] 215))<|(aA _ _).alloc (au _) _;clear h n o;obtain⟨r,t,q⟩:=e;simp only at J ⊢;generalize st.length=L at*;go_enter func237,ntmps237;go_wp2_with fail;refine(J.out _ ((aA _ _).alloc (au _) _)).mono ?_;rintro u d ⟨rfl,i⟩;have E:Below w.heap.size w d:=((aA _ _).alloc (au _) _).trans (i.mono<|by simp);have F:w.heap.size<d.heap.size:=by have:=i.size;simp at this;omega
 obtain⟨j,l⟩:=yf i;have O:=(j w.heap.size 0<|by simp).trans (show _=some (.int .i64 0)by simp);have P:=(j w.heap.size 1<|by simp).trans (show _=some (.int .i64 0)by simp);have Q:=(j w.heap.size 2<|by simp).trans (show _=some (.bool false)by simp);have f0:=(l w.heap.size 0<|by simp).trans (show _=false by simp);have f1:=(l w.heap.size 1<|by simp).trans (show _=false by simp);have f2:=(l w.heap.size 2<|by simp).trans (show _=false by simp);have V:=G.out (d.alloc (.cells #[.int .i64 r,.int .i64 t,.bool q] 215))<|E.alloc E.size _;have A:=ah E;clear j l i U J E;go_wp2_with fail;refine(K.out _ (A.out.alloc A.out.size _)).mono ?_;rintro u f ⟨rfl,y,N,hF⟩;have b:∀g k:Nat,g<d.heap.size+1->w.heap.size<=g->f.cell? ⟨g,k,none⟩=(d.alloc (.cells #[.int .i64 r,.int .i64 t,.bool q] 215)).cell? ⟨g,k,none⟩/\f.frozen? ⟨g,k,none⟩=(d.alloc (.cells #[.int .i64 r,.int .i64 t,.bool q] 215)).frozen? ⟨g,k,none⟩:=λg k Y uY=>by
  have:=hF.block g (by simpa using Y) (by omega)<|M.out g uY;exact⟨by simp only[World.cell?,this],by simp only[World.frozen?,this]⟩
 have q0:f.cell? ⟨d.heap.size,0,none⟩=some (.int .i64 r):=(b _ 0 (by omega) (by omega)).1.trans (by simp);have q1:f.cell? ⟨d.heap.size,1,none⟩=some (.int .i64 t):=(b _ 1 (by omega) (by omega)).1.trans (by simp);have q2:f.cell? ⟨d.heap.size,2,none⟩=some (.bool q):=(b _ 2 (by omega) (by omega)).1.trans (by simp);have r0:f.cell? ⟨w.heap.size,0,none⟩=some (.int .i64 0):=((b _ 0 (by omega) (by omega)).1.trans (kS _ _ ⟨w.heap.size,0,none⟩ F)).trans O;have r1:f.cell? ⟨w.heap.size,1,none⟩=some (.int .i64 0):=((b _ 1 (by omega) (by omega)).1.trans (kS _ _ ⟨w.heap.size,1,none⟩ F)).trans P;have r2:f.cell? ⟨w.heap.size,2,none⟩=some (.bool false):=((b _ 2 (by omega) (by omega)).1.trans (kS _ _ ⟨w.heap.size,2,none⟩ F)).trans Q;have m:∀k,f.frozen? ⟨w.heap.size,k,none⟩=d.frozen? ⟨w.heap.size,k,none⟩:=λk=>(b _ k (by omega) (by omega)).2.trans (((aA d.heap.size d).alloc (au _) _).frozen (p:=⟨w.heap.size,k,none⟩) F)
 have g0:=(m 0).trans f0;have g1:=(m 1).trans f1;have g2:=(m 2).trans f2;have H:y.ownBlock≠some w.heap.size:=by
  rcases hF.own with h|h
  .rw[h];exact M.out _ (au _)
  .intro e;have:=h _ e;simp at this;omega
 have I:w.heap.size≠s:=by omega
 have T:w.heap.size≠d.heap.size:=by omega
 have S:Hid _:=((N.setOther I H 0 (.int .i64 r)).setOther I H 1 (.int .i64 t)).setOther I H 2 (.bool q);have R:Hid _:=(bz.pre (A.out.alloc A.out.size _) hF).post ((((aA w.heap.size f).setCell (p:=⟨w.heap.size,0,none⟩) (au _) (.int .i64 r)).setCell (p:=⟨w.heap.size,1,none⟩) (au _) (.int .i64 t)).setCell (p:=⟨w.heap.size,2,none⟩) (au _) (.bool q));clear N hF m b O P Q f0 f1 f2 V G K A;go_wp2;refine cI (v:= .tuple #[.agg #[.int .i64 r,.int .i64 t,.bool q],.bool true]) (by simp[results,results237,Tryz.isAgg215,Tryz.sizeOf215,go_sem,r0,r1,r2]) rfl ⟨rfl,_,S.out,R.out⟩
def Tryz.aiX(l o:Int)(i:Bool)(w:World):(Instr.field 215 (.agg #[.int .i64 l,.int .i64 o,.bool i]) 0).run prog w= .ok (.int .i64 l) w:=by kernel_rfl
def Tryz.aiW(l o:Int)(i:Bool)(w:World):(Instr.field 215 (.agg #[.int .i64 l,.int .i64 o,.bool i]) 2).run prog w= .ok (.bool i) w:=by kernel_rfl
def tZ(w:World)(B s:Nat)(v j:Value)(x:XS)(n:Int)(h:bQ w B s v j x):Calls prog 240 #[.pointer<|some ⟨s,0,none⟩,.int .i64 n] w λe k=>e= .returned (.bool<|kf x n)/\k=w:=by
 have l:w.cell? ⟨s,2,none⟩=some (.int .i64 x.aK):=az h.cell 2;have m:w.cell? ⟨s,3,none⟩=some (.int .i64 x.aN):=az h.cell 3;unfold kf;clear h;generalize x.aK=a at*;generalize x.aN=b at*;by_cases f:n<=125
 .by_cases c:a=0
  .by_cases d:b=0
   .subst c d;go_enter func240,ntmps240;go_wp2;go_ret;simp[f]
   .have i:=ae d;subst c;go_enter func240,ntmps240;go_wp2;go_ret;simp[d]
  .have g:=ae c;go_enter func240,ntmps240;go_wp2;go_ret;simp[c]
 .go_enter func240,ntmps240;go_wp2;go_ret;simp;omega
def Ms(w:World)(B s:Nat)(v q:Value)(x:XS)(c:Int)(h:bQ w B s v q x)(e:x.st≠[])(p:x.st.length<=100000)(y:0<=(aS x.st).l)(j:(aS x.st).l<=1000):Calls prog 239 #[.pointer<|some ⟨s,0,none⟩,.int .i64 c] w λb m=>b= .returned (.int .i64<|gz (aS x.st).l c)/\Below w.heap.size w m:=by
 have n:x.st[x.st.length - 1]? =some (aS x.st):=by
  have u:x.st.length - 1<x.st.length:=by have:=jK.2 e;omega
  unfold aS;rw[r8,GN,aM u];rfl
 have g:Hid (Calls prog 238 #[.pointer<|some ⟨s,1,none⟩] w λb m=>b= .returned (.agg #[.int .i64 (aS x.st).l,.int .i64 (aS x.st).o,.bool (aS x.st).i])/\Below w.heap.size w m):=XC w B s v q x _ h n p;have C:=Tryz.aiX;clear n h e p;generalize aS x.st=t at*;obtain⟨l,o,i⟩:=t;simp only at g y j ⊢;unfold gz;by_cases a:(l+1)%2=c
 .rw[aj a];have k:((l+1)%2 !=c)=false:=by simp[a]
  have r:=ah a;clear a;go_enter func239,ntmps239;go_wp2_with fail;refine g.out.mono ?_;rintro b z ⟨rfl,d⟩;have f:=ah d;clear d;go_wp2_with fail;refine(C2 (l+1) _ (by omega)).mono ?_;rintro b A ⟨rfl,rfl⟩;go_wp2;go_ret;exact⟨rfl,f.out⟩
 .rw[ai a];have k:((l+1)%2 !=c)=true:=by simp[a]
  have r:=ah a;clear a;go_enter func239,ntmps239;go_wp2_with fail;refine g.out.mono ?_;rintro b z ⟨rfl,d⟩;have f:=ah d;clear d;go_wp2_with fail;refine(C2 (l+1) _ (by omega)).mono ?_;rintro b A ⟨rfl,rfl⟩;go_wp2;go_ret;exact⟨dM<|by omega,f.out⟩
def bQ.MN {w:World}{B s:Nat}{v a:Value}{x:XS}(h:bQ w B s v a x)(e:Int):bQ (w.setCell ⟨s,2,none⟩ (.int .i64 e)) B s v a {x with aK:=e}:=⟨by rw[eW h.cell];rfl,jW h.row h.ne 2 _,h.low⟩
def bQ.Bz {w:World}{B s:Nat}{v a:Value}{x:XS}(h:bQ w B s v a x)(e:Int):bQ (w.setCell ⟨s,3,none⟩ (.int .i64 e)) B s v a {x with aN:=e}:=⟨by rw[eW h.cell];rfl,jW h.row h.ne 3 _,h.low⟩
def bQ.MO {w:World}{B s:Nat}{v a:Value}{x:XS}(h:bQ w B s v a x)(e:Int):bQ (w.setCell ⟨s,4,none⟩ (.int .i64 e)) B s v a {x with valid:=e}:=⟨by rw[eW h.cell];rfl,jW h.row h.ne 4 _,h.low⟩
def bz.set(w:World)(s:Nat)(v:Value)(k:Nat)(u:Value):bz w (w.setCell ⟨s,k,none⟩ u) s v v:=⟨rfl,rfl,rfl,by simp,λb _ a _=>by rw[iF];exact a,.inl rfl⟩
def bz.trans {w j l:World}{s:Nat}{v g i:Value}(h:bz w j s v g)(a:bz j l s g i):bz w l s v i:=
 ⟨a.os.trans h.os,a.tape.trans h.tape,a.output.trans h.output,bP h.size a.size,λk d b c=>by
  rw[a.block k (kQ d h.size) b,h.block k d b c];rcases h.own with e|e
  .rw[e];exact c
  .intro m;have:=e k m;omega,by
  rcases a.own with f|f
  .rw[f];exact h.own
  .exact .inr λk d=>bP h.size<|f k d⟩
def agx {a:List aV}(b:a≠[]):a[a.length - 1]? =some (aS a):=by
 have c:a.length - 1<a.length:=by have:=jK.2 b;omega
 unfold aS;rw[r8,GN,aM c];rfl
def arO {b:List aV}(a:b≠[]):b=b.dropLast++[aS b]:=by
 have:=E6 a;rw[aS,r8,GP a];exact this.symm
def amZ(w:World)(B s:Nat)(v i:Value)(x:XS)(j:Int)(h:bQ w B s v i x)(p:x.st≠[])(E:x.st.length<=1000)(D:0<=(aS x.st).l)(o:(aS x.st).l<=1000)(J:0<=x.aK/\x.aK<=100000)(K:0<=x.valid/\x.valid<=100000):
  Calls prog 204 #[.pointer<|some ⟨s,0,none⟩,.int .i64 j] w λe q=>e= .returned (.tuple #[])/\∃y,bQ q B s y i (jr x j)/\bz w q s v y:=by
 have t:Hid (Calls prog 239 #[.pointer<|some ⟨s,0,none⟩,.int .i64 j] w λe q=>e= .returned (.int .i64<|gz (aS x.st).l j)/\Below w.heap.size w q):=Ms w B s v i x j h p (by omega) D o;have d:Hid (∀W,Below w.heap.size w W->bQ W B s v i x):=λW f=>h.below f
 have z:=ah E;unfold jr;generalize gz (aS x.st).l j=n at*;simp only;clear h p E D o;obtain⟨F,u,A,a⟩:=x;simp only at t d z J K ⊢;by_cases k:kf ⟨F,u,A,a⟩ n=true
 .rw[aj k];have r:=ah k;clear k;go_enter func204,ntmps204;go_wp2_with fail;refine t.out.mono ?_;rintro e c ⟨rfl,f⟩;have b:=ah f;clear f;go_wp2_with fail;refine(tZ c B s v i _ n (d.out c b.out)).mono ?_;rintro e L ⟨rfl,hx⟩;have g:=hx.symm;subst g;rw[r.out];have I:c.cell? ⟨s,4,none⟩=some (.int .i64 a):=az (d.out _ b.out).cell 4;have f4:c.frozen? ⟨s,4,none⟩=false:=cB (d.out _ b.out).cell 4;go_wp2_with fail;refine(F7 _ B s v i _ n (-1) true ((d.out _ b.out).MO (a+1)) (by have:=z.out;simp only;omega)).mono ?_;rintro e M ⟨rfl,y,C,hF⟩;have H:=ah C;have G:Hid _:=bz.pre b.out<|(bz.set c s v 4 (.int .i64<|a+1)).trans hF;clear C hF;go_wp2;go_end0;exact⟨rfl,_,H.out,G.out⟩
 .rw[ai k];have m:kf ⟨F,u,A,a⟩ n=false:=by simpa using k
  have r:=ah m;clear k m;go_enter func204,ntmps204;go_wp2_with fail;refine t.out.mono ?_;rintro e c ⟨rfl,f⟩;have b:=ah f;clear f;go_wp2_with fail;refine(tZ c B s v i _ n (d.out c b.out)).mono ?_;rintro e L ⟨rfl,hx⟩;have g:=hx.symm;subst g;rw[r.out];have I:c.cell? ⟨s,2,none⟩=some (.int .i64 u):=az (d.out _ b.out).cell 2;have f4:c.frozen? ⟨s,2,none⟩=false:=cB (d.out _ b.out).cell 2;go_wp2;exact cI (Bu rfl _ _ _) rfl ⟨rfl,_,(d.out _ b.out).MN _,bz.pre b.out<|bz.set _ s v 2 _⟩
def apc(w:World)(B s:Nat)(v j:Value)(x:XS)(h:bQ w B s v j x)(m:x.st≠[])(N:x.st.length<=1000)(G:x.aN<=100000):
  Calls prog 206 #[.pointer<|some ⟨s,0,none⟩] w λb d=>b= .returned (.tuple #[])/\∃k,bQ d B s k j (ko x)/\bz w d s v k:=by
 have J:w.cell? ⟨s,2,none⟩=some (.int .i64 x.aK):=az h.cell 2;have K:w.cell? ⟨s,3,none⟩=some (.int .i64 x.aN):=az h.cell 3;have f3:w.frozen? ⟨s,3,none⟩=false:=cB h.cell 3;have n:=ah h;unfold ko;by_cases u:0<x.aK
 .rw[aj u];clear h G;go_enter func206,ntmps206;go_wp2;go_end0;exact⟨rfl,_,n.out,bz.refl _ _ _⟩
 .rw[ai u];by_cases y:0<x.aN
  .rw[aj y];clear h;go_enter func206,ntmps206;go_wp2;go_end0;exact⟨rfl,_,n.out.Bz _,bz.set _ _ _ _ _⟩
  .rw[ai y];have p:Hid (Calls prog 238 #[.pointer<|some ⟨s,1,none⟩] w λb d=>b= .returned (.agg #[.int .i64 (aS x.st).l,.int .i64 (aS x.st).o,.bool (aS x.st).i])/\Below w.heap.size w d):=XC w B s v j x _ h (agx m) (by omega);have M:=Tryz.aiW;have E:Hid (∀W,Below w.heap.size w W->Calls prog 237 #[.pointer<|some ⟨s,1,none⟩] W λb d=>b= .returned (.tuple #[.agg #[.int .i64 (aS x.st).l,.int .i64 (aS x.st).o,.bool (aS x.st).i],.bool true])/\∃k,bQ d B s k j {x with st:=x.st.dropLast}/\bz W d s v k):=λW a=>afi W B s v j x x.st.dropLast (aS x.st) (h.below a) (arO m)<|by simp;omega
   have t:Hid (∀W,Below w.heap.size w W->Calls prog 241 #[.pointer<|some ⟨s,1,none⟩] W λe d=>e= .returned (.int .i64 x.st.length)/\d=W):=λW a=>anj W B s v j x<|h.below a
   clear h;by_cases q:(aS x.st).i=true
   .rw[ai<|by simp[q]];go_enter func206,ntmps206;go_wp2_with fail;refine p.out.mono ?_;rintro b C ⟨rfl,a⟩;have c:=ah a;clear a;rw[q];go_wp2;go_end0;exact⟨rfl,_,n.out.below c.out,bz.pre c.out<|bz.refl _ _ _⟩
   .have f:(aS x.st).i=false:=(by simpa using q);by_cases z:1<x.st.length
    .rw[aj ⟨f,z⟩];have r:(2:Int)<=x.st.length:=(by omega);generalize x.st.length=L at*;go_enter func206,ntmps206;go_wp2_with fail;refine p.out.mono ?_;rintro b C ⟨rfl,a⟩;have c:=ah a;clear a;rw[f];go_wp2_with fail;refine(t.out _ c.out).mono ?_;rintro b I ⟨rfl,hx⟩;have g:=hx.symm;subst g;go_wp2_with fail;refine(E.out _ c.out).mono ?_;rintro b O ⟨rfl,k,A,hF⟩;have F:=ah A;have D:Hid _:=bz.pre c.out hF;clear A hF;go_wp2;go_end0;exact⟨rfl,_,F.out,D.out⟩
    .rw[ai λH=>z H.2];have r:¬(2:Int)<=x.st.length:=(by omega);generalize x.st.length=L at*;go_enter func206,ntmps206;go_wp2_with fail;refine p.out.mono ?_;rintro b C ⟨rfl,a⟩;have c:=ah a;clear a;rw[f];go_wp2_with fail;refine(t.out _ c.out).mono ?_;rintro b I ⟨rfl,hx⟩;have g:=hx.symm;subst g;go_wp2;go_end0;exact⟨rfl,_,n.out.below c.out,bz.pre c.out<|bz.refl _ _ _⟩
def akt(w:World)(B s:Nat)(v e:Value)(x:XS)(h:bQ w B s v e x)(l:0<=x.aK/\x.aK<=100000)(b:0<x.aK∨x.valid=0):
  Calls prog 200 #[.pointer<|some ⟨s,0,none⟩] w λj g=>j= .returned (.tuple #[])/\∃f,bQ g B s f e (jd x)/\bz w g s v f:=by
 have k:w.cell? ⟨s,2,none⟩=some (.int .i64 x.aK):=az h.cell 2;have i:w.cell? ⟨s,4,none⟩=some (.int .i64 x.valid):=az h.cell 4;have f2:w.frozen? ⟨s,2,none⟩=false:=cB h.cell 2;have a:=ah h;unfold jd;clear h;by_cases c:0<x.aK
 .rw[aj c];clear b;go_enter func200,ntmps200;go_wp2;exact cI (Bu rfl _ _ _) rfl ⟨rfl,_,a.out.MN _,bz.set _ _ _ _ _⟩
 .rw[ai c];have d:x.valid=0:=by omega
  rw[aj d];rw[d]at i;clear b;go_enter func200,ntmps200;go_wp2;exact cI (Bu rfl _ _ _) rfl ⟨rfl,_,a.out,bz.refl _ _ _⟩
def aks(w:World)(B s:Nat)(v g:Value)(x:XS)(h:bQ w B s v g x)(E:x.st.length<=1000)(D:x.aK=0)(Q:1<=x.valid/\x.valid<=100000)(hex:∃e∈x.st,e.i=true):
  Calls prog 200 #[.pointer<|some ⟨s,0,none⟩] w λk o=>k= .returned (.tuple #[])/\∃d,bQ o B s d g {x with aN:=0,st:=iz x.st,valid:=x.valid - 1}/\bz w o s v d:=by
 obtain⟨st,S,aN,valid⟩:=x;simp only at E D Q hex ⊢;subst D;have J:w.cell? ⟨s,2,none⟩=some (.int .i64 0):=az h.cell 2;have K:w.cell? ⟨s,3,none⟩=some (.int .i64 aN):=az h.cell 3;have f3:w.frozen? ⟨s,3,none⟩=false:=cB h.cell 3;have L:w.cell? ⟨s,4,none⟩=some (.int .i64 valid):=az h.cell 4;have f4:w.frozen? ⟨s,4,none⟩=false:=cB h.cell 4;have R:(valid==0)=false:=by simp;omega
 have C:Hid (bQ ((w.setCell ⟨s,4,none⟩ (.int .i64<|valid - 1)).setCell ⟨s,3,none⟩ (.int .i64 0)) B s v g ⟨st,0,0,valid - 1⟩):=(h.MO<|valid - 1).Bz 0;have G:Hid (bz w ((w.setCell ⟨s,4,none⟩ (.int .i64<|valid - 1)).setCell ⟨s,3,none⟩ (.int .i64 0)) s v v):=(bz.set _ _ _ _ _).trans (bz.set _ _ _ _ _);have p:=ah hex;clear h hex;go_enter func200,ntmps200;go_wp2;clear J K L f3 f4;go_loopg [2,3,31,32,33,34,35,36,37,38,39,40,41,42,43] (st.length+1) (λgk _ _ _ _ _ _ _ _ _ _ _ _ _ _ _ wr=>∃(d:Value)(a:List aV),bQ wr B s d g ⟨a,0,0,valid - 1⟩/\bz w wr s v d/\iz a=iz st/\(∃e∈a,e.i=true)/\a.length<gk/\a.length<=1000);exact⟨v,st,C.out,G.out,rfl,p.out,by omega,E⟩;obtain⟨d,a,t,hF,F,hex,O,P⟩:=hrel;clear C G p;have f:a≠[]:=by rintro rfl;simp at hex
 obtain⟨b,e,rfl⟩:∃b e,a=b++[e]:=⟨a.dropLast,a.getLast f,(E6 f).symm⟩
 simp only[bH,eJ,jZ]at O P;have i:Hid (∀W,Below wr.heap.size wr W->Calls prog 237 #[.pointer<|some ⟨s,1,none⟩] W λk o=>k= .returned (.tuple #[.agg #[.int .i64 e.l,.int .i64 e.o,.bool e.i],.bool true])/\∃n,bQ o B s n g ⟨b,0,0,valid - 1⟩/\bz W o s d n):=λW N=>afi W B s d g ⟨b++[e],0,0,valid - 1⟩ b e (t.below N) rfl (by omega)
 have z:=ah hF;have A:=ah F;have p:=ah hex;have T:=ah<|cJ t.cell;clear t hF F hex f;obtain⟨U,V,M⟩:=e;simp only at i;cases M
 .have y:Hid (iz b=iz st):=by have:=A.out;rw[Qb _ _ rfl]at this;exact this
  have I:Hid (∃r∈b,r.i=true):=by
   obtain⟨r,l,u⟩:=p.out;rcases jL.1 l with l|l
   .exact⟨r,l,u⟩
   .rw[qX.1 l]at u;cases u
  go_wp2_with fail;refine(i.out _ (aA _ _)).mono ?_;rintro k H ⟨rfl,n,m,c⟩;have q:=ah m;have j:=ah<|z.out.trans c;clear m c i;go_wp2;go_roundg (b.length+1);exact⟨_,b,q.out.below<|(aA _ _).alloc (au _) _,j.out.post<|(aA _ _).alloc j.out.size _,y.out,I.out,by omega,by omega⟩;omega
 .have y:Hid (b=iz st):=by have:=A.out;rw[Qa _ _ rfl]at this;exact this
  go_wp2_with fail;refine(i.out _ (aA _ _)).mono ?_;rintro k H ⟨rfl,n,m,c⟩;have q:Hid (bQ H B s n g ⟨iz st,0,0,valid - 1⟩):=by have:=m;rw[y.out]at this;exact this
  have j:=ah<|z.out.trans c;clear m c i;go_wp2;exact cI (Bu rfl _ _ _) rfl ⟨rfl,_,q.out.below<|(aA _ _).alloc (au _) _,j.out.post<|(aA _ _).alloc j.out.size _⟩
def rC(x:XS)(a o:Int):XS:=
 if kf x (gz (aS x.st).l a)=true then{x with st:=x.st++[⟨gz (aS x.st).l a,o,false⟩]}
 else if x.aK=0 then{x with aN:=x.aN+1}else x
def akl(x:XS):jF x 13=rC x 0 (-1):=by simp[jF,rC]
def akm(x:XS):jF x 14=rC x 1 (-1):=by simp[jF,rC]
def akn(x:XS):jF x 15=rC x 0 0:=by simp[jF,rC]
def ako(x:XS):jF x 16=rC x 1 1:=by simp[jF,rC]
def xY {w a:World}{t:TypeId}(b:Below (w.alloc (.cells #[.int .i64 0,.int .i64 0,.bool false] t)).heap.size (w.alloc (.cells #[.int .i64 0,.int .i64 0,.bool false] t)) a):
  Below w.heap.size w a/\a.cell? ⟨w.heap.size,0,none⟩=some (.int .i64 0)/\a.cell? ⟨w.heap.size,1,none⟩=some (.int .i64 0)/\a.cell? ⟨w.heap.size,2,none⟩=some (.bool false)
   /\a.frozen? ⟨w.heap.size,0,none⟩=false/\a.frozen? ⟨w.heap.size,1,none⟩=false/\a.frozen? ⟨w.heap.size,2,none⟩=false:=by
 refine⟨((aA _ _).alloc (au _) _).trans (b.mono<|by simp),?_,?_,?_,?_,?_,?_⟩;all_goals first|rw[b.cell<|by simp];go_simp|rw[b.frozen<|by simp];go_simp
def xX {w d:World}(h:Below w.heap.size w d)(a b c:Value):
  Hid (Below w.heap.size w<|((d.setCell ⟨w.heap.size,0,none⟩ a).setCell ⟨w.heap.size,1,none⟩ b).setCell ⟨w.heap.size,2,none⟩ c):=
 ((h.setCell (au _) _).setCell (au _) _).setCell (au _) _
def akg(w:World)(B s:Nat)(v g:Value)(x:XS)(h:bQ w B s v g x)(p:x.st≠[])(K:x.st.length<=1000)(J:0<=(aS x.st).l)(o:(aS x.st).l<=1000)(Q:0<=x.aN/\x.aN<=100000):
  Calls prog 203 #[.pointer<|some ⟨s,0,none⟩,.int .i64 13] w λe D=>e= .returned (.tuple #[])/\∃G,bQ D B s G g (rC x 0 (-1))/\bz w D s v G:=by
 have r:Hid (∀W,Below w.heap.size w W->Calls prog 239 #[.pointer<|some ⟨s,0,none⟩,.int .i64 0] W λe D=>e= .returned (.int .i64<|gz (aS x.st).l 0)/\Below W.heap.size W D):=λW b=>Ms W B s v g x 0 (h.below b) p (by omega) J o
 have c:Hid (∀W,Below w.heap.size w W->bQ W B s v g x):=λW b=>h.below b
 have H:=ah K;have S:=ah<|cJ h.cell;unfold rC;generalize gz (aS x.st).l 0=n at*;clear h p K J o;obtain⟨L,t,F,d⟩:=x;simp only at r c H Q ⊢;have i:Below w.heap.size w (w.alloc (.cells #[.int .i64 0,.int .i64 0,.bool false] 215)):=(aA _ _).alloc (au _) _;by_cases j:kf ⟨L,t,F,d⟩ n=true
 .rw[aj j];have q:=ah j;clear j;go_enter func203,ntmps203;go_wp2_with fail;refine(r.out _ i).mono ?_;rintro e E ⟨rfl,b⟩;obtain⟨f,z,A,C,u,g1,g2⟩:=xY b;have a:=xX f (.int .i64 n) (.int .i64 (-1)) (.bool false);clear b f;go_wp2_with fail;refine(tZ _ B s v g _ n (c.out _ a.out)).mono ?_;rintro e M ⟨rfl,hx⟩;subst hx;rw[q.out];go_wp2_with fail
  go_region_with (go_at_call 142;refine(F7 _ B s v g _ n (-1) false (c.out _ a.out.drew) (by have:=H.out;simp only;omega)).mono ?_;rintro e U ⟨rfl,G,I,hF⟩)
  all_goals
   have O:=ah I;have N:Hid _:=bz.pre a.out.drew hF;clear I hF;go_wp2;go_end0;exact⟨rfl,_,O.out,N.out⟩
 .rw[ai j];have m:kf ⟨L,t,F,d⟩ n=false:=by simpa using j
  have q:=ah m;clear j m;by_cases y:t=0
  .rw[aj y];subst y;go_enter func203,ntmps203;go_wp2_with fail;refine(r.out _ i).mono ?_;rintro e E ⟨rfl,b⟩;obtain⟨f,z,A,C,u,g1,g2⟩:=xY b;have a:=xX f (.int .i64 n) (.int .i64 (-1)) (.bool false);clear b f;go_wp2_with fail;refine(tZ _ B s v g _ n (c.out _ a.out)).mono ?_;rintro e M ⟨rfl,hx⟩;subst hx;rw[q.out];clear z A C u g1 g2;generalize((E.setCell ⟨w.heap.size,0,none⟩ (.int .i64 n)).setCell ⟨w.heap.size,1,none⟩ (.int .i64 (-1))).setCell ⟨w.heap.size,2,none⟩ (.bool false)=k at*;have P:k.cell? ⟨s,2,none⟩=some (.int .i64 0):=az (c.out _ a.out).cell 2;have T:k.cell? ⟨s,3,none⟩=some (.int .i64 F):=az (c.out _ a.out).cell 3;have f3:k.frozen? ⟨s,3,none⟩=false:=cB (c.out _ a.out).cell 3;go_wp2;go_end0;exact⟨rfl,_,(c.out _ a.out).Bz _,bz.pre a.out<|bz.set _ s v 3 _⟩
  .rw[ai y];have R:=ae y;go_enter func203,ntmps203;go_wp2_with fail;refine(r.out _ i).mono ?_;rintro e E ⟨rfl,b⟩;obtain⟨f,z,A,C,u,g1,g2⟩:=xY b;have a:=xX f (.int .i64 n) (.int .i64 (-1)) (.bool false);clear b f;go_wp2_with fail;refine(tZ _ B s v g _ n (c.out _ a.out)).mono ?_;rintro e M ⟨rfl,hx⟩;subst hx;rw[q.out];clear z A C u g1 g2;generalize((E.setCell ⟨w.heap.size,0,none⟩ (.int .i64 n)).setCell ⟨w.heap.size,1,none⟩ (.int .i64 (-1))).setCell ⟨w.heap.size,2,none⟩ (.bool false)=k at*;have P:k.cell? ⟨s,2,none⟩=some (.int .i64 t):=az (c.out _ a.out).cell 2;go_wp2;go_end0;exact⟨rfl,_,c.out _ a.out,bz.pre a.out<|bz.refl _ s v⟩
def akh(w:World)(B s:Nat)(v g:Value)(x:XS)(h:bQ w B s v g x)(p:x.st≠[])(K:x.st.length<=1000)(J:0<=(aS x.st).l)(o:(aS x.st).l<=1000)(Q:0<=x.aN/\x.aN<=100000):
  Calls prog 203 #[.pointer<|some ⟨s,0,none⟩,.int .i64 14] w λe D=>e= .returned (.tuple #[])/\∃G,bQ D B s G g (rC x 1 (-1))/\bz w D s v G:=by
 have r:Hid (∀W,Below w.heap.size w W->Calls prog 239 #[.pointer<|some ⟨s,0,none⟩,.int .i64 1] W λe D=>e= .returned (.int .i64<|gz (aS x.st).l 1)/\Below W.heap.size W D):=λW b=>Ms W B s v g x 1 (h.below b) p (by omega) J o
 have c:Hid (∀W,Below w.heap.size w W->bQ W B s v g x):=λW b=>h.below b
 have H:=ah K;have S:=ah<|cJ h.cell;unfold rC;generalize gz (aS x.st).l 1=n at*;clear h p K J o;obtain⟨L,t,F,d⟩:=x;simp only at r c H Q ⊢;have i:Below w.heap.size w (w.alloc (.cells #[.int .i64 0,.int .i64 0,.bool false] 215)):=(aA _ _).alloc (au _) _;by_cases j:kf ⟨L,t,F,d⟩ n=true
 .rw[aj j];have q:=ah j;clear j;go_enter func203,ntmps203;go_wp2_with fail;refine(r.out _ i).mono ?_;rintro e E ⟨rfl,b⟩;obtain⟨f,z,A,C,u,g1,g2⟩:=xY b;have a:=xX f (.int .i64 n) (.int .i64 (-1)) (.bool false);clear b f;go_wp2_with fail;refine(tZ _ B s v g _ n (c.out _ a.out)).mono ?_;rintro e M ⟨rfl,hx⟩;subst hx;rw[q.out];go_wp2_with fail
  go_region_with (go_at_call 142;refine(F7 _ B s v g _ n (-1) false (c.out _ a.out.drew) (by have:=H.out;simp only;omega)).mono ?_;rintro e U ⟨rfl,G,I,hF⟩)
  all_goals
   have O:=ah I;have N:Hid _:=bz.pre a.out.drew hF;clear I hF;go_wp2;go_end0;exact⟨rfl,_,O.out,N.out⟩
 .rw[ai j];have m:kf ⟨L,t,F,d⟩ n=false:=by simpa using j
  have q:=ah m;clear j m;by_cases y:t=0
  .rw[aj y];subst y;go_enter func203,ntmps203;go_wp2_with fail;refine(r.out _ i).mono ?_;rintro e E ⟨rfl,b⟩;obtain⟨f,z,A,C,u,g1,g2⟩:=xY b;have a:=xX f (.int .i64 n) (.int .i64 (-1)) (.bool false);clear b f;go_wp2_with fail;refine(tZ _ B s v g _ n (c.out _ a.out)).mono ?_;rintro e M ⟨rfl,hx⟩;subst hx;rw[q.out];clear z A C u g1 g2;generalize((E.setCell ⟨w.heap.size,0,none⟩ (.int .i64 n)).setCell ⟨w.heap.size,1,none⟩ (.int .i64 (-1))).setCell ⟨w.heap.size,2,none⟩ (.bool false)=k at*;have P:k.cell? ⟨s,2,none⟩=some (.int .i64 0):=az (c.out _ a.out).cell 2;have T:k.cell? ⟨s,3,none⟩=some (.int .i64 F):=az (c.out _ a.out).cell 3;have f3:k.frozen? ⟨s,3,none⟩=false:=cB (c.out _ a.out).cell 3;go_wp2;go_end0;exact⟨rfl,_,(c.out _ a.out).Bz _,bz.pre a.out<|bz.set _ s v 3 _⟩
  .rw[ai y];have R:=ae y;go_enter func203,ntmps203;go_wp2_with fail;refine(r.out _ i).mono ?_;rintro e E ⟨rfl,b⟩;obtain⟨f,z,A,C,u,g1,g2⟩:=xY b;have a:=xX f (.int .i64 n) (.int .i64 (-1)) (.bool false);clear b f;go_wp2_with fail;refine(tZ _ B s v g _ n (c.out _ a.out)).mono ?_;rintro e M ⟨rfl,hx⟩;subst hx;rw[q.out];clear z A C u g1 g2;generalize((E.setCell ⟨w.heap.size,0,none⟩ (.int .i64 n)).setCell ⟨w.heap.size,1,none⟩ (.int .i64 (-1))).setCell ⟨w.heap.size,2,none⟩ (.bool false)=k at*;have P:k.cell? ⟨s,2,none⟩=some (.int .i64 t):=az (c.out _ a.out).cell 2;go_wp2;go_end0;exact⟨rfl,_,c.out _ a.out,bz.pre a.out<|bz.refl _ s v⟩
def aki(w:World)(B s:Nat)(v g:Value)(x:XS)(h:bQ w B s v g x)(p:x.st≠[])(K:x.st.length<=1000)(J:0<=(aS x.st).l)(o:(aS x.st).l<=1000)(Q:0<=x.aN/\x.aN<=100000):
  Calls prog 203 #[.pointer<|some ⟨s,0,none⟩,.int .i64 15] w λe D=>e= .returned (.tuple #[])/\∃G,bQ D B s G g (rC x 0 0)/\bz w D s v G:=by
 have r:Hid (∀W,Below w.heap.size w W->Calls prog 239 #[.pointer<|some ⟨s,0,none⟩,.int .i64 0] W λe D=>e= .returned (.int .i64<|gz (aS x.st).l 0)/\Below W.heap.size W D):=λW b=>Ms W B s v g x 0 (h.below b) p (by omega) J o
 have c:Hid (∀W,Below w.heap.size w W->bQ W B s v g x):=λW b=>h.below b
 have H:=ah K;have S:=ah<|cJ h.cell;unfold rC;generalize gz (aS x.st).l 0=n at*;clear h p K J o;obtain⟨L,t,F,d⟩:=x;simp only at r c H Q ⊢;have i:Below w.heap.size w (w.alloc (.cells #[.int .i64 0,.int .i64 0,.bool false] 215)):=(aA _ _).alloc (au _) _;by_cases j:kf ⟨L,t,F,d⟩ n=true
 .rw[aj j];have q:=ah j;clear j;go_enter func203,ntmps203;go_wp2_with fail;refine(r.out _ i).mono ?_;rintro e E ⟨rfl,b⟩;obtain⟨f,z,A,C,u,g1,g2⟩:=xY b;have a:=xX f (.int .i64 n) (.int .i64 0) (.bool false);clear b f;go_wp2_with fail;refine(tZ _ B s v g _ n (c.out _ a.out)).mono ?_;rintro e M ⟨rfl,hx⟩;subst hx;rw[q.out];go_wp2_with fail
  go_region_with (go_at_call 142;refine(F7 _ B s v g _ n 0 false (c.out _ a.out.drew) (by have:=H.out;simp only;omega)).mono ?_;rintro e U ⟨rfl,G,I,hF⟩)
  all_goals
   have O:=ah I;have N:Hid _:=bz.pre a.out.drew hF;clear I hF;go_wp2;go_end0;exact⟨rfl,_,O.out,N.out⟩
 .rw[ai j];have m:kf ⟨L,t,F,d⟩ n=false:=by simpa using j
  have q:=ah m;clear j m;by_cases y:t=0
  .rw[aj y];subst y;go_enter func203,ntmps203;go_wp2_with fail;refine(r.out _ i).mono ?_;rintro e E ⟨rfl,b⟩;obtain⟨f,z,A,C,u,g1,g2⟩:=xY b;have a:=xX f (.int .i64 n) (.int .i64 0) (.bool false);clear b f;go_wp2_with fail;refine(tZ _ B s v g _ n (c.out _ a.out)).mono ?_;rintro e M ⟨rfl,hx⟩;subst hx;rw[q.out];clear z A C u g1 g2;generalize((E.setCell ⟨w.heap.size,0,none⟩ (.int .i64 n)).setCell ⟨w.heap.size,1,none⟩ (.int .i64 0)).setCell ⟨w.heap.size,2,none⟩ (.bool false)=k at*;have P:k.cell? ⟨s,2,none⟩=some (.int .i64 0):=az (c.out _ a.out).cell 2;have T:k.cell? ⟨s,3,none⟩=some (.int .i64 F):=az (c.out _ a.out).cell 3;have f3:k.frozen? ⟨s,3,none⟩=false:=cB (c.out _ a.out).cell 3;go_wp2;go_end0;exact⟨rfl,_,(c.out _ a.out).Bz _,bz.pre a.out<|bz.set _ s v 3 _⟩
  .rw[ai y];have R:=ae y;go_enter func203,ntmps203;go_wp2_with fail;refine(r.out _ i).mono ?_;rintro e E ⟨rfl,b⟩;obtain⟨f,z,A,C,u,g1,g2⟩:=xY b;have a:=xX f (.int .i64 n) (.int .i64 0) (.bool false);clear b f;go_wp2_with fail;refine(tZ _ B s v g _ n (c.out _ a.out)).mono ?_;rintro e M ⟨rfl,hx⟩;subst hx;rw[q.out];clear z A C u g1 g2;generalize((E.setCell ⟨w.heap.size,0,none⟩ (.int .i64 n)).setCell ⟨w.heap.size,1,none⟩ (.int .i64 0)).setCell ⟨w.heap.size,2,none⟩ (.bool false)=k at*;have P:k.cell? ⟨s,2,none⟩=some (.int .i64 t):=az (c.out _ a.out).cell 2;go_wp2;go_end0;exact⟨rfl,_,c.out _ a.out,bz.pre a.out<|bz.refl _ s v⟩
def akj(w:World)(B s:Nat)(v g:Value)(x:XS)(h:bQ w B s v g x)(p:x.st≠[])(K:x.st.length<=1000)(J:0<=(aS x.st).l)(o:(aS x.st).l<=1000)(Q:0<=x.aN/\x.aN<=100000):
  Calls prog 203 #[.pointer<|some ⟨s,0,none⟩,.int .i64 16] w λe D=>e= .returned (.tuple #[])/\∃G,bQ D B s G g (rC x 1 1)/\bz w D s v G:=by
 have r:Hid (∀W,Below w.heap.size w W->Calls prog 239 #[.pointer<|some ⟨s,0,none⟩,.int .i64 1] W λe D=>e= .returned (.int .i64<|gz (aS x.st).l 1)/\Below W.heap.size W D):=λW b=>Ms W B s v g x 1 (h.below b) p (by omega) J o
 have c:Hid (∀W,Below w.heap.size w W->bQ W B s v g x):=λW b=>h.below b
 have H:=ah K;have S:=ah<|cJ h.cell;unfold rC;generalize gz (aS x.st).l 1=n at*;clear h p K J o;obtain⟨L,t,F,d⟩:=x;simp only at r c H Q ⊢;have i:Below w.heap.size w (w.alloc (.cells #[.int .i64 0,.int .i64 0,.bool false] 215)):=(aA _ _).alloc (au _) _;by_cases j:kf ⟨L,t,F,d⟩ n=true
 .rw[aj j];have q:=ah j;clear j;go_enter func203,ntmps203;go_wp2_with fail;refine(r.out _ i).mono ?_;rintro e E ⟨rfl,b⟩;obtain⟨f,z,A,C,u,g1,g2⟩:=xY b;have a:=xX f (.int .i64 n) (.int .i64 1) (.bool false);clear b f;go_wp2_with fail;refine(tZ _ B s v g _ n (c.out _ a.out)).mono ?_;rintro e M ⟨rfl,hx⟩;subst hx;rw[q.out];go_wp2_with fail
  go_region_with (go_at_call 142;refine(F7 _ B s v g _ n 1 false (c.out _ a.out.drew) (by have:=H.out;simp only;omega)).mono ?_;rintro e U ⟨rfl,G,I,hF⟩)
  all_goals
   have O:=ah I;have N:Hid _:=bz.pre a.out.drew hF;clear I hF;go_wp2;go_end0;exact⟨rfl,_,O.out,N.out⟩
 .rw[ai j];have m:kf ⟨L,t,F,d⟩ n=false:=by simpa using j
  have q:=ah m;clear j m;by_cases y:t=0
  .rw[aj y];subst y;go_enter func203,ntmps203;go_wp2_with fail;refine(r.out _ i).mono ?_;rintro e E ⟨rfl,b⟩;obtain⟨f,z,A,C,u,g1,g2⟩:=xY b;have a:=xX f (.int .i64 n) (.int .i64 1) (.bool false);clear b f;go_wp2_with fail;refine(tZ _ B s v g _ n (c.out _ a.out)).mono ?_;rintro e M ⟨rfl,hx⟩;subst hx;rw[q.out];clear z A C u g1 g2;generalize((E.setCell ⟨w.heap.size,0,none⟩ (.int .i64 n)).setCell ⟨w.heap.size,1,none⟩ (.int .i64 1)).setCell ⟨w.heap.size,2,none⟩ (.bool false)=k at*;have P:k.cell? ⟨s,2,none⟩=some (.int .i64 0):=az (c.out _ a.out).cell 2;have T:k.cell? ⟨s,3,none⟩=some (.int .i64 F):=az (c.out _ a.out).cell 3;have f3:k.frozen? ⟨s,3,none⟩=false:=cB (c.out _ a.out).cell 3;go_wp2;go_end0;exact⟨rfl,_,(c.out _ a.out).Bz _,bz.pre a.out<|bz.set _ s v 3 _⟩
  .rw[ai y];have R:=ae y;go_enter func203,ntmps203;go_wp2_with fail;refine(r.out _ i).mono ?_;rintro e E ⟨rfl,b⟩;obtain⟨f,z,A,C,u,g1,g2⟩:=xY b;have a:=xX f (.int .i64 n) (.int .i64 1) (.bool false);clear b f;go_wp2_with fail;refine(tZ _ B s v g _ n (c.out _ a.out)).mono ?_;rintro e M ⟨rfl,hx⟩;subst hx;rw[q.out];clear z A C u g1 g2;generalize((E.setCell ⟨w.heap.size,0,none⟩ (.int .i64 n)).setCell ⟨w.heap.size,1,none⟩ (.int .i64 1)).setCell ⟨w.heap.size,2,none⟩ (.bool false)=k at*;have P:k.cell? ⟨s,2,none⟩=some (.int .i64 t):=az (c.out _ a.out).cell 2;go_wp2;go_end0;exact⟨rfl,_,c.out _ a.out,bz.pre a.out<|bz.refl _ s v⟩
def akk(w:World)(B s:Nat)(v d:Value)(x:XS)(c:Int)(m:mD c=true)(h:bQ w B s v d x)(b:x.st≠[])(g:x.st.length<=1000)(f:0<=(aS x.st).l)(a:(aS x.st).l<=1000)(e:0<=x.aN/\x.aN<=100000):
  Calls prog 203 #[.pointer<|some ⟨s,0,none⟩,.int .i64 c] w λk j=>k= .returned (.tuple #[])/\∃i,bQ j B s i d (jF x c)/\bz w j s v i:=by
 have:c=13∨c=14∨c=15∨c=16:=by simpa [mD]using m
 rcases this with rfl|rfl|rfl|rfl
 .rw[akl];exact akg w B s v d x h b g f a e
 .rw[akm];exact akh w B s v d x h b g f a e
 .rw[akn];exact aki w B s v d x h b g f a e
 .rw[ako];exact akj w B s v d x h b g f a e
def C3(a:List Int)(x:List (List Nat)×List Nat)(p:Nat):List (List Nat)×List Nat:=
 if x.2≠[]/\a.getD (x.2.headD 0) 0≠a.getD p 0 then(x.1++[x.2],[p])else(x.1,x.2++[p])
def jh(a:List Bool)(n:Nat):List Nat:=(List.range n).filter (lq a)
def afS(b:List Int)(a:List Bool):∀n i x,yE b a n i x=vG (((List.range' i n).filter (lq a)).foldl (C3 b) x)
 |0,i,x=>rfl
 |n+1,i,x=>by
  rw[yE,afS b a n<|i+1,List.range'_succ,rX];unfold Gc;cases h:a.getD i false
  .have e:lq a i=false:=h;rw[aj rfl,e,ai<|by decide]
  .have e:lq a i=true:=h;rw[e,ai<|by decide,aj (rfl:true=true),qW];rfl
def aqg(a:List Int)(b:List Bool):cZ a b=vG ((jh b a.length).foldl (C3 a) ([],[])):=by
 rw[cZ,afS,jh,List.range_eq_range']
def o9(d:List Int)(left:List Nat)(a b:List<|List Nat)(c:Nat):Prop:=vG ((left.drop c).foldl (C3 d) (b,[]))=a
def xO(e:List Int)(left:List Nat)(a b:List<|List Nat)(d c:Nat):Prop:=vG ((left.drop c).foldl (C3 e) (b,(left.take c).drop d))=a
def af0 {left:List Nat}{b a:Nat}(h:b<=a)(c:a<left.length):(left.take<|a+1).drop b=(left.take a).drop b++[left.getD a 0]:=by
 rw[uM,aM c,ahV<|by simp;omega,aO,aM c];rfl
def Xd {left:List Nat}{b a:Nat}(h:b<a)(d:a<=left.length):((left.take a).drop b).headD 0=left.getD b 0/\(left.take a).drop b≠[]/\((left.take a).drop b).length=a - b:=by
 have c:((left.take a).drop b).length=a - b:=by simp;omega
 refine⟨?_,?_,c⟩
 .rw[List.headD_eq_head?_getD,List.head?_drop,ND h,aO]
 .intro e;rw[e]at c;simp at c;omega
def Om {left:List Nat}{k:Nat}(h:k<left.length):left.drop k=left.getD k 0::left.drop (k+1):=by
 rw[kO h,aO,aM h];rfl
def o9.start(a:List Int)(b:List Bool):o9 a (jh b a.length) (cZ a b) [] 0:=by rw[o9,aqg];rfl
def o9.opn {e:List Int}{left:List Nat}{a b:List (List Nat)}{c:Nat}(h:o9 e left a b c)(d:c<left.length):xO e left a b c (c+1):=by
 unfold o9 at h;rw[Om d,qW]at h;rw[xO,af0 (au _) d,kr<|by simp;omega];rw[C3,ai λf=>f.1 rfl]at h;exact h
def xO.more {f:List Int}{left:List Nat}{b c:List (List Nat)}{e a:Nat}(h:xO f left b c e a)(d:e<a)(g:a<left.length)(i:f.getD (left.getD a 0) 0=f.getD (left.getD e 0) 0):xO f left b c e (a+1):=by
 unfold xO at h;rw[Om g,qW,C3,ai λj=>j.2<|by simp only;rw[(Xd d<|gF g).1,i]]at h;rw[xO,af0 (gF d) g];exact h
def xO.shut {i:List Int}{left:List Nat}{c b:List (List Nat)}{f a:Nat}(h:xO i left c b f a)(j:f<a)(o:a<=left.length)(m:¬a<left.length∨i.getD (left.getD a 0) 0≠i.getD (left.getD f 0) 0):o9 i left c (b++[(left.take a).drop f]) a:=by
 unfold xO at h;obtain⟨l,k,_⟩:=Xd j o;rcases cP a left.length with d|g
 .rw[Om d,qW,C3,aj ⟨k,by simp only;rw[l];exact λe=>m.elim (λh=>h d) λh=>h e.symm⟩]at h;rw[o9,Om d,qW];have:C3 i (b++[(left.take a).drop f],[]) (left.getD a 0)=(b++[(left.take a).drop f],[left.getD a 0]):=by
   rw[C3,ai λn=>n.1 rfl];rfl
  rw[this];exact h
 .rw[kr g,Sl,vG,ai k]at h;rw[o9,kr g,Sl,vG,aj rfl];exact h
def o9.done {d:List Int}{left:List Nat}{a b:List (List Nat)}{c:Nat}(h:o9 d left a b c)(e:¬c<left.length):b=a:=by
 unfold o9 at h;rw[kr<|by omega,Sl,vG,aj rfl]at h;exact h
def N7(b:List Int)(a:List<|List Nat):∀f p,cE b a (f+1) p=match ig b a ((cE b a f p).getLastD 0)with
  |none=>cE b a f p
  |some k=>cE b a f p++a.getD k []
 |0,p=>by
  rw[cE];cases h:ig b a (p.getLastD 0)<;>simp only[cE,h]
 |f+1,p=>by
  rw[cE];cases h:ig b a (p.getLastD 0)with
  |none=>simp only[cE,h]
  |some k=>
   simp only;rw[N7 b a f<|p++a.getD k []];rw[show cE b a (f+1) p=cE b a f (p++a.getD k [])by rw[cE,h]]
def nP {b:List Int}{c:List (List Nat)}{a:Nat}{p:List Nat}(h:ig b c ((cE b c a p).getLastD 0)=none):∀d,cE b c (a+d) p=cE b c a p
 |0=>rfl
 |d+1=>by
  rw[<-pH,N7,nP h d,h]
def ajv {c:List Int}{b:List (List Nat)}{a k:Nat}{p:List Nat}(h:ig c b ((cE c b a p).getLastD 0)=some k):cE c b (a+1) p=cE c b a p++b.getD k []:=by
 rw[N7,h]
def ajx {c:List Int}{d:List (List Nat)}(h:l9 c.length d)(f:Nat){r:List Nat}(b:r∈d)(g:ia c r=true):(cE c d f r).Nodup:=
 have key:∀(l:List<|List Nat),(l.flatMap<|cE c d f).Nodup->∀r∈l,(cE c d f r).Nodup:=by
  intro l
  induction l with
  |nil=>intro _ r b;cases b
  |cons a l ih=>
   intro e r b;rw[xP,GR]at e;rcases fW.1 b with rfl|b
   .exact e.1
   .exact ih e.2.1 r b
 key _ (af1 h f) r (tQ.2 ⟨b,g⟩)
def V5 {b:List Int}{c:List (List Nat)}{a k:Nat}(h:ig b c a=some k):k<c.length/\aU (b.getD a 0)=true/\(c.getD k []).headD 0=mt b a:=by
 unfold ig at h;split at h
 .rename_i f;obtain⟨d,e⟩:=FX _ _ h;exact⟨d,f,e⟩
 .cases h
def N8 {a:List Int}{c:List (List Nat)}(h:l9 a.length c){r:List Nat}(d:r∈c):∀f,∀p∈cE a c f r,p<a.length
 |0=>h.lt r d
 |f+1=>by
  rw[N7];cases hn:ig a c ((cE a c f r).getLastD 0)with
  |none=>exact N8 h d f
  |some k=>
   intro p b;rcases jL.1 b with b|b
   .exact N8 h d f p b
   .exact h.lt _ (dG (V5 hn).1) p b
def KH:∀(l:List Nat)(n:Nat),l.Nodup->(∀a∈l,a<n)->l.length<=n
 |[],n,_,_=>by simp
 |a::l,0,_,h=>by have:=h a (by simp);omega
 |a::l,n+1,hn,h=>by
  have ih:=KH ((a::l).erase n) n (hn.erase n) (λb c=>by
   have f:=h b<|ah3 c;have g:b≠n:=λe=>by subst e;exact(ahQ hn) c
   omega)
  by_cases d:n∈a::l
  .rw[ah1 d]at ih;omega
  .rw[ahX d]at ih;omega
def oV {a:List Int}{b:List (List Nat)}(h:l9 a.length b)(f:Nat){r:List Nat}(c:r∈b)(d:ia a r=true):(cE a b f r).length<=a.length:=
 KH _ _ (ajx h f c d) (N8 h c f)
structure Az(w:World)(lb gt gm n ct cm:Nat)(r c l:Value)(p:Int)(cs:List Int):Prop where
 cell:w.heap[lb]? =some (.cells #[r,.slice (some ⟨gt,0,none⟩) n ct,c,l,.slice (some ⟨gm,0,none⟩) n cm,.int .i64 p] 141 (0,0))
 tb:bI w gt 0 cs
 ms:bI w gm 0<|ny cs
 len:cs.length=n
def Az.below {w j:World}{i g f n e b:Nat}{r c l:Value}{p:Int}{d:List Int}(h:Az w i g f n e b r c l p d)(a:Below w.heap.size w j):Az j i g f n e b r c l p d:=
 ⟨bq a h.cell,h.tb.below a,h.ms.below a,h.len⟩
def Fg(a:List Int)(i:Nat):Int:=if(ny a).getD i 0= -1 then(a.length:Int)else(ny a).getD i 0
def F9 {a:List Int}{i:Nat}(b:i<a.length)(h:aU (a.getD i 0)=true):Fg a i=(mt a i:Int):=by
 unfold Fg;rw[VT b h];have:=um a i<|gF b;by_cases c:mt a i<a.length
 .rw[aj c,ai<|by omega]
 .rw[ai c,aj rfl];omega
def O4(w:World)(b k d n j g:Nat)(r c l:Value)(p:Int)(a:List Int)(h:Az w b k d n j g r c l p a)(i:Nat)(o:i<n):
  Calls prog 236 #[.pointer<|some ⟨b,0,none⟩,.int .i64 i] w λe t=>e= .returned (.int .i64<|Fg a i)/\t=w:=by
 have u:w.cell? ⟨b,1,none⟩=some (.slice (some ⟨k,0,none⟩) n j):=az h.cell 1;have v:w.cell? ⟨b,4,none⟩=some (.slice (some ⟨d,0,none⟩) n g):=az h.cell 4;have x:w.cell? ⟨d,i,none⟩=some (.int .i64<|(ny a).getD i 0):=by
  have:=h.ms i (by rw[aei,h.len];exact o);simpa using this
 have q:(i:Int)<(n:Int):=by omega
 unfold Fg;rw[h.len];generalize(ny a).getD i 0=m at*;clear h;by_cases f:m= -1
 .subst f;rw[aj rfl];go_enter func236,ntmps236;go_wp2;go_ret;exact⟨rfl,rfl⟩
 .rw[ai f];have s:(m== -1)=false:=by simpa using f
  go_enter func236,ntmps236;go_wp2;go_ret;exact⟨rfl,rfl⟩
def ao2(b:List Int)(a:Nat):∀f i,¬i<a->qF b a f i=0
 |0,_,_=>rfl
 |f+1,i,h=>by rw[qF,ai h]
def Wz(b:List Int)(a:Nat):∀f i,qF b a f i=0∨qF b a f i=1
 |0,_=> .inl rfl
 |f+1,i=>by
  rw[qF];split
  .split
   .exact .inl rfl
   .split
    .exact .inr rfl
    .split
     .exact Wz b a f _
     .exact Wz b a f _
  .exact .inl rfl
def EY(w:World)(u v N n C K:Nat)(r c l:Value)(p:Int)(d:List Int)(h:Az w u v N n C K r c l p d)(hn:n<=1000)(j b f:Nat)(ad:b<=n)(H:j<=n+1)(Z:n+1 - j<=f):
  Calls prog 199 #[.pointer<|some ⟨u,0,none⟩,.int .i64 j,.int .i64 b] w λe I=>e= .returned (.int .i64<|qF d b f j)/\I=w:=by
 have y:Hid (∀i:Nat,i<n->Calls prog 236 #[.pointer<|some ⟨u,0,none⟩,.int .i64 i] w λe I=>e= .returned (.int .i64<|Fg d i)/\I=w):=λi hi=>O4 w u v N n C K r c l p d h i hi
 have c1:w.cell? ⟨u,1,none⟩=some (.slice (some ⟨v,0,none⟩) n C):=az h.cell 1;have T:Hid (∀k:Nat,k<n->w.cell? ⟨v,k,none⟩=some (.int .i64<|d.getD k 0)):=λk Q=>by
  have:=h.tb k (by rw[h.len];exact Q);simpa using this
 have A:=ah h.len;obtain⟨P,F⟩:=ac<|qF d b f j;rw[<-F];have g:=ah F.symm;clear h F;go_enter func199,ntmps199;go_wp2;go_loopg [7] (n+1 - j) (λM kv W=>∃(k o:Nat),k<=n+1/\M=n+1 - k/\M<=o/\kv= .int .i64 k/\W=w/\qF d b o k=P);exact⟨j,f,H,rfl,Z,rfl,rfl,g.out⟩;obtain⟨k,o,Q,rfl,uX,rfl,Y,a⟩:=hrel;have G:=Y.symm;subst G;clear g;by_cases s:k<b
 .obtain⟨f2,rfl⟩:∃f2,o=f2+1:=⟨o - 1,by omega⟩
  rw[qF,aj s]at a;have m:k<n:=by omega
  have ck:=T.out k m;have J:=ah<|y.out k m;have S:Hid (aU (d.getD k 0)=true->Fg d k=(mt d k:Int)/\k<=mt d k/\mt d k<=n):=λhh=>⟨F9 (by rw[A.out];exact m) hh,by have:=um d k (by rw[A.out];omega);rw[A.out]at this;exact this⟩
  have t:(k:Int)<(b:Int):=by omega
  generalize d.getD k 0=q at*;by_cases x:q=0
  .rw[aj x]at a;subst x;have g:=ah a;clear a;go_wp2;go_ret;exact⟨dM g.out,rfl⟩
  .rw[ai x]at a;have U:=ae x;by_cases D:q=1
   .rw[aj (.inl D)]at a;subst D;have g:=ah a;clear a;go_wp2;go_ret;exact⟨dM g.out,rfl⟩
   .have V:=ae D;by_cases E:q=2
    .rw[aj (.inr E)]at a;subst E;have g:=ah a;clear a;go_wp2;go_ret;exact⟨dM g.out,rfl⟩
    .rw[ai<|by omega]at a;have X:=ae E;cases bJ:aU q
     .rw[ai<|by rw[bJ];decide]at a;have g:=ah a;have B:=ah bJ;clear a bJ;go_wp2_with fail;refine(nY q _).mono ?_;rintro L R ⟨rfl,hx⟩;subst hx;rw[B.out];go_wp2;go_roundg (n+1 - (k+1));exact⟨k+1,f2,by omega,rfl,by omega,by go_num,rfl,g.out⟩;omega
     .rw[aj bJ]at a;have g:=ah a;have B:=ah bJ;obtain⟨O,aa,ab⟩:=S.out bJ;rw[O]at J;generalize mt d k=z at*;clear a bJ O;go_wp2_with fail;refine(nY q _).mono ?_;rintro L R ⟨rfl,hx⟩;subst hx;rw[B.out];go_wp2_with fail;refine J.out.mono ?_;rintro L R ⟨rfl,hx⟩;subst hx;go_wp2;go_roundg (n+1 - (z+1));exact⟨z+1,f2,by omega,rfl,by omega,by go_num,rfl,g.out⟩;omega
 .have g:Hid ((0:Int)=P):=by show _=_;rw[<-a,ao2 _ _ _ _ s]
  have t:¬(k:Int)<(b:Int):=by omega
  clear a;go_wp2;go_ret;exact⟨dM g.out,rfl⟩
def amY(w:World)(s g j A n t y:Nat)(r c l:Value)(p:Int)(a:List Int)(h:Az w g j A n t y r c l p a)(J:n<=1000)(M:w.cell? ⟨s,0,none⟩=some (.pointer<|some ⟨g,0,none⟩))(_hs:s<w.heap.size)(i:Nat)(u:i<n)(D:a.getD i 0=18∨a.getD i 0=19∨a.getD i 0=20):
  Calls prog 205 #[.pointer<|some ⟨s,0,none⟩,.int .i64 i] w λe o=>e= .returned (.int .i64 (if a.getD i 0=18 then 0 else if a.getD i 0=19 then 1 else sL a i))/\Below w.heap.size w o:=by
 have K:w.cell? ⟨g,1,none⟩=some (.slice (some ⟨j,0,none⟩) n t):=az h.cell 1;have L:w.cell? ⟨j,i,none⟩=some (.int .i64<|a.getD i 0):=by
  have:=h.tb i (by rw[h.len];exact u);simpa using this
 have I:(i:Int)<(n:Int):=by omega
 have G:=ah h;have x:aU (a.getD i 0)=true:=by rcases D with e|e|e<;>rw[e]<;>rfl
 have b:Fg a i=(mt a i:Int):=F9 (by rw[h.len];exact u) x;have f:=um a i (by rw[h.len];omega);rw[h.len]at f;have v:qF a (mt a i) (n+1) (i+1)=sL a i:=ala (by rw[h.len];exact u) x (n+1) (by omega);have F:Hid (∀W,Below w.heap.size w W->Calls prog 199 #[.pointer<|some ⟨g,0,none⟩,.int .i64<|(i:Int)+1,.int .i64<|mt a i] W λe o=>e= .returned (.int .i64<|sL a i)/\o=W):=λW B=>by
  rw[<-v];have:=EY W g j A n t y r c l p a (h.below B) J (i+1) (mt a i) (n+1) f.2 (by omega) (by omega);rw[Int.natCast_add]at this;exact this
 have E:Hid (∀W,Below w.heap.size w W->Calls prog 236 #[.pointer<|some ⟨g,0,none⟩,.int .i64 i] W λe o=>e= .returned (.int .i64<|mt a i)/\o=W):=λW B=>by
  rw[<-b];exact O4 W g j A n t y r c l p a (h.below B) i u
 have H:sL a i=0∨sL a i=1:=by rw[<-v];exact Wz _ _ _ _
 clear h x b f v G;generalize sL a i=d at*;generalize mt a i=z at*;generalize a.getD i 0=q at*;rcases D with rfl|rfl|rfl
 .rw[aj rfl];go_enter func205,ntmps205;go_wp2;go_ret;exact⟨rfl,aA _ _⟩
 .rw[ai<|by decide,aj rfl];go_enter func205,ntmps205;go_wp2;go_ret;exact⟨rfl,aA _ _⟩
 .rw[ai<|by decide,ai<|by decide];have m:d%2=d:=by omega
  have k:0<=d:=by omega
  have C:Hid (d%2=d/\0<=d):=⟨m,k⟩
  clear m k H;go_enter func205,ntmps205;go_wp2_with fail;go_quiet(first
   |(go_at_call 236;refine BH (E.out _ ?_);exact gH (aA _ _) _)
   |(go_at_call 199;refine BH (F.out _ ?_);exact gH (aA _ _) _)
   |(go_at_call 96;refine BH (C2 d _ C.out.2)))
  go_wp2;go_ret;exact⟨dM C.out.1,gH (aA _ _) _⟩
