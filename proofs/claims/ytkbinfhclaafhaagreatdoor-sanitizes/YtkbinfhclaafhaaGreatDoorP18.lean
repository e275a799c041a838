import Derived.Test.YtkbinfhclaafhaaGreatDoorP17
namespace Go.Proofs.YtkbinfhclaafhaaGreatDoor
open Go.RowKit
open Go.Proofs.Tryz
set_option maxRecDepth 100000
set_option maxHeartbeats 32000000
set_option linter.all false
section
attribute [local go_sem ↓] Go.wp_at_zero Go.wp_at_succ
def afB(w:World):Calls prog 86 #[] w λe a=>∃g,e= .returned (.slice (some ⟨g,0,none⟩) 10 10)/\(∀k,k<10->a.cell? ⟨g,k,none⟩=some (.func (.func<|qG k) #[] #[]))/\w.heap.size<=g/\g<a.heap.size/\Below w.heap.size w a:=by
 go_enter func86,ntmps86;go_wp2;go_ret;refine⟨_,rfl,λk b=> ?_,au _,by simp,(aA _ _).alloc (au _) _⟩
 match k,b with
 |0,_=>simp[qG]
 |1,_=>simp[qG]
 |2,_=>simp[qG]
 |3,_=>simp[qG]
 |4,_=>simp[qG]
 |5,_=>simp[qG]
 |6,_=>simp[qG]
 |7,_=>simp[qG]
 |8,_=>simp[qG]
 |9,_=>simp[qG]
def aiJ(al:∀(W:World)(L:LP)(ks ls:List Int),LX W L ks ls->L.n<=1000->(∀p,0<=ls.getD p 0/\ls.getD p 0<=1000)->(0<=L.p/\L.p<=1000)->
   Calls prog 87 #[.pointer<|some ⟨L.lb,0,none⟩] W λe o=>∃V b,e= .returned V/\zu o W.heap.size L ks ls V b/\b.map iR.at'=((cZ ls<|aQ L.cs).filter (ia L.cs)).map (cE L.cs (cZ ls<|aQ L.cs) L.n)/\Below W.heap.size W o)
  (s:ByteArray) (l:List Int) (d:Int) (w:World) (hs:s.size<=600) (hr:eZ s=some l) (hl:l≠[]) (aT:l.length<=1000) (ay:Br w) (aB:∀c∈l.map cls,0<=c/\c<=21) (az:∀(r:Int)(W:World),Below w.heap.size w W->Calls prog 66 #[.int .i32 r] W λe o=>e= .returned (.int .i64<|cls r)/\Below W.heap.size W o):
  Calls prog 55 #[.string s,.int .i64 d] w λe o=>∃g,e= .returned (.slice (some ⟨g,0,none⟩) l.length l.length)/\aY o w.heap.size 3 g l.length (iv<|gV l (l.map cls) d)/\Below w.heap.size w o:=by
 have aP:=ah al;clear al;have BS:=ah<|aev s l d w hs hr hl az;have lF:=ah ay;have LD:0<=gX (l.map cls) d/\gX (l.map cls) d<=1:=by rcases aeY (l.map cls) d with h|h<;>omega
 clear hs hr hl ay az;go_enter func55,ntmps55;go_wp2_with fail;refine BS.out.mono ?_;rintro ev w1 ⟨L,rfl,hX,OW,ao,an,KS,zG,aa⟩;clear BS;have Ni:Hid (∀c∈L.cs,0<=c/\c<=21):=by show∀c∈L.cs,_;rw[OW];exact aB
 have hp:0<=L.p/\L.p<=125:=by rw[KS];omega
 have HEq:Hid (gV l (l.map cls) d=gV L.rs L.cs d/\L.p=gX L.cs d/\l.length=L.n/\w.heap.size=L.B):=⟨by rw[ao,OW],by rw[OW];exact KS,an.symm,zG.symm⟩
 have Lt:L.n<=1000:=by omega
 have J:L.cs.length=L.n:=hX.len;have YE:Hid (Calls prog 85 #[.pointer<|some ⟨L.lb,0,none⟩] w1 λe o=>e= .returned (.tuple #[])/\LX o L (kP L.cs L.p) (bh L.cs L.p)/\Below L.B w1 o):=aqN w1 L hX (by rw[zG];exact aa.size) hp Lt;have aD:Hid (Below L.B w w1):=by show Below _ _ _;rw[zG];exact aa
 clear hX OW ao an KS aa aB LD aT;go_wp2_with fail;refine YE.out.mono ?_;rintro ev t ⟨rfl,oU,aw⟩;clear YE;have bw:Below L.B w t:=aD.out.trans aw;have C:L.B<=t.heap.size:=by have:=bw.size;rw[<-HEq.out.2.2.2]at*;omega
 obtain⟨n,hn⟩:=ac L.n;have aV:=run_make_row' (P:=prog) 31 3 (.int .i64 0) 8 underlying31 Tryz.rL rfl .i64 .i64 n (by omega) (by omega);have c3:=oU.f3;rw[<-hn]at c3;have ax:Below t.heap.size t (t.alloc (.cells (madeCells #[.int .i64 0] n) 3)):=(aA _ _).alloc (au _) _;have zH:=oU.below ax;have kE:aY (t.alloc (.cells (madeCells #[.int .i64 0] n) 3)) L.B 3 t.heap.size n (List.replicate n (.int .i64 0)):=aY.made C (by omega);have dm:Below L.B w (t.alloc (.cells (madeCells #[.int .i64 0] n) 3)):=bw.alloc C _;have aX:(t.alloc (.cells (madeCells #[.int .i64 0] n) 3)).heap.size=t.heap.size+1:=by simp
 have dF:=ah oU.lt;have N4:=zH.f3;rw[<-hn]at N4;have K:=zH.rl;unfold aY at K;rw[<-hn]at K;obtain⟨G,kj,aG,E⟩:=Ti (P:=prog) (w:=t.alloc (.cells (madeCells #[.int .i64 0] n) 3)) (sT:=31) (e:=3) (ty:=3) (g:=t.heap.size) underlying31 Tryz.Ql (aY.heap kE) (by simp) K (λv hv=>by simp only[iv,jM]at hv;obtain⟨x,_,rfl⟩:=hv;rfl);have Z:∀g,L.has g->g≠t.heap.size:=λg hg=>by have:=oU.lt g hg;omega
 have ar:LX G L (kP L.cs L.p) (bh L.cs L.p):=zH.same E.size λg hg=>E.block g (zH.lt g hg) λe=>Z g hg<|aJ e
 have rG:aY G L.B 3 t.heap.size n (iv<|bh L.cs L.p):=aY.PT aG C (by rw[nZ,Ya,hn];exact J) (by omega);have Y:Below L.B w G:=dm.grown E (by omega) (λk hk=>by cases hk;exact C);have uj:t.heap.size<G.heap.size:=by have:=E.size;omega
 have ai:Br G:=lF.out.below (by have:=Y;rw[<-HEq.out.2.2.2]at this;exact this);have O:Hid (FS G L (kP L.cs L.p) (bh L.cs L.p) t.heap.size (bh L.cs L.p)/\Below L.B w G/\t.heap.size<G.heap.size/\Br G):=⟨⟨ar,by rw[<-hn];exact rG,Z⟩,Y,uj,ai⟩
 have Nv:=ah C;have U:=ah hn;have aZ:n<=1000:=by omega
 clear oU aw bw ax zH kE dm aX C aD hn K aG E ar rG Y uj ai Z;obtain⟨i,aF⟩:=ac t.heap.size;have BZ:=ah<|afB G;go_wp2_with fail;rw[<-aF]at O dF Nv ⊢;clear aF c3 N4 aV kj;refine BZ.out.mono ?_;rintro ev A ⟨g,rfl,ak,bU,ae,bO⟩;clear BZ;have zD:=O.out.1.below bO;have kW:Below L.B w A:=O.out.2.1.trans (bO.mono<|by have:=O.out.2.2.1;have:=Nv.out;omega);have aj:=O.out.2.2.2.below bO;have jg:i<A.heap.size:=by have:=O.out.2.2.1;have:=bO.size;omega
 have aE:g≠i:=by have:=O.out.2.2.1;omega
 have Nr:Hid (Calls prog 87 #[.pointer<|some ⟨L.lb,0,none⟩] A λe o=>∃V b,e= .returned V/\zu o A.heap.size L (kP L.cs L.p) (bh L.cs L.p) V b/\b.map iR.at'=((cZ (bh L.cs L.p)<|aQ L.cs).filter (ia L.cs)).map (cE L.cs (cZ (bh L.cs L.p)<|aQ L.cs) L.n)/\Below A.heap.size A o):=
  aP.out A L _ _ zD.ln Lt (λp=>by have:=QB (cs:=L.cs) hp p;omega) (by omega)
 have H:Hid (R9 A.heap.size L i g):=⟨by have:=Nv.out;omega,jg,Nv.out,ae,aE,λx hx=>by have:=dF.out x hx;omega,by
  obtain⟨tt,fr,e⟩:=lF.out;have:=cJ e;rw[<-HEq.out.2.2.2];exact this⟩
 have H5:Hid (FS A L (kP L.cs L.p) (bh L.cs L.p) i (bh L.cs L.p)/\(∀k,k<10->A.cell? ⟨g,k,none⟩=some (.func (.func<|qG k) #[] #[]))/\Br A/\Below L.B w A):=⟨zD,ak,aj,kW⟩
 clear O zD kW aj jg aE ak bU ae bO;go_wp2_with fail;refine Nr.out.mono ?_;rintro ev W6 ⟨V,b,rfl,hQ,D5,fC⟩;clear Nr;obtain⟨B,hB⟩:=ac A.heap.size;rw[<-hB]at hQ H;have ag:LV W6 w B L (kP L.cs L.p) (bh L.cs L.p) i g V b 0 (bh L.cs L.p):=⟨H5.out.1.below fC,λk hk=>cell_grown (r:=none) (G7 fC) (H5.out.2.1 k hk)<|by simp,hQ.row,λq F=>hQ.all q<|by simpa using F,H5.out.2.2.1.below fC,H5.out.2.2.2.trans<|fC.mono<|by have:=H.out.lo;omega⟩
 have Q7:=ah ag;have z:Hid (B<=W6.heap.size):=by show _<=_;rw[hB];exact fC.size
 have RH:=ah<|arb J D5;have xD:=ah hQ.ap;have aO:Hid (∀q∈b,tu L (bh L.cs L.p) q∈ij L.cs (bh L.cs L.p) (aQ L.cs) L.p):=λq F=>by
  rw[<-RH.out];exact jM.2 ⟨q,F,rfl⟩
 obtain⟨ra,rc,rfl⟩:=eH hQ.row;have Po:b.length<=1000:=by
  have h1:(b.map iR.at').length<=L.n:=by
   rw[D5,ja];refine bP (Ay _ _) ?_;have hR:=X8 L.cs L.p;have h2:=KH (cZ (bh L.cs L.p)<|aQ L.cs).flatten L.cs.length hR.ur (λa ha=>by obtain⟨r,hr,ha⟩:=Su.1 ha;exact hR.lt r hr a ha);have h3:∀l:List<|List Nat,(∀r∈l,r≠[])->l.length<=l.flatten.length:=by
    intro l
    induction l with
    |nil=>intro _;simp
    |cons a l ih=>
     intro hl;have h1:=ih (λr hr=>hl r<|by simp[hr]);have h2:0<a.length:=jK.2 (hl a<|by simp);simp only[eJ,Ax,bH];omega
   have:=h3 _ hR.ne;omega
  rw[ja]at h1;omega
 obtain⟨N,hN⟩:=ac b.length;rw[<-hN]at Q7 Po ⊢;have rR:=ah hN.symm;clear hQ D5 fC hB ag H5 hN;go_wp2;go_loopg [33] N (λgk iv W=>∃(j:Nat),j<=N/\gk=N - j/\iv= .int .i64 j/\B<=W.heap.size/\LV W w B L (kP L.cs L.p) (bh L.cs L.p) i g (.slice ra N rc) b j ((((b.take j).map (tu L<|bh L.cs L.p)).flatMap (oz L.rs<|kP L.cs L.p)).foldl iU (bh L.cs L.p)));exact⟨0,by omega,rfl,rfl,z.out,Q7.out⟩;clear Q7 z;obtain⟨j,hj,rfl,rfl,S,m⟩:=hrel;by_cases aU:j<N
 .have aH:j<b.length:=by rw[rR.out];exact aU
  obtain⟨q,F⟩:∃q,b[j]? =some q:=⟨_,aM aH⟩
  have u:=m.row;rw[rR.out]at u;obtain⟨rg,MJ,aL,_,_,_⟩:=gI u (by omega);have FL:ra=some ⟨rg,0,none⟩:=(show ra=some ⟨rg,0,none⟩/\rc=MJ by simpa using aL).1;subst FL;have c1:wr.cell? ⟨rg,j,none⟩=some (.pointer<|some ⟨q.sb,0,none⟩):=by
   rw[di u j<|by omega,jq,F];rfl
  have M:=m.sq q (by rw[drop_cons F];exact NJ);obtain⟨f,qC⟩:=ac<|tu L (bh L.cs L.p) q;have ab:f∈ij L.cs (bh L.cs L.p) (aQ L.cs) L.p:=by rw[qC];exact aO.out q<|NK F
  obtain⟨s1,s2,_,_,s5⟩:=Qk Ni.out hp ab;have D:f.at'=q.at':=by rw[qC];rfl
  have mG:0<=f.level:=by rw[qC];exact(QB hp _).1
  have mF:zw wr B L f.level f.aq f.ay (bB (kP L.cs L.p) q.at') q (bB (kP L.cs L.p) q.at'):=by rw[qC];exact M.sqs
  have aN:(b.take<|j+1).map (tu L<|bh L.cs L.p)=(b.take j).map (tu L<|bh L.cs L.p)++[f]:=by
   rw[uM,F,fB,qC];rfl
  have R:((b.take j).map (tu L<|bh L.cs L.p)).Sublist (ij L.cs (bh L.cs L.p) (aQ L.cs) L.p):=by
   rw[<-RH.out];exact(aih j b).map _
  have ad:=aoT Ni.out L.rs hp _ R;have RR:Hid (LV wr w B L (kP L.cs L.p) (bh L.cs L.p) i g (.slice (some ⟨rg,0,none⟩) N rc) b (j+1)<|(((b.take j).map (tu L<|bh L.cs L.p)).flatMap (oz L.rs<|kP L.cs L.p)).foldl iU (bh L.cs L.p)):=⟨m.fs,m.rl,m.row,λq' aW=>m.sq q'<|by rw[drop_cons F];exact xQ _ aW,m.br,m.hb⟩
  have cO:=ah mF;have I:Hid (B<=q.gc/\q.m<=1000/\0<q.m/\q.at'.length=q.m/\(∀q'∈b.drop (j+1),Ez q q')/\(∀p∈q.at',p<L.n)/\B<=q.gp/\B<=q.sb):=by
   refine⟨(M.sq.row.lt q.gc rfl).1,?_,M.pos,M.len,aj9 xD.out F,λp LD=>by rw[<-J];exact(s5 p<|by rw[D];exact LD).1,M.lo.1,M.lo.2⟩;have h1:=KH q.at' L.n ?_ λp LD=>by rw[<-J];exact(s5 p<|by rw[D];exact LD).1
   .rw[M.len]at h1;omega
   .rw[<-D];have h2:=Xg L.cs L.p;exact h2.sublist<|by rw[J1];exact ZT<|jM.2 ⟨f,ab,rfl⟩
  have p7:Hid (((((b.take<|j+1).map (tu L<|bh L.cs L.p)).flatMap (oz L.rs<|kP L.cs L.p)).foldl iU (bh L.cs L.p))=(oz L.rs (kP L.cs L.p) f).foldl iU ((((b.take j).map (tu L<|bh L.cs L.p)).flatMap (oz L.rs<|kP L.cs L.p)).foldl iU (bh L.cs L.p))):=by
   show _=_;rw[aN,Sk,Ci];simp
  have JT:Hid (oz L.rs (kP L.cs L.p) f=jm q.at' f.level (Qh f.level f.aq f.ay (bB (kP L.cs L.p) q.at') (bB L.rs q.at') 10)):=by
   show _=_;rw[oz,<-apV,D]
  have Ri:Hid (∀p,0<=((((b.take j).map (tu L<|bh L.cs L.p)).flatMap (oz L.rs<|kP L.cs L.p)).foldl iU (bh L.cs L.p)).getD p 0/\((((b.take j).map (tu L<|bh L.cs L.p)).flatMap (oz L.rs<|kP L.cs L.p)).foldl iU (bh L.cs L.p)).getD p 0<=1000):=λp=>by have:=ad p;omega
  have aI:(bB (kP L.cs L.p) q.at').length=q.m:=by rw[Cv];exact I.out.2.2.2.1
  have CB:(j:Int)<(N:Int):=by omega
  have z:=ah S;clear aH u aL M ab s5 mF aN R ad m S;generalize((((b.take j).map (tu L<|bh L.cs L.p)).flatMap (oz L.rs<|kP L.cs L.p)).foldl iU (bh L.cs L.p))=T at*;generalize oz L.rs (kP L.cs L.p) f=tp at*;obtain⟨k0,af⟩:=ac<|bB (kP L.cs L.p) q.at';rw[<-af]at cO JT aI;clear af F qC D;go_wp2;go_loopg [39] 10 (λgk iv W=>∃k:Nat,k<=10/\gk=10 - k/\iv= .int .i64 k/\B<=W.heap.size/\LV W w B L (kP L.cs L.p) (bh L.cs L.p) i g (.slice (some ⟨rg,0,none⟩) N rc) b (j+1) T/\zw W B L f.level f.aq f.ay k0 q (Qh f.level f.aq f.ay k0 (bB L.rs q.at') k));exact⟨0,by omega,rfl,rfl,z.out,RR.out,cO.out⟩;clear RR cO z c1;obtain⟨k,hk,rfl,rfl,S,m,hS⟩:=hrel;by_cases aK:k<10
  .have ck:=m.rl k aK;have aS:=apU k;have HR:=ah<|apT hS m.br I.out.2.1 I.out.2.2.1 mG s1 s2 aI k;have HV:=ah m;have Yy:=ah<|Ba hS.sq.row;have aR:(k:Int)<10:=(by omega);have z:=ah S;clear m hS S;generalize qG k=fk at*;go_wp2_with fail;refine HR.out.mono ?_;rintro ev W7 ⟨rfl,aq,X⟩;have RT:Hid (LV W7 w B L (kP L.cs L.p) (bh L.cs L.p) i g (.slice (some ⟨rg,0,none⟩) N rc) b (j+1) T):=HV.out.rule H.out Yy.out I.out.1 I.out.2.2.2.2.1 X (by have:=H.out.lo;have:=z.out;omega);have RD:=ah aq;have R7:Hid (B<=W7.heap.size):=(by have:=X.size;have:=z.out;show _<=_;omega);clear aq X HR HV Yy z ck aS;go_wp2;go_roundg (10 - (k+1));exact⟨k+1,by omega,rfl,by go_num,R7.out,RT.out,RD.out⟩;omega
  .obtain rfl:k=10:=(by omega);have aR:¬((10:Nat):Int)<10:=(by omega);have YI:Hid (Calls prog 88 #[.pointer<|some ⟨q.sb,0,none⟩,.slice (some ⟨i,0,none⟩) n n] wr λe o=>e= .returned (.tuple #[])/\bu o L.B i n n (tp.foldl iU T)/\wr.grownBy o (some i)):=by
    have:=aqO wr B q.sb q.gc q.m q.cc q.gp q.op q.cp _ _ f.level f.aq f.ay _ q.at' L.B i n T hS.sq hS.pl I.out.2.2.2.1 (by rw[U.out];exact m.fs.row) (by have:=H.out.TT;have:=I.out;omega) (by rw[U.out];exact I.out.2.2.2.2.2.1) I.out.2.1 mG Ri.out;rw[<-JT.out]at this;exact this
   have HV:=ah m;have z:=ah S;clear m hS S;go_wp2_with fail;refine YI.out.mono ?_;rintro ev W7 ⟨rfl,ap,X⟩;have RT:Hid (LV W7 w B L (kP L.cs L.p) (bh L.cs L.p) i g (.slice (some ⟨rg,0,none⟩) N rc) b (j+1)<|tp.foldl iU T):=HV.out.impl H.out (by rw[<-U.out];exact ap) X (by have:=H.out.lo;have:=z.out;omega);have R7:Hid (B<=W7.heap.size):=(by have:=X.size;have:=z.out;show _<=_;omega);clear ap X YI HV z;go_wp2;go_roundg (N - (j+1));exact⟨j+1,by omega,rfl,by go_num,R7.out,by rw[p7.out];exact RT.out⟩;omega
 .obtain rfl:j=N:=by omega
  have CB:¬(j:Int)<(j:Int):=by omega
  have TY:=m.fs;have HB:=ah m.hb;have EO:Hid (L.B<=wr.heap.size):=by have:=H.out.lo;show _<=_;omega
  have Q:(b.take j).map (tu L<|bh L.cs L.p)=ij L.cs (bh L.cs L.p) (aQ L.cs) L.p:=by
   rw[ku<|by rw[rR.out];exact au _,RH.out]
  rw[Q]at TY;have aC:=ano (cs:=L.cs) (para:=L.p) Ni.out L.rs d HEq.out.2.1 hp;generalize((ij L.cs (bh L.cs L.p) (aQ L.cs) L.p).flatMap (oz L.rs<|kP L.cs L.p)).foldl iU (bh L.cs L.p)=T at*;have xI:Hid (Calls prog 89 #[.pointer<|some ⟨L.lb,0,none⟩,.slice (some ⟨i,0,none⟩) L.n L.n] wr λe o=>e= .returned (.tuple #[])/\FS o L (kP L.cs L.p) (bh L.cs L.p) i (zB L.p<|l1 L.p L.cs T)/\wr.grownBy o (some i)):=aqP wr L _ _ i T TY Lt Ni.out;rw[<-U.out]at xI;rw[aC]at xI;clear TY Q aC m S;go_wp2_with fail;refine xI.out.mono ?_;rintro ev W8 ⟨rfl,am,jf⟩;have Zm:Hid (aY W8 L.B 3 i n (iv<|gV L.rs L.cs d)/\Below L.B w W8):=⟨by have:=am.row;rw[<-U.out]at this;exact this,HB.out.grown jf EO.out λy hy=>by cases hy;exact H.out.TS⟩
  clear xI am jf;go_wp2;go_ret;exact⟨i,by rw[HEq.out.2.2.1,<-U.out];rfl,by rw[HEq.out.1,HEq.out.2.2.1,HEq.out.2.2.2,<-U.out];exact Zm.out.1,by rw[HEq.out.2.2.2];exact Zm.out.2⟩
end
section
attribute [local go_sem ↓] Go.wp_at_zero Go.wp_at_succ
def Vs {w:World}{b c:Nat}{l:List Int}(h:bI w b c l)(j:Nat)(u:Value)(d:(iv l)[j]? =some u):w.cell? ⟨b,c+j,none⟩=some u:=by
 have a:j<l.length:=by have:=(r7.1 d).1;rwa [nZ]at this
 rw[h j a,<-d];simp[iv,aO,aM a]
def Pf {l:List Int}:∀u∈iv l,u.oneCell'=true:=λu a=>by
 simp only[iv,jM]at a;obtain⟨x,_,rfl⟩:=a;rfl
def ajh(w:World)(L:LP)(Y t:List Int)(h:LX w L Y t)(hn:L.n<=1000)(bi:∀p,0<=t.getD p 0/\t.getD p 0<=1000)(hp:0<=L.p/\L.p<=1000):
  Calls prog 87 #[.pointer<|some ⟨L.lb,0,none⟩] w λe o=>∃av S,e= .returned av/\zu o w.heap.size L Y t av S/\S.map iR.at'=((cZ t<|aQ L.cs).filter (ia L.cs)).map (cE L.cs (cZ t<|aQ L.cs) L.n)/\Below w.heap.size w o:=by
 obtain⟨iI,fP,fQ,fR,fS⟩:=gu Tryz.rL;obtain⟨iP,bg,L6,L8,L9⟩:=gu Tryz.amJ;have an:=h.len;have HX:Hid (∀W,Below w.heap.size w W->LX W L Y t):=λW A=>h.below A
 have T9:l9 L.n (cZ t<|aQ L.cs):=by have:=WY t<|aQ L.cs;rw[h.kl.2]at this;exact this
 have Ra:Hid (∀k,k<(jh (aQ L.cs) L.n).length->(jh (aQ L.cs) L.n).getD k 0<L.n):=λk hk=>(IQ<|dG hk).1
 have bz:=VK (aQ L.cs) L.n;have ar:Below w.heap.size w (w.alloc (.cells #[.pointer<|some ⟨L.lb,0,none⟩] 136)):=(aA _ _).alloc (au _) _;have BZ:Hid (Calls prog 154 #[.pointer<|some ⟨L.lb,0,none⟩] (w.alloc (.cells #[.pointer<|some ⟨L.lb,0,none⟩] 136)) λe o=>∃v g i,e= .returned v/\Dv o (w.alloc (.cells #[.pointer<|some ⟨L.lb,0,none⟩] 136)).heap.size v g (jh (aQ L.cs) L.n) i/\i.map (dQ<|jh (aQ L.cs) L.n)=cZ t (aQ L.cs)/\Below (w.alloc (.cells #[.pointer<|some ⟨L.lb,0,none⟩] 136)).heap.size (w.alloc (.cells #[.pointer<|some ⟨L.lb,0,none⟩] 136)) o):=aqh _ L Y t (h.below ar) hn;have bk:=@iH prog;have Uu:(w.alloc (.cells #[.pointer<|some ⟨L.lb,0,none⟩] 136)).heap[w.heap.size]? =some (.cells #[.pointer<|some ⟨L.lb,0,none⟩] 136 (0,0)):=oD;have Yw:=ah Uu;have fG:=ah ar;clear h ar Uu;generalize jh (aQ L.cs) L.n=left at*;obtain⟨R,hR⟩:=ac<|cZ t<|aQ L.cs;rw[<-hR]at BZ T9 ⊢;clear hR;have Gz:=ah T9;clear T9;go_enter func87,ntmps87;go_wp2_with fail;refine BZ.out.mono ?_;rintro ev s ⟨rv,g,i,rfl,dx,U',aw⟩;clear BZ;have bm:(w.alloc (.cells #[.pointer<|some ⟨L.lb,0,none⟩] 136)).heap.size=w.heap.size+1:=by simp
 have rE:Below w.heap.size w s:=fG.out.trans (aw.mono<|by omega);have ap:s.heap[w.heap.size]? =some (.cells #[.pointer<|some ⟨L.lb,0,none⟩] 136 (0,0)):=bq aw Yw.out;have aE:Dv s w.heap.size rv g left i:=⟨El dx.row<|by omega,dx.lf,dx.ok,λhn=>⟨bP (by omega) (dx.lt hn).1,(dx.lt hn).2⟩,dx.ty⟩
 have aL:SE ((s.alloc (.map #[] 0)).alloc (.cells #[.map<|some s.heap.size] 217)) w.heap.size w.heap.size (s.heap.size+1) s.heap.size g L rv left i 0:=by
  have al:Below s.heap.size s ((s.alloc (.map #[] 0)).alloc (.cells #[.map<|some s.heap.size] 217)):=((aA _ _).alloc (au _) _).alloc (by simp) _;have nj:((s.alloc (.map #[] 0)).alloc (.cells #[.map<|some s.heap.size] 217)).heap[s.heap.size+1]? =some (.cells #[.map<|some s.heap.size] 217 (0,0)):=by
   have:(s.alloc (.map #[] 0)).heap.size=s.heap.size+1:=(by simp);rw[<-this];exact oD
  refine⟨bq al ap,nj,?_,aE.below al⟩;have:(s.alloc (.map #[] 0)).heap[s.heap.size]? =some (.map #[] 0):=oD;exact bq ((aA _ _).alloc (au _) _) this
 have bw:Below w.heap.size w ((s.alloc (.map #[] 0)).alloc (.cells #[.map<|some s.heap.size] 217)):=(rE.alloc rE.size _).alloc (by simp;have:=rE.size;omega) _;obtain⟨ra,rc,rfl⟩:=eH dx.row;have uK:=ah aL;have aI:=ah bw;have xN:=ah U';have YU:=ah rE.size;have dS:=ah dx.ok;have a9:i.length<=1000:=by
  have K:=KH R.flatten L.n Gz.out.ur (λa ha=>by obtain⟨r,hr,ha⟩:=Su.1 ha;exact Gz.out.lt r hr a ha);have h2:R.length<=R.flatten.length:=by
   have:∀l:List<|List Nat,(∀r∈l,r≠[])->l.length<=l.flatten.length:=by
    intro l
    induction l with
    |nil=>intro _;simp
    |cons a l ih=>
     intro hl;have K:=ih (λr hr=>hl r<|by simp[hr]);have h2:0<a.length:=jK.2 (hl a<|by simp);simp only[eJ,Ax,bH];omega
   exact this R Gz.out.ne
  have h3:i.length=R.length:=by rw[<-U',ja]
  omega
 clear dx U' aw rE ap aE aL bw bm;obtain⟨O,ay⟩:=ac w.heap.size;obtain⟨Z,az⟩:=ac s.heap.size;obtain⟨mx,aB⟩:=ac<|s.heap.size+1;obtain⟨N,hN⟩:=ac i.length;go_wp2;generalize(s.alloc (.map #[] 0)).alloc (.cells #[.map<|some s.heap.size] 217)=W2 at*;have Zq:Hid (SE W2 w.heap.size O mx Z g L (.slice ra N rc) left i 0):=by rw[ay,aB,az,hN];exact uK.out
 have EO:Hid (w.heap.size<=Z):=by show _<=_;rw[az];exact YU.out
 rw[<-aB,<-ay,<-hN];rw[<-hN]at a9;have rR:=ah hN.symm;clear uK YU ay az aB hN bk Yw fG;go_loopg [18] N (λgk iv W=>∃k:Nat,k<=N/\gk=N - k/\iv= .int .i64 k/\Below w.heap.size w W/\SE W w.heap.size O mx Z g L (.slice ra N rc) left i k);exact⟨0,by omega,rfl,rfl,aI.out,Zq.out⟩;clear aI Zq;obtain⟨k,hk,rfl,rfl,A,z⟩:=hrel;by_cases ax:k<N
 .have B:k<i.length:=by rw[rR.out];exact ax
  have E:=z.r.row;rw[rR.out]at E;obtain⟨rg,MJ,aj,_,_,_⟩:=gI E (by omega);have FL:ra=some ⟨rg,0,none⟩:=by simpa using(show ra=some ⟨rg,0,none⟩/\rc=MJ by simpa using aj).1
  subst FL;have c1:wr.cell? ⟨rg,k,none⟩=some (o7 g<|i.getD k (0,0)):=by
   rw[di E k<|by omega,jq,aM B,aO,aM B];rfl
  have a0:=aiO (w:=wr.drew) B z.mp dS.out (by rw[xN.out];exact Gz.out);obtain⟨aN,aP⟩:=dS.out _ (dG (d:=(0,0)) B);have c2:=z.r.lf (i.getD k (0,0)).1 (by rw[gW];omega);rw[fZ,oh _ _ (by omega)]at c2;have c3:=z.m;have bW:Hid (SE (ChangeMaps.setBlock wr.drew Z (.map (lM g left (i.take<|k+1)).toArray (k+1))) w.heap.size O mx Z g L (.slice (some ⟨rg,0,none⟩) N rc) left i (k+1)):=(z.below (aA _ _).drew).store;have V:Hid (Below w.heap.size w<|ChangeMaps.setBlock wr.drew Z (.map (lM g left (i.take<|k+1)).toArray (k+1))):=yX A.drew EO.out _;have bh:(k:Int)<(N:Int):=by omega
  clear z A E aj;generalize ChangeMaps.setBlock wr.drew Z (.map (lM g left (i.take<|k+1)).toArray (k+1))=W3 at*;generalize i.getD k (0,0)=ab at*;obtain⟨a,b⟩:=ab;simp only[o7]at c1 a0 c2 aN aP;generalize left.getD a 0=hd at*;obtain⟨l,hl⟩:=ac<|b - a;rw[<-hl]at c1 a0;have aV:(0:Int)<(l:Int):=by omega
  clear hl aN aP;go_wp2;go_region;all_goals
   go_wp2;go_roundg (N - (k+1));exact⟨k+1,by omega,rfl,by go_num,V.out,bW.out⟩;omega
 .obtain rfl:k=N:=by omega
  have bh:¬(k:Int)<(k:Int):=by omega
  have V:=ah A;have HS:=ah z;clear A z;have bv:=jE func155 (by kernel_rfl) (by kernel_rfl);have aZ:i.take k=i:=ku (by rw[rR.out];exact au _);have tJ:Hid (∀(W:World),Below w.heap.size w W->SE W w.heap.size O mx Z g L (.slice ra k rc) left i k->∀J P m F I,0<m->m<=1000->W.cell? ⟨J,P+(m - 1),none⟩=some (.int .i64 ((I:Nat):Int))->I<L.n->Calls prog 155 #[.slice (some ⟨J,P,none⟩) m F,.pointer<|some ⟨mx,0,none⟩,.pointer<|some ⟨O,0,none⟩] W λe o=>e= .returned (vH g i<|ig L.cs R I)/\Below W.heap.size W o):=λW A z J P m F I K h2 h3 h4=>by
   have hm:=z.mp;rw[aZ,<-rR.out]at hm;have:=apX W L Y t (HX.out W A) O mx Z g J P m F I left i z.l z.m hm dS.out (by rw[xN.out];exact Gz.out) K h2 h3 h4;rw[xN.out]at this;exact this
  have Rx:Hid (l9 L.cs.length R):=by show l9 _ _;rw[an];exact Gz.out
  go_wp2;go_loopg [8,31] k (λgk av iv W=>∃(j:Nat)(S:List iR),j<=k/\gk=k - j/\iv= .int .i64 j/\Below w.heap.size w W/\SE W w.heap.size O mx Z g L (.slice ra k rc) left i k/\zu W w.heap.size L Y t av S/\S.map iR.at'=(((i.take j).map (dQ left)).filter (ia L.cs)).map (cE L.cs R L.n)/\S.length<=j);exact⟨0,[],by omega,rfl,rfl,V.out,HS.out,⟨gQ _ _ _ _,λq hq=>by simp at hq,.nil⟩,by simp,by simp⟩;clear V HS;obtain⟨j,S,hj,rfl,rfl,A,z,hQ,D5,bD⟩:=hrel;obtain⟨qa,qc,rfl⟩:=eH hQ.row;by_cases ax:j<k
  .have B:j<i.length:=(by rw[rR.out];exact ax);have E:=z.r.row;rw[rR.out]at E;obtain⟨rg,MJ,aj,_,_,_⟩:=gI E (by omega);have FL:ra=some ⟨rg,0,none⟩:=(by simpa using(show ra=some ⟨rg,0,none⟩/\rc=MJ by simpa using aj).1);subst FL;have c1:wr.cell? ⟨rg,j,none⟩=some (o7 g<|i.getD j (0,0)):=by
    rw[di E j<|by omega,jq,aM B,aO,aM B];rfl
   have C:=dS.out _ (dG (d:=(0,0)) B);have c2:=z.r.lf (i.getD j (0,0)).1 (by rw[gW];omega);rw[fZ,oh _ _ (by omega)]at c2;have c3:=z.l;have yh:left.getD (i.getD j (0,0)).1 0<L.n:=Ra.out _ (by omega);have CF:dQ left (i.getD j (0,0))∈R:=(by rw[<-xN.out];exact jM.2 ⟨_,dG B,rfl⟩);have ak:=arB (dQ left) i (0,0) j B;have aT:=z.r.lt (by rintro rfl;simp at C;omega);have aU:=z.r.ty (by rintro rfl;simp at C;omega);have CB:(j:Int)<(k:Int):=(by omega);have V:=ah A;have HS:=ah z;have HQ:=ah hQ;have Nn:=ah D5;have M:=(z7 C).2.2;have ag:=(z7 C).1;have bC:=(z7 C).2.1;clear z A E aj hQ D5;generalize i.getD j (0,0)=ab at*;obtain⟨a,b⟩:=ab;have ai:=afZ C;simp only[o7]at c1 c2 C yh M ag;have p7:=ah ak;have aS:=aiS L.cs (dQ left (a,b)) _ ag;have De:Hid (∀W,Below w.heap.size w W->Calls prog 157 #[.pointer<|some ⟨L.lb,0,none⟩,.int .i64 (left.getD a 0:Nat)] W λe o=>e= .returned (.bool (!(ia L.cs<|dQ left (a,b))))/\o=W):=λW hW=>by
    rw[aS,Bool.not_not];exact ali W L Y t (HX.out W hW) _ yh
   have za:=ah CF;have a4:=ah ai;have a7:left.getD (b - 1) 0<L.n:=Ra.out _ (by omega);have oJ:Hid (AB wr.drew w.heap.size wr.heap.size g a (b - a) (b - a)<|dQ left (a,b)):=by
    obtain⟨cs,hc⟩:=aU;refine⟨?_,⟨cs,_,hc⟩,aT.1,M,.inl rfl⟩;have:=(HS.out.below (aA _ _).drew).r.lf.sub b a (by rw[gW];exact C.2);rw[fZ,<-aez]at this;exact this
   have cL:wr.drew.cell? ⟨g,a+(b - a - 1),none⟩=some (.int .i64 ((left.getD (b - 1) 0:Nat):Int)):=by
    have:=(HS.out.below (aA _ _).drew).r.lf (b - 1) (by rw[gW];omega);rw[fZ,oh _ _ (by omega)]at this;rw[show a+(b - a - 1)=b - 1 by omega];exact this
   have Ar:=ah cL;obtain⟨l,hl⟩:=ac<|b - a;rw[<-hl]at c1 oJ Ar M;have aV:0<l:=(by omega);have bo:(0:Int)<(l:Int):=(by omega);have ap:l<=1000:=(by omega);clear ai aS CF aT aU ak cL C hl;generalize br:left.getD a 0=hd at*;generalize left.getD (b - 1) 0=bn at*;generalize dQ left (a,b)=r0 at*;go_wp2;cases hbg:ia L.cs r0
   .rw[hbg]at De;have HF:Hid (((((i.take<|j+1).map (dQ left)).filter (ia L.cs)).map (cE L.cs R L.n))=(((i.take j).map (dQ left)).filter (ia L.cs)).map (cE L.cs R L.n)):=by
     show _=_;rw[p7.out,rW,rX,hbg];simp
    go_region_held3 (λo=>o.cell? ⟨O,0,none⟩=some (.pointer<|some ⟨L.lb,0,none⟩)/\o.cell? ⟨g,a,none⟩=some (.int .i64 ((hd:Nat):Int))) (go_keep) (first|(go_at_call 157;refine(De.out _ V.out.drew).mono ?_;rintro ev wx ⟨rfl,rfl⟩))
    all_goals
     go_wp2;go_roundg (k - (j+1));exact⟨j+1,S,by omega,rfl,by go_num,V.out.drew,HS.out.below (aA _ _).drew,HQ.out.below (aA _ _).drew,by rw[HF.out];exact Nn.out,by omega⟩;omega
   .rw[hbg]at De;have HF:Hid (((((i.take<|j+1).map (dQ left)).filter (ia L.cs)).map (cE L.cs R L.n))=(((i.take j).map (dQ left)).filter (ia L.cs)).map (cE L.cs R L.n)++[cE L.cs R L.n r0]):=by
     show _=_;rw[p7.out,rW,rX,hbg];simp
    have Ji:=ah hbg;clear hbg
    go_region_held3 (λo=>o.cell? ⟨O,0,none⟩=some (.pointer<|some ⟨L.lb,0,none⟩)/\o.cell? ⟨g,a,none⟩=some (.int .i64 ((hd:Nat):Int))) (go_keep) (first|(go_at_call 157;refine(De.out _ V.out.drew).mono ?_;rintro ev wx ⟨rfl,rfl⟩))
    all_goals
     have gZ:=ah V.out.drew;have Dl:Hid (SE wr.drew w.heap.size O mx Z g L (.slice (some ⟨rg,0,none⟩) k rc) left i k):=HS.out.below (aA _ _).drew;have Zl:Hid (zu wr.drew w.heap.size L Y t (.slice qa S.length qc) S):=HQ.out.below (aA _ _).drew;have Ze:Hid (AB wr.drew w.heap.size wr.drew.heap.size g a l l r0):=oJ.out;clear V HS HQ oJ c1 c2 c3;generalize wr.drew=Q at*;obtain⟨VY,UY⟩:=ac<|vH g i<|ig L.cs R<|r0.getLastD 0;have a1:=ah UY;have Dj:Hid (Calls prog 155 #[.slice (some ⟨g,a,none⟩) l l,.pointer<|some ⟨mx,0,none⟩,.pointer<|some ⟨O,0,none⟩] Q λe o=>e= .returned VY/\Below Q.heap.size Q o):=by
      have:=tJ.out Q gZ.out Dl.out g a l l bn aV ap Ar.out a7;rw[<-a4.out,<-UY]at this;exact this
     clear UY;go_wp2_with fail;refine Dj.out.mono ?_;rintro ev W5 ⟨rfl,bO⟩;have bG:=ah bO;clear Dj bO Ar De;go_wp2;go_loopg [11,12] (L.n - r0.length) (λgk pv mv W=>∃(f:Nat)(c:List Nat)(J P m F:Nat),c=cE L.cs R f r0/\gk=L.n - c.length/\f+1<=c.length/\pv= .slice (some ⟨J,P,none⟩) m F/\mv=vH g i (ig L.cs R<|c.getLastD 0)/\Below Q.heap.size Q W/\AB W w.heap.size Q.heap.size J P m F c);exact⟨0,r0,g,a,l,l,rfl,rfl,by rw[M];omega,rfl,a1.out,bG.out,Ze.out.below bG.out⟩;clear bG Ze;obtain⟨f,c,J,P,m,F,H,rfl,bx,rfl,rfl,A,hP⟩:=hrel;have bt:c.length<=L.n:=(by rw[H,<-an];exact oV Rx.out f za.out Ji.out);have Uh:∀p∈c,p<L.n:=(by rw[H,<-an];exact N8 Rx.out za.out f);have hm:=hP.len;have aa:Below w.heap.size w wr:=gZ.out.trans<|A.mono gZ.out.size;have ad:=Dl.out.below A;cases hnx:ig L.cs R (c.getLastD 0)with
     |none=>
      rw[show vH g i none=Value.slice none 0 0 from rfl];have Jk:Hid (cE L.cs R L.n r0=c):=by
       have:=nP (a:=f) (p:=r0) (by rw[<-H];exact hnx)<|L.n - f;rw[show f+(L.n - f)=L.n by omega,<-H]at this;exact this
      have Nj:Hid (Calls prog 158 #[.pointer<|some ⟨L.lb,0,none⟩,.slice (some ⟨J,P,none⟩) m F] wr λe o=>∃sb gr cr gc cc gb,e= .returned (.pointer<|some ⟨sb,0,none⟩)/\
        bf o wr.heap.size sb gc m cc (.slice (some ⟨J,P,none⟩) m F) (.slice (some ⟨gr,0,none⟩) m cr) (.slice (some ⟨gb,0,none⟩) m m) (t.getD (c.headD 0) 0) (i6 (t.getD (c.headD 0) 0)<|kz t (aQ L.cs) L.p<|c.headD 0) (i6 (t.getD (c.headD 0) 0)<|qh L.cs t (aQ L.cs) L.p<|c.getLastD 0) (bB Y c)/\
        o.ownsRow wr.heap.size 21 1 (.slice (some ⟨gr,0,none⟩) m cr) m (pT<|bB L.rs c)/\aY o wr.heap.size 108 gb m (iv<|bB Y c)/\gb≠gc/\wr.heap.size<=sb/\sb<o.heap.size/\Below wr.heap.size wr o):=
       anY wr L Y t (HX.out wr aa) hn J P m F c hP.pl hm (by omega) (by omega) Uh bi hp
      have a2:=ah hP;have kL:=ah aa;have RM:=ah ad;have Rq:=ah<|Zl.out.below A;have bu:=ad.l;have bj:0<m:=(by omega);clear hnx H hP A aa ad Uh Zl Dl gZ;go_wp2_with fail;refine Nj.out.mono ?_;rintro ev W6 ⟨sb,gr,cr,gc,cc,gb,rfl,qC,aX,Hz,aC,FP,a8,fC⟩;clear Nj;have L4:=kL.out.size;have T8:=Rq.out.below fC;have aK:qb W6 w.heap.size L Y t ⟨sb,gr,cr,gc,cc,gb,J,P,F,m,c⟩:=by
       have U4:=a2.out.below fC;exact⟨⟨qC.cell,El qC.row L4⟩,El aX L4,El Hz L4,U4.pl,U4.ty,⟨U4.lo,bP L4 FP⟩,aC,hm,bj⟩
      have aR:∀q'∈S,Ez q' ⟨sb,gr,cr,gc,cc,gb,J,P,F,m,c⟩:=λq' aW=>by
       have K:=(Rq.out.all q' aW).sq.row.lt q'.gc rfl;have h2:=AJ (Rq.out.all q' aW).be q'.gb rfl;have h3:=qC.row.lt gc rfl;have h4:=AJ Hz gb rfl;refine⟨?_,?_,?_⟩<;>simp only<;>omega
      have a5:=ah aK;have a6:=ah aR;have Rp:=ah T8;have X:=ah<|kL.out.trans<|fC.mono L4;have qQ:=ah<|RM.out.below fC;have Pq:=T8.row;have yc:=X.out.size;clear qC aX Hz aC FP a8 fC T8 aK aR;go_wp2_with(at_builtin;refine qK _ rfl _ _ 144 rfl w.heap.size 146 iP (.pointer none) 8 underlying144 bg L6 L8 L9 rfl (by decide) _ _ _ rfl Pq _ _ rfl rfl (by omega) yc ?_);intro v7 w7 CD gS;have a3:=ah<|Rp.out.push a5.out a6.out CD gS;have lV:Hid (Below w.heap.size w w7):=X.out.grown gS yc (λy hy=>(Pq.lt y hy).1);have RD:Hid (SE w7 w.heap.size O mx Z g L (.slice (some ⟨rg,0,none⟩) k rc) left i k):=by
       exact qQ.out.app Pq gS
      clear CD gS Pq;go_wp2;go_roundg (k - (j+1));exact⟨j+1,_,by omega,rfl,by go_num,lV.out,RD.out,a3.out,by rw[HF.out,fB,Nn.out,Jk.out];rfl,by rw[bH,ZO];omega⟩;omega
     |some k'=>
      obtain⟨Ih,_,_⟩:=V5 hnx;have UM:k'<i.length:=(by rw[<-xN.out,ja]at Ih;exact Ih);have DV:=dS.out _ (dG (d:=(0,0)) UM);have zJ:=OM left i k' UM;rw[xN.out]at zJ;have af:=ajv (a:=f) (p:=r0) (by rw[<-H];exact hnx);rw[<-H,zJ]at af;obtain⟨x,G,Uf⟩:∃x G,i.getD k' (0,0)=(x,G):=⟨_,_,rfl⟩
      obtain⟨n,ao⟩:=ac<|G - x;have iW:vH g i (some k')=Value.slice (some ⟨g,x,none⟩) n n:=(by rw[vH,Uf,o7,ao]);rw[iW];rw[Uf]at DV af;have Lr:=(z7 DV).2.2;have aD:=(z7 DV).2.1;have aG:=afZ DV;simp only at DV Lr;rw[<-ao]at Lr;have aF:(c++dQ left (x,G)).length<=L.n:=(by rw[<-af,<-an];exact oV Rx.out (f+1) za.out Ji.out);rw[bH,Lr]at aF;have D:bI wr g x (nl<|dQ left (x,G)):=by
       have:=ad.r.lf.sub G x (by rw[gW];exact DV.2);rw[fZ,<-aez]at this;exact this
      obtain⟨zR,Pd⟩:=ac<|left.getD (G - 1) 0;have aJ:zR<L.n:=(by rw[Pd];exact Ra.out _ (by omega));obtain⟨IE,UZ⟩:=ac<|vH g i<|ig L.cs R zR;have Jw:Hid (IE=vH g i (ig L.cs R<|(c++dQ left (x,G)).getLastD 0)):=(by show _=_;rw[am8 _ _ aD,aG,<-Pd];exact UZ);have lD:=ah af.symm;have kL:=ah aa;have am:Q.heap.size<=wr.heap.size:=A.size;have bs:0<n:=(by omega);clear zJ af iW hnx H Uf aD aG Ih UM Uh ad aa;generalize dQ left (x,G)=T at*;obtain⟨bc,_,_,_,ba⟩:=hP;have yV:Hid ((n=G - x/\x<G/\G<=left.length)/\IE=vH g i (ig L.cs R zR)/\zR=left.getD (G - 1) 0/\T.length=n/\c.length=m/\m+n<=L.n/\zR<L.n):=⟨⟨ao,DV⟩,UZ,Pd,Lr,hm,by omega,aJ⟩
      have bA:m+n<=1000:=(by omega);have bp:(0:Int)<(n:Int):=(by omega);clear ao DV UZ Pd Lr hm aJ aF;rcases ba with bd|⟨bl,aq⟩
      .subst bd;go_wp2_with(at_builtin;refine wpList_append_grows _ rfl _ _ 31 rfl 3 iI (.int .i64 0) 1 8 underlying31 fP fQ fR fS rfl (by decide) (some ⟨J,P,none⟩) F F (iv<|nl c) rfl (λh=>by cases h) (by rw[nZ,gW,yV.out.2.2.2.2.1];omega) (λbb al j u hj=>by cases al;rw[Yb];exact Vs bc j u hj) ⟨g,x,none⟩ n n (iv<|nl T) rfl (by rw[nZ,gW,yV.out.2.2.2.1];omega) (λj u hj=>by rw[Yb];exact Vs D j u hj) Pf (by omega) (by unfold maxLen;omega) (by omega) ?_);intro v6 U nk iL;have ae:iv (nl c)++iv (nl T)=iv (nl<|c++T):=(by simp[iv,nl]);rw[ae]at nk;obtain⟨g6,c6,rfl,_,_,_⟩:=gI nk (by omega);have X:Hid (Below Q.heap.size Q U):=A.grown iL am (λy hy=>by cases hy);have Dk:=ah<|AB.own (El nk am) gZ.out.size;clear nk iL ae D kL;have qQ:=ah<|Dl.out.below X.out;have uG:Hid (Calls prog 155 #[.slice (some ⟨g,x,none⟩) n n,.pointer<|some ⟨mx,0,none⟩,.pointer<|some ⟨O,0,none⟩] U λe o=>e= .returned IE/\Below U.heap.size U o):=by
        have he:=yV.out;have hc:U.cell? ⟨g,x+(n - 1),none⟩=some (.int .i64 ((zR:Nat):Int)):=by
         have:=qQ.out.r.lf (G - 1) (by rw[gW];omega);rw[fZ,oh _ _ (by omega)]at this;rw[show x+(n - 1)=G - 1 by omega,he.2.2.1];exact this
        have:=tJ.out U (gZ.out.trans<|X.out.mono gZ.out.size) qQ.out g x n n zR (by omega) (by omega) hc he.2.2.2.2.2.2;rw[<-he.2.1]at this;exact this
       have Jv:Hid (T.length=n/\c.length=F/\F+n<=L.n):=⟨yV.out.2.2.2.1,yV.out.2.2.2.2.1,yV.out.2.2.2.2.2.1⟩
       go_wp2_with fail;refine uG.out.mono ?_;rintro ev W7 ⟨rfl,mZ⟩;have lV:=ah<|X.out.trans<|mZ.mono X.out.size;have uI:=ah<|Dk.out.below mZ;clear uG mZ;go_wp2;go_roundg (L.n - (c++T).length);exact⟨f+1,c++T,g6,0,F+n,c6,lD.out,rfl,by have K:=Jv.out;rw[bH,K.1];omega,rfl,Jw.out,lV.out,uI.out⟩;have K:=Jv.out;rw[bH,K.1,K.2.1];omega
      .subst bl;go_wp2_with(at_builtin;refine Jb _ rfl _ _ 31 rfl Q.heap.size 3 iI (.int .i64 0) 1 8 underlying31 fP fQ fR fS rfl (by decide) (.slice (some ⟨J,0,none⟩) m F) m (iv<|nl c) rfl aq ⟨g,x,none⟩ n n (iv<|nl T) rfl (by rw[nZ,gW,yV.out.2.2.2.1];omega) (λj u hj=>by rw[Yb];exact Vs D j u hj) Pf (by unfold maxLen;omega) (by omega) am ?_);intro v6 U nk iL _;have ae:iv (nl c)++iv (nl T)=iv (nl<|c++T):=(by simp[iv,nl]);rw[ae]at nk;obtain⟨g6,c6,rfl,_,_,_⟩:=gI nk (by omega);have X:Hid (Below Q.heap.size Q U):=A.grown iL am (λy hy=>(aq.lt y hy).1);have Dk:=ah<|AB.own nk gZ.out.size;clear nk iL ae D kL;have qQ:=ah<|Dl.out.below X.out;have uG:Hid (Calls prog 155 #[.slice (some ⟨g,x,none⟩) n n,.pointer<|some ⟨mx,0,none⟩,.pointer<|some ⟨O,0,none⟩] U λe o=>e= .returned IE/\Below U.heap.size U o):=by
        have he:=yV.out;have hc:U.cell? ⟨g,x+(n - 1),none⟩=some (.int .i64 ((zR:Nat):Int)):=by
         have:=qQ.out.r.lf (G - 1) (by rw[gW];omega);rw[fZ,oh _ _ (by omega)]at this;rw[show x+(n - 1)=G - 1 by omega,he.2.2.1];exact this
        have:=tJ.out U (gZ.out.trans<|X.out.mono gZ.out.size) qQ.out g x n n zR (by omega) (by omega) hc he.2.2.2.2.2.2;rw[<-he.2.1]at this;exact this
       have Jv:Hid (T.length=n/\c.length=m/\m+n<=L.n):=⟨yV.out.2.2.2.1,yV.out.2.2.2.2.1,yV.out.2.2.2.2.2.1⟩
       go_wp2_with fail;refine uG.out.mono ?_;rintro ev W7 ⟨rfl,mZ⟩;have lV:=ah<|X.out.trans<|mZ.mono X.out.size;have uI:=ah<|Dk.out.below mZ;clear uG mZ;go_wp2;go_roundg (L.n - (c++T).length);exact⟨f+1,c++T,g6,0,m+n,c6,lD.out,rfl,by have K:=Jv.out;rw[bH,K.1];omega,rfl,Jw.out,lV.out,uI.out⟩;have K:=Jv.out;rw[bH,K.1,K.2.1];omega
  .obtain rfl:j=k:=(by omega);have CB:¬(j:Int)<(j:Int):=(by omega);have V:=ah A;have HQ:=ah hQ;have Nn:Hid (S.map iR.at'=(R.filter<|ia L.cs).map (cE L.cs R L.n)):=by
    show _=_;rw[D5,aZ,xN.out]
   clear A hQ D5 z;go_wp2;go_ret;exact⟨_,rfl,S,HQ.out,Nn.out,V.out⟩
end
def E1(w:World):Calls prog 70 #[.slice none 0 0] w λe f=>e= .returned (.int .i64 0)/\f=w:=by
 go_enter func70,ntmps70;go_wp2;go_loopg [3] 0 (λb d W=>b=0/\d= .int .i64 0/\W=w);exact⟨rfl,rfl,rfl⟩;obtain⟨rfl,rfl,c⟩:=hrel;have a:=c.symm;subst a;go_wp2;go_ret;exact⟨rfl,rfl⟩
def ajC(a:Option Addr)(c:Nat)(w:World):
  Calls prog 46 #[.slice a 0 c] w λe b=>e= .returned (.slice none 0 0)/\b=w:=by
 go_enter func46,ntmps46;go_wp2;refine fV 1 ?_;rw[bN];go_wp2;go_ret;exact⟨rfl,rfl⟩
def Mq(w:World):(Instr.makeSlice 31 (.int .i64 0) (.int .i64 0)).run prog w= .ok (.slice (some ⟨w.heap.size,0,none⟩) 0 0) (w.alloc (.cells (madeCells #[.int .i64 0] 0) 3)):=
 run_make_row' (P:=prog) 31 3 (.int .i64 0) 8 underlying31 Tryz.rL rfl .i64 .i64 0 (by omega) (by omega) w
def aeo(w:World):(Instr.makeSlice 36 (.int .i64 0) (.int .i64 0)).run prog w= .ok (.slice (some ⟨w.heap.size,0,none⟩) 0 0) (w.alloc (.cells (madeCells #[.bool false] 0) 4)):=
 run_make_row' (P:=prog) 36 4 (.bool false) 1 underlying36 Tryz.Md rfl .i64 .i64 0 (by omega) (by omega) w
def akM(a:Int)(w:World):Calls prog 71 #[.slice none 0 0,.int .i64 a] w λe c=>∃g1 g2 g3,e= .returned (.tuple #[.slice (some ⟨g1,0,none⟩) 0 0,.slice (some ⟨g2,0,none⟩) 0 0,.slice (some ⟨g3,0,none⟩) 0 0])/\Below w.heap.size w c/\g1<c.heap.size/\g2<c.heap.size/\g3<c.heap.size:=by
 have i:=Mq;have h:=aeo;go_enter func71,ntmps71;go_wp2;obtain⟨d,b⟩:=ac<|((((w.alloc (.cells #[.int .i64 a,.int .i64 (-1),.bool false] 181)).alloc (.cells #[.slice (some ⟨w.heap.size,0,none⟩) 1 1,.int .i64 0,.int .i64 0,.int .i64 0] 184)).alloc (.cells (madeCells #[.int .i64 0] 0) 3)).alloc (.cells (madeCells #[.int .i64 0] 0) 3)).alloc (.cells (madeCells #[.bool false] 0) 4);have g:Hid (Below w.heap.size w d/\d.heap.size=w.heap.size+5):=by
  rw[b];exact⟨(((((aA w.heap.size w).alloc (au _) _).alloc (by simp) _).alloc (by simp;omega) _).alloc (by simp;omega) _).alloc (by simp;omega) _,by simp⟩
 rw[<-b];clear b i h;go_loopg [11] 0 (λj m W=>j=0/\m= .int .i64 0/\W=d);exact⟨rfl,rfl,rfl⟩;obtain⟨rfl,rfl,k⟩:=hrel;have f:=k.symm;subst f;go_wp2;have l:=g.out.2;refine cI (v:= .tuple #[.slice (some ⟨w.heap.size+1+1,0,none⟩) 0 0,.slice (some ⟨w.heap.size+1+1+1,0,none⟩) 0 0,.slice (some ⟨w.heap.size+1+1+1+1,0,none⟩) 0 0]) (by simp[results,results71,go_sem]) rfl ⟨_,_,_,rfl,g.out.1,by omega,by omega,by omega⟩
def arS(c:Int)(w:World)(g g3:Nat):Calls prog 74 #[.slice none 0 0,.slice (some ⟨g,0,none⟩) 0 0,.slice (some ⟨g3,0,none⟩) 0 0,.int .i64 c] w λe m=>e= .returned (.slice (some ⟨g,0,none⟩) 0 0)/\Below w.heap.size w m:=by
 have k:=aeo;go_enter func74,ntmps74;go_wp2;obtain⟨d,a⟩:=ac<|w.alloc (.cells (madeCells #[.bool false] 0) 4);have j:Hid (Below w.heap.size w d):=by rw[a];exact(aA _ _).alloc (au _) _
 rw[<-a];clear a k;go_loopg [10,11] 0 (λf l i W=>f=0/\l= .bool true/\i= .int .i64 (-1)/\W=d);exact⟨rfl,rfl,rfl,rfl⟩;obtain⟨rfl,rfl,rfl,h⟩:=hrel;have b:=h.symm;subst b;go_wp2;go_loopg [13] 0 (λf i W=>f=0/\i= .int .i64 0/\W=d);exact⟨rfl,rfl,rfl⟩;obtain⟨rfl,rfl,h⟩:=hrel;have b:=h.symm;subst b;go_wp2;refine cI (v:= .slice (some ⟨g,0,none⟩) 0 0) (by simp[results,results74,go_sem]) rfl ⟨rfl,j.out⟩
def aqG(d:Int)(w:World)(g1 g3:Nat)(j:g1<w.heap.size)(l:g3<w.heap.size):Calls prog 72 #[.slice none 0 0,.slice (some ⟨g1,0,none⟩) 0 0,.slice (some ⟨g3,0,none⟩) 0 0,.int .i64 d] w λe f=>e= .returned (.slice none 0 0)/\Below w.heap.size w f:=by
 have m:Hid (Calls prog 121 #[.slice (some ⟨g1,0,none⟩) 0 0,.slice (some ⟨g3,0,none⟩) 0 0] w λg f=>∃v:Value,g= .returned v/\Below w.heap.size w f/\∃a c,v= .slice a 0 c):=
  (afV [] [] 0 g1 0 0 g3 0 0 w rfl rfl (by omega) (λk h=>by simp at h) (λk h=>by simp at h) j l).mono λg f ⟨v,y,p,q,r,_⟩=>⟨v,p,q,eH r⟩
 clear j l;go_enter func72,ntmps72;go_wp2_with fail;refine m.out.mono ?_;rintro g x ⟨v,rfl,b,a,c,rfl⟩;have n:=ah b;clear b m;go_wp2;go_loopg [10,11] 0 (λo u t W=>o=0/\u= .slice none 0 0/\t= .int .i64 0/\W=x);exact⟨rfl,rfl,rfl,rfl⟩;obtain⟨rfl,rfl,rfl,s⟩:=hrel;have i:=s.symm;subst i;go_wp2;refine cI (v:= .slice none 0 0) (by simp[results,results72,go_sem]) rfl ⟨rfl,n.out⟩
def JV(d:Int)(a:Option Addr)(c:Nat)(w:World):Calls prog 48 #[.slice a 0 c,.int .i64 d] w λi E=>∃g,i= .returned (.slice (some ⟨g,0,none⟩) 0 0)/\E.ownsRow w.heap.size 3 1 (.slice (some ⟨g,0,none⟩) 0 0) 0 []/\Below w.heap.size w E:=by
 have t:=Mq;have H:((d !=0)=false)∨((d !=0)=true/\(d !=1)=false)∨((d !=0)=true/\(d !=1)=true):=by
  cases(d !=0)<;>cases(d !=1)<;>simp
 go_enter func48,ntmps48;go_wp2_with fail;refine(ajC a c w).mono ?_;rintro i M ⟨rfl,hx⟩;have b:=hx.symm;subst b;have F:∀(W:World)(g g1:Nat),(Builtin.copy_ #[31,31] 3 #[.slice (some ⟨g,0,none⟩) 0 0,.slice (some ⟨g1,0,none⟩) 0 0]).run prog W= .ok (goInt 0) W:=λW g g1=>iG (P:=prog) W 31 31 3 3 _ _ 0 0 0 0 underlying31 Tryz.Ql rfl
 rcases H with D|⟨D,L⟩|⟨D,L⟩
 go_wp2_with fail
 rotate_left
 go_wp2_with fail
 rotate_left
 go_wp2_with fail;refine(E1 w).mono ?_;rintro i M ⟨rfl,hx⟩;have b:=hx.symm;subst b;go_wp2_with fail;all_goals
  refine(akM _ w).mono ?_;rintro i j ⟨g1,g2,g3,rfl,f,q,r,s⟩;obtain⟨k,e⟩:=ac<|j.alloc (.cells (madeCells #[.int .i64 0] 0) 3);have h:Below j.heap.size j k:=by rw[e];exact(aA _ _).alloc (au _) _
  have l:w.heap.size<=j.heap.size:=f.size;have C:aY k w.heap.size 3 j.heap.size 0 (List.replicate 0 (.int .i64 0)):=by rw[e];exact aY.made l<|by omega
  have A:=ah<|f.trans<|h.mono l;have K:=ah C;have z:Hid (g1<k.heap.size/\g3<k.heap.size):=by have:=h.size;exact⟨by omega,by omega⟩
  clear f h C q r s;go_wp2_with fail;rw[<-e];clear e;generalize j.heap.size=o at*;refine(aqG _ k g1 g3 z.out.1 z.out.2).mono ?_;rintro i y ⟨rfl,m⟩;have B:=ah<|A.out.trans<|m.mono A.out.size;have I:=ah<|fu K.out m;clear m t F;go_wp2;go_loopg [12] 0 (λn u W=>n=0/\u= .int .i64 0/\W=y);exact⟨rfl,rfl,rfl⟩;obtain⟨rfl,rfl,p⟩:=hrel;have b:=p.symm;subst b;go_wp2;go_loopg [13] 0 (λn u W=>n=0/\u= .int .i64 0/\W=y);exact⟨rfl,rfl,rfl⟩;obtain⟨rfl,rfl,p⟩:=hrel;have b:=p.symm;subst b;go_wp2_with fail;refine(arS _ y o g3).mono ?_;rintro i N ⟨rfl,x⟩;have J:=ah<|B.out.trans<|x.mono B.out.size;have G:=ah<|fu I.out x;clear x;go_wp2;refine cI (v:= .slice (some ⟨o,0,none⟩) 0 0) (by simp[results,results48,go_sem]) rfl ⟨o,rfl,G.out,J.out⟩
def ajl {w:World}{b k:Nat}{v:Value}(h:w.cell? ⟨b,k,none⟩=some v):b<w.heap.size:=by
 rcases cP b w.heap.size with a|a
 .exact a
 .simp only[World.cell?,tD a]at h;cases h
def anm(a:List Int)(d:Int)(v:Value)(w:World)(n:a.length<=1000)(o:jB w v a):
  Calls prog 48 #[v,.int .i64 d] w λi h=>∃g c,i= .returned (.slice (some ⟨g,0,none⟩) a.length c)/\h.ownsRow w.heap.size 3 1 (.slice (some ⟨g,0,none⟩) a.length c) a.length (iv<|gV a (a.map cls) d)/\Below w.heap.size w h:=by
 rcases o with⟨rfl,rfl⟩|⟨b,l,e,rfl,m⟩
 .refine(JV d none 0 w).mono ?_;rintro i h ⟨g,rfl,j,k⟩;refine⟨g,0,rfl,?_,k⟩;have:gV [] ([].map cls) d=[]:=rfl;rw[this];exact j
 .rcases GU a.length with f|f
  .obtain rfl:=JZ f;refine(JV d _ e w).mono ?_;rintro i h ⟨g,rfl,j,k⟩;refine⟨g,0,rfl,?_,k⟩;have:gV [] ([].map cls) d=[]:=rfl;rw[this];exact j
  .exact anp a d a.length b l e w rfl n f m (ajl<|m 0 f)
