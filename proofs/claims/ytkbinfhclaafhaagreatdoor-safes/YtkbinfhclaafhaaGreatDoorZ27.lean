import Derived.Test.YtkbinfhclaafhaaGreatDoorZ26
import Derived.Test.YtkbinfhclaafhaaGreatDoorShelfQ
import Derived.Test.YtkbinfhclaafhaaGreatDoorZ25
import Derived.Test.YtkbinfhclaafhaaGreatDoorZ21
import Derived.Test.YtkbinfhclaafhaaGreatDoorZ20
import Derived.Test.YtkbinfhclaafhaaGreatDoorZ19
namespace Go.Proofs.YtkbinfhclaafhaaGreatDoor
open Go.RowKit
open Go.Proofs.Tryz
set_option maxRecDepth 100000
set_option maxHeartbeats 32000000
set_option linter.all false
def xR(rs:List Int):Bool:=rs.any fun r=>kZ (cls r)
theorem aad(s:ByteArray):∀(f q:Nat)(rs:List Int),RA s q rs->s.size<=q+f->decide (0<=Lib.idxFuncFrom (fun x=>kZ (cls (x:Int))) true s f q)=xR rs
 |0,q,rs,h,hf=>by
  cases rs with
  |nil=>rfl
  |cons r rs=>have:=h.1;omega
 |f+1,q,rs,h,hf=>by
  cases rs with
  |nil=>
   have hq:q=s.size:=h;rw [Lib.idxFuncFrom_end _ _ _ _ _ (by omega)];rfl
  |cons r rs=>
   obtain⟨h1,h2,h3,h4⟩:=h;have hw:=J2 s q h2;rw [Lib.idxFuncFrom,aj h1];have hr:r=((Utf8.decode s q).1:Int):=h3;by_cases ht:kZ (cls ((Utf8.decode s q).1:Int))=true
   .rw [aj ht];unfold xR;rw [Vx,hr,ht];simp
   .rw [ai ht,hw,aad s f (q+bu s q) rs h4 (by omega)];unfold xR;rw [Vx,hr];simp [ht]
theorem anz(w:World)(aL aT aC:Addr)(hE:Env w aL aT aC):PredGrows prog 172 #[] (fun x=>kZ (cls (x:Int))) w:=fun W x _ hW=>by
 simpa using aiu (x:Int) W aL aT aC (hE.below hW)
theorem agx:∀args w,(callFunc 172 args).run prog w= .ok (.enter 172 args) w:=lF func172 (by kernel_rfl) (by kernel_rfl)
theorem afU(t:ByteArray)(rs:List Int)(w:World)(aL aT aC:Addr)(hE:Env w aL aT aC)(hr:fH t=some rs):
  Calls prog 228 #[.string t,.func (.func 172) #[] #[]] w fun e w'=>e= .returned (.bool (xR rs))/\Below w.heap.size w w':=by
 have h:=Any.strings_ContainsFunc_grows Tryz.laysCF 172 #[] agx (fun x=>kZ (cls (x:Int))) t w (anz w aL aT aC hE);have e:decide (0<=Lib.idxFunc (fun x=>kZ (cls (x:Int))) true t)=xR rs:=aad t t.size 0 rs (Fy hr) (by omega);rw [e]at h;exact h
structure CV(line:ByteArray)(x:PR):Prop where
 ft:x.from_<=x.dU
 tl:x.dU<=line.size
 rs:∃rs,fH (line.extract x.from_ x.dU)=some rs
 be:x.kind≠0->x.body<=x.end_/\x.end_<=line.size/\∃rs,fH (line.extract x.body x.end_)=some rs
def oC(line:ByteArray)(x:PR):Bool:=if x.kind=0 then !xR ((fH (line.extract x.from_ x.dU)).getD [])else qb ((fH (line.extract x.body x.end_)).getD []) []
def AL(x:PR):Value:= .agg #[.int .i64 x.kind,.int .i64 x.from_,.int .i64 x.dU,.int .i64 x.body,.int .i64 x.end_]
theorem ah6(line:ByteArray)(x:PR)(w:World)(aL aT aC:Addr)(hs:line.size<=600)(hE:Env w aL aT aC)(hx:CV line x):
  Calls prog 186 #[.string line,AL x] w fun e w'=>e= .returned (.bool (oC line x))/\Below w.heap.size w w':=by
 obtain⟨xl,xk,xf,xt,xb,xe⟩:=x;obtain⟨ft,tl,⟨rs,hrs⟩,be⟩:=hx;simp only at ft tl hrs be;unfold AL oC;simp only;have mQ:Hid (Below w.heap.size w (w.alloc (.cells #[.int .i64 xk,.int .i64 xf,.int .i64 xt,.int .i64 xb,.int .i64 xe] 75))):=(aA _ _).alloc (ay _) _;by_cases hk:xk=0
 .subst hk;rw [aj rfl,hrs];simp only [CU];have HC:Hid (∀W,Below w.heap.size w W->Calls prog 228 #[.string (line.extract xf xt),.func (.func 172) #[] #[]] W fun e w'=>e= .returned (.bool (xR rs))/\Below W.heap.size W w'):=fun W hW=>afU _ rs W aL aT aC (hE.below hW) hrs
  generalize xR rs=q at*;have h1:(xf:Int)<=(xt:Int):=by omega
  have h2:(xt:Int)<=(line.size:Int):=by omega
  clear hrs be hE;go_enter func186,ntmps186;go_wp2_with fail;refine(HC.out _ mQ.out).mono ?_;rintro ev w1 ⟨rfl,hb1⟩;have aG:=ah (mQ.out.trans (hb1.mono mQ.out.size));clear hb1;go_wp2;go_ret;exact⟨by cases q<;>rfl,aG.out⟩
 .obtain⟨b1,b2,⟨rb,hrb⟩⟩:=be hk;rw [ai hk,hrb];simp only [CU];have hsz:(line.extract xb xe).size<=600:=by simp;omega
  have HC:Hid (∀W,Below w.heap.size w W->Calls prog 229 #[.string (line.extract xb xe)] W fun e w'=>e= .returned (.bool (qb rb []))/\Below W.heap.size W w'):=fun W hW=>aeO _ rb W aL aT aC hsz hrb (hE.below hW)
  generalize qb rb []=q at*;have hk':((xk:Int)==0)=false:=by simpa using hk
  have h1:(xb:Int)<=(xe:Int):=by omega
  have h2:(xe:Int)<=(line.size:Int):=by omega
  clear hrs be hE hrb hsz hk;go_enter func186,ntmps186;go_wp2_with fail;refine(HC.out _ mQ.out).mono ?_;rintro ev w1 ⟨rfl,hb1⟩;have aG:=ah (mQ.out.trans (hb1.mono mQ.out.size));clear hb1;go_wp2;go_ret;exact⟨rfl,aG.out⟩
theorem Y6 {w:World}{b j:Nat}{v:Value}(h:w.cell? ⟨b,j,none⟩=some v):b<w.heap.size:=by
 unfold World.cell? at h;split at h
 .rename_i hh;exact eO hh
 .cases h
def yA(w:World)(v:Value)(l:List PR):Prop:=∃x c,v= .slice x l.length c/\(0<l.length->∃g,x=some ⟨g,0,none⟩/\l.length<=c/\GQ w g l)
theorem yA.below {w w':World}{v:Value}{l:List PR}(h:yA w v l)(hb:Below w.heap.size w w'):yA w' v l:=by
 obtain⟨x,c,rfl,h⟩:=h;exact⟨x,c,rfl,fun h0=>let⟨g,h1,h2,h3⟩:=h h0;⟨g,h1,h2,h3.below hb⟩⟩
theorem akh {w:World}{B:Nat}{e:TypeId}{v:Value}{l:List PR}(h:w.ownsRow B e 5 v l.length (pK l)):yA w v l:=by
 obtain⟨x,c,rfl⟩:=kE h;refine⟨x,c,rfl,fun h0=> ?_⟩;obtain⟨g,d,e1,hd,_⟩:=sL h h0;simp only [uY,vN]at e1;obtain⟨rfl,rfl⟩:=e1;exact⟨g,rfl,hd,akf h rfl⟩
theorem ah5(line:ByteArray)(l:List PR)(v:Value)(w:World)(aL aT aC:Addr)(hs:line.size<=600)(hl:l.length<=600)(hE:Env w aL aT aC)(hv:yA w v l)(hx:∀x∈l,CV line x):
  Calls prog 110 #[.string line,v] w fun e w'=>e= .returned (.bool (l.all (oC line)))/\Below w.heap.size w w':=by
 obtain⟨x,c,rfl,Ax⟩:=hv;obtain⟨n,hn⟩:∃n,n=l.length:=⟨_,rfl⟩
 have HN:=ah hn;rw [<-hn]at hl Ax ⊢;have HX:=ah Ax;have HB:Hid (∀y∈l,∀W,Below w.heap.size w W->Calls prog 186 #[.string line,AL y] W fun e w'=>e= .returned (.bool (oC line y))/\Below W.heap.size W w'):=fun y hy W hW=>ah6 line y W aL aT aC hs (hE.below hW) (hx y hy)
 obtain⟨R,hR⟩:∃R,R=l.all (oC line):=⟨_,rfl⟩
 rw [<-hR];have HR:=ah hR.symm;clear hn Ax hE hx hR;go_enter func110,ntmps110;go_wp2;go_loopg [6,9] n (fun gk _ fE W=>∃(i:Nat),i<=n/\gk=n - i/\fE= .int .i64 i/\(l.drop i).all (oC line)=R/\Below w.heap.size w W);case atStart=>exact⟨0,by omega,rfl,rfl,HR.out,aA _ _⟩
 case round=>
  rename World=>wa
  obtain⟨i,hi,rfl,rfl,hj,hb⟩:=hrel;have qJ:=ah hb;have hbz:=hb.size;by_cases hlt:i<n
  .have hil:i<l.length:=by rw [<-HN.out];exact hlt
   obtain⟨g,rfl,hcn,hP⟩:=HX.out (by omega);obtain⟨p0,p1,p2,p3,p4⟩:=(hP.below hb) i hil;have jq:Hid (∀W,Below w.heap.size w W->Calls prog 186 #[.string line,AL (l[i]'hil)] W fun e w'=>e= .returned (.bool (oC line (l[i]'hil)))/\Below W.heap.size W w'):=HB.out _ (pV hil);rw [l9 hil,List.all_cons]at hj;have hgl:=Y6 p0;generalize l[i]'hil=y at*;obtain⟨yl,yk,yf,yt,yb,ye⟩:=y;unfold AL at jq;simp only at p0 p1 p2 p3 p4 jq;have aJ:Hid (Below w.heap.size w (wa.alloc (.cells #[.int .i64 yk,.int .i64 yf,.int .i64 yt,.int .i64 yb,.int .i64 ye] 75))):=hb.alloc hbz _;have hin:(i:Int)<(n:Int):=by omega
   generalize oC line ⟨yl,yk,yf,yt,yb,ye⟩=q at*;clear hP hil hb;go_wp2_with fail;refine(jq.out _ aJ.out).mono ?_;rintro ev w1 ⟨rfl,hb1⟩;have aG:=ah (Uj aJ.out (hb1.mono (Ui aJ.out)));clear hb1;cases q
   .have hj':false=R:=by simpa using hj
    subst hj';go_wp2;go_ret;exact⟨rfl,aG.out⟩
   .have hj':(l.drop (i+1)).all (oC line)=R:=by simpa using hj
    have HJ:=ah hj';clear hj hj';go_wp2;go_roundg (n - (i+1));case measure=>omega
    case rel=>exact⟨i+1,by omega,rfl,by go_num,HJ.out,aG.out⟩
  .obtain rfl:i=n:=by omega
   have hin:¬(i:Int)<(i:Int):=by omega
   rw [uU (by rw [HN.out];exact ay _)]at hj;have hj':true=R:=hj;subst hj';clear hb;go_wp2;go_ret;exact⟨rfl,qJ.out⟩
def DL(line:ByteArray)(x:PR):List Int:=(fH (line.extract x.from_ x.dU)).getD []
def ja(line:ByteArray):List PR->Nat->List Int
 |[],_=>[]
 |x::xs,k=>List.replicate (DL line x).length (k:Int)++ja line xs (k+1)
theorem SV {s:ByteArray}:∀{rs:List Int}{p:Nat},RA s p rs->rs.length<=s.size - p
 |[],_,_=>by simp
 |r::rs,p,h=>by
  obtain⟨h1,h2,_,h4⟩:=h;have:=SV h4;have:=J3 s p h1 h2;simp only [eW];omega
theorem abH(line:ByteArray):∀(l:List PR)(k:Nat),(∀x∈l,CV line x)->(ja line l k).length<=l.length*line.size
 |[],_,_=>by simp [ja]
 |x::xs,k,h=>by
  have ih:=abH line xs (k+1) (fun y hy=>h y (En _ hy));obtain⟨h1,h2,⟨rs,hrs⟩,_⟩:=h x KN;have h3:=SV (Fy hrs);have h4:(line.extract x.from_ x.dU).size<=line.size:=by simp;omega
  have h5:(DL line x).length<=line.size:=by unfold DL;rw [hrs,CU];omega
  rw [ja,bP,aed,eW,Nat.add_mul,Nat.one_mul];omega
theorem akg(line:ByteArray)(l:List PR)(v:Value)(w:World)(hs:line.size<=600)(hl:l.length<=600)(hv:yA w v l)(hx:∀x∈l,CV line x):
  Calls prog 184 #[.string line,v] w fun e w'=>∃v',e= .returned v'/\w'.ownsRow w.heap.size 3 1 v' (ja line l 0).length ((ja line l 0).map (Value.int .i64))/\Below w.heap.size w w':=by
 obtain⟨iI,eY,eZ,fe,fh⟩:=gW Tryz.Dw;obtain⟨x,c,rfl,Ax⟩:=hv;have Cy:Hid ((ja line l 0).length<=360000):=by
  show _<=_;have h1:=abH line l 0 hx;have h2:l.length*line.size<=600*600:=zZ hl hs;omega
 obtain⟨n,hn⟩:∃n,n=l.length:=⟨_,rfl⟩
 have HN:=ah hn;rw [<-hn]at hl Ax ⊢;have HX:=ah Ax;have dN:=ah hx;obtain⟨R,hR⟩:∃R,R=ja line l 0:=⟨_,rfl⟩
 rw [<-hR]at Cy ⊢;have HR:=ah hR.symm;clear hn Ax hx hR;go_enter func184,ntmps184;go_wp2;go_loopg [5,6,7,10] n (fun gk Jw _ _ fE W=>∃(i:Nat)(o:List Int),i<=n/\gk=n - i/\fE= .int .i64 i/\o++ja line (l.drop i) i=R/\W.ownsRow w.heap.size 3 1 Jw o.length (o.map (Value.int .i64))/\Below w.heap.size w W);case atStart=>exact⟨0,[],by omega,rfl,rfl,HR.out,jw _ _ _ _,aA _ _⟩
 case round=>
  rename World=>wa
  obtain⟨i,o,hi,rfl,rfl,hj,hown,hb⟩:=hrel;obtain⟨oa,oc,rfl⟩:=kE hown;have qJ:=ah hb;have hbz:=hb.size;have hol:o.length<=360000:=by
   have h1:=Cy.out;rw [<-hj,bP]at h1;omega
  by_cases hlt:i<n
  .have hil:i<l.length:=by rw [<-HN.out];exact hlt
   obtain⟨g,rfl,hcn,hP⟩:=HX.out (by omega);obtain⟨p0,p1,p2,p3,p4⟩:=(hP.below hb) i hil;obtain⟨k1,k2,⟨rk,xx⟩,_⟩:=dN.out (l[i]'hil) (pV hil);rw [l9 hil,ja]at hj;have hgl:=Y6 p0;have hrl:DL line (l[i]'hil)=rk:=by unfold DL;rw [xx];rfl
   rw [hrl]at hj;generalize l[i]'hil=y at*;obtain⟨yl,yk,yf,yt,yb,ye⟩:=y;simp only at p0 p1 p2 p3 p4 k1 k2 xx;have Gn:=ah (Fy xx);obtain⟨t,ht⟩:∃t,t=line.extract yf yt:=⟨_,rfl⟩
   have hts:t.size<=600:=by rw [ht];simp;omega
   have HT:=ah ht.symm;rw [<-ht]at Gn;have HJ0:=ah hj;have aoN:=SV Gn.out;have CK:=ah hown;have hin:(i:Int)<(n:Int):=by omega
   have h1:(yf:Int)<=(yt:Int):=by omega
   have h2:(yt:Int)<=(line.size:Int):=by omega
   clear hP hil hb hj xx hrl ht hown;go_wp2;rw [HT.out];have E9:(wa.alloc (.cells #[.int .i64 yk,.int .i64 yf,.int .i64 yt,.int .i64 yb,.int .i64 ye] 75)).heap.size=wa.heap.size+1:=by simp
   go_loopg [5] t.size (fun gk Jw W=>∃(p m:Nat)(rt:List Int),p<=t.size/\gk=t.size - p/\RA t p rt/\m+rt.length=rk.length/\W.heap[wa.heap.size+1]? =some (.stringIter t p)/\W.ownsRow w.heap.size 3 1 Jw (o.length+m) ((o++List.replicate m (i:Int)).map (Value.int .i64))/\Below w.heap.size w W);case atStart=>
    refine⟨0,0,rk,by omega,rfl,Gn.out,by omega,?_,?_,(qJ.out.alloc hbz _).alloc (by simp;omega) _⟩
    .have:=OU (wa.alloc (.cells #[.int .i64 yk,.int .i64 yf,.int .i64 yt,.int .i64 yb,.int .i64 ye] 75)) t 0;rw [E9]at this;exact this
    .have:=(CK.out.alloc (.cells #[.int .i64 yk,.int .i64 yf,.int .i64 yt,.int .i64 yb,.int .i64 ye] 75)).alloc (.stringIter t 0);rw [GI,lu];exact this
   case round=>
    obtain⟨p,m,rt,hp,rfl,iq,hm,hit,hown,hb⟩:=hrel;obtain⟨qa,qc,rfl⟩:=kE hown;have Qr:=hb.size;by_cases hpl:p<t.size
    .cases rt with
     |nil=>exact absurd iq (by show¬p=t.size;omega)
     |cons r rt=>
      obtain⟨_,hz,_,IP⟩:=iq;have Ec:=ah IP;have hle:p+bu t p<=t.size:=J3 t p hpl hz;have hzp:0<bu t p:=by omega
      have hw:=J2 t p hz;have hnx:∀ty,(Instr.next (.pointer (some ⟨wa.heap.size+1,0,none⟩)) true ty).run prog wr= .ok (.tuple #[.bool true,.int .i64 p,.int .i32 (iL t p)]) (wr.iterAt (wa.heap.size+1) t (p+bu t p)):=fun ty=>by
       rw [Vv wr (wa.heap.size+1) t p ty hit hpl,hw];rfl
      simp only [eW]at hm;generalize bu t p=q at*;generalize iL t p=r' at*;obtain⟨wi,hwi⟩:∃wi,wi=wr.iterAt (wa.heap.size+1) t (p+q):=⟨_,rfl⟩
      have rQ:Hid (wi.heap[wa.heap.size+1]? =some (.stringIter t (p+q))):=by show _=_;rw [hwi];exact Vu wr _ t p _ hit
      have aG:Hid (Below w.heap.size w wi):=by show Below _ _ _;rw [hwi];exact Vt hb (by omega) _ _
      have hown1:wi.ownsRow w.heap.size 3 1 (.slice qa (o.length+m) qc) (o.length+m) ((o++List.replicate m (i:Int)).map (Value.int .i64)):=nC hown fun k ob hk ho=>by
       rw [hwi,KF]
       .exact ho
       .rintro rfl;exact Cj hown hit hk
      rw [<-hwi]at hnx;have YU:=aG.out.size;have hmk:o.length+m<=1000000:=by omega
      clear hwi hown hit IP hz hw hb;go_wp2_with(at_builtin;refine nX _ rfl _ _ 31 rfl w.heap.size 3 iI (.int .i64 0) 8 underlying31 eY eZ fe fh rfl (by decide) _ _ _ rfl hown1 _ _ rfl rfl hmk YU ?_);intro v2 w2 hown2 hg2;have zD:Hid (w2.heap[wa.heap.size+1]? =some (.stringIter t (p+q))):=by
       show _=_;rw [hg2.block _ (eO rQ.out) (Cj hown1 rQ.out).symm];exact rQ.out
      have aJ:Hid (Below w.heap.size w w2):=aG.out.grown hg2 YU (fun y hy=>(hown1.lt y hy).1);have bK:Hid (w2.ownsRow w.heap.size 3 1 v2 (o.length+(m+1)) ((o++List.replicate (m+1) (i:Int)).map (Value.int .i64))):=by
       show World.ownsRow _ _ _ _ _ _ _;rw [KP,<-eV,fO,<-GJ];simpa [eV]using hown2
      clear hnx hown1 hown2 hg2;go_wp2;go_roundg (t.size - (p+q));case measure=>omega
      case rel=>exact⟨p+q,m+1,rt,hle,rfl,Ec.out,by omega,zD.out,bK.out,aJ.out⟩
    .have hnx:∀ty,(Instr.next (.pointer (some ⟨wa.heap.size+1,0,none⟩)) true ty).run prog wr= .ok (.tuple #[.bool false]) wr:=fun ty=>OA wr (wa.heap.size+1) t p ty hit hpl
     cases rt with
     |cons r rt=>exact absurd iq.1 hpl
     |nil=>
      have hmr:m=rk.length:=by simpa using hm
      have aJ:=ah hb;have bK:Hid (wr.ownsRow w.heap.size 3 1 (.slice qa (o.length+m) qc) (o++List.replicate m (i:Int)).length ((o++List.replicate m (i:Int)).map (Value.int .i64))):=by
       show World.ownsRow _ _ _ _ _ _ _;rw [bP,aed];exact hown
      have D7:Hid ((o++List.replicate m (i:Int))++ja line (l.drop (i+1)) (i+1)=R):=by
       show _=_;rw [<-HJ0.out,hmr,eV]
      clear iq hit hown hb hmr;go_wp2;go_roundg (n - (i+1));case measure=>omega
      case rel=>exact⟨i+1,o++List.replicate m (i:Int),by omega,rfl,by go_num,D7.out,bK.out,aJ.out⟩
  .obtain rfl:i=n:=by omega
   have hin:¬(i:Int)<(i:Int):=by omega
   rw [uU (by rw [HN.out];exact ay _),ja,lu]at hj;subst hj;have CK:=ah hown;clear hown hb;go_wp2;go_ret;exact⟨_,rfl,CK.out,qJ.out⟩
theorem akW(w:World):Calls prog 49 #[.slice none 0 0] w fun e w'=>e= .returned (.slice none 0 0)/\w'=w:=by
 go_enter func49,ntmps49;go_wp2;refine dw 1 ?_;rw [aY];go_wp2;refine dw 1 ?_;rw [aY];go_wp2;go_ret;exact⟨rfl,rfl⟩
theorem akV(lv:List Int)(v:Value)(w:World)(hn:lv.length<=1000)(hv:js w v lv)(hlv:∀l∈lv,0<=l/\l<=126):
  Calls prog 49 #[v] w fun e w'=>∃v',e= .returned v'/\w'.ownsRow w.heap.size 3 1 v' (lT lv).length (iv (lT lv))/\Below w.heap.size w w':=by
 rcases hv with⟨rfl,rfl⟩|⟨b,off,cap,rfl,hi⟩
 .refine(akW w).mono ?_;rintro e w' ⟨rfl,rfl⟩;exact⟨_,rfl,jw _ _ _ _,aA _ _⟩
 .refine(ak4 lv b off cap lv.length w rfl hn hi (fun l hl=>by have:=hlv l hl;omega)).mono ?_;rintro e w' ⟨v',rfl,ho,hb⟩;exact⟨v',rfl,by rw [Ss];exact ho,hb⟩
def zu:Int->List Int->Bool
 |_,[]=>true
 |a,k::ks=>if k<a then false else zu k ks
def Tp(rs:List Int)(ps:List PR):List Int:=(lT (gu rs (rs.map cls) 0)).map fun j=>pI ((dZ 0 rs).getD j.toNat 0) ps 0
def AJ(rs:List Int)(ps:List PR):Bool:=zu (-1) (Tp rs ps)
theorem RN(rs:List Int):∀x∈gu rs (rs.map cls) 0,0<=x/\x<=126:=by
 have hp:gz (rs.map cls) 0=0:=by unfold gz;simp
 intro x hx;have:=aiW (cs:=rs.map cls) (fun c hc=>by obtain⟨r,_,rfl⟩:=jr.1 hc;exact Le r) rs 0 (by rw [hp];omega) x hx;rw [hp]at this;exact this
theorem Jn(rs:List Int):(gu rs (rs.map cls) 0).length=rs.length:=by rw [aiU,jE]
theorem Sr(rs:List Int):∀j∈lT (gu rs (rs.map cls) 0),0<=j/\j<rs.length:=by
 intro j hj;have h1:=(ajP (gu rs (rs.map cls) 0)).mem_iff.1 hj;rw [Jn]at h1;unfold dK at h1;simp at h1;omega
theorem ajV(rs:List Int)(ps:List PR)(v1 v2:Value)(w:World)(hn:rs.length<=1000)(hps:ps.length<=600)(hv1:js w v1 rs)(hv2:rP w v2 ps):
  Calls prog 131 #[v1,v2] w fun e w'=>e= .returned (.bool (AJ rs ps))/\Below w.heap.size w w':=by
 have pR:=abG rs v1 w hn hv1;have rR:Hid (∀W,Below w.heap.size w W->Calls prog 48 #[v1,.int .i64 0] W fun ev w'=>∃g c,ev= .returned (.slice (some ⟨g,0,none⟩) rs.length c)/\w'.ownsRow W.heap.size 3 1 (.slice (some ⟨g,0,none⟩) rs.length c) rs.length (iv (gu rs (rs.map cls) 0))/\Below W.heap.size W w'):=fun W hW=>aiV rs 0 v1 W hn (hv1.below hW)
 have HOr:Hid (∀W v,js W v (gu rs (rs.map cls) 0)->Calls prog 49 #[v] W fun e w'=>∃v',e= .returned v'/\w'.ownsRow W.heap.size 3 1 v' (lT (gu rs (rs.map cls) 0)).length (iv (lT (gu rs (rs.map cls) 0)))/\Below W.heap.size W w'):=fun W v h=>akV _ v W (by rw [Jn];exact hn) h (RN rs)
 have zM:Hid (∀(q:Nat) W,Below w.heap.size w W->Calls prog 194 #[v2,.int .i64 q] W fun e w'=>e= .returned (.int .i64 (pI q ps 0))/\w'=W):=fun q W hW=>abp ps v2 q W hps (hv2.below hW)
 have hol:(lT (gu rs (rs.map cls) 0)).length=rs.length:=by rw [Ss,Jn]
 have Gk:=ah (Sr rs);have wK:Hid (AJ rs ps=zu (-1) ((lT (gu rs (rs.map cls) 0)).map fun j=>pI ((dZ 0 rs).getD j.toNat 0) ps 0)):=rfl;generalize gu rs (rs.map cls) 0=LV at*;generalize lT LV=OV at*;rw [hol]at HOr;obtain⟨n,hN⟩:∃n,n=rs.length:=⟨_,rfl⟩
 have HN:=ah hN;have yg:Hid (OV.length=n):=by show _=_;rw [hol,hN]
 rw [<-hN]at hn pR rR HOr Gk;obtain⟨R,hR⟩:∃R,R=AJ rs ps:=⟨_,rfl⟩
 rw [<-hR]at wK ⊢;clear hol hN hR hv1 hv2;go_enter func131,ntmps131;go_wp2_with fail;refine pR.mono ?_;clear pR;rintro ev W1 ⟨va,rfl,iq,hb1⟩;obtain⟨ga,ca,rfl,hca,_,ahl⟩:=sL iq (by omega);have HA:=ah iq;have aG:=ah hb1;have hz1:=hb1.size;clear iq hb1;go_wp2_with fail;refine(rR.out _ aG.out).mono ?_;clear rR;rintro ev W2 ⟨gl,cl,rfl,hrl,hb2⟩;have cW:=ah (js.JA hrl);have aJ:=ah hb2;have hz2:=hb2.size;clear hrl hb2;go_wp2_with fail;refine(HOr.out _ _ cW.out).mono ?_;clear HOr cW;rintro ev W3 ⟨vo,rfl,hro,hb3⟩;obtain⟨oa,oc,rfl⟩:=kE hro;have rT:=ah hro;have aI:=ah (aJ.out.trans (hb3.mono hz2));have hz3:=aI.out.size;have oU:=ah (aG.out.trans (aI.out.mono hz1));clear hro hb3;go_wp2;go_loopg [8,9,10] n (fun gk lv fE _ W=>∃(i:Nat)(last:Int),i<=n/\gk=n - i/\fE= .int .i64 i/\lv= .int .i64 last/\zu last ((OV.drop i).map fun j=>pI ((dZ 0 rs).getD j.toNat 0) ps 0)=R/\W=W3);case atStart=>exact⟨0, -1,by omega,rfl,rfl,rfl,wK.out.symm,rfl⟩
 case round=>
  obtain⟨i,last,hi,rfl,rfl,rfl,hj,rfl⟩:=hrel;by_cases hlt:i<n
  .have hil:i<OV.length:=by rw [yg.out];exact hlt
   obtain⟨og,od,II,hod,_,ahC⟩:=sL rT.out (by omega);simp only [uY,vN]at II;obtain⟨rfl,rfl⟩:=II;obtain⟨Rx,Ry⟩:=Gk.out OV[i] (pV hil);have EY:wr.cell? ⟨og,i,none⟩=some (.int .i64 OV[i]):=by rw [dg rT.out i (by omega)];simp [iv,hil]
   rw [l9 hil,pX,zu]at hj;obtain⟨jj,hjj⟩:∃jj:Nat,OV[i]=(jj:Int):=⟨OV[i].toNat,by omega⟩
   rw [hjj]at EY hj Ry;have ahf:wr.cell? ⟨ga,jj,none⟩=some (.int .i64 ((dZ 0 rs).getD jj 0:Nat)):=by
    rw [dg (vJ HA.out aI.out) jj (by omega)];have hpl:=abB 0 rs;have:jj<(dZ 0 rs).length:=by rw [hpl,<-HN.out];omega
    rw [nv,jO,aQ this,GP,aO,aQ this];rfl
   simp only [CR]at hj;have U8:=zM.out ((dZ 0 rs).getD jj 0) wr oU.out;generalize(dZ 0 rs).getD jj 0=q at*;generalize pI q ps 0=k at*;have hin:(i:Int)<(n:Int):=by omega
   have hjn:jj<n+1:=by omega
   have aow:(jj:Int)<(n:Int)+1:=by omega
   have yh:Hid _:=U8;clear U8 hjj hil Rx;by_cases hkl:k<last
   .rw [aj hkl]at hj;subst hj;go_wp2_with fail;refine zy yh.out ?_;rintro ev wx ⟨rfl,hwx⟩;have jK:=hwx.symm;subst jK;clear hwx;go_wp2;go_ret;exact⟨rfl,oU.out⟩
   .rw [ai hkl]at hj;have HJ:=ah hj;clear hj;go_wp2_with fail;refine zy yh.out ?_;rintro ev wx ⟨rfl,hwx⟩;have jK:=hwx.symm;subst jK;clear hwx;go_wp2;go_roundg (n - (i+1));case measure=>omega
    case rel=>exact⟨i+1,k,by omega,rfl,by go_num,rfl,HJ.out,rfl⟩
  .obtain rfl:i=n:=by omega
   have hin:¬(i:Int)<(i:Int):=by omega
   rw [uU (by rw [yg.out];exact ay _),Em,zu]at hj;subst hj;go_wp2;go_ret;exact⟨rfl,oU.out⟩
def ve(l:List Int):Bool:=if l.length=0 then true else Lib.downOK (fun x y=>decide (x<y)) l.toArray (l.length - 1)
theorem air(l:List Int)(v:Value)(w:World)(hl:l.length<=1000)(hv:js w v l):
  Calls prog 185 #[v] w fun e w'=>e= .returned (.bool (ve l))/\Below w.heap.size w w':=by
 unfold ve;by_cases h0:l.length=0
 .rw [aj h0];obtain⟨x,c,rfl,_⟩:=hv.form;rw [h0];exact(AnyO.slices_IsSorted_int_none Tryz.laysSorted x c w).mono fun e w' ⟨he,hw⟩=>⟨he,by rw [hw];exact aA _ _⟩
 .rw [ai h0];obtain⟨x,c,rfl,hx⟩:=hv.form;obtain⟨b,off,rfl,hi⟩:=hx (by omega);refine(AnyO.slices_IsSorted_int Tryz.laysSorted b off c l.toArray w (fun i hi'=> ?_) (by simp;omega)).mono ?_
  .have hil:i<l.length:=by simpa using hi'
   rw [hi i hil]
   congr 2
   rw [aO,aQ hil];simp [hil]
  .rintro e w' ⟨he,q,hw⟩;exact⟨he,by rw [hw];exact below_drewN w q⟩
def zn(rs nums:List Int):List Int:=(lT (gu rs (rs.map cls) 0)).map fun j=>nums.getD j.toNat 0
theorem amd(line:ByteArray)(rs:List Int)(l:List PR)(v:Value)(w:World)(aL aT aC:Addr)(hs:line.size<=600)(hr:fH line=some rs)(hr3:rs.length<=300)(hl:l.length<=600)(hE:Env w aL aT aC)(hB:Br w)(hv:yA w v l)(hx:∀x∈l,CV line x)(hM:(ja line l 0).length=rs.length):
  Calls prog 109 #[.string line,v] w fun e w'=>e= .returned (.bool (ve (zn rs (ja line l 0))))/\Below w.heap.size w w':=by
 obtain⟨iI,eY,eZ,fe,fh⟩:=gW Tryz.Dw;have HP:=akg line l v w hs hl hv hx;have rR:Hid (∀W,Below w.heap.size w W->Calls prog 55 #[.string line,.int .i64 0] W fun e w'=>∃g,e= .returned (.slice (some ⟨g,0,none⟩) rs.length rs.length)/\bh w' W.heap.size 3 g rs.length (iv (gu rs (rs.map cls) 0))/\Below W.heap.size W w'):=fun W hW=>aeP line rs 0 W aL aT aC hs hr hr3 (hE.below hW) (hB.below hW)
 have HOr:Hid (∀W g B,bh W B 3 g rs.length (iv (gu rs (rs.map cls) 0))->Calls prog 59 #[.slice (some ⟨g,0,none⟩) rs.length rs.length] W fun e w'=>∃g,e= .returned (.slice (some ⟨g,0,none⟩) rs.length rs.length)/\bh w' W.heap.size 3 g rs.length (iv (lT (gu rs (rs.map cls) 0)))/\Below W.heap.size W w'):=fun W g B h=>by
  rw [<-ajQ (RN rs)];exact aeS _ g 0 rs.length rs.length W (Jn rs) (by omega) (h.lt g rfl).2 (fun k hk=>by rw [iz];exact iJ h k hk) (RN rs)
 have Gk:=ah (Sr rs);have hol:(lT (gu rs (rs.map cls) 0)).length=rs.length:=by rw [Ss,Jn]
 have cE:Hid (zn rs (ja line l 0)=(lT (gu rs (rs.map cls) 0)).map fun j=>(ja line l 0).getD j.toNat 0):=rfl;rw [hM]at HP;obtain⟨SH,YG⟩:∃SH,SH=zn rs (ja line l 0):=⟨_,rfl⟩
 rw [<-YG]at cE ⊢;have wG:Hid (∀W v,js W v SH->Calls prog 185 #[v] W fun e w'=>e= .returned (.bool (ve SH))/\Below W.heap.size W w'):=fun W v h=>air SH v W (by rw [cE.out,jE,hol];omega) h
 generalize ve SH=R at*;generalize gu rs (rs.map cls) 0=LV at*;generalize lT LV=OV at*;generalize ja line l 0=NU at*;obtain⟨n,hN⟩:∃n,n=rs.length:=⟨_,rfl⟩
 rw [<-hN]at hr3 HP rR HOr Gk hol hM;have pO:=ah hM;have yg:=ah hol;clear hN hol hM YG hE hB hv hx hr;go_enter func109,ntmps109;go_wp2_with fail;refine HP.mono ?_;clear HP;rintro ev W1 ⟨nv1,rfl,yY,hb1⟩;obtain⟨na,nc,rfl⟩:=kE yY;have UU:=ah yY;have aG:=ah hb1;have hz1:=hb1.size;clear yY hb1;go_wp2_with(at_make;refine wpList_make_own _ rfl _ _ 31 rfl W1.heap.size 3 iI (.int .i64 0) 1 underlying31 eY eZ fe .i64 .i64 _ n rfl rfl (by omega) (by rw [fh];omega) (by unfold maxLen;omega) (by omega) ?_);intro W2 hown2 hg2;have aJ:Hid (Below W1.heap.size W1 W2):=(aA _ _).grown hg2 (ay _) (fun k hk=>by cases hk);have hz2:=aJ.out.size;have Us:=ah (aG.out.trans (aJ.out.mono hz1));have bK:=ah hown2;clear hown2 hg2;go_wp2_with fail;refine(rR.out _ Us.out).mono ?_;rintro ev W3 ⟨gl,rfl,hrl,hb3⟩;have rV:=ah hrl;have aI:=ah hb3;have hz3:=hb3.size;clear hrl hb3;go_wp2_with fail;refine(HOr.out _ _ _ rV.out).mono ?_;rintro ev W4 ⟨go,rfl,hro,hb4⟩;have N2:=ah hro;have fB:=ah (aI.out.trans (hb4.mono hz3));have BZ:=fB.out.size;have Bd:=ah (vJ bK.out fB.out);have HN4:=ah (vJ (vJ UU.out aJ.out) fB.out);have adE:Hid (Below w.heap.size w W4):=Us.out.trans (fB.out.mono (by omega));clear hro hb4 rR HOr;have adD:Hid (∀g,(Value.slice na n nc).ownBlock=some g->g<W1.heap.size):=fun g hg=>(UU.out.lt g hg).2
 have Ur:Hid (go<W4.heap.size/\W3.heap.size<=go):=⟨(N2.out.lt go rfl).2,(N2.out.lt go rfl).1⟩
 have aoW:W1.heap.size<W2.heap.size:=(bK.out.lt W1.heap.size rfl).2;have aoX:W1.heap.size<W3.heap.size:=by omega
 go_wp2;go_loopg [6,8,19] n (fun gk sv _ fE W=>∃(i:Nat),i<=n/\gk=n - i/\fE= .int .i64 i/\W.ownsRow W1.heap.size 3 1 sv i ((SH.take i).map (Value.int .i64))/\(∀k,sv.ownBlock=some k->k=W1.heap.size∨W4.heap.size<=k)/\W4.heap.size<=W.heap.size/\Below w.heap.size w W/\(∀k,k<W4.heap.size->k≠W1.heap.size->W.heap[k]? =W4.heap[k]?));case atStart=>exact⟨0,by omega,rfl,rfl,by simpa using Bd.out,fun k hk=> .inl (by simpa [Value.ownBlock]using hk.symm),ay _,adE.out,fun _ _ _=>rfl⟩
 case round=>
  rename World=>wa
  obtain⟨i,hi,rfl,rfl,hown,hap,hsz,hb,hfr⟩:=hrel;obtain⟨sa,sc,rfl⟩:=kE hown;have hbz:=hb.size;by_cases hlt:i<n
  .have hil:i<OV.length:=by rw [yg.out];exact hlt
   obtain⟨Rx,Ry⟩:=Gk.out (OV[i]'hil) (pV hil);have hrow:wa.ownsRow W3.heap.size 3 1 (.slice (some ⟨go,0,none⟩) n n) n (iv OV):=nC N2.out fun k o hk ho=>by
    obtain rfl:go=k:=by simpa [Value.ownBlock]using hk
    rw [hfr go Ur.out.1 (by have:=Ur.out.2;omega)];exact ho
   have EY:wa.cell? ⟨go,i,none⟩=some (.int .i64 (OV[i]'hil)):=by rw [dg hrow i (by omega)];simp [iv,hil]
   obtain⟨jj,hjj⟩:∃jj:Nat,OV[i]'hil=(jj:Int):=⟨(OV[i]'hil).toNat,by omega⟩
   have yY:wa.ownsRow w.heap.size 3 1 (.slice na n nc) n (NU.map (Value.int .i64)):=nC HN4.out fun k o hk ho=>by
    have hk1:=adD.out k hk;rw [hfr k (by omega) (by omega)];exact ho
   obtain⟨ng,nd,hne,hnd,_,aoH⟩:=sL yY (by omega);simp only [uY,vN]at hne;obtain⟨rfl,rfl⟩:=hne;have hjn:jj<n:=by omega
   have Ap:jj<NU.length:=by rw [pO.out];exact hjn
   have hcn:wa.cell? ⟨ng,jj,none⟩=some (.int .i64 (NU.getD jj 0)):=by
    rw [dg yY jj (by omega),jO,aQ Ap,aO,aQ Ap];rfl
   have htk:SH.take (i+1)=SH.take i++[NU.getD jj 0]:=by
    have Qf:i<SH.length:=by rw [cE.out,jE];exact hil
    rw [pZ Qf]
    congr 2
    simp only [cE.out,List.getElem_map,hjj,CR]
   rw [hjj]at EY;have qP:=ah htk;generalize NU.getD jj 0=q at*;have hin:(i:Int)<(n:Int):=by omega
   have hji:(jj:Int)<(n:Int):=by omega
   have Kc:=ah hap;have HFr:=ah hfr;have HB:=ah hb;clear hjj htk hrow yY hil Ap Rx Ry hap hfr hb;have hbW:W1.heap.size<=wa.heap.size:=by omega
   go_wp2_with(at_builtin;refine xU _ rfl _ _ 31 rfl W1.heap.size 3 iI (.int .i64 0) 8 underlying31 eY eZ fe fh rfl (by decide) _ _ _ rfl hown _ _ _ rfl rfl rfl (by omega) hbW ?_);intro v5 w5 b9 cA lM;have dx:Hid (Below w.heap.size w w5):=HB.out.grown cA hbz (fun y hy=>by have:=(hown.lt y hy).1;omega);have pP:Hid (w5.ownsRow W1.heap.size 3 1 v5 (i+1) ((SH.take (i+1)).map (Value.int .i64))):=by
    show World.ownsRow _ _ _ _ _ _ _;rw [qP.out,fO,VF];exact b9
   have Nl:Hid (∀k,v5.ownBlock=some k->k=W1.heap.size∨W4.heap.size<=k):=fun k hk=>by
    rcases lM with h|h
    .rw [h]at hk;exact Kc.out k hk
    .rw [h]at hk;have:=aK hk
     first|omega|(simp at this;omega)
   have F5:Hid (∀k,k<W4.heap.size->k≠W1.heap.size->w5.heap[k]? =W4.heap[k]?):=fun k h1 h2=>by
    rw [cA.block k (by omega) (fun e=>by rcases Kc.out k e.symm with h|h<;>omega)];exact HFr.out k h1 h2
   have ahR:W4.heap.size<=w5.heap.size:=by have:=cA.size;omega
   clear hown b9 cA lM;go_wp2;go_roundg (n - (i+1));case measure=>omega
   case rel=>exact⟨i+1,by omega,rfl,by go_num,pP.out,Nl.out,ahR,dx.out,F5.out⟩
  .obtain rfl:i=n:=by omega
   have hin:¬(i:Int)<(i:Int):=by omega
   have Qf:SH.length=i:=by rw [cE.out,jE];exact yg.out
   rw [lB (by omega)]at hown;have Bf:=ah (js.JA hown);have HB:=ah hb;clear hown hap hb hfr Qf;go_wp2_with fail;refine(wG.out _ _ Bf.out).mono ?_;rintro ev w6 ⟨rfl,fR⟩;have ia:=ah (HB.out.trans (fR.mono hbz));clear fR;go_wp2;go_ret;exact⟨rfl,ia.out⟩
def JQ(line:ByteArray)(rs:List Int)(l:List PR):Bool:=(found (rs.map cls)==0)&&ve (zn rs (ja line l 0))&&l.all (oC line)
theorem aip(line:ByteArray)(rs:List Int)(l:List PR)(v:Value)(w:World)(aL aT aC:Addr)(hs:line.size<=600)(hr:fH line=some rs)(hr3:rs.length<=300)(hl:l.length<=600)(hE:Env w aL aT aC)(hB:Br w)(hv:yA w v l)(hx:∀x∈l,CV line x)(hM:(ja line l 0).length=rs.length):
  Calls prog 64 #[.string line,v] w fun e w'=>e= .returned (.bool (JQ line rs l))/\Below w.heap.size w w':=by
 have HP:=ah (akc line rs w aL aT aC hs hr hE);have HS:Hid (∀W,Below w.heap.size w W->Calls prog 109 #[.string line,v] W fun e w'=>e= .returned (.bool (ve (zn rs (ja line l 0))))/\Below W.heap.size W w'):=fun W hW=>amd line rs l v W aL aT aC hs hr hr3 hl (hE.below hW) (hB.below hW) (hv.below hW) hx hM
 have HI:Hid (∀W,Below w.heap.size w W->Calls prog 110 #[.string line,v] W fun e w'=>e= .returned (.bool (l.all (oC line)))/\Below W.heap.size W w'):=fun W hW=>ah5 line l v W aL aT aC hs hl (hE.below hW) (hv.below hW) hx
 have HR:Hid (JQ line rs l=((found (rs.map cls)==0)&&ve (zn rs (ja line l 0))&&l.all (oC line))):=rfl;generalize JQ line rs l=R at*;generalize ve (zn rs (ja line l 0))=D at*;generalize l.all (oC line)=C at*;generalize found (rs.map cls)=F at*;have hR:=HR.out;clear hE hB hv hx hM hr;by_cases hF:F=0
 .subst hF;cases D
  .simp at hR;subst hR;go_enter func64,ntmps64;go_wp2_with fail;refine HP.out.mono ?_;rintro ev w1 ⟨rfl,hb1⟩;have aG:=ah hb1;have hz1:=hb1.size;clear hb1;go_wp2_with fail;refine(HS.out _ aG.out).mono ?_;rintro ev w2 ⟨rfl,hb2⟩;have aJ:=ah (aG.out.trans (hb2.mono hz1));clear hb2;go_wp2;go_ret;exact⟨rfl,aJ.out⟩
  .simp at hR;subst hR;go_enter func64,ntmps64;go_wp2_with fail;refine HP.out.mono ?_;rintro ev w1 ⟨rfl,hb1⟩;have aG:=ah hb1;have hz1:=hb1.size;clear hb1;go_wp2_with fail;refine(HS.out _ aG.out).mono ?_;rintro ev w2 ⟨rfl,hb2⟩;have aJ:=ah (aG.out.trans (hb2.mono hz1));have hz2:=aJ.out.size;clear hb2;go_wp2_with fail;refine(HI.out _ aJ.out).mono ?_;rintro ev w3 ⟨rfl,hb3⟩;have aI:=ah (aJ.out.trans (hb3.mono hz2));clear hb3;go_wp2;go_ret;exact⟨rfl,aI.out⟩
 .have hF':(F==0)=false:=by simpa using hF
  rw [hF']at hR;simp at hR;subst hR;go_enter func64,ntmps64;go_wp2_with fail;refine HP.out.mono ?_;rintro ev w1 ⟨rfl,hb1⟩;have aG:=ah hb1;clear hb1;go_wp2;go_ret;exact⟨rfl,aG.out⟩
def nU:Nat->List Int->List Nat
 |_,[]=>[]
 |p,r::rs=>p::nU (p+wd r) rs
theorem SN(p:Nat)(rs:List Int):(nU p rs).length=rs.length:=by
 induction rs generalizing p with
 |nil=>rfl
 |cons r rs ih=>simp [nU,ih]
theorem akt(p:Nat)(rs:List Int)(j:Nat)(hj:j<rs.length):(dZ p rs).getD j 0=(nU p rs).getD j 0:=by
 induction rs generalizing p j with
 |nil=>simp at hj
 |cons r rs ih=>
  cases j with
  |zero=>simp [dZ,nU]
  |succ j=>simpa [dZ,nU]using ih (p+wd r) j (by simpa using hj)
theorem FC {x:ByteArray}{a:Nat}{r:Int}(h1:a<x.size)(h2:bu x a≠0)(h3:r=iL x a):wd r=bu x a:=by rw [h3];exact acJ x a h1 h2
theorem abD {x:ByteArray}:∀(r1:List Int)(a b:Nat)(r2:List Int),RX x a b r1->nU a (r1++r2)=nU a r1++nU b r2
 |[],a,b,r2,h=>by have:a=b:=h;subst this;rfl
 |r::r1,a,b,r2,h=>by
  obtain⟨h1,h2,h3,h4⟩:=h;have hw:=FC h1 h2 h3;rw [Gy,nU,nU,hw,abD r1 _ b r2 h4];rfl
theorem abE {x:ByteArray}:∀(r1:List Int)(a b:Nat),RX x a b r1->∀q∈nU a r1,a<=q/\q<b
 |[],a,b,_,q,hq=>by cases hq
 |r::r1,a,b,h,q,hq=>by
  obtain⟨h1,h2,h3,h4⟩:=h;have hw:=FC h1 h2 h3;have hle:=FB h4;rw [nU,hw]at hq;rcases jF.1 hq with rfl|hq
  .omega
  .have:=abE r1 _ b h4 q hq;omega
theorem abF {x:ByteArray}:∀(r1:List Int)(a:Nat),RA x a r1->∀q∈nU a r1,a<=q
 |[],a,_,q,hq=>by cases hq
 |r::r1,a,h,q,hq=>by
  obtain⟨h1,h2,h3,h4⟩:=h;have hw:=FC h1 h2 h3;rw [nU,hw]at hq;rcases jF.1 hq with rfl|hq
  .omega
  .have:=abF r1 _ h4 q hq;omega
theorem Si {x:ByteArray}:∀(ps:List PR)(a k:Nat)(rs:List Int),wY a x.size ps->RA x a rs->(∀y∈ps,PX x y)->ja x ps k=(nU a rs).map (fun q=>pI q ps k)
 |[],a,k,rs,hc,hr,_=>by
  have hc':a=x.size:=hc;cases rs with
  |nil=>rfl
  |cons r rs=>have:=hr.1;omega
 |y::ys,a,k,rs,hc,hr,hx=>by
  obtain⟨c1,c2,c3⟩:=hc;have px:=hx y KN;obtain⟨r1,r2,e1,e2,e3⟩:=JI px.tl px.aT rs a hr (by omega);have hrx:DL x y=r1:=by unfold DL;rw [c1,JP px.tl e2];rfl
  rw [ja,hrx,e1,abD r1 a y.dU r2 e2,fO]
  congr 1
  .have h1:∀q∈nU a r1,pI q (y::ys) k=(k:Int):=fun q hq=>by
    have:=abE r1 a y.dU e2 q hq;rw [pI,aj ⟨by omega,this.2⟩]
   rw [GD h1,List.map_const',SN]
  .rw [Si ys y.dU (k+1) r2 c3 e3 (fun z hz=>hx z (En _ hz))];refine GD fun q hq=> ?_
   have:=abF r2 y.dU e3 q hq;rw [pI,ai (fun h=>by omega)]
theorem ajy {x:ByteArray}{ps:List PR}{rs:List Int}(hc:wY 0 x.size ps)(hr:RA x 0 rs)(hx:∀y∈ps,PX x y):(ja x ps 0).length=rs.length:=by
 rw [Si ps 0 0 rs hc hr hx,jE,SN]
theorem ame {x:ByteArray}{ps:List PR}{rs:List Int}(hc:wY 0 x.size ps)(hr:RA x 0 rs)(hx:∀y∈ps,PX x y):zn rs (ja x ps 0)=Tp rs ps:=by
 unfold zn Tp;refine GD fun j hj=> ?_
 obtain⟨j0,j1⟩:=Sr rs j hj;have hjl:j.toNat<rs.length:=by omega
 rw [akt 0 rs _ hjl,Si ps 0 0 rs hc hr hx];have hl:j.toNat<(nU 0 rs).length:=by rw [SN];exact hjl
 rw [aO,jO,aO,aQ hl];rfl
theorem ac5:∀(l:List Int)(a:Int),zu a l=true↔(∀x,l[0]? =some x->a<=x)/\∀i,i+1<l.length->l.getD i 0<=l.getD (i+1) 0
 |[],a=>by simp [zu]
 |k::ks,a=>by
  rw [zu];by_cases h:k<a
  .rw [aj h];constructor
   .intro h';cases h'
   .intro⟨h1,_⟩;have:=h1 k rfl;omega
  .rw [ai h,ac5 ks k];constructor
   .rintro⟨h1,h2⟩;refine⟨fun x hx=>by have:k=x:=(by simpa using hx);omega,fun i hi=> ?_⟩;cases i with
    |zero=>
     cases ks with
     |nil=>simp at hi
     |cons b bs=>simpa using h1 b rfl
    |succ i=>simpa using h2 i (by simpa using hi)
   .rintro⟨_,h2⟩;refine⟨fun x hx=> ?_,fun i hi=> ?_⟩
    .cases ks with
     |nil=>cases hx
     |cons b bs=>
      have hb:b=x:=by simpa using hx
      subst hb;simpa using h2 0 (by simp)
    .simpa using h2 (i+1) (by simpa using hi)
theorem down_up {l:List Int}(h:∀x∈l, -1<=x):ve l=zu (-1) l:=by
 rw [Cw,ac5];unfold ve;by_cases h0:l.length=0
 .have:l=[]:=OJ.1 h0;subst this;simp
 .rw [ai h0,Lib.downOK_iff];have hg:∀i,i<l.length->l.toArray[i]! =l.getD i 0:=fun i hi=>by
   rw [aO,aQ hi];simp [hi]
  constructor
  .intro h1;refine⟨fun x hx=>h x (VG hx),fun i hi=> ?_⟩;have:=h1 i (by omega);rw [hg _ (by omega),hg _ (by omega)]at this;simp at this;exact this
  .rintro⟨_,h2⟩ i hi;rw [hg _ (by omega),hg _ (by omega)];have:=h2 i (by omega);simp;exact this
theorem abh(q:Nat):∀(l:List PR)(k:Nat), -1<=pI q l k
 |[],_=>by simp [pI]
 |x::xs,k=>by
  rw [pI];split
  .omega
  .exact abh q xs (k+1)
theorem ajR {x:ByteArray}{ps:List PR}{rs:List Int}(hc:wY 0 x.size ps)(hr:RA x 0 rs)(hx:∀y∈ps,PX x y):ve (zn rs (ja x ps 0))=AJ rs ps:=by
 rw [ame hc hr hx];unfold AJ;refine down_up fun z hz=> ?_
 obtain⟨j,_,rfl⟩:=jr.1 hz;exact abh _ _ _
theorem akw {x:ByteArray}{rs:List Int}{y:PR}(hr:RA x 0 rs)(hx:PX x y):CV x y:=by
 obtain⟨r0,r1,r2,_,_,h1,_⟩:=abS hr (fW hx.ft) hx.tl hx.aF hx.aT;refine⟨fW hx.ft,hx.tl,⟨r1,JP hx.tl h1⟩,fun hk=> ?_⟩;obtain⟨b1,b2,b3,b4,b5,_,_⟩:=hx.bd hk;have htl:=hx.tl;obtain⟨q0,q1,q2,_,_,h2,_⟩:=abS hr b2 (by omega:y.end_<=x.size) b4 b5;exact⟨b2,by omega,q1,JP (by omega) h2⟩
