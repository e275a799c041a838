import Derived.Test.YtkbinfhclaafhaaGreatDoorH27
import Derived.Test.YtkbinfhclaafhaaGreatDoorShelfQ
import Derived.Test.YtkbinfhclaafhaaGreatDoorH26
import Derived.Lib.CountLaws
import Derived.Test.YtkbinfhclaafhaaGreatDoorH20
namespace Go.Proofs.YtkbinfhclaafhaaGreatDoor
open Go.RowKit
open Go.Proofs.Tryz
set_option maxRecDepth 100000
set_option maxHeartbeats 32000000
theorem aa4(s:ByteArray)(rs:List Int)(w:World)(aL aT aC:Addr)(hs:s.size<=600)(hr:dh s=some rs)(hE:Env w aL aT aC):
  Calls prog 229 #[.string s] w fun e w'=>e= .returned (.bool (kF rs []))/\Below w.heap.size w w':=by
 have vX:Hid (∀(r:Int)(W:World),Below w.heap.size w W->Calls prog 66 #[.int .i32 r] W fun e w'=>e= .returned (.int .i64 (cls r))/\Below W.heap.size W w'):=fun r W hW=>R5 (hE.below hW) r
 have sZ:Hid (RA s 0 rs):=si hr;obtain⟨R,hR⟩:∃R,R=kF rs []:=⟨_,rfl⟩
 rw [<-hR];have HR:Hid (kF rs []=R):=hR.symm;clear hE hr hR;go_enter func229,ntmps229;go_wp2;have hsz0:(w.alloc (.cells #[.slice none 0 0] 296)).heap.size=w.heap.size+1:=by simp
 go_loopg [5,6,7,8] s.size (fun gk _ _ _ _ W=>∃(p:Nat)(rt:List Int)(st:List Nat)(v:Value),p<=s.size/\gk=s.size - p/\RA s p rt/\kF rt st=R/\st.length<=p/\W.heap[w.heap.size+1]? =some (.stringIter s p)/\dV W w.heap.size w.heap.size v st/\Below w.heap.size w W);case atStart=>
  refine⟨0,rs,[],.slice none 0 0,by omega,rfl,sZ.out,HR.out,by simp,?_,⟨?_,World.ownsRow_nil _ _ _ _,Nat.le_refl _⟩,((Below.refl _ _).alloc (Nat.le_refl _) _).alloc (by simp) _⟩
  .have:=World.iter_heap (w.alloc (.cells #[.slice none 0 0] 296)) s 0;rw [hsz0]at this;exact this
  .exact(Below.heap_alloc _ _ _ (by simp)).trans (World.alloc_heap_new _ _)
 case round=>
  obtain⟨p,yZ,st,v,hp,rfl,hra,hj,hst,hit,hS,hb⟩:=hrel;have hbz:=hb.size;by_cases hlt:p<s.size
  .cases yZ with
   |nil=>exact absurd hra (by show¬p=s.size;omega)
   |cons r0 rt=>
    obtain⟨_,hz,hr0,nK⟩:=hra;have oD:Hid (RA s (p+aJ s p) rt):=nK;have hle:p+aJ s p<=s.size:=Cz s p hlt hz;have VO:0<aJ s p:=by omega
    have hw:=Cy s p hz;have hnx:∀ty,(Instr.next (.pointer (some ⟨w.heap.size+1,0,none⟩)) true ty).run prog wr= .ok (.tuple #[.bool true,.int .i64 p,.int .i32 (gJ s p)]) (wr.iterAt (w.heap.size+1) s (p+aJ s p)):=fun ty=>by
     rw [Lib.run_next_any_at wr (w.heap.size+1) s p ty hit hlt,hw];rfl
    have HIT:Hid (wr.heap[w.heap.size+1]? =some (.stringIter s p)):=hit;have HS:Hid (dV wr w.heap.size w.heap.size v st):=hS;have HB:Hid (Below w.heap.size w wr):=hb;rw [hr0]at hj;clear nK hz hw hit hS hb hr0;generalize aJ s p=n at*;generalize gJ s p=r at*;obtain⟨wi,hwi⟩:∃wi,wi=wr.iterAt (w.heap.size+1) s (p+n):=⟨_,rfl⟩
    have HI1:Hid (wi.heap[w.heap.size+1]? =some (.stringIter s (p+n))):=by show _=_;rw [hwi];exact Lib.iterAt_heap wr _ s p _ HIT.out
    have HB1:Hid (Below w.heap.size w wi):=by show Below _ _ _;rw [hwi];exact Lib.below_iterAt HB.out (by omega) _ _
    have gQ:Hid (dV wi w.heap.size w.heap.size v st):=HS.out.keep fun k o ho hk=>by
     rw [hwi,Lib.iterAt_other]
     .exact ho
     .rintro rfl;rcases hk with hk|hk
      .omega
      .exact own_ne_iter HS.out.row HIT.out hk
    rw [<-hwi]at hnx;clear hwi;have rz:Hid (Calls prog 66 #[.int .i32 r] wi fun e w'=>e= .returned (.int .i64 (cls r))/\Below wi.heap.size wi w'):=vX.out r wi HB1.out;rw [kF]at hj;generalize cls r=c at*;go_wp2_with fail;refine rz.out.mono ?_;rintro ev w3 ⟨rfl,hb3⟩;have HI3:Hid (w3.heap[w.heap.size+1]? =some (.stringIter s (p+n))):=aR hb3 HI1.out;have gY:Hid (dV w3 w.heap.size w.heap.size v st):=gQ.out.below hb3;have HB3:Hid (Below w.heap.size w w3):=HB1.out.trans (hb3.mono HB1.out.size);clear hnx hb3 rz;go_wp2_with fail;refine(zN c w3).mono ?_;rintro ev wx ⟨rfl,hwx⟩;have mH:=hwx.symm;subst mH;clear hwx;cases hem:ic c
    .rw [hem,if_neg (by simp)]at hj;go_wp2_with fail;refine(kH c w3).mono ?_;rintro ev wx ⟨rfl,hwx⟩;have mH:=hwx.symm;subst mH;clear hwx;cases bG:aG c
     .rw [bG,if_neg (by simp)]at hj;go_wp2_with fail;refine(Z0 c w3).mono ?_;rintro ev wx ⟨rfl,hwx⟩;have mH:=hwx.symm;subst mH;clear hwx;cases htu:fO c
      .rw [htu,if_neg (by simp)]at hj;have HJ:Hid (kF rt st=R):=hj;clear hj;go_wp2;go_roundg (s.size - (p+n));case measure=>omega
       case rel=>exact⟨p+n,rt,st,v,hle,rfl,oD.out,HJ.out,by omega,HI3.out,gY.out,HB3.out⟩
      .rw [htu,if_pos rfl]at hj;rcases List.eq_nil_or_concat st with rfl|⟨st',x,rfl⟩
       .have hj':false=R:=hj;subst hj';go_wp2_with fail;refine(ahr w3 w.heap.size w.heap.size v gY.out).mono ?_;rintro ev wx ⟨rfl,hwx⟩;have mH:=hwx.symm;subst mH;clear hwx;go_wp2;go_ret;exact⟨rfl,HB3.out⟩
       .rw [List.concat_eq_append]at*;simp only [List.getLast?_append,List.getLast?_singleton,Option.some_or,List.dropLast_concat]at hj;have hsl:(st'++[x]).length=st'.length+1:=by simp
        rw [hsl]at hst;by_cases Ef:(x:Int)=c
        .rw [if_pos Ef]at hj;have HJ:Hid (kF rt st'=R):=hj;clear hj;subst Ef;go_wp2_with fail;refine(Yu w3 w.heap.size w.heap.size v st' x gY.out (by omega)).mono ?_;rintro ev w4 ⟨rfl,v',ig,lK⟩;have rE:Hid (dV w4 w.heap.size w.heap.size v' st'):=ig;have HI4:Hid (w4.heap[w.heap.size+1]? =some (.stringIter s (p+n))):=lK.iter gY.out HI3.out;have dL:Hid (Below w.heap.size w w4):=lK.below gY.out HB3.out;clear ig lK;go_wp2;go_roundg (s.size - (p+n));case measure=>omega
         case rel=>exact⟨p+n,rt,st',v',hle,rfl,oD.out,HJ.out,by omega,HI4.out,rE.out,dL.out⟩
        .rw [if_neg Ef]at hj;have akp:((x:Int)==c)=false:=by simpa using Ef
         have akq:((x:Int) !=c)=true:=by simpa using Ef
         subst hj;go_wp2_with fail;refine(Yu w3 w.heap.size w.heap.size v st' x gY.out (by omega)).mono ?_;rintro ev w4 ⟨rfl,v',ig,lK⟩;have dL:Hid (Below w.heap.size w w4):=lK.below gY.out HB3.out;clear ig lK;go_wp2;go_ret;exact⟨rfl,dL.out⟩
     .rw [bG,if_pos rfl]at hj;have HJ:Hid (kF rt (st++[21])=R):=hj;clear hj;go_wp2_with fail;refine(YA w3 w.heap.size w.heap.size v st 21 gY.out (by omega)).mono ?_;rintro ev w4 ⟨rfl,v',ig,lK⟩;have rE:Hid (dV w4 w.heap.size w.heap.size v' (st++[21])):=ig;have HI4:Hid (w4.heap[w.heap.size+1]? =some (.stringIter s (p+n))):=lK.iter gY.out HI3.out;have dL:Hid (Below w.heap.size w w4):=lK.below gY.out HB3.out;clear ig lK;go_wp2;go_roundg (s.size - (p+n));case measure=>omega
      case rel=>exact⟨p+n,rt,st++[21],v',hle,rfl,oD.out,HJ.out,by simp;omega,HI4.out,rE.out,dL.out⟩
    .rw [hem,if_pos rfl]at hj;have HJ:Hid (kF rt (st++[17])=R):=hj;clear hj;go_wp2_with fail;refine(YA w3 w.heap.size w.heap.size v st 17 gY.out (by omega)).mono ?_;rintro ev w4 ⟨rfl,v',ig,lK⟩;have rE:Hid (dV w4 w.heap.size w.heap.size v' (st++[17])):=ig;have HI4:Hid (w4.heap[w.heap.size+1]? =some (.stringIter s (p+n))):=lK.iter gY.out HI3.out;have dL:Hid (Below w.heap.size w w4):=lK.below gY.out HB3.out;clear ig lK;go_wp2;go_roundg (s.size - (p+n));case measure=>omega
     case rel=>exact⟨p+n,rt,st++[17],v',hle,rfl,oD.out,HJ.out,by simp;omega,HI4.out,rE.out,dL.out⟩
  .have hnx:∀ty,(Instr.next (.pointer (some ⟨w.heap.size+1,0,none⟩)) true ty).run prog wr= .ok (.tuple #[.bool false]) wr:=fun ty=>Lib.run_next_end_at wr (w.heap.size+1) s p ty hit hlt
   cases yZ with
   |cons r0 rt=>exact absurd hra.1 hlt
   |nil=>
    rw [kF]at hj;have HS:Hid (dV wr w.heap.size w.heap.size v st):=hS;have HB:Hid (Below w.heap.size w wr):=hb;have iZ:Hid (Calls prog 260 #[.pointer (some ⟨w.heap.size,0,none⟩)] wr fun e w'=>e= .returned (.int .i64 st.length)/\w'=wr):=afq wr w.heap.size w.heap.size v st hS;clear hra hit hS hb;cases st with
    |nil=>
     have hj':true=R:=hj;subst hj';go_wp2_with fail;refine iZ.out.mono ?_;rintro ev wx ⟨rfl,hwx⟩;have mH:=hwx.symm;subst mH;clear hwx;go_wp2;go_ret;exact⟨rfl,HB.out⟩
    |cons x xs=>
     have hj':false=R:=hj;subst hj';have h0:(((x::xs).length:Int)==0)=false:=by simp;omega
     go_wp2_with fail;refine iZ.out.mono ?_;rintro ev wx ⟨rfl,hwx⟩;have mH:=hwx.symm;subst mH;clear hwx;generalize(x::xs).length=q at*;go_wp2;go_ret;exact⟨by first|rfl|simp [h0],HB.out⟩
def uI(rs:List Int):Bool:=rs.any fun r=>fO (cls r)
theorem VP(s:ByteArray):∀(f q:Nat)(rs:List Int),RA s q rs->s.size<=q+f->decide (0<=Lib.idxFuncFrom (fun x=>fO (cls (x:Int))) true s f q)=uI rs
 |0,q,rs,h,hf=>by
  cases rs with
  |nil=>rfl
  |cons r rs=>have:=h.1;omega
 |f+1,q,rs,h,hf=>by
  cases rs with
  |nil=>
   have hq:q=s.size:=h;rw [Lib.idxFuncFrom_end _ _ _ _ _ (by omega)];rfl
  |cons r rs=>
   obtain⟨h1,h2,h3,h4⟩:=h;have hw:=Cy s q h2;rw [Lib.idxFuncFrom,if_pos h1];have hr:r=((Utf8.decode s q).1:Int):=h3;by_cases ht:fO (cls ((Utf8.decode s q).1:Int))=true
   .rw [if_pos ht];unfold uI;rw [List.any_cons,hr,ht];simp
   .rw [if_neg ht,hw,VP s f (q+aJ s q) rs h4 (by omega)];unfold uI;rw [List.any_cons,hr];simp [ht]
theorem ajs(w:World)(aL aT aC:Addr)(hE:Env w aL aT aC):PredGrows prog 172 #[] (fun x=>fO (cls (x:Int))) w:=fun W x _ hW=>by
 simpa using ae6 (x:Int) W aL aT aC (hE.below hW)
theorem acU:∀args w,(callFunc 172 args).run prog w= .ok (.enter 172 args) w:=iB func172 (by kernel_rfl) (by kernel_rfl)
theorem aco(t:ByteArray)(rs:List Int)(w:World)(aL aT aC:Addr)(hE:Env w aL aT aC)(hr:dh t=some rs):
  Calls prog 228 #[.string t,.func (.func 172) #[] #[]] w fun e w'=>e= .returned (.bool (uI rs))/\Below w.heap.size w w':=by
 have h:=Any.strings_ContainsFunc_grows Tryz.laysCF 172 #[] acU (fun x=>fO (cls (x:Int))) t w (ajs w aL aT aC hE);have e:decide (0<=Lib.idxFunc (fun x=>fO (cls (x:Int))) true t)=uI rs:=VP t t.size 0 rs (si hr) (by omega);rw [e]at h;exact h
structure rG(line:ByteArray)(x:PR):Prop where
 ft:x.from_<=x.di
 tl:x.di<=line.size
 rs:∃rs,dh (line.extract x.from_ x.di)=some rs
 be:x.kind≠0->x.body<=x.end_/\x.end_<=line.size/\∃rs,dh (line.extract x.body x.end_)=some rs
def kX(line:ByteArray)(x:PR):Bool:=if x.kind=0 then !uI ((dh (line.extract x.from_ x.di)).getD [])else kF ((dh (line.extract x.body x.end_)).getD []) []
def om(x:PR):Value:= .agg #[.int .i64 x.kind,.int .i64 x.from_,.int .i64 x.di,.int .i64 x.body,.int .i64 x.end_]
theorem aeL(line:ByteArray)(x:PR)(w:World)(aL aT aC:Addr)(hs:line.size<=600)(hE:Env w aL aT aC)(hx:rG line x):
  Calls prog 186 #[.string line,om x] w fun e w'=>e= .returned (.bool (kX line x))/\Below w.heap.size w w':=by
 obtain⟨xl,xk,xf,xt,xb,xe⟩:=x;obtain⟨ft,tl,⟨rs,hrs⟩,be⟩:=hx;simp only at ft tl hrs be;unfold om kX;simp only;have HB0:Hid (Below w.heap.size w (w.alloc (.cells #[.int .i64 xk,.int .i64 xf,.int .i64 xt,.int .i64 xb,.int .i64 xe] 75))):=(Below.refl _ _).alloc (Nat.le_refl _) _;by_cases hk:xk=0
 .subst hk;rw [if_pos rfl,hrs];simp only [Option.getD_some];have HC:Hid (∀W,Below w.heap.size w W->Calls prog 228 #[.string (line.extract xf xt),.func (.func 172) #[] #[]] W fun e w'=>e= .returned (.bool (uI rs))/\Below W.heap.size W w'):=fun W hW=>aco _ rs W aL aT aC (hE.below hW) hrs
  generalize uI rs=q at*;have h1:(xf:Int)<=(xt:Int):=by omega
  have h2:(xt:Int)<=(line.size:Int):=by omega
  clear hrs be hE;go_enter func186,ntmps186;go_wp2_with fail;refine(HC.out _ HB0.out).mono ?_;rintro ev w1 ⟨rfl,hb1⟩;have HB1:Hid (Below w.heap.size w w1):=HB0.out.trans (hb1.mono HB0.out.size);clear hb1;go_wp2;go_ret;exact⟨by cases q<;>rfl,HB1.out⟩
 .obtain⟨b1,b2,⟨rb,hrb⟩⟩:=be hk;rw [if_neg hk,hrb];simp only [Option.getD_some];have hsz:(line.extract xb xe).size<=600:=by simp;omega
  have HC:Hid (∀W,Below w.heap.size w W->Calls prog 229 #[.string (line.extract xb xe)] W fun e w'=>e= .returned (.bool (kF rb []))/\Below W.heap.size W w'):=fun W hW=>aa4 _ rb W aL aT aC hsz hrb (hE.below hW)
  generalize kF rb []=q at*;have hk':((xk:Int)==0)=false:=by simpa using hk
  have h1:(xb:Int)<=(xe:Int):=by omega
  have h2:(xe:Int)<=(line.size:Int):=by omega
  clear hrs be hE hrb hsz hk;go_enter func186,ntmps186;go_wp2_with fail;refine(HC.out _ HB0.out).mono ?_;rintro ev w1 ⟨rfl,hb1⟩;have HB1:Hid (Below w.heap.size w w1):=HB0.out.trans (hb1.mono HB0.out.size);clear hb1;go_wp2;go_ret;exact⟨rfl,HB1.out⟩
theorem UT {w:World}{b j:Nat}{v:Value}(h:w.cell? ⟨b,j,none⟩=some v):b<w.heap.size:=by
 unfold World.cell? at h;split at h
 .rename_i hh;exact bJ hh
 .cases h
def uS(w:World)(v:Value)(l:List PR):Prop:=∃x c,v= .slice x l.length c/\(0<l.length->∃g,x=some ⟨g,0,none⟩/\l.length<=c/\zB w g l)
theorem uS.below {w w':World}{v:Value}{l:List PR}(h:uS w v l)(hb:Below w.heap.size w w'):uS w' v l:=by
 obtain⟨x,c,rfl,h⟩:=h;exact⟨x,c,rfl,fun h0=>let⟨g,h1,h2,h3⟩:=h h0;⟨g,h1,h2,h3.below hb⟩⟩
theorem ag7 {w:World}{B:Nat}{e:TypeId}{v:Value}{l:List PR}(h:w.ownsRow B e 5 v l.length (gH l)):uS w v l:=by
 obtain⟨x,c,rfl⟩:=xH h;refine⟨x,c,rfl,fun h0=> ?_⟩;obtain⟨g,d,e1,hd,_⟩:=IK h h0;simp only [Value.slice.injEq,true_and]at e1;obtain⟨rfl,rfl⟩:=e1;exact⟨g,rfl,hd,ag5 h rfl⟩
theorem aeK(line:ByteArray)(l:List PR)(v:Value)(w:World)(aL aT aC:Addr)(hs:line.size<=600)(hl:l.length<=600)(hE:Env w aL aT aC)(hv:uS w v l)(hx:∀x∈l,rG line x):
  Calls prog 110 #[.string line,v] w fun e w'=>e= .returned (.bool (l.all (kX line)))/\Below w.heap.size w w':=by
 obtain⟨x,c,rfl,Aa⟩:=hv;obtain⟨n,hn⟩:∃n,n=l.length:=⟨_,rfl⟩
 have HN:Hid (n=l.length):=hn;rw [<-hn]at hl Aa ⊢;have HX:Hid (0<n->∃g,x=some ⟨g,0,none⟩/\n<=c/\zB w g l):=Aa;have HB:Hid (∀y∈l,∀W,Below w.heap.size w W->Calls prog 186 #[.string line,om y] W fun e w'=>e= .returned (.bool (kX line y))/\Below W.heap.size W w'):=fun y hy W hW=>aeL line y W aL aT aC hs (hE.below hW) (hx y hy)
 obtain⟨R,hR⟩:∃R,R=l.all (kX line):=⟨_,rfl⟩
 rw [<-hR];have HR:Hid (l.all (kX line)=R):=hR.symm;clear hn Aa hE hx hR;go_enter func110,ntmps110;go_wp2;go_loopg [6,9] n (fun gk _ uo W=>∃(i:Nat),i<=n/\gk=n - i/\uo= .int .i64 i/\(l.drop i).all (kX line)=R/\Below w.heap.size w W);case atStart=>exact⟨0,by omega,rfl,rfl,HR.out,Below.refl _ _⟩
 case round=>
  rename World=>wa
  obtain⟨i,hi,rfl,rfl,hj,hb⟩:=hrel;have AX:Hid (Below w.heap.size w wa):=hb;have hbz:=hb.size;by_cases hlt:i<n
  .have hil:i<l.length:=by rw [<-HN.out];exact hlt
   obtain⟨g,rfl,hcn,hP⟩:=HX.out (by omega);obtain⟨p0,p1,p2,p3,p4⟩:=(hP.below hb) i hil;have lZ:Hid (∀W,Below w.heap.size w W->Calls prog 186 #[.string line,om (l[i]'hil)] W fun e w'=>e= .returned (.bool (kX line (l[i]'hil)))/\Below W.heap.size W w'):=HB.out _ (List.getElem_mem hil);rw [List.drop_eq_getElem_cons hil,List.all_cons]at hj;have hgl:=UT p0;generalize l[i]'hil=y at*;obtain⟨yl,yk,yf,yt,yb,ye⟩:=y;unfold om at lZ;simp only at p0 p1 p2 p3 p4 lZ;have HB2:Hid (Below w.heap.size w (wa.alloc (.cells #[.int .i64 yk,.int .i64 yf,.int .i64 yt,.int .i64 yb,.int .i64 ye] 75))):=hb.alloc hbz _;have hin:(i:Int)<(n:Int):=by omega
   generalize kX line ⟨yl,yk,yf,yt,yb,ye⟩=q at*;clear hP hil hb;go_wp2_with fail;refine(lZ.out _ HB2.out).mono ?_;rintro ev w1 ⟨rfl,hb1⟩;have HB1:Hid (Below w.heap.size w w1):=Below.trans HB2.out (hb1.mono (Below.size HB2.out));clear hb1;cases q
   .have hj':false=R:=by simpa using hj
    subst hj';go_wp2;go_ret;exact⟨rfl,HB1.out⟩
   .have hj':(l.drop (i+1)).all (kX line)=R:=by simpa using hj
    have HJ:Hid ((l.drop (i+1)).all (kX line)=R):=hj';clear hj hj';go_wp2;go_roundg (n - (i+1));case measure=>omega
    case rel=>exact⟨i+1,by omega,rfl,by go_num,HJ.out,HB1.out⟩
  .obtain rfl:i=n:=by omega
   have hin:¬(i:Int)<(i:Int):=by omega
   rw [List.drop_of_length_le (by rw [HN.out];exact Nat.le_refl _)]at hj;have hj':true=R:=hj;subst hj';clear hb;go_wp2;go_ret;exact⟨rfl,AX.out⟩
def Asc(s:ByteArray)(q:Nat):Prop:=q=0∨bt s q<128∨(0<q/\bt s (q - 1)<128)
theorem ahI(s:ByteArray)(i:Nat):(qR s i).2=false->bt s (qR s i).1=10:=by
 fun_induction qR s i with
 |case1 i h1 h2=>intro h;simp at h
 |case2 i h1 h2 h3 ih=>exact ih
 |case3 i h1 h2 h3 ih=>exact ih
 |case4 i h1=>
  intro _;by_cases hi:i<s.size
  .exact Classical.byContradiction fun h=>h1 ⟨hi,h⟩
  .exact wH hi
theorem afB(s:ByteArray)(i:Nat):bt s (bf s i)=10:=by
 fun_induction bf s i with
 |case1 i h1 ih=>exact ih
 |case2 i h1=>
  by_cases hi:i<s.size
  .exact Classical.byContradiction fun h=>h1 ⟨hi,h⟩
  .exact wH hi
theorem aa9(s:ByteArray)(i:Nat):((bR s i).2=true->bt s (bR s i).1=42/\bt s ((bR s i).1+1)=47)/\((bR s i).2=false->bt s (bR s i).1=10):=by
 fun_induction bR s i with
 |case1 i h1 h2=>exact⟨fun _=>h2,fun h=>by simp at h⟩
 |case2 i h1 h2 ih=>exact ih
 |case3 i h1=>exact⟨fun h=>by simp at h,fun _=>wH h1⟩
structure WF(s:ByteArray)(t:Tk):Prop where
 aF:Asc s t.F
 aT:Asc s t.T
 aB:Asc s t.B
 aE:Asc s t.E
 fb:t.F<=t.B
 be:t.B<=t.E
 et:t.E<=t.T
 lb:∀q,t.F<=q->q<t.B->bt s q<128
 le:∀q,t.E<=q->q<t.T->bt s q<128
theorem ajP(s:ByteArray)(p:Nat)(hk:(eP s p).k≠0):WF s (eP s p):=by
 unfold eP at hk ⊢;by_cases h1:bt s p=34
 .rw [if_pos h1];have hl:=Eo s (p+1);have hpb:bt s (p+1 - 1)<128:=by rw [Nat.add_sub_cancel,h1];decide
  have aE:Asc s (qR s (p+1)).1:=by
   cases hq:(qR s (p+1)).2 with
   |true=>right;left;rw [(II hq).2];decide
   |false=>right;left;rw [ahI s _ hq];decide
  refine⟨.inr (.inl (by simp only;rw [h1];decide)),?_,.inr (.inr ⟨by simp only;omega,hpb⟩),aE,by simp only;omega,by simp only;omega,by simp only;omega,fun q h2 h3=> ?_,fun q h2 h3=> ?_⟩
  .unfold qT;cases hq:(qR s (p+1)).2 with
   |true=>
    right;right;refine⟨by simp only [if_true];omega,?_⟩;show bt s ((qR s (p+1)).1+1 - 1)<128;rw [Nat.add_sub_cancel,(II hq).2];decide
   |false=>simpa using aE
  .simp only at h2 h3;obtain rfl:q=p:=by omega
   rw [h1];decide
  .simp only at h2 h3;unfold qT at h3;cases hq:(qR s (p+1)).2 with
   |true=>
    rw [hq]at h3;simp only [if_true]at h3;obtain rfl:q=(qR s (p+1)).1:=by omega
    rw [(II hq).2];decide
   |false=>rw [hq]at h3;simp at h3;omega
 .rw [if_neg h1]at hk ⊢;by_cases h2:bt s p=47/\bt s (p+1)=47
  .rw [if_pos h2];have h3:bf s p=bf s (p+1):=Af (by rw [h2.1];decide);have h4:bf s (p+1)=bf s (p+2):=Af (by rw [h2.2];decide);have h5:=Ae s (p+2);have aE:Asc s (bf s p):= .inr (.inl (by rw [afB];decide));refine⟨.inr (.inl (by simp only;rw [h2.1];decide)),aE,.inr (.inr ⟨by simp only;omega,?_⟩),aE,by simp only;omega,by simp only;omega,by simp only;omega,fun q h6 h7=> ?_,fun q h6 h7=>by simp only at h6 h7;omega⟩
   .show bt s (p+1)<128;rw [h2.2];decide
   .simp only at h6 h7;by_cases hq:q=p
    .rw [hq,h2.1];decide
    .rw [show q=p+1 by omega,h2.2];decide
  .rw [if_neg h2]at hk ⊢;by_cases h3:bt s p=47/\bt s (p+1)=42
   .rw [if_pos h3];have hl:=Hu s (p+2);obtain⟨b1,b2⟩:=aa9 s (p+2);have aE:Asc s (bR s (p+2)).1:=by
     cases hq:(bR s (p+2)).2 with
     |true=>right;left;rw [(b1 hq).1];decide
     |false=>right;left;rw [b2 hq];decide
    refine⟨.inr (.inl (by simp only;rw [h3.1];decide)),?_,.inr (.inr ⟨by simp only;omega,?_⟩),aE,by simp only;omega,by simp only;omega,by simp only;omega,fun q h6 h7=> ?_,fun q h6 h7=> ?_⟩
    .unfold bT;cases hq:(bR s (p+2)).2 with
     |true=>
      right;right;refine⟨by simp only [if_true];omega,?_⟩;show bt s ((bR s (p+2)).1+1)<128;rw [(b1 hq).2];decide
     |false=>simpa using aE
    .show bt s (p+1)<128;rw [h3.2];decide
    .simp only at h6 h7;by_cases hq:q=p
     .rw [hq,h3.1];decide
     .rw [show q=p+1 by omega,h3.2];decide
    .simp only at h6 h7;unfold bT at h7;cases hq:(bR s (p+2)).2 with
     |true=>
      rw [hq]at h7;simp only [if_true]at h7;by_cases he:q=(bR s (p+2)).1
      .rw [he,(b1 hq).1];decide
      .rw [show q=(bR s (p+2)).1+1 by omega,(b1 hq).2];decide
     |false=>rw [hq]at h7;simp at h7;omega
   .rw [if_neg h3]at hk;exact absurd rfl hk
def TW(s:ByteArray):Bool->List Tk->Prop
 |_,[]=>True
 |a,t::ts=>(t.k=0->(a=true->Asc s t.F)/\Asc s t.T)/\(t.k≠0->WF s t)/\TW s true ts
theorem TW.up {s:ByteArray}{ts:List Tk}(h:TW s false ts)(ha:∀u us,ts=u::us->u.k=0->Asc s u.F):TW s true ts:=by
 cases ts with
 |nil=>trivial
 |cons u us=>exact⟨fun hk=>⟨fun _=>ha u us rfl hk,(h.1 hk).2⟩,h.2.1,h.2.2⟩
theorem Z5(s:ByteArray)(p:Nat)(_hp:p<=s.size):TW s false (fD s p):=by
 by_cases hlt:p<s.size
 .have hw:=AO s p;have hwe:=Pm hlt;have ih:=Z5 s (eP s p).T hwe;have hh:=fun u us e=>Fj s (eP s p).T u us e
  rw [fD,if_pos hlt];by_cases hk:(eP s p).k=0
  .have hc:=aan s p hk;rw [hc]at ih hh ⊢;simp only at ih hh ⊢;unfold oO;rw [if_pos rfl];cases hts:fD s (p+1)with
   |nil=>
    have hsz:¬p+1<s.size:=by
     intro h;have h2:fD s (p+1)=oO (eP s (p+1)) (fD s (eP s (p+1)).T):=by rw [fD,if_pos h]
     rw [hts]at h2;unfold oO at h2;split at h2
     .split at h2
      .split at h2<;>cases h2
      .cases h2
     .cases h2
    exact⟨fun _=>⟨(fun h=>by cases h),.inr (.inl (by simp only;rw [wH hsz];decide))⟩,fun h=>absurd rfl h,trivial⟩
   |cons u us=>
    rw [hts]at ih;simp only;by_cases hu:u.k=0
    .rw [if_pos hu];exact⟨fun _=>⟨(fun h=>by cases h),(ih.1 hu).2⟩,fun h=>absurd rfl h,ih.2.2⟩
    .rw [if_neg hu];have hF:=(hh u us hts).1;refine⟨fun _=>⟨(fun h=>by cases h),?_⟩,fun h=>absurd rfl h,fun h=>absurd h hu,ih.2.1,ih.2.2⟩;have:=(ih.2.1 hu).aF;rw [hF]at this;exact this
  .unfold oO;rw [if_neg hk];have hwf:=ajP s p hk;refine⟨fun h=>absurd h hk,fun _=>hwf,ih.up fun u us e hu=> ?_⟩;rw [(hh u us e).1];exact hwf.aT
 .rw [Fh hlt];trivial
termination_by s.size - p
decreasing_by have:=AO s p;omega
theorem ajt(s:ByteArray):TW s true (fD s 0):=(Z5 s 0 (by omega)).up fun u us e _=> .inl (Fj s 0 u us e).1
structure PX(x:ByteArray)(y:PR):Prop where
 ft:y.from_<y.di
 tl:y.di<=x.size
 aF:Asc x y.from_
 aT:Asc x y.di
 bd:y.kind≠0->y.from_<=y.body/\y.body<=y.end_/\y.end_<=y.di/\Asc x y.body/\Asc x y.end_/\(∀q,y.from_<=q->q<y.body->bt x q<128)/\(∀q,y.end_<=q->q<y.di->bt x q<128)
theorem Gr {s:ByteArray}{bg e q:Nat}(hb:bg<=e)(he:e<=s.size)(h10:bt s e=10)(hq:q<=e - bg):bt (s.extract bg e) q=bt s (bg+q):=by
 have hsz:(s.extract bg e).size=e - bg:=by simp;omega
 by_cases h:q<e - bg
 .have h1:q<(s.extract bg e).size:=by omega
  have h2:bg+q<s.size:=by omega
  rw [uX h1,uX h2,ByteArray.getElem_extract]
 .rw [wH (by omega),show bg+q=e by omega,h10]
theorem aaY {s:ByteArray}{bg e q:Nat}(hb:bg<=e)(he:e<=s.size)(h10:bt s e=10)(hq:q<=e - bg)(h:Asc s (bg+q)):Asc (s.extract bg e) q:=by
 rcases h with h|h|⟨h0,h⟩
 .exact .inl (by omega)
 .exact .inr (.inl (by rw [Gr hb he h10 hq];exact h))
 .by_cases hq0:q=0
  .exact .inl hq0
  .refine .inr (.inr ⟨by omega,?_⟩);rw [Gr hb he h10 (by omega),show bg+(q - 1)=bg+q - 1 by omega];exact h
theorem afF(s:ByteArray)(bg p:Nat)(hp:p<=s.size):∃e tl,az s bg p=s.extract bg e::tl/\p<=e/\e<=s.size/\bt s e=10:=by
 fun_induction az s bg p with
 |case1 bg i h1 h2 ih=>exact⟨i,_,rfl,Nat.le_refl _,hp,h2⟩
 |case2 bg i h1 h2 ih=>
  obtain⟨e,tl,h3,h4,h5,h6⟩:=ih (by omega);exact⟨e,tl,h3,by omega,h5,h6⟩
 |case3 bg i h1=>exact⟨i,_,rfl,Nat.le_refl _,hp,wH h1⟩
def PG(LS:List ByteArray)(y:PR):Prop:=∃x,LS[y.line]? =some x/\PX x y
structure SF(s:ByteArray)(k F T B E:Nat):Prop where
 aT:Asc s T
 wf:k≠0->Asc s B/\Asc s E/\F<=B/\B<=E/\E<=T/\(∀q,F<=q->q<B->bt s q<128)/\(∀q,E<=q->q<T->bt s q<128)
theorem Su {α:Type}{L:List α}{n:Nat}{x:α}{xs:List α}(h:L.drop n=x::xs):L[n]? =some x/\L.drop (n+1)=xs:=by
 have hl:n<L.length:=by
  rcases Nat.lt_or_ge n L.length with h1|h1
  .exact h1
  .rw [List.drop_of_length_le h1]at h;cases h
 rw [List.drop_eq_getElem_cons hl]at h;injection h with h1 h2
 exact⟨by rw [List.getElem?_eq_getElem hl,h1],h2⟩
theorem aal {s:ByteArray}{B fr p:Nat}(h1:Asc s fr)(h2:Asc s p)(h3:Asc s B):Asc s (wi B fr p):=by
 unfold wi;split
 .exact h1
 .split
  .exact h2
  .exact h3
theorem SX {s:ByteArray}{LS:List ByteArray}{k F T B E ln bg fr p:Nat}(hS:SF s k F T B E)(hL:LS.drop ln=az s bg p)(hp:p<=s.size)(hbf:bg<=fr)(hF:F<=fr)(hfp:fr<=p)(hpT:p<=T)(aF:Asc s fr)(aP:Asc s p):∀y∈kG ln k bg fr p B E,PG LS y:=by
 intro y hy;unfold kG at hy;split at hy
 .rename_i hlt;simp only [List.mem_singleton]at hy;subst hy;obtain⟨e,tl,h3,h4,h5,h6⟩:=afF s bg p hp;obtain⟨h7,_⟩:=Su (hL.trans h3);refine⟨s.extract bg e,h7,?_⟩;have hsz:(s.extract bg e).size=e - bg:=by simp;omega
  have tr:∀q,bg<=q->q<=p->Asc s q->Asc (s.extract bg e) (q - bg):=fun q a b c=>aaY (by omega) h5 h6 (by omega) (by rw [show bg+(q - bg)=q by omega];exact c)
  refine⟨by simp only;omega,by simp only;omega,tr fr hbf hfp aF,tr p (by omega) (Nat.le_refl _) aP,fun hk=> ?_⟩;simp only at hk;obtain⟨aB,aE,fb,be,et,lb,le⟩:=hS.wf hk;simp only [if_neg hk];have hB:fr<=wi B fr p/\wi B fr p<=p:=by unfold wi;split;omega;split<;>omega
  have hE:fr<=wi E fr p/\wi E fr p<=p:=by unfold wi;split;omega;split<;>omega
  have DK:wi B fr p<=wi E fr p:=by
   unfold wi;split
   .split;omega;split<;>omega
   .split
    .split;omega;split<;>omega
    .split;omega;split<;>omega
  refine⟨by omega,by omega,by omega,tr _ (by omega) (by omega) (aal aF aP aB),tr _ (by omega) (by omega) (aal aF aP aE),fun q q1 q2=> ?_,fun q q1 q2=> ?_⟩
  .rw [Gr (by omega) h5 h6 (by omega)];refine lb (bg+q) (by omega) ?_;have:bg+q<wi B fr p:=by omega
   unfold wi at this;split at this
   .omega
   .split at this<;>omega
  .rw [Gr (by omega) h5 h6 (by omega)];refine le (bg+q) ?_ (by omega);have:wi E fr p<=bg+q:=by omega
   unfold wi at this;split at this
   .omega
   .split at this<;>omega
 .cases hy
theorem OH {s:ByteArray}{LS:List ByteArray}{k F T B E ln bg fr p:Nat}(hS:SF s k F T B E)(hT:T<=s.size)(hL:LS.drop ln=az s bg p)(hbf:bg<=fr)(hF:F<=fr)(hfp:fr<=p)(hpT:p<=T)(aF:Asc s fr):
  (∀y∈ko s k T B E ln bg fr p,PG LS y)/\LS.drop (gu s T ln bg p).1=az s (gu s T ln bg p).2 T/\(gu s T ln bg p).2<=T:=by
 by_cases hlt:p<T
 .by_cases hb:bt s p=10
  .have hp1:Asc s p:= .inr (.inl (by rw [hb];decide));have hp2:Asc s (p+1):= .inr (.inr ⟨by omega,by rw [Nat.add_sub_cancel,hb];decide⟩);have hL2:=hL;rw [H8 (by omega) hb]at hL2;have ih:=OH (ln:=ln+1) (bg:=p+1) (fr:=p+1) (p:=p+1) hS hT (Su hL2).2 (Nat.le_refl _) (by omega) (Nat.le_refl _) hlt hp2;rw [Av hlt hb,BD hlt hb];refine⟨fun y hy=> ?_,ih.2⟩;rcases List.mem_append.1 hy with hy|hy
   .exact SX hS hL (by omega) hbf hF hfp (by omega) aF hp1 y hy
   .exact ih.1 y hy
  .rw [vN hlt hb,wO hlt hb];rw [Hz (by omega) hb]at hL;exact OH hS hT hL hbf hF (by omega) hlt aF
 .obtain rfl:p=T:=by omega
  rw [vM hlt,BC hlt];exact⟨SX hS hL (by omega) hbf hF hfp (Nat.le_refl _) aF hS.aT,hL,by simp only;omega⟩
termination_by T - p
theorem Sr {s:ByteArray}{LS:List ByteArray}:∀(ts:List Tk)(p ln bg:Nat),CC s p ts->TW s true ts->LS.drop ln=az s bg p->bg<=p->∀y∈fG s ts ln bg,PG LS y
 |[],_,_,_,_,_,_,_,y,hy=>by cases hy
 |t::ts,p,ln,bg,hc,ht,hL,hb,y,hy=>by
  obtain⟨c1,c2,c3,c4⟩:=hc;subst c1;have hS:SF s t.k t.F t.T t.B t.E:=by
   by_cases hk:t.k=0
   .exact⟨(ht.1 hk).2,fun h=>absurd hk h⟩
   .have w:=ht.2.1 hk;exact⟨w.aT,fun _=>⟨w.aB,w.aE,w.fb,w.be,w.et,w.lb,w.le⟩⟩
  have aF:Asc s t.F:=by
   by_cases hk:t.k=0
   .exact(ht.1 hk).1 rfl
   .exact(ht.2.1 hk).aF
  obtain⟨h1,h2,h3⟩:=OH hS c3 hL hb (Nat.le_refl _) (Nat.le_refl _) (Nat.le_of_lt c2) aF;rw [fG]at hy;rcases List.mem_append.1 hy with hy|hy
  .exact h1 y hy
  .exact Sr ts t.T _ _ c4 ht.2.2 h2 h3 y hy
theorem NZ(s:ByteArray):∀y∈fG s (fD s 0) 0 0,PG (az s 0 0) y:=
 Sr _ 0 0 0 (Jf s 0 (by omega)) (ajt s) rfl (Nat.le_refl _)
theorem MJ(c:UInt8):∀l:List UInt8,(Lib.indexByte l c= -1/\∀m:Nat,l[m]? ≠some c)∨∃j:Nat,Lib.indexByte l c=(j:Int)/\l[j]? =some c/\∀m:Nat,m<j->l[m]? ≠some c
 |[]=> .inl ⟨rfl,fun m=>by simp⟩
 |b::l=>by
  unfold Lib.indexByte;by_cases hb:b=c
  .right;refine⟨0,?_,by simp [hb],fun m hm=>by omega⟩;simp [hb]
  .rcases MJ c l with⟨h1,h2⟩|⟨j,h1,h2,h3⟩
   .left;refine⟨by simp [hb,h1],fun m=> ?_⟩;cases m with
    |zero=>simpa using hb
    |succ m=>simpa using h2 m
   .right;refine⟨j+1,?_,by simpa using h2,fun m hm=> ?_⟩
    .have hj:¬((j:Int)= -1):=by omega
     simp [hb,h1]
    .cases m with
     |zero=>simpa using hb
     |succ m=>simpa using h3 m (by omega)
theorem Nh {s:ByteArray}{bg:Nat}:∀(d i:Nat),i+d<=s.size->(∀m,i<=m->m<i+d->bt s m≠10)->az s bg i=az s bg (i+d)
 |0,i,_,_=>rfl
 |d+1,i,h,hb=>by
  rw [Hz (by omega) (hb i (Nat.le_refl _) (by omega)),Nh d (i+1) (by omega) (fun m h1 h2=>hb m (by omega) (by omega))]
  congr 1
  omega
theorem Lc {s:ByteArray}{bg m:Nat}(h:bg+m<s.size):(s.extract bg s.size).data.toList[m]? =some (s[bg+m]'h):=by
 rw [Lib.extract_to_end,List.getElem?_drop,Lib.data_getElem? _ _ h]
theorem ac9 {s:ByteArray}{bg m:Nat}{c:UInt8}(h:(s.extract bg s.size).data.toList[m]? =some c):∃h:bg+m<s.size,s[bg+m]'h=c:=by
 by_cases hlt:bg+m<s.size
 .rw [Lc hlt]at h;exact⟨hlt,Option.some.inj h⟩
 .rw [Lib.extract_to_end,List.getElem?_drop,List.getElem?_eq_none_iff.2 (by rw [<-Lib.size_eq];omega)]at h;cases h
theorem Kw {s:ByteArray}{i:Nat}(h:i<s.size):bt s i=10↔s[i]'h=10:=by
 rw [uX h];constructor
 .intro e;apply UInt8.toNat_inj.1;have:(s[i]'h).toNat=10:=by omega
  rw [this];rfl
 .intro e;rw [e];rfl
theorem Ho(s:ByteArray):Lib.indexB s ⟨#[10]⟩=Lib.indexByte s.data.toList 10:=Lib.one s ⟨#[10]⟩ rfl
theorem aiU(s:ByteArray):∀(k bg:Nat),bg<=s.size->Lib.countB (s.extract bg s.size) ⟨#[10]⟩=k->Lib.splitB ⟨#[10]⟩ 0 k (s.extract bg s.size)=az s bg bg:=by
 intro k
 induction k with
 |zero=>
  intro bg hbg hk;rcases MJ 10 (s.extract bg s.size).data.toList with⟨h1,h2⟩|⟨j,h1,h2,h3⟩
  .rw [Nh (s.size - bg) bg (by omega) (fun m h3 h4=> ?_),Ng (by omega),Lib.splitB_zero,show bg+(s.size - bg)=s.size by omega];intro h10;have hm:m<s.size:=by omega
   rw [Kw hm]at h10;refine h2 (m - bg) ?_;rw [Lc (by omega)];simp only [show bg+(m - bg)=m by omega,h10]
  .rw [Lib.countB_hit _ ⟨#[10]⟩ j (by decide) (by rw [Ho];exact h1)]at hk;omega
 |succ k ih=>
  intro bg hbg hk;rcases MJ 10 (s.extract bg s.size).data.toList with⟨h1,h2⟩|⟨j,h1,h2,h3⟩
  .rw [Lib.countB_miss _ ⟨#[10]⟩ (by rw [Ho];exact h1)]at hk;omega
  .obtain⟨hj,aen⟩:=ac9 h2;rw [Lib.countB_hit _ ⟨#[10]⟩ j (by decide) (by rw [Ho];exact h1)]at hk;rw [Lib.splitB_hit _ 0 k _ j (by rw [Ho];exact h1)];rw [Nh j bg (by omega) (fun m h4 h5=> ?_),H8 hj ((Kw hj).2 aen)]
   .have e1:(s.extract bg s.size).extract 0 (j+0)=s.extract bg (bg+j):=by
     rw [ByteArray.extract_extract];congr 1<;>omega
    have e2:(s.extract bg s.size).extract (j+(⟨#[10]⟩:ByteArray).size) (s.extract bg s.size).size=s.extract (bg+j+1) s.size:=by
     rw [ByteArray.extract_extract];have hsz:(s.extract bg s.size).size=s.size - bg:=by simp
     have h1':(⟨#[10]⟩:ByteArray).size=1:=rfl;rw [hsz,h1']
     congr 1<;>omega
    rw [e2]at hk ⊢;rw [e1,ih (bg+j+1) (by omega) (by omega)]
   .intro h10;have hm:m<s.size:=by omega
    rw [Kw hm]at h10;refine h3 (m - bg) (by omega) ?_;rw [Lc (by omega)];simp only [show bg+(m - bg)=m by omega,h10]
theorem aiV(s:ByteArray):Lib.splitB ⟨#[10]⟩ 0 (Lib.countB s ⟨#[10]⟩) s=az s 0 0:=by
 have h:=aiU s (Lib.countB s ⟨#[10]⟩) 0 (by omega) (by rw [show s.extract 0 s.size=s by simp]);rw [show s.extract 0 s.size=s by simp]at h;exact h
theorem aem:(prog.info? 9).map (fun i=>(i.zero,i.size,i.bytes))=some (some (.string ByteArray.empty),1,16):=by kernel_rfl
theorem OU(s:ByteArray)(m:Int)(w:World)(hs:s.size<4294967281)(hm:w.cell? ⟨10,0,none⟩=some (.int .i64 m)):
  Calls prog 62 #[.string s,.string ⟨#[10]⟩] w fun e w'=>e= .returned (.slice (some ⟨w.heap.size,0,none⟩) (az s 0 0).length (az s 0 0).length)/\w'=w.alloc (.cells (dN (az s 0 0)).toArray 9):=by
 have h:=Any.strings_Split Tryz.lays146 aem s ⟨#[10]⟩ m w hs hm (by decide);have hl:=Lib.splitB_all ⟨#[10]⟩ (by decide) 0 _ s rfl;rw [aiV]at h hl;rw [<-hl]at h;exact h
theorem OY(s:ByteArray)(p:Nat):aJ s p=if(Utf8.decode s p).1=65533/\(Utf8.decode s p).2=1 then 0 else(Utf8.decode s p).2:=by
 unfold aJ lX;rw [<-Lib.decode_at]
theorem acv(n b0 b1 b2 b3 c1 c2 c3:Nat)(h1:1<n->b1=c1)(h2:2<n->b2=c2)(h3:3<n->b3=c3):Lib.decodeN n b0 b1 b2 b3=Lib.decodeN n b0 c1 c2 c3:=by
 by_cases a3:3<n
 .rw [h1 (by omega),h2 (by omega),h3 a3]
 .by_cases a2:2<n
  .rw [h1 (by omega),h2 a2];unfold Lib.decodeN;simp [a3]
  .by_cases a1:1<n
   .rw [h1 a1];unfold Lib.decodeN;simp [a3,a2]
   .unfold Lib.decodeN;simp [a3,a2,a1]
theorem acB(s:ByteArray)(p:Nat)(h:p<s.size):Lib.decodeGo (s.extract p s.size)=Utf8.decode s p:=by
 have hsz:=aiJ s p;unfold Lib.decodeGo;rw [if_neg (by omega),Lib.decode_at,Lib.decode_at,hsz];have e0:=Gu s p 0 (by omega);rw [e0];exact acv _ _ _ _ _ _ _ _ (fun h1=>by rw [Gu s p 1 (by omega)]) (fun h1=>by rw [Gu s p 2 (by omega)]) (fun h1=>by rw [Gu s p 3 (by omega)])
theorem acD(s:ByteArray)(p:Nat)(w:World)(h:p<s.size)(hT:Lib.Utf8Tabs (Tryz.lays197_ren.g 3) (Tryz.lays197_ren.g 4) w):
  Calls prog 174 #[.string (s.extract p s.size)] w fun e w'=>e= .returned (.tuple #[.int .i32 (Utf8.decode s p).1,.int .i64 (Utf8.decode s p).2])/\Below w.heap.size w w':=by
 have:=Any.utf8_DecodeRuneInString Tryz.lays197 (s.extract p s.size) w hT;rw [acB s p h]at this;exact this
theorem acy(s:ByteArray)(p:Nat):(Utf8.decode s p).1<2000000/\(Utf8.decode s p).2<=4:=by
 rw [Lib.decode_at];have l0:=(s.get! p).toNat_lt;unfold Lib.decodeN
 repeat' split
 all_goals simp only
 all_goals omega
theorem OZ(s:ByteArray)(p:Nat)(h:p<s.size)(h0:aJ s p≠0):p+aJ s p<=s.size:=by
 rcases Ff s p h h0 with⟨e1,_⟩|⟨e1,hn,_⟩|⟨e1,hn,_⟩|⟨e1,hn,_⟩<;>omega
theorem aif(s:ByteArray)(w:World)(hs:s.size<=1000)(hT:∀W,Below w.heap.size w W->Lib.Utf8Tabs (Tryz.lays197_ren.g 3) (Tryz.lays197_ren.g 4) W):
  Calls prog 104 #[.string s] w fun e w'=>e= .returned (.int .i64 (jH s 0:Nat))/\Below w.heap.size w w':=by
 have HT:Hid (∀W,Below w.heap.size w W->Lib.Utf8Tabs (Tryz.lays197_ren.g 3) (Tryz.lays197_ren.g 4) W):=hT;obtain⟨R,hR⟩:∃R,R=jH s 0:=⟨_,rfl⟩
 rw [<-hR];have HR:Hid (jH s 0=R):=hR.symm;clear hT hR;go_enter func104,ntmps104;go_wp2;go_loopg [3,4,5] s.size (fun gk pv _ _ W=>∃(p:Nat),p<=s.size/\gk=s.size - p/\pv= .int .i64 p/\jH s p=R/\Below w.heap.size w W);case atStart=>exact⟨0,by omega,rfl,rfl,HR.out,Below.refl _ _⟩
 case round=>
  obtain⟨p,hp,rfl,rfl,he,hb⟩:=hrel;have HB:Hid (Below w.heap.size w wr):=hb;have hbz:=hb.size;by_cases hlt:p<s.size
  .have hlt':(p:Int)<(s.size:Int):=by omega
   have HD:Hid (Calls prog 174 #[.string (s.extract p s.size)] wr fun e w'=>e= .returned (.tuple #[.int .i32 (Utf8.decode s p).1,.int .i64 (Utf8.decode s p).2])/\Below wr.heap.size wr w'):=acD s p wr hlt (HT.out wr hb);have hsz:=OY s p;obtain⟨hd1,hd2⟩:=acy s p;have P9:Hid (1<=(Utf8.decode s p).2):=by show _<=_;rw [Lib.decode_at];exact Lib.decodeN_ge1 _ _ _ _ _
   generalize(Utf8.decode s p).1=r at*;generalize(Utf8.decode s p).2=k at*;clear hb;by_cases hr:r=65533
   .by_cases hk:k=1
    .rw [if_pos ⟨hr,hk⟩]at hsz;have heq:p=R:=by rw [<-he,Ta hlt hsz]
     have HE:Hid (p=R):=heq;subst hr;subst hk;clear he heq hsz;go_wp2_with fail;refine HD.out.mono ?_;rintro ev w2 ⟨rfl,hb2⟩;have HB2:Hid (Below w.heap.size w w2):=HB.out.trans (hb2.mono hbz);clear hb2;go_wp2;go_ret;exact⟨by rw [HE.out];rfl,HB2.out⟩
    .rw [if_neg (fun h=>hk h.2)]at hsz;have hk':((k:Int)==1)=false:=by simp;omega
     subst hr;have hk0:aJ s p≠0:=by have h2:=P9.out;omega
     have hle:p+k<=s.size:=by have:=OZ s p hlt hk0;omega
     have HJ:Hid (jH s (p+k)=R):=by show _=_;rw [<-hsz,<-Gn hlt hk0];exact he
     have hkp:0<k:=by omega
     clear he hk0 hsz;go_wp2_with fail;refine HD.out.mono ?_;rintro ev w2 ⟨rfl,hb2⟩;have HB2:Hid (Below w.heap.size w w2):=HB.out.trans (hb2.mono hbz);clear hb2;go_wp2;go_roundg (s.size - (p+k));case measure=>omega
     case rel=>exact⟨p+k,hle,rfl,by go_num,HJ.out,HB2.out⟩
   .rw [if_neg (fun h=>hr h.1)]at hsz;have hr':((r:Int)==65533)=false:=by simp;omega
    have hk0:aJ s p≠0:=by have h2:=P9.out;omega
    have hle:p+k<=s.size:=by have:=OZ s p hlt hk0;omega
    have HJ:Hid (jH s (p+k)=R):=by show _=_;rw [<-hsz,<-Gn hlt hk0];exact he
    have hkp:0<k:=by omega
    clear he hk0 hsz;go_wp2_with fail;refine HD.out.mono ?_;rintro ev w2 ⟨rfl,hb2⟩;have HB2:Hid (Below w.heap.size w w2):=HB.out.trans (hb2.mono hbz);clear hb2;go_wp2;go_roundg (s.size - (p+k));case measure=>omega
    case rel=>exact⟨p+k,hle,rfl,by go_num,HJ.out,HB2.out⟩
  .have hlt':¬(p:Int)<(s.size:Int):=by omega
   rw [K9 hlt]at he;subst he;clear hb;go_wp2;go_ret;exact⟨rfl,HB.out⟩
