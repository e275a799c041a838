import Derived.Test.YtkbinfhclaafhaaGreatDoorH04
import Derived.Deep.RegionLaw
namespace Go.Proofs.YtkbinfhclaafhaaGreatDoor
open Go.RowKit
open Go.Proofs.Tryz
set_option maxRecDepth 100000
set_option maxHeartbeats 32000000
theorem Kq(c:Int)(w:World):Calls prog 215 #[.int .i64 c] w fun e w'=>e= .returned (.bool (jY c))/\w'=w:=by
 have HI:Hid (Calls prog 196 #[.int .i64 c] w fun e w'=>e= .returned (.bool (aG c))/\w'=w):=kH c w;unfold jY;generalize aG c=ib at*;cases h1:(c==11)<;>cases h2:(c==10)<;>cases h3:(c==12)
 case false.false.false=>
  cases ib;all_goals
   go_enter func215,ntmps215;go_wp2_with fail;refine HI.out.mono ?_;rintro ev wx ⟨rfl,hx⟩;have hx':=hx.symm;subst hx';go_wp2;go_ret;exact⟨jO (by simp),rfl⟩
 all_goals
  go_enter func215,ntmps215;go_wp2;go_ret;exact⟨jO (by simp),rfl⟩
def AA(c:Int):Bool:=c==11||(aG c||(c==21|| !dm c))
theorem abD(c:Int)(w:World):Calls prog 162 #[.int .i64 c] w fun e w'=>e= .returned (.bool (AA c))/\w'=w:=by
 have HI:Hid (Calls prog 196 #[.int .i64 c] w fun e w'=>e= .returned (.bool (aG c))/\w'=w):=kH c w;have HT:Hid (Calls prog 160 #[.int .i64 c] w fun e w'=>e= .returned (.bool (!dm c))/\w'=w):=sw c w;unfold AA;generalize aG c=ib at*;generalize(!dm c)=tb at*;cases h1:(c==11)
 .cases ib
  .cases h3:(c==21)
   .go_enter func162,ntmps162;go_wp2_with fail;refine HI.out.mono ?_;rintro ev wx ⟨rfl,hx⟩;have hx':=hx.symm;subst hx';go_wp2_with fail;refine HT.out.mono ?_;rintro ev wx ⟨rfl,hx⟩;have hx':=hx.symm;subst hx';go_wp2;go_ret;exact⟨jO (by simp),rfl⟩
   .go_enter func162,ntmps162;go_wp2_with fail;refine HI.out.mono ?_;rintro ev wx ⟨rfl,hx⟩;have hx':=hx.symm;subst hx';go_wp2;go_ret;exact⟨jO (by simp),rfl⟩
  .go_enter func162,ntmps162;go_wp2_with fail;refine HI.out.mono ?_;rintro ev wx ⟨rfl,hx⟩;have hx':=hx.symm;subst hx';go_wp2;go_ret;exact⟨jO (by simp),rfl⟩
 .go_enter func162,ntmps162;go_wp2;go_ret;exact⟨jO (by simp),rfl⟩
theorem dG.setOther {w:World}{B s g:Nat}{v:Value}{l:List Nat}(h:dG w B s v l)(hgs:g≠s)(hgv:v.ownBlock≠some g)(k:Nat)(u:Value):dG (w.setCell ⟨g,k,none⟩ u) B s v l:=
 ⟨by
  rw [Below.heap_setCell]
  .exact h.cell
  .exact hgs.symm,iG h.row hgv k u,h.low⟩
theorem dx.yA {w w':World}{B g n c s:Nat}{v v':Value}{t:List Int}(h:dx w B g n c t)(hf:aU w w' s v v')(hgs:g≠s)(hgv:v.ownBlock≠some g):dx w' B g n c t:=
 kK h fun k o hk ho=>by
  have:g=k:=by simpa [Value.ownBlock]using hk
  subst this;rw [hf.block g (bK ho) hgs hgv];exact ho
theorem aU.Bh {w w':World}{s g:Nat}{v v':Value}(hf:aU w w' s v v')(hg:g<w.heap.size)(hgv:v.ownBlock≠some g):v'.ownBlock≠some g:=by
 rcases hf.own with h|h
 .rw [h];exact hgv
 .intro e;have:=h g e;omega
theorem Xz:∀(l:List Nat)(n:Nat),l.Nodup->(∀a∈l,a<n)->l.length<=n
 |[],n,_,_=>by simp
 |a::l,0,_,h=>by have:=h a (by simp);omega
 |a::l,n+1,hn,h=>by
  have ih:=Xz ((a::l).erase n) n (hn.erase n) (fun b hb=>by
   have h1:=h b (List.mem_of_mem_erase hb);have h2:b≠n:=fun e=>by subst e;exact(List.Nodup.not_mem_erase hn) hb
   omega)
  by_cases hm:n∈a::l
  .rw [List.length_erase_of_mem hm]at ih;omega
  .rw [List.erase_of_not_mem hm]at ih;omega
theorem afU(cs:List Int)(n b off cap:Nat)(w:World)(hl:cs.length=n)(hn:n<=1000)(hc:dz w b off cs)(hb:b<w.heap.size):
  Calls prog 140 #[.slice (some ⟨b,off,none⟩) n cap] w fun e w'=>∃g,e= .returned (.slice (some ⟨g,0,none⟩) n n)/\aK w' w.heap.size 3 g n (iv (jL cs))/\Below w.heap.size w w':=by
 have hmk:=run_make_row' (P:=prog) 31 3 (.int .i64 0) 8 underlying31 Tryz.xh rfl .i64 .i64 n (by omega) (by omega);have HC:Hid (dz w b off cs/\b<w.heap.size/\cs.length=n):=⟨hc,hb,hl⟩
 obtain⟨W1,hW1⟩:∃W1,W1=(w.alloc (.cells (madeCells #[.int .i64 0] n) 3)).alloc (.cells #[.slice none 0 0] 257):=⟨_,rfl⟩
 have HB1:Hid (Below w.heap.size w W1):=by rw [hW1];exact((Below.refl _ _).alloc (Nat.le_refl _) _).alloc (by simp) _
 have HR1:Hid (dx W1 w.heap.size w.heap.size n n (lM cs 0).1):=by
  rw [hW1];have h1:aK (w.alloc (.cells (madeCells #[.int .i64 0] n) 3)) w.heap.size 3 w.heap.size n (List.replicate n (.int .i64 0)):=aK.made (Nat.le_refl _) (by omega);have h2:=h1.alloc (.cells #[.slice none 0 0] 257);have e:iv (lM cs 0).1=List.replicate n (.int .i64 0):=by rw [lM,hl];simp [iv]
  show World.ownsRow _ _ _ _ _ _ _;rw [e];exact h2
 have gQ:Hid (dG W1 w.heap.size (w.heap.size+1) (.slice none 0 0) (lM cs 0).2):=by
  rw [hW1];refine⟨?_,⟨rfl,.inl ⟨rfl,rfl⟩⟩,by omega⟩;have hsz:(w.alloc (.cells (madeCells #[.int .i64 0] n) 3)).heap.size=w.heap.size+1:=by simp
  rw [<-hsz];exact Array.getElem?_push_size
 clear hc hb hl;go_enter func140,ntmps140;go_wp2;rw [<-hW1];obtain⟨s,hs⟩:∃s,s=w.heap.size+1:=⟨_,rfl⟩
 obtain⟨g,hg⟩:∃g,g=w.heap.size:=⟨_,rfl⟩
 rw [<-hs];rw [<-hs]at gQ;have HG:Hid (g=w.heap.size/\s=w.heap.size+1):=⟨hg,hs⟩
 rw [<-hg]at HR1 ⊢;have mX:Hid (w.heap.size=g):=hg.symm;clear hW1 hmk hs hg;go_loopg [14] n (fun gh kv W=>∃(k:Nat)(v:Value)(x:List Int×List Nat),k<=n/\gh=n - k/\kv= .int .i64 k/\Below w.heap.size w W/\dx W w.heap.size g n n x.1/\dG W w.heap.size s v x.2/\v.ownBlock≠some g/\lM cs k=x);case atStart=>exact⟨0,.slice none 0 0,lM cs 0,by omega,rfl,rfl,HB1.out,by rw [mX.out];exact HR1.out,gQ.out,by simp [Value.ownBlock],rfl⟩
 case round=>
  clear HB1 HR1 gQ;obtain⟨k,v,x,hk,rfl,rfl,hB,hR,hS,hV,hX⟩:=hrel;have HB:Hid (Below w.heap.size w wr):=hB;have HR:Hid (dx wr w.heap.size g n n x.1):=hR;have HS:Hid (dG wr w.heap.size s v x.2):=hS;have HV:Hid (v.ownBlock≠some g):=hV;have HX:Hid (lM cs k=x):=hX;have hok:=Er cs k (by rw [HC.out.2.2];exact hk);rw [hX]at hok;have jQ:Hid (l5 cs k x):=hok;have hgs:g≠s:=by have:=HG.out;omega
  have hgw:g<wr.heap.size:=(World.ownsRow.lt hR g rfl).2;have hst:x.2.length<=k:=by
   have h1:=hok.oW;have h2:∀a∈x.2,a<k:=fun a ha=>by
    obtain⟨d,hd⟩:=List.getElem?_of_mem ha;exact(hok.opn d a hd).2.2.1
   exact Xz x.2 k h1 h2
  by_cases hlt:k<n
  .have hkc:k<cs.length:=by rw [HC.out.2.2];exact hlt
   have cc:=HC.out.1.stay hB HC.out.2.1 k hkc;have hcell:=hR.cell k hlt;have hfr:=hR.frozen k;generalize x.1.getD k 0=oc at hcell;have hstep:lM cs (k+1)=Ig cs k x:=by rw [lM,hX]
   have wT:=hR.set k (-1);have hS1:=hS.setOther hgs hV k (.int .i64 (-1));have hB1:Below w.heap.size w (wr.setCell ⟨g,k,none⟩ (.int .i64 (-1))):=hB.setCell (p:=⟨g,k,none⟩) (by rw [mX.out];exact Nat.le_refl _) _;have HR1:Hid (dx (wr.setCell ⟨g,k,none⟩ (.int .i64 (-1))) w.heap.size g n n (x.1.set k (-1))):=wT;have gQ:Hid (dG (wr.setCell ⟨g,k,none⟩ (.int .i64 (-1))) w.heap.size s v x.2):=hS1;have HB1:Hid (Below w.heap.size w (wr.setCell ⟨g,k,none⟩ (.int .i64 (-1)))):=hB1;have hgw1:g<(wr.setCell ⟨g,k,none⟩ (.int .i64 (-1))).heap.size:=by simpa using hgw
   unfold Ig at hstep;generalize cs.getD k 0=c at*;clear hB hR hS hV hX hok wT hS1 hB1 HB HR HS;cases bG:aG c
   .rw [bG,if_neg (by decide)]at hstep;by_cases h21:c=21
    .subst h21;rw [if_pos rfl]at hstep;rcases List.eq_nil_or_concat x.2 with hx2|⟨st,o,hx2⟩
     .rw [hx2]at hstep;have HN:Hid (lM cs (k+1)=(x.1.set k (-1),x.2)):=by show _=_;rw [hstep,hx2];rfl
      have FB:Hid (Calls prog 198 #[.pointer (some ⟨s,0,none⟩)] (wr.setCell ⟨g,k,none⟩ (.int .i64 (-1))) fun e w'=>e= .returned (.tuple #[.int .i64 0,.bool false])/\w'=wr.setCell ⟨g,k,none⟩ (.int .i64 (-1))):=ahs _ w.heap.size s v (by have:=gQ.out;rw [hx2]at this;exact this);clear hstep bG hkc hx2;go_wp2_with fail;refine(kH 21 _).mono ?_;rintro ev wx ⟨rfl,hx⟩;subst hx;rw [MS];go_wp2_with fail;refine FB.out.mono ?_;rintro ev wx ⟨rfl,hx⟩;subst hx;go_wp2;go_roundg (n - (k+1));case measure=>omega
      case rel=>exact⟨k+1,v,(x.1.set k (-1),x.2),by omega,rfl,by simp,HB1.out,HR1.out,gQ.out,HV.out,HN.out⟩
     .rw [List.concat_eq_append]at hx2;rw [hx2]at hstep;have HN:Hid (lM cs (k+1)=(((x.1.set k (-1)).set o (k:Int)).set k (o:Int),st)):=by show _=_;rw [hstep];simp
      have hok2:=jQ.out.opn st.length o (by rw [hx2];simp);have hlo:o<k:=hok2.2.2.1;have hsl:st.length<=100000:=by rw [hx2]at hst;simp at hst;omega
      have FB:Hid (Calls prog 198 #[.pointer (some ⟨s,0,none⟩)] (wr.setCell ⟨g,k,none⟩ (.int .i64 (-1))) fun e w'=>e= .returned (.tuple #[.int .i64 o,.bool true])/\∃v',dG w' w.heap.size s v' st/\aU (wr.setCell ⟨g,k,none⟩ (.int .i64 (-1))) w' s v v'):=aht _ w.heap.size s v st o (by have:=gQ.out;rw [hx2]at this;exact this) hsl;clear hstep bG hkc hx2 hok2 hst;go_wp2_with fail;refine(kH 21 _).mono ?_;rintro ev wx ⟨rfl,hx⟩;subst hx;rw [MS];go_wp2_with fail;refine FB.out.mono ?_;rintro ev w3 ⟨rfl,v3,iQ,mD⟩;have rU:dx w3 w.heap.size g n n (x.1.set k (-1)):=HR1.out.yA mD hgs HV.out;have zR:v3.ownBlock≠some g:=mD.Bh hgw1 HV.out;have hB3:Below w.heap.size w w3:=mD.below gQ.out HB1.out;have hon:o<n:=by omega
      have co:=rU.cell o hon;have fo:=rU.frozen o;have GQ:=rU.set o (k:Int);have ck:=GQ.cell k hlt;have fk:=GQ.frozen k;have mZ:Hid (dx ((w3.setCell ⟨g,o,none⟩ (.int .i64 k)).setCell ⟨g,k,none⟩ (.int .i64 o)) w.heap.size g n n (((x.1.set k (-1)).set o (k:Int)).set k (o:Int))):=GQ.set k (o:Int);have lH:Hid (dG ((w3.setCell ⟨g,o,none⟩ (.int .i64 k)).setCell ⟨g,k,none⟩ (.int .i64 o)) w.heap.size s v3 st):=(iQ.setOther hgs zR o _).setOther hgs zR k _;have bW:Hid (Below w.heap.size w ((w3.setCell ⟨g,o,none⟩ (.int .i64 k)).setCell ⟨g,k,none⟩ (.int .i64 o))):=(hB3.setCell (p:=⟨g,o,none⟩) (by rw [mX.out];exact Nat.le_refl _) _).setCell (p:=⟨g,k,none⟩) (by rw [mX.out];exact Nat.le_refl _) _;have JV:Hid (v3.ownBlock≠some g):=zR;generalize(x.1.set k (-1)).getD o 0=oo at co;generalize((x.1.set k (-1)).set o (k:Int)).getD k 0=kk at ck;clear iQ mD rU zR hB3 GQ FB;go_wp2;go_roundg (n - (k+1));case measure=>omega
      case rel=>exact⟨k+1,v3,(((x.1.set k (-1)).set o (k:Int)).set k (o:Int),st),by omega,rfl,by simp,bW.out,mZ.out,lH.out,JV.out,HN.out⟩
    .rw [if_neg h21]at hstep;have IC:(c !=21)=true:=by simpa using h21
     have HN:Hid (lM cs (k+1)=(x.1.set k (-1),x.2)):=hstep;have CR:Hid (aG c=false):=bG;clear hstep h21 bG hkc;go_wp2_with fail;refine(kH c _).mono ?_;rintro ev wx ⟨rfl,hx⟩;subst hx;rw [CR.out];go_wp2;go_roundg (n - (k+1));case measure=>omega
     case rel=>exact⟨k+1,v,(x.1.set k (-1),x.2),by omega,rfl,by simp,HB1.out,HR1.out,gQ.out,HV.out,HN.out⟩
   .rw [bG,if_pos rfl]at hstep;have h21:c≠21:=by rintro rfl;cases bG
    have IC:(c !=21)=true:=by simpa using h21
    have HN:Hid (lM cs (k+1)=(x.1.set k (-1),x.2++[k])):=hstep;have CR:Hid (aG c=true):=bG;have C7:Hid (Calls prog 197 #[.pointer (some ⟨s,0,none⟩),.int .i64 k] (wr.setCell ⟨g,k,none⟩ (.int .i64 (-1))) fun e w'=>e= .returned (.tuple #[])/\∃v',dG w' w.heap.size s v' (x.2++[k])/\aU (wr.setCell ⟨g,k,none⟩ (.int .i64 (-1))) w' s v v'):=YB _ _ _ _ _ _ gQ.out (by omega);clear hstep h21 bG hkc;go_wp2_with fail;refine(kH c _).mono ?_;rintro ev wx ⟨rfl,hx⟩;subst hx;rw [CR.out];go_wp2_with fail;refine C7.out.mono ?_;rintro ev w3 ⟨rfl,v3,iQ,mD⟩;have gY:Hid (dG w3 w.heap.size s v3 (x.2++[k])):=iQ;have HB3:Hid (Below w.heap.size w w3):=mD.below gQ.out HB1.out;have HR3:Hid (dx w3 w.heap.size g n n (x.1.set k (-1))):=HR1.out.yA mD hgs HV.out;have JV:Hid (v3.ownBlock≠some g):=mD.Bh hgw1 HV.out;clear iQ mD C7;go_wp2;go_roundg (n - (k+1));case measure=>omega
    case rel=>exact⟨k+1,v3,(x.1.set k (-1),x.2++[k]),by omega,rfl,by simp,HB3.out,HR3.out,gY.out,JV.out,HN.out⟩
  .obtain rfl:k=n:=by omega
   have HL:Hid (x.1=jL cs):=by show _=_;rw [jL,HC.out.2.2,hX]
   clear hB hR hS hV hX hok;go_wp2;refine bodyPost_ret (v:= .slice (some ⟨g,0,none⟩) k k) (by simp [results,results140,go_sem]) rfl ⟨g,rfl,?_,HB.out⟩;have:=HR.out;rw [HL.out]at this;exact this
structure bD(w:World)(B s:Nat)(v lp:Value)(x:XS):Prop where
 cell:w.heap[s]? =some (.cells #[lp,v,.int .i64 x.bu,.int .i64 x.bN,.int .i64 x.valid] 212 (0,0))
 row:w.ownsRow B 215 3 v x.st.length (je x.st)
 low:B<=s
theorem bD.ne {w:World}{B s:Nat}{v lp:Value}{x:XS}(h:bD w B s v lp x):v.ownBlock≠some s:=by
 rcases h.row.2 with⟨rfl,_⟩|⟨g,cp,cur,rfl,_,hh,_⟩
 .simp [Value.ownBlock]
 .simp only [Value.ownBlock];intro e;obtain rfl:=Option.some.inj e;rw [h.cell]at hh;simp at hh
theorem aU.Bn {w w' w0:World}{B s:Nat}{v v' lp:Value}{x:XS}(h:aU w w' s v v')(hs:bD w B s v lp x)(hb:Below B w0 w):Below B w0 w':=
 hb.trans ⟨h.os,h.tape,h.output,h.size,fun k hk=>by
  have hlow:=hs.low;have hlt:k<w.heap.size:=Nat.lt_of_lt_of_le (Nat.lt_of_lt_of_le hk hlow) (Nat.le_of_lt (bK hs.cell));refine h.block k hlt (by omega) ?_;intro e;have:=uB hs.row k e;omega⟩
theorem aU.refl(w:World)(s:Nat)(v:Value):aU w w s v v:=⟨rfl,rfl,rfl,Nat.le_refl _,fun _ _ _ _=>rfl,.inl rfl⟩
theorem bD.ent {w:World}{B s:Nat}{v lp:Value}{x:XS}(h:bD w B s v lp x)(i:Nat)(hi:i<x.st.length):∃g c,v= .slice (some ⟨g,0,none⟩) x.st.length c/\x.st.length<=c/\g<w.heap.size/\∃e,x.st[i]? =some e/\w.cell? ⟨g,i*3,none⟩=some (.int .i64 e.l)/\w.cell? ⟨g,i*3+1,none⟩=some (.int .i64 e.o)/\w.cell? ⟨g,i*3+2,none⟩=some (.bool e.i):=by
 obtain⟨g,c,rfl,hc,hg,_⟩:=kg h.row (by omega);refine⟨g,c,rfl,hc,hg,x.st[i],List.getElem?_eq_getElem hi,?_⟩;have key:∀(l:List aO)(i:Nat)(hi:i<l.length),(je l)[i*3]? =some (.int .i64 l[i].l)/\(je l)[i*3+1]? =some (.int .i64 l[i].o)/\(je l)[i*3+2]? =some (.bool l[i].i):=by
  intro l
  induction l with
  |nil=>intro i hi;simp at hi
  |cons a l ih=>
   intro i hi;have e:je (a::l)=[.int .i64 a.l,.int .i64 a.o,.bool a.i]++je l:=by simp [je,aO.cells]
   cases i with
   |zero=>rw [e];simp
   |succ i=>
    have:=ih i (by simpa using hi);rw [e,show(i+1)*3=i*3+3 by omega];simpa using this
 obtain⟨k0,k1,k2⟩:=key x.st i hi;exact⟨by rw [World.ownsRow.cellAt h.row (i*3) (by omega)];exact k0,by rw [World.ownsRow.cellAt h.row (i*3+1) (by omega)];exact k1,by rw [World.ownsRow.cellAt h.row (i*3+2) (by omega)];exact k2⟩
theorem afr(w:World)(B s:Nat)(v lp:Value)(x:XS)(h:bD w B s v lp x):Calls prog 241 #[.pointer (some ⟨s,1,none⟩)] w fun e w'=>e= .returned (.int .i64 x.st.length)/\w'=w:=by
 obtain⟨a,c,rfl⟩:=fH h.row;have c0:w.cell? ⟨s,1,none⟩=some (.slice a x.st.length c):=au h.cell 1;clear h;go_enter func241,ntmps241;go_wp2;go_ret;exact⟨rfl,rfl⟩
theorem Rj(w:World)(B s:Nat)(v lp:Value)(x:XS)(i:Nat)(e:aO)(h:bD w B s v lp x)(he:x.st[i]? =some e):Calls prog 263 #[.pointer (some ⟨s,1,none⟩),.int .i64 i] w fun ev w'=>ev= .returned (.tuple #[.agg #[.int .i64 e.l,.int .i64 e.o,.bool e.i],.bool true])/\Below w.heap.size w w':=by
 have hi:i<x.st.length:=(List.getElem?_eq_some_iff.1 he).1;obtain⟨g,c,rfl,_,hg,e',he',k0,k1,k2⟩:=h.ent i hi;obtain rfl:e=e':=Option.some.inj (he.symm.trans he');have hlt:=bK h.cell;have c0:(w.alloc (.cells #[.int .i64 0,.int .i64 0,.bool false] 215)).cell? ⟨s,1,none⟩=some (.slice (some ⟨g,0,none⟩) x.st.length c):=(World.cell?_alloc_lt _ _ ⟨s,1,none⟩ hlt).trans (au h.cell 1);have k0:=(World.cell?_alloc_lt w (.cells #[.int .i64 0,.int .i64 0,.bool false] 215) ⟨g,i*3,none⟩ hg).trans k0;have k1:=(World.cell?_alloc_lt w (.cells #[.int .i64 0,.int .i64 0,.bool false] 215) ⟨g,i*3+1,none⟩ hg).trans k1;have k2:=(World.cell?_alloc_lt w (.cells #[.int .i64 0,.int .i64 0,.bool false] 215) ⟨g,i*3+2,none⟩ hg).trans k2;have hi':((i:Int)<(x.st.length:Int)):=by omega
 have hg0:decide ((i:Int)<0)=false:=by simp
 clear h he he';generalize x.st.length=n at*;obtain⟨el,eo,ei⟩:=e;simp only at k0 k1 k2 ⊢;go_enter func263,ntmps263;go_wp2;exact bodyPost_ret (v:= .tuple #[.agg #[.int .i64 el,.int .i64 eo,.bool ei],.bool true]) (by simp [results,results263,Tryz.isAgg215,Tryz.sizeOf215,go_sem]) rfl ⟨rfl,(Below.refl _ _).alloc (Nat.le_refl _) _⟩
theorem Tryz.aeP:(prog.info? 215).map (fun i=>(i.zero,i.size,i.bytes))=some (some (.agg #[.int .i64 0,.int .i64 0,.bool false]),3,24):=by kernel_rfl
theorem bD.grow {w w5:World}{B s:Nat}{v v5 lp:Value}{x:XS}{st':List aO}{m:Nat}(h:bD w B s v lp x)(hown:w5.ownsRow B 215 3 v5 m (je st'))(hg:w.grownBy w5 v.ownBlock)(hv:v5.ownBlock=v.ownBlock∨∀k,v5.ownBlock=some k->w.heap.size<=k):
  bD (w5.setCell ⟨s,1,none⟩ v5) B s v5 lp {x with st:=st'}/\aU w (w5.setCell ⟨s,1,none⟩ v5) s v v5/\w5.cell? ⟨s,1,none⟩=some v/\w5.frozen? ⟨s,1,none⟩=false:=by
 have hlt:=bK h.cell;have gV:w5.heap[s]? =some (.cells #[lp,v,.int .i64 x.bu,.int .i64 x.bN,.int .i64 x.valid] 212 (0,0)):=by rw [hg.block s hlt h.ne.symm];exact h.cell
 have hne:v5.ownBlock≠some s:=by
  rcases hv with hv|hv
  .rw [hv];exact h.ne
  .intro e;have:=hv s e;omega
 have hm:m=st'.length:=by have:=hown.1;rw [Tc]at this;omega
 subst hm;refine⟨⟨by rw [Joins.block_setCell gV];rfl,iG hown hne 1 v5,h.low⟩,⟨hg.os,hg.tape,hg.output,?_,?_,hv⟩,au gV 1,bX gV 1⟩
 .have:=hg.size;simpa using this
 .intro k hk hks hkv;rw [Below.heap_setCell]
  .exact hg.block k hk (fun e=>hkv e.symm)
  .exact hks
theorem aaR(w:World)(a b:Obj)(r:Option Nat):w.grownBy ((w.alloc a).alloc b).drew r:=⟨rfl,rfl,rfl,by simp;omega,fun k hk _=>by
 show((w.alloc a).alloc b).heap[k]? =_;rw [Below.heap_alloc (w.alloc a) b k (by simp;omega)];exact Below.heap_alloc w a k hk⟩
theorem agm(w:World)(a:Obj)(y0 y1 y2:Value)(e:TypeId):∀j u,[y0,y1,y2][j]? =some u->((w.alloc a).alloc (.cells #[y0,y1,y2] e)).drew.cell? ((⟨w.heap.size+1,0,none⟩:Addr).add j)=some u:=by
 intro j u hj;have hsz:(w.alloc a).heap.size=w.heap.size+1:=by simp
 rw [<-hsz]
 match j,hj with
 |0,hj=>simp at hj;subst hj;simp [Addr.add]
 |1,hj=>simp at hj;subst hj;simp [Addr.add]
 |2,hj=>simp at hj;subst hj;simp [Addr.add]
theorem Fe {P:Program}{ops:Array Oper}{o:Oper}{a:Act}{w:World}{K:Act->World->Prop}{Q:Exit->Act->World->Prop}{E:Prop}(hgd:o.guard=none)(s x:Operand)(t:TypeId)
  (ho:o.op= .call {callee:= .builtin .append,args:=#[s,x],argTypes:=#[t,t]})
  (base:Nat) (e:TypeId) (i:TypeInfo) (z:Value) (size bytes:Nat) (ht:P.underlying t=some (.slice e)) (hi:P.info? e=some i) (hz:i.zero=some z)
  (hsize:i.size=size) (hby:i.bytes=bytes) (hzs:z.cells.size=size) (hsz:0<size) (wU:bytes<=64)
  (v:Value) (n:Nat) (xs:List Value) (hs:a.eval s=v) (hown:w.ownsRow base e size v n xs)
  (g:Nat) (news:List Value) (hx:a.eval x= .slice (some ⟨g,0,none⟩) 1 1) (hl:news.length=size) (hnews:∀j u,news[j]? =some u->w.cell? ((⟨g,0,none⟩:Addr).add j)=some u) (h1:∀u∈news,u.oneCell'=true) (hn:n<=1000000) (hbase:base<=w.heap.size)
  (h:∀v' w',w'.ownsRow base e size v' (n+1) (xs++news)->w.grownBy w' v.ownBlock->(v'.ownBlock=v.ownBlock∨v'.ownBlock=some w.heap.size)->K (a.put o.dst v') w'):if Region.wanted o (yielded ops a.tmps)=true then Oper.wp P o a w K Q else E:=by
 have hw:Region.wanted o (yielded ops a.tmps)=true:=by simp [Region.wanted,hgd]
 rw [if_pos hw];have hbytes:(n+1)*bytes<=140737488355328:=by
  have:(n+1)*bytes<=1000001*64:=Nat.mul_le_mul (by omega) wU;omega
 obtain⟨v',w',hr,h2,h3,_,h5⟩:=run_append_own_at (P:=P) w base t o.type e i z size bytes ht hi hz hsize hby hzs hsz v n xs hown ⟨g,0,none⟩ 1 1 news (by omega) hnews h1 (by unfold maxLen;omega) hbytes hbase;unfold Oper.wp execOp;simp only [ho,resolve,invoke,builtin,Sem.run_bind,Sem.run_pure,Result.andThen_ok,List.map_toArray,List.map_cons,List.map_nil,hs,hx,hr];exact h v' w' h2 h3 h5
theorem Iz(w:World)(B s:Nat)(v lp:Value)(x:XS)(el eo:Int)(ei:Bool)(h:bD w B s v lp x)(hl:x.st.length<=1000000):Calls prog 142 #[.pointer (some ⟨s,1,none⟩),.agg #[.int .i64 el,.int .i64 eo,.bool ei]] w fun e w'=>e= .returned (.tuple #[])/\∃v',bD w' B s v' lp {x with st:=x.st++[⟨el,eo,ei⟩]}/\aU w w' s v v':=by
 obtain⟨iE,yJ,aeC,aeD,aeE⟩:=info_parts Tryz.aeP;have c0:w.cell? ⟨s,1,none⟩=some v:=au h.cell 1;have f0:w.frozen? ⟨s,1,none⟩=false:=bX h.cell 1;have hrow:=h.row;have hbz:B<=w.heap.size:=Nat.le_trans h.low (Nat.le_of_lt (bK h.cell));obtain⟨a,c,rfl⟩:=fH hrow;have HS:Hid (bD w B s (.slice a x.st.length c) lp x):=h;clear h;go_enter func142,ntmps142;have hsl:=bK HS.out.cell;have c1:(w.alloc (.cells #[.int .i64 el,.int .i64 eo,.bool ei] 215)).cell? ⟨s,1,none⟩=some (.slice a x.st.length c):=(World.cell?_alloc_lt _ _ ⟨s,1,none⟩ hsl).trans c0;clear c0 f0;go_wp2
 go_region_law (refine Fe rfl _ _ 208 rfl B 215 iE (.agg #[.int .i64 0,.int .i64 0,.bool false]) 3 24 underlying208 yJ aeC aeD aeE rfl (by decide) (by decide) _ x.st.length (je x.st) rfl (World.ownsRow.alloc (World.ownsRow.alloc hrow (.cells #[.int .i64 el,.int .i64 eo,.bool ei] 215)) (.cells #[.int .i64 el,.int .i64 eo,.bool ei] 215)) _ [.int .i64 el,.int .i64 eo,.bool ei] rfl rfl (agm w _ _ _ _ _) (by intro u hu;simp at hu;rcases hu with rfl|rfl|rfl<;>rfl) hl (by simp;omega) ?_;intro v5 w5 hown5 hg5 hv5;obtain⟨a5,nV,rfl⟩:=fH hown5;obtain⟨hS5,tX,c5,f5⟩:=HS.out.grow (st':=x.st++[⟨el,eo,ei⟩]) (by rw [Td];exact hown5) ((aaR w _ _ _).trans hg5) (by rcases hv5 with h|h;exact .inl h;exact .inr (fun k hk=>by rw [h]at hk;have:=Option.some.inj hk;simp at this;omega));clear hown5 hg5 hv5)
 all_goals
  go_end0;exact⟨rfl,_,hS5,tX⟩
theorem O1(w:World)(B s:Nat)(v lp:Value)(x:XS)(e:aO)(h:bD w B s v lp x)(he:x.st[x.st.length - 1]? =some e)(hl:x.st.length<=100000):Calls prog 238 #[.pointer (some ⟨s,1,none⟩)] w fun ev w'=>ev= .returned (.agg #[.int .i64 e.l,.int .i64 e.o,.bool e.i])/\Below w.heap.size w w':=by
 have hpos:0<x.st.length:=by have:=(List.getElem?_eq_some_iff.1 he).1;omega
 obtain⟨n,hn⟩:∃n,x.st.length=n+1:=⟨x.st.length - 1,by omega⟩
 obtain⟨a,c,rfl⟩:=fH h.row;have hsl:=bK h.cell;have ji:Hid (∀W,Below w.heap.size w W->Calls prog 263 #[.pointer (some ⟨s,1,none⟩),.int .i64 n] W fun ev w'=>ev= .returned (.tuple #[.agg #[.int .i64 e.l,.int .i64 e.o,.bool e.i],.bool true])/\Below W.heap.size W w'):=fun W hb=>
  Rj W B s _ lp x n e ⟨by rw [hb.block s hsl];exact h.cell,own_below h.row hb,h.low⟩ (by rw [hn,Nat.add_sub_cancel]at he;exact he)
 have c1:(w.alloc (.cells #[.int .i64 0,.int .i64 0,.bool false] 215)).cell? ⟨s,1,none⟩=some (.slice a (n+1) c):=by
  rw [<-hn];exact(World.cell?_alloc_lt _ _ ⟨s,1,none⟩ hsl).trans (au h.cell 1)
 have hnb:n<=100000:=by omega
 clear h he hpos hn;obtain⟨el,eo,ei⟩:=e;simp only at ji ⊢;go_enter func238,ntmps238;go_wp2_with fail;refine(ji.out _ ((Below.refl _ _).alloc (Nat.le_refl _) _)).mono ?_;rintro ev w2 ⟨rfl,hb2⟩;obtain⟨hc2,hf2⟩:=Ro hb2;have k0:=(hc2 w.heap.size 0 (by simp)).trans (show _=some (.int .i64 0)by simp);have k1:=(hc2 w.heap.size 1 (by simp)).trans (show _=some (.int .i64 0)by simp);have k2:=(hc2 w.heap.size 2 (by simp)).trans (show _=some (.bool false)by simp);have f0:=(hf2 w.heap.size 0 (by simp)).trans (show _=false by simp);have f1:=(hf2 w.heap.size 1 (by simp)).trans (show _=false by simp);have f2:=(hf2 w.heap.size 2 (by simp)).trans (show _=false by simp);have hz:w.heap.size<w2.heap.size:=by have:=hb2.size;simp at this;omega
 have HB:Hid (Below w.heap.size w w2):=((Below.refl _ _).alloc (Nat.le_refl _) _).trans (hb2.mono (by simp));clear hc2 hf2 hb2 c1 ji;go_wp2;have e0:((((w2.setCell ⟨w.heap.size,0,none⟩ (.int .i64 el)).setCell ⟨w.heap.size,1,none⟩ (.int .i64 eo)).setCell ⟨w.heap.size,2,none⟩ (.bool ei)).alloc (.cells #[.int .i64 el,.int .i64 eo,.bool ei] 215)).cell? ⟨w.heap.size,0,none⟩=(((w2.setCell ⟨w.heap.size,0,none⟩ (.int .i64 el)).setCell ⟨w.heap.size,1,none⟩ (.int .i64 eo)).setCell ⟨w.heap.size,2,none⟩ (.bool ei)).cell? ⟨w.heap.size,0,none⟩:=World.cell?_alloc_lt _ _ ⟨w.heap.size,0,none⟩ (by simp;omega);have e1:((((w2.setCell ⟨w.heap.size,0,none⟩ (.int .i64 el)).setCell ⟨w.heap.size,1,none⟩ (.int .i64 eo)).setCell ⟨w.heap.size,2,none⟩ (.bool ei)).alloc (.cells #[.int .i64 el,.int .i64 eo,.bool ei] 215)).cell? ⟨w.heap.size,1,none⟩=(((w2.setCell ⟨w.heap.size,0,none⟩ (.int .i64 el)).setCell ⟨w.heap.size,1,none⟩ (.int .i64 eo)).setCell ⟨w.heap.size,2,none⟩ (.bool ei)).cell? ⟨w.heap.size,1,none⟩:=World.cell?_alloc_lt _ _ ⟨w.heap.size,1,none⟩ (by simp;omega);have e2:((((w2.setCell ⟨w.heap.size,0,none⟩ (.int .i64 el)).setCell ⟨w.heap.size,1,none⟩ (.int .i64 eo)).setCell ⟨w.heap.size,2,none⟩ (.bool ei)).alloc (.cells #[.int .i64 el,.int .i64 eo,.bool ei] 215)).cell? ⟨w.heap.size,2,none⟩=(((w2.setCell ⟨w.heap.size,0,none⟩ (.int .i64 el)).setCell ⟨w.heap.size,1,none⟩ (.int .i64 eo)).setCell ⟨w.heap.size,2,none⟩ (.bool ei)).cell? ⟨w.heap.size,2,none⟩:=World.cell?_alloc_lt _ _ ⟨w.heap.size,2,none⟩ (by simp;omega);refine bodyPost_ret (v:= .agg #[.int .i64 el,.int .i64 eo,.bool ei]) (by simp [results,results238,Tryz.isAgg215,Tryz.sizeOf215,go_sem,e0,e1,e2,k0,k1,k2]) rfl ⟨rfl,?_⟩;exact(((HB.out.setCell (p:=⟨w.heap.size,0,none⟩) (Nat.le_refl _) _).setCell (p:=⟨w.heap.size,1,none⟩) (Nat.le_refl _) _).setCell (p:=⟨w.heap.size,2,none⟩) (Nat.le_refl _) _).alloc (by simp;omega) _
theorem aay(y0 y1 y2:Value)(n:Nat):(Builtin.zeroCells #[y0,y1,y2] n).toList.length=n*3:=by simp [Builtin.zeroCells]
theorem aj2(y0 y1 y2:Value)(n:Nat)(u:Value)(h:u∈(Builtin.zeroCells #[y0,y1,y2] n).toList):u=y0∨u=y1∨u=y2:=by
 simp [Builtin.zeroCells]at h;obtain⟨i,_,rfl⟩:=h;have h3:i%3=0∨i%3=1∨i%3=2:=by omega
 rcases h3 with h|h|h<;>simp [h]
theorem ah7(w:World)(ty:TypeId)(b o n c:Nat)(hn:0<n)(hc:∀j,j<n*3->(w.cell? ⟨b,o+j,none⟩).isSome=true)(hf:∀j,j<n*3->w.frozen? ⟨b,o+j,none⟩=false):
  (Builtin.clear_ #[208] ty #[.slice (some ⟨b,o,none⟩) n c]).run prog w= .ok (.tuple #[]) (w.setCells b o (Builtin.zeroCells #[.int .i64 0,.int .i64 0,.bool false] n).toList):=by
 have hst:=run_storeCells_cells (P:=prog) b o (Builtin.zeroCells #[.int .i64 0,.int .i64 0,.bool false] n).toList 0 w (by rw [aay];simpa using hc) (by rw [aay];simpa using hf) (by intro v hv;rcases aj2 _ _ _ _ _ hv with rfl|rfl|rfl<;>rfl);simp only [Nat.add_zero]at hst;obtain⟨m,rfl⟩:∃m,n=m+1:=⟨n - 1,by omega⟩
 have hzc:(Value.agg #[.int .i64 0,.int .i64 0,.bool false]).cells=#[.int .i64 0,.int .i64 0,.bool false]:=rfl;simp [Builtin.clear_,run_underlying underlying208,Tryz.zeroValue215,hzc,hst]
theorem Tf:∀(st:List aO)(n:Nat),(je st).take (n*3)=je (st.take n)
 |[],n=>by simp [je]
 |e::st,0=>by simp [je]
 |e::st,n+1=>by
  have h:∀l:List aO,je (e::l)= .int .i64 e.l:: .int .i64 e.o:: .bool e.i::je l:=fun l=>by simp [je,aO.cells]
  rw [List.take_succ_cons,h,h,show(n+1)*3=n*3+1+1+1 by omega];simp only [List.take_succ_cons];rw [Tf st n]
theorem bD.cut {w:World}{B s g c n:Nat}{lp:Value}{x:XS}{vs:List Value}(h:bD w B s (.slice (some ⟨g,0,none⟩) x.st.length c) lp x)(hn:n<x.st.length):
  bD ((w.setCells g (n*3) vs).setCell ⟨s,1,none⟩ (.slice (some ⟨g,0,none⟩) n c)) B s (.slice (some ⟨g,0,none⟩) n c) lp {x with st:=x.st.take n}/\aU w ((w.setCells g (n*3) vs).setCell ⟨s,1,none⟩ (.slice (some ⟨g,0,none⟩) n c)) s (.slice (some ⟨g,0,none⟩) x.st.length c) (.slice (some ⟨g,0,none⟩) n c)/\(w.setCells g (n*3) vs).cell? ⟨s,1,none⟩=some (.slice (some ⟨g,0,none⟩) x.st.length c)/\(w.setCells g (n*3) vs).frozen? ⟨s,1,none⟩=false:=by
 have hlt:=bK h.cell;have hgs:g≠s:=by simpa [Value.ownBlock]using h.ne
 obtain⟨xs',h1,h2,h3⟩:=Iu vs (n*3) w _ h.row;have gV:(w.setCells g (n*3) vs).heap[s]? =some (.cells #[lp,.slice (some ⟨g,0,none⟩) x.st.length c,.int .i64 x.bu,.int .i64 x.bN,.int .i64 x.valid] 212 (0,0)):=by rw [h2.block s hlt (by simpa using hgs.symm)];exact h.cell
 have h4:=Iw h1 n (by omega);rw [take_same _ _ (n*3) h3,Tf]at h4;refine⟨⟨by rw [Joins.block_setCell gV];rfl,?_,h.low⟩,⟨h2.os,h2.tape,h2.output,by have:=h2.size;simpa using this,?_,.inl rfl⟩,au gV 1,bX gV 1⟩
 .have:=iG h4 (s:=s) (by simpa [Value.ownBlock]using hgs) 1 (.slice (some ⟨g,0,none⟩) n c);simpa [Nat.min_eq_left (Nat.le_of_lt hn)]using this
 .intro k hk hks hkv;rw [Below.heap_setCell]
  .exact h2.block k hk (fun e=>hkv (by rw [e];rfl))
  .exact hks
theorem acs(w:World)(B s:Nat)(v lp:Value)(x:XS)(n:Nat)(h:bD w B s v lp x)(hn:n<x.st.length)(hl:x.st.length<=1000000):Calls prog 264 #[.pointer (some ⟨s,1,none⟩),.int .i64 n] w fun e w'=>e= .returned (.tuple #[])/\∃v',bD w' B s v' lp {x with st:=x.st.take n}/\aU w w' s v v':=by
 obtain⟨g,c,rfl,hcap,hgw,hgB⟩:=kg h.row (by omega);have c0:w.cell? ⟨s,1,none⟩=some (.slice (some ⟨g,0,none⟩) x.st.length c):=au h.cell 1;have f0:w.frozen? ⟨s,1,none⟩=false:=bX h.cell 1;have UO:=ah7 w 0 g (n*3) (x.st.length - n) (c - n) (by omega) (fun j hj=>by
   rw [World.ownsRow.cellAt h.row (n*3+j) (by omega)];have:n*3+j<(je x.st).length:=by rw [Tc];omega
   rw [List.getElem?_eq_getElem this];rfl) (fun j _=>World.ownsRow.frozenAt h.row (n*3+j))
 have Vf:n<=c:=by omega
 have hni:((n:Int)<(x.st.length:Int)):=by omega
 obtain⟨hS,hF,c5,f5⟩:=h.cut (vs:=(Builtin.zeroCells #[.int .i64 0,.int .i64 0,.bool false] (x.st.length - n)).toList) hn;have HS:Hid _:=hS;have HF:Hid _:=hF;clear h hS hF;generalize w.setCells g (n*3) (Builtin.zeroCells #[.int .i64 0,.int .i64 0,.bool false] (x.st.length - n)).toList=Wc at*;generalize x.st.length=L at*;go_enter func264,ntmps264;go_wp2;go_end0;exact⟨rfl,_,HS.out,HF.out⟩
theorem bD.below {w w':World}{B s:Nat}{v lp:Value}{x:XS}(h:bD w B s v lp x)(hb:Below w.heap.size w w'):bD w' B s v lp x:=⟨by rw [hb.block s (bK h.cell)];exact h.cell,own_below h.row hb,h.low⟩
theorem aU.pre {w w2 w3:World}{s:Nat}{v v':Value}(hb:Below w.heap.size w w2)(h:aU w2 w3 s v v'):aU w w3 s v v':=
 ⟨h.os.trans hb.os,h.tape.trans hb.tape,h.output.trans hb.output,Nat.le_trans hb.size h.size,fun k hk hks hkv=>by rw [h.block k (Nat.lt_of_lt_of_le hk hb.size) hks hkv];exact hb.block k hk,by
  rcases h.own with h|h
  .exact .inl h
  .exact .inr fun k hk=>Nat.le_trans hb.size (h k hk)⟩
theorem aU.post {w w3 w4:World}{s:Nat}{v v':Value}(h:aU w w3 s v v')(hb:Below w.heap.size w3 w4):aU w w4 s v v':=
 ⟨hb.os.trans h.os,hb.tape.trans h.tape,hb.output.trans h.output,Nat.le_trans h.size hb.size,fun k hk hks hkv=>by rw [hb.block k hk];exact h.block k hk hks hkv,h.own⟩
theorem bD.setOther {w:World}{B s g:Nat}{v lp:Value}{x:XS}(h:bD w B s v lp x)(hgs:g≠s)(hgv:v.ownBlock≠some g)(k:Nat)(u:Value):bD (w.setCell ⟨g,k,none⟩ u) B s v lp x:=
 ⟨by
  rw [Below.heap_setCell]
  .exact h.cell
  .exact hgs.symm,iG h.row hgv k u,h.low⟩
theorem Yv(w:World)(B s:Nat)(v lp:Value)(x:XS)(st:List aO)(e:aO)(h:bD w B s v lp x)(hst:x.st=st++[e])(hl:st.length<=100000):Calls prog 237 #[.pointer (some ⟨s,1,none⟩)] w fun ev w'=>ev= .returned (.tuple #[.agg #[.int .i64 e.l,.int .i64 e.o,.bool e.i],.bool true])/\∃v',bD w' B s v' lp {x with st:=st}/\aU w w' s v v':=by
 have hlen:x.st.length=st.length+1:=by rw [hst];simp
 obtain⟨a,c,rfl⟩:=fH h.row;have hsl:=bK h.cell;have ji:Hid (∀W,Below w.heap.size w W->Calls prog 263 #[.pointer (some ⟨s,1,none⟩),.int .i64 st.length] W fun ev w'=>ev= .returned (.tuple #[.agg #[.int .i64 e.l,.int .i64 e.o,.bool e.i],.bool true])/\Below W.heap.size W w'):=fun W hb=>
  Rj W B s _ lp x st.length e (h.below hb) (by rw [hst];simp)
 have vY:Hid (∀W,Below w.heap.size w W->Calls prog 264 #[.pointer (some ⟨s,1,none⟩),.int .i64 st.length] W fun ev w'=>ev= .returned (.tuple #[])/\∃v',bD w' B s v' lp {x with st:=st}/\aU W w' s (.slice a x.st.length c) v'):=fun W hb=>by
  have:=acs W B s _ lp x st.length (h.below hb) (by omega) (by omega);rw [show x.st.take st.length=st by rw [hst];simp]at this;exact this
 have HC:Hid (∀W,Below w.heap.size w W->W.cell? ⟨s,1,none⟩=some (.slice a (st.length+1) c)):=fun W hb=>by
  rw [<-hlen];exact au (h.below hb).cell 1
 have Qm:Hid (∀k,w.heap.size<=k->(Value.slice a x.st.length c).ownBlock≠some k):=by
  intro k hk e';have:=yX h.row _ e';omega
 have c1:=HC.out (w.alloc (.cells #[.int .i64 0,.int .i64 0,.bool false] 215)) ((Below.refl _ _).alloc (Nat.le_refl _) _);clear h hst hlen;obtain⟨el,eo,ei⟩:=e;simp only at ji ⊢;generalize st.length=L at*;go_enter func237,ntmps237;go_wp2_with fail;refine(ji.out _ ((Below.refl _ _).alloc (Nat.le_refl _) _)).mono ?_;rintro ev w2 ⟨rfl,hb2⟩;have hB2:Below w.heap.size w w2:=((Below.refl _ _).alloc (Nat.le_refl _) _).trans (hb2.mono (by simp));have hz:w.heap.size<w2.heap.size:=by have:=hb2.size;simp at this;omega
 obtain⟨hc2,hf2⟩:=Ro hb2;have k0:=(hc2 w.heap.size 0 (by simp)).trans (show _=some (.int .i64 0)by simp);have k1:=(hc2 w.heap.size 1 (by simp)).trans (show _=some (.int .i64 0)by simp);have k2:=(hc2 w.heap.size 2 (by simp)).trans (show _=some (.bool false)by simp);have f0:=(hf2 w.heap.size 0 (by simp)).trans (show _=false by simp);have f1:=(hf2 w.heap.size 1 (by simp)).trans (show _=false by simp);have f2:=(hf2 w.heap.size 2 (by simp)).trans (show _=false by simp);have c2:=HC.out (w2.alloc (.cells #[.int .i64 el,.int .i64 eo,.bool ei] 215)) (hB2.alloc hB2.size _);have HB2:Hid (Below w.heap.size w w2):=hB2;clear hc2 hf2 hb2 c1 ji hB2;go_wp2_with fail;refine(vY.out _ (HB2.out.alloc HB2.out.size _)).mono ?_;rintro ev w3 ⟨rfl,v',hS,hF⟩;have hb3:∀g k:Nat,g<w2.heap.size+1->w.heap.size<=g->w3.cell? ⟨g,k,none⟩=(w2.alloc (.cells #[.int .i64 el,.int .i64 eo,.bool ei] 215)).cell? ⟨g,k,none⟩/\w3.frozen? ⟨g,k,none⟩=(w2.alloc (.cells #[.int .i64 el,.int .i64 eo,.bool ei] 215)).frozen? ⟨g,k,none⟩:=fun g k hg hgw=>by
  have:=hF.block g (by simpa using hg) (by omega) (Qm.out g hgw);exact⟨by simp only [World.cell?,this],by simp only [World.frozen?,this]⟩
 have q0:w3.cell? ⟨w2.heap.size,0,none⟩=some (.int .i64 el):=(hb3 _ 0 (by omega) (by omega)).1.trans (by simp);have q1:w3.cell? ⟨w2.heap.size,1,none⟩=some (.int .i64 eo):=(hb3 _ 1 (by omega) (by omega)).1.trans (by simp);have q2:w3.cell? ⟨w2.heap.size,2,none⟩=some (.bool ei):=(hb3 _ 2 (by omega) (by omega)).1.trans (by simp);have r0:w3.cell? ⟨w.heap.size,0,none⟩=some (.int .i64 0):=((hb3 _ 0 (by omega) (by omega)).1.trans (World.cell?_alloc_lt _ _ ⟨w.heap.size,0,none⟩ hz)).trans k0;have r1:w3.cell? ⟨w.heap.size,1,none⟩=some (.int .i64 0):=((hb3 _ 1 (by omega) (by omega)).1.trans (World.cell?_alloc_lt _ _ ⟨w.heap.size,1,none⟩ hz)).trans k1;have r2:w3.cell? ⟨w.heap.size,2,none⟩=some (.bool false):=((hb3 _ 2 (by omega) (by omega)).1.trans (World.cell?_alloc_lt _ _ ⟨w.heap.size,2,none⟩ hz)).trans k2;have hfz:∀k,w3.frozen? ⟨w.heap.size,k,none⟩=w2.frozen? ⟨w.heap.size,k,none⟩:=fun k=>(hb3 _ k (by omega) (by omega)).2.trans (((Below.refl w2.heap.size w2).alloc (Nat.le_refl _) _).frozen (p:=⟨w.heap.size,k,none⟩) hz)
 have g0:=(hfz 0).trans f0;have g1:=(hfz 1).trans f1;have g2:=(hfz 2).trans f2;have ME:v'.ownBlock≠some w.heap.size:=by
  rcases hF.own with h|h
  .rw [h];exact Qm.out _ (Nat.le_refl _)
  .intro e;have:=h _ e;simp at this;omega
 have hsn:w.heap.size≠s:=by omega
 have akk:w.heap.size≠w2.heap.size:=by omega
 have HS:Hid _:=((hS.setOther hsn ME 0 (.int .i64 el)).setOther hsn ME 1 (.int .i64 eo)).setOther hsn ME 2 (.bool ei);have HF:Hid _:=(aU.pre (HB2.out.alloc HB2.out.size _) hF).post ((((Below.refl w.heap.size w3).setCell (p:=⟨w.heap.size,0,none⟩) (Nat.le_refl _) (.int .i64 el)).setCell (p:=⟨w.heap.size,1,none⟩) (Nat.le_refl _) (.int .i64 eo)).setCell (p:=⟨w.heap.size,2,none⟩) (Nat.le_refl _) (.bool ei));clear hS hF hfz hb3 k0 k1 k2 f0 f1 f2 c2 HC vY HB2;go_wp2;refine bodyPost_ret (v:= .tuple #[.agg #[.int .i64 el,.int .i64 eo,.bool ei],.bool true]) (by simp [results,results237,Tryz.isAgg215,Tryz.sizeOf215,go_sem,r0,r1,r2]) rfl ⟨rfl,_,HS.out,HF.out⟩
