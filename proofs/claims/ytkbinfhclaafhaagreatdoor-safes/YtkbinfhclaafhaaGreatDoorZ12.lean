import Derived.Test.YtkbinfhclaafhaaGreatDoorZ11
import Derived.Deep.DeepCutAuto
namespace Go.Proofs.YtkbinfhclaafhaaGreatDoor
open Go.RowKit
open Go.Proofs.Tryz
set_option maxRecDepth 100000
set_option maxHeartbeats 32000000
set_option linter.all false
theorem R3(cs:List Int)(k:Nat)(h:k<cs.length)(hi:aS (cs.getD k 0)=true):k<mt cs k:=by
 have hs:=kL.start cs k (by omega);have hc:cs.getD k 0≠21:=by intro e;rw [e,Jj]at hi;cases hi
 have h1:=hs.plain h hc;have:mt cs k=cs.length∨∃d,cN (cs.drop (k+1)) (if aS (cs.getD k 0)=true then(0:Int)+1 else 0)=some d/\mt cs k=k+(d+(k+1 - k)):=by
  unfold mt;rw [h1.2.2];cases hm:cN (cs.drop (k+1)) (if aS (cs.getD k 0)=true then(0:Int)+1 else 0)with
  |none=>exact .inl rfl
  |some d=>exact .inr ⟨d,rfl,rfl⟩
 rcases this with h'|⟨d,_,h'⟩<;>omega
theorem bG.sub {w:World}{b off:Nat}{cs:List Int}(h:bG w b off cs)(m a:Nat)(hm:m<=cs.length):bG w b (off+a) ((cs.take m).drop a):=by
 intro i hi;simp at hi;have:=h (a+i) (by omega);rw [show off+a+i=off+(a+i)by omega,this];simp [aO,yu,OI];rw [aj (by omega)]
theorem bG.keep {w w':World}{B b off:Nat}{l:List Int}(h:bG w b off l)(hb:Below B w w')(hlt:b<B):bG w' b off l:=fun i hi=>by rw [hb.cell (p:=⟨b,off+i,none⟩) hlt];exact h i hi
theorem Fi {c c0:Int}(e:aU)(hx:c=c0)(hl:bN c=true)(ho:0<=e.o):e.o=kindOf c0 e:=by subst hx;rw [kindOf,aj ⟨hl,ho⟩]
theorem Fj {c c0:Int}(e:aU)(hx:c=c0)(ho:e.o<0):c=kindOf c0 e:=by subst hx;rw [kindOf,ai (fun h=>by omega)]
theorem RF {c c0:Int}{e:aU}(hx:c=c0)(hl:bN c=false):c=kindOf c0 e:=by subst hx;rw [kindOf,ai (fun h=>by rw [hl]at h;cases h.1)]
theorem left_at {c c0:Int}{q:Bool}(hx:c=c0)(hl:bN c=q):q=bN c0:=by rw [<-hx,hl]
theorem agF(cs:List Int)(para:Int)(b off cap len:Nat)(w:World)(hl:cs.length=len)(hn:len<=100000)(hcap:len<=cap)(hc:bG w b off cs)(hb:b<w.heap.size)(hp:0<=para/\para<=125):
  Calls prog 71 #[.slice (some ⟨b,off,none⟩) len cap,.int .i64 para] w fun e w'=>∃g1 g2 g3,e= .returned (.tuple #[.slice (some ⟨g1,0,none⟩) len len,.slice (some ⟨g2,0,none⟩) len len,.slice (some ⟨g3,0,none⟩) len len])/\Below w.heap.size w w'/\
   bh w' w.heap.size 3 g1 len (iv (aZ cs para))/\bh w' w.heap.size 3 g2 len (iv (gZ cs para))/\bh w' w.heap.size 4 g3 len (bv (aN cs)):=by
 have QS:=run_make_row' (P:=prog) 31 3 (.int .i64 0) 8 underlying31 Tryz.qB rfl .i64 .i64 len (by omega) (by omega);have E2:=run_make_row' (P:=prog) 36 4 (.bool false) 1 underlying36 Tryz.Fa rfl .i64 .i64 len (by omega) (by omega);have HC:=ah hc;have HL:=ah hl;have HP:=ah hp;have adI:=ah hcap;clear hc hl hp hcap;go_enter func71,ntmps71;go_wp2;have mQ:=iA.start cs para w len HL.out hn;have bS:Hid (Gs w.heap.size (w.heap.size+1) (w.heap.size+1+1) (w.heap.size+1+1+1) (w.heap.size+1+1+1+1)):=⟨rfl,rfl,rfl,rfl⟩
 generalize w.heap.size+1+1+1+1=g4 at bS ⊢;generalize w.heap.size+1+1+1=g3 at bS ⊢;generalize w.heap.size+1+1=g2 at bS ⊢;generalize w.heap.size+1=s at bS ⊢;have HB:Hid _:=mQ;clear mQ;go_loopg [11] len (fun gk i wr=>∃k:Nat,k<=len/\gk=len - k/\i= .int .i64 k/\iA cs para w wr w.heap.size len (dW cs para k) k);case atStart=>
  exact⟨0,by omega,rfl,rfl,HB.out⟩
 case round=>
  obtain⟨k,hk,rfl,rfl,hR⟩:=hrel;clear QS E2 HB;have HR:=ah hR;clear hR;by_cases hlt:k<len
  .have HK:Hid (k<cs.length):=by show k<cs.length;rw [HL.out];exact hlt
   have hcell:wr.cell? ⟨b,off+k,none⟩=some (.int .i64 (cs.getD k 0)):=by rw [HR.out.be.cell (p:=⟨b,off+k,none⟩) hb];exact HC.out k HK.out
   have HO:=ah (wm cs para HP.out k);have HN:Hid (dW cs para (k+1)=eN cs k (dL (dW cs para k) (cs.getD k 0)) (cs.getD k 0)):=rfl;have l7:Hid (gG cs para k=aR (dL (dW cs para k) (cs.getD k 0)).st):=rfl;obtain⟨c,hx⟩:∃c,c=cs.getD k 0:=⟨_,rfl⟩
   have HX:=ah hx;rw [<-hx]at hcell HN l7;clear hx;generalize Ax:dW cs para k=x at HR HO HN l7;clear Ax;by_cases h21:c=21
   .subst h21;have gQ:Hid (bN 21=true):=rfl;go_wp2_with fail;refine(agv bS.out.s HR.out HO.out (by omega)).mono ?_;rintro ev wy ⟨rfl,YD⟩;have HY:=ah YD;have fJ:=ah HO.out.end;have eA:Hid (gG cs para k=aR (iD x).st):=l7.out;have fV:Hid (dW cs para (k+1)=iD x):=HN.out;clear YD HR HO l7 hcell HN;generalize iD x=y at HY fJ eA fV;go_wp2_with fail;refine(A0 bS.out.s HY.out fJ.out).mono ?_;rintro ev w1 ⟨rfl,dQ⟩;have dz:=ah dQ;clear dQ HY;obtain⟨e,he⟩:∃e,e=aR y.st:=⟨_,rfl⟩
    rw [<-he]at eA ⊢;clear he;obtain⟨el,eo,ei⟩:=e;obtain⟨⟨⟨u2,l2⟩,⟨u3,l3⟩,⟨u4,l4⟩,f2,f3,f4⟩,t0,t1,⟨n1,n2,n3,n4,n5,n6⟩,n7,n8,n9,n10,n11,n12⟩:=dz.out.ready bS.out HL.out hk hlt (.int .i64 el) (.int .i64 eo) (.bool ei);by_cases ho:0<=eo
    .go_wp2;go_roundg (len - (k+1));case measure=>omega
     case rel=>exact⟨k+1,by omega,rfl,by simp,fV.out▸dz.out.FJ bS.out HK.out ⟨el,eo,ei⟩ eA.out.symm _ _ _ _ _ rfl (Fi ⟨el,eo,ei⟩ HX.out gQ.out ho) (left_at HX.out gQ.out)⟩
    .go_wp2;go_roundg (len - (k+1));case measure=>omega
     case rel=>exact⟨k+1,by omega,rfl,by simp,fV.out▸dz.out.stored bS.out HK.out ⟨el,eo,ei⟩ eA.out.symm _ _ _ _ rfl (Fj ⟨el,eo,ei⟩ HX.out ho) (left_at HX.out gQ.out)⟩
   by_cases h1:c=13∨c=14∨c=15∨c=16
   .rcases h1 with h|h|h|h
    all_goals
     have gQ:Hid (bN c=false):=by show _=_;rw [h];rfl
     have HY:=ah HR.out;have fJ:=ah HO.out;have eA:Hid (gG cs para k=aR x.st):=by have:=l7.out;rw [dL,ai (by omega)]at this;exact this
     have fV:Hid (dW cs para (k+1)=iZ x c):=by
      have:=HN.out;rw [dL,ai (by omega)]at this;rw [this];show eN cs k x _=_;rw [h];simp [eN]<;>omega
     subst h;clear HR HO l7 HN;generalize x=y at HY fJ eA fV;go_wp2_with fail;refine(A0 bS.out.s HY.out fJ.out).mono ?_;rintro ev w1 ⟨rfl,dQ⟩;have dz:=ah dQ;clear dQ HY;obtain⟨e,he⟩:∃e,e=aR y.st:=⟨_,rfl⟩
     rw [<-he]at eA ⊢;clear he;obtain⟨el,eo,ei⟩:=e;obtain⟨⟨⟨u2,l2⟩,⟨u3,l3⟩,⟨u4,l4⟩,f2,f3,f4⟩,t0,t1,⟨n1,n2,n3,n4,n5,n6⟩,n7,n8,n9,n10,n11,n12⟩:=dz.out.ready bS.out HL.out hk hlt (.int .i64 el) (.int .i64 eo) (.bool ei);go_wp2_with fail;refine(agp _ bS.out.s (dz.out.stored bS.out HK.out ⟨el,eo,ei⟩ eA.out.symm _ _ _ _ rfl (RF HX.out gQ.out) (left_at HX.out gQ.out)) fJ.out (by omega) (by omega)).mono ?_;rintro ev w2 ⟨rfl,eu⟩;have gH:=ah eu;clear eu;go_wp2;go_roundg (len - (k+1));case measure=>omega
     case rel=>exact⟨k+1,by omega,rfl,by simp,fV.out▸gH.out⟩
   obtain⟨X4,X5,X6,h16⟩:¬c=13/\¬c=14/\¬c=15/\¬c=16:=by omega
   clear h1;by_cases yQ:c=17
   .subst yQ;have gQ:Hid (bN 17=false):=rfl;have HY:=ah HR.out;have fJ:=ah HO.out;have eA:Hid (gG cs para k=aR x.st):=by have:=l7.out;rw [dL,ai (by omega)]at this;exact this
    have fV:Hid (dW cs para (k+1)=jA x):=by
     have:=HN.out;rw [dL,ai (by omega)]at this;rw [this];show eN cs k x _=_;simp [eN]<;>omega
    clear HR HO l7 HN;generalize x=y at HY fJ eA fV;go_wp2_with fail;refine(A0 bS.out.s HY.out fJ.out).mono ?_;rintro ev w1 ⟨rfl,dQ⟩;have dz:=ah dQ;clear dQ HY;obtain⟨e,he⟩:∃e,e=aR y.st:=⟨_,rfl⟩
    rw [<-he]at eA ⊢;clear he;obtain⟨el,eo,ei⟩:=e;obtain⟨⟨⟨u2,l2⟩,⟨u3,l3⟩,⟨u4,l4⟩,f2,f3,f4⟩,t0,t1,⟨n1,n2,n3,n4,n5,n6⟩,n7,n8,n9,n10,n11,n12⟩:=dz.out.ready bS.out HL.out hk hlt (.int .i64 el) (.int .i64 eo) (.bool ei);go_wp2_with fail;refine(akF bS.out.s (dz.out.stored bS.out HK.out ⟨el,eo,ei⟩ eA.out.symm _ _ _ _ rfl (RF HX.out gQ.out) (left_at HX.out gQ.out)) fJ.out (by omega)).mono ?_;rintro ev w2 ⟨rfl,eu⟩;have gH:=ah eu;clear eu;go_wp2;go_roundg (len - (k+1));case measure=>omega
    case rel=>exact⟨k+1,by omega,rfl,by simp,fV.out▸gH.out⟩
   by_cases P4:c=18
   .subst P4;have gQ:Hid (bN 18=true):=rfl;have HY:=ah HR.out;have fJ:=ah HO.out;have eA:Hid (gG cs para k=aR x.st):=by have:=l7.out;rw [dL,ai (by omega)]at this;exact this
    have fV:Hid (dW cs para (k+1)=iO x 0):=by
     have:=HN.out;rw [dL,ai (by omega)]at this;rw [this];show eN cs k x _=_;simp [eN]<;>omega
    clear HR HO l7 HN;generalize x=y at HY fJ eA fV;go_wp2_with fail;refine(A0 bS.out.s HY.out fJ.out).mono ?_;rintro ev w1 ⟨rfl,dQ⟩;have dz:=ah dQ;clear dQ HY;obtain⟨e,he⟩:∃e,e=aR y.st:=⟨_,rfl⟩
    rw [<-he]at eA ⊢;clear he;obtain⟨el,eo,ei⟩:=e;obtain⟨⟨⟨u2,l2⟩,⟨u3,l3⟩,⟨u4,l4⟩,f2,f3,f4⟩,t0,t1,⟨n1,n2,n3,n4,n5,n6⟩,n7,n8,n9,n10,n11,n12⟩:=dz.out.ready bS.out HL.out hk hlt (.int .i64 el) (.int .i64 eo) (.bool ei);by_cases ho:0<=eo
    .go_wp2_with fail;refine(Bw 0 bS.out.s (dz.out.FJ bS.out HK.out ⟨el,eo,ei⟩ eA.out.symm _ _ _ _ _ rfl (Fi ⟨el,eo,ei⟩ HX.out gQ.out ho) (left_at HX.out gQ.out)) fJ.out (by omega)).mono ?_;rintro ev w2 ⟨rfl,eu⟩;have gH:=ah eu;clear eu;go_wp2;go_roundg (len - (k+1));case measure=>omega
     case rel=>exact⟨k+1,by omega,rfl,by simp,fV.out▸gH.out⟩
    .go_wp2_with fail;refine(Bw 0 bS.out.s (dz.out.stored bS.out HK.out ⟨el,eo,ei⟩ eA.out.symm _ _ _ _ rfl (Fj ⟨el,eo,ei⟩ HX.out ho) (left_at HX.out gQ.out)) fJ.out (by omega)).mono ?_;rintro ev w2 ⟨rfl,eu⟩;have gH:=ah eu;clear eu;go_wp2;go_roundg (len - (k+1));case measure=>omega
     case rel=>exact⟨k+1,by omega,rfl,by simp,fV.out▸gH.out⟩
   by_cases h19:c=19
   .subst h19;have gQ:Hid (bN 19=true):=rfl;have HY:=ah HR.out;have fJ:=ah HO.out;have eA:Hid (gG cs para k=aR x.st):=by have:=l7.out;rw [dL,ai (by omega)]at this;exact this
    have fV:Hid (dW cs para (k+1)=iO x 1):=by
     have:=HN.out;rw [dL,ai (by omega)]at this;rw [this];show eN cs k x _=_;simp [eN]<;>omega
    clear HR HO l7 HN;generalize x=y at HY fJ eA fV;go_wp2_with fail;refine(A0 bS.out.s HY.out fJ.out).mono ?_;rintro ev w1 ⟨rfl,dQ⟩;have dz:=ah dQ;clear dQ HY;obtain⟨e,he⟩:∃e,e=aR y.st:=⟨_,rfl⟩
    rw [<-he]at eA ⊢;clear he;obtain⟨el,eo,ei⟩:=e;obtain⟨⟨⟨u2,l2⟩,⟨u3,l3⟩,⟨u4,l4⟩,f2,f3,f4⟩,t0,t1,⟨n1,n2,n3,n4,n5,n6⟩,n7,n8,n9,n10,n11,n12⟩:=dz.out.ready bS.out HL.out hk hlt (.int .i64 el) (.int .i64 eo) (.bool ei);by_cases ho:0<=eo
    .go_wp2_with fail;refine(Bw 1 bS.out.s (dz.out.FJ bS.out HK.out ⟨el,eo,ei⟩ eA.out.symm _ _ _ _ _ rfl (Fi ⟨el,eo,ei⟩ HX.out gQ.out ho) (left_at HX.out gQ.out)) fJ.out (by omega)).mono ?_;rintro ev w2 ⟨rfl,eu⟩;have gH:=ah eu;clear eu;go_wp2;go_roundg (len - (k+1));case measure=>omega
     case rel=>exact⟨k+1,by omega,rfl,by simp,fV.out▸gH.out⟩
    .go_wp2_with fail;refine(Bw 1 bS.out.s (dz.out.stored bS.out HK.out ⟨el,eo,ei⟩ eA.out.symm _ _ _ _ rfl (Fj ⟨el,eo,ei⟩ HX.out ho) (left_at HX.out gQ.out)) fJ.out (by omega)).mono ?_;rintro ev w2 ⟨rfl,eu⟩;have gH:=ah eu;clear eu;go_wp2;go_roundg (len - (k+1));case measure=>omega
     case rel=>exact⟨k+1,by omega,rfl,by simp,fV.out▸gH.out⟩
   by_cases h20:c=20
   .subst h20;have gQ:Hid (bN 20=true):=rfl;have HY:=ah HR.out;have fJ:=ah HO.out;have eA:Hid (gG cs para k=aR x.st):=by have:=l7.out;rw [dL,ai (by omega)]at this;exact this
    have fV:Hid (dW cs para (k+1)=iO x (qg cs k)):=by
     have:=HN.out;rw [dL,ai (by omega)]at this;rw [this];show eN cs k x _=_;simp [eN]<;>omega
    clear HR HO l7 HN;generalize x=y at HY fJ eA fV;have qz:k<mt cs k:=R3 cs k HK.out (by rw [<-HX.out];rfl);have hm2:mt cs k<=len:=by have:=(rG cs k (by have:=HK.out;omega)).2;rw [HL.out]at this;exact this
    have hcap:=adI.out;have zJ:Hid (∀W,bG W b off cs->Calls prog 115 #[.slice (some ⟨b,off,none⟩) len cap,.int .i64 k] W fun e w'=>e= .returned (.int .i64 (mt cs k))/\w'=W):=fun W h=>Js cs k b off cap len W HL.out (by omega) hk h
    have ou:Hid (∀off' cap' W,(off'=off+(k+1)∨mt cs k=k+1)->bG W b off cs->Calls prog 70 #[.slice (some ⟨b,off',none⟩) (mt cs k - (k+1)) cap'] W fun e w'=>e= .returned (.int .i64 (qg cs k))/\w'=W):=by
     intro off' cap' W ho h;refine PT ((cs.take (mt cs k)).drop (k+1)) b off' cap' (mt cs k - (k+1)) W (by simp;have:=HL.out;omega) (by omega) ?_;rcases ho with rfl|ho
     .exact h.sub _ _ (by have:=HL.out;omega)
     .intro i hi;simp at hi;omega
    generalize mt cs k=m at qz hm2 zJ ou;generalize qg cs k=bJ at fV ou;go_wp2_with fail;refine(A0 bS.out.s HY.out fJ.out).mono ?_;rintro ev w1 ⟨rfl,dQ⟩;have dz:=ah dQ;clear dQ HY;obtain⟨e,he⟩:∃e,e=aR y.st:=⟨_,rfl⟩
    rw [<-he]at eA ⊢;clear he;obtain⟨el,eo,ei⟩:=e;obtain⟨⟨⟨u2,l2⟩,⟨u3,l3⟩,⟨u4,l4⟩,f2,f3,f4⟩,t0,t1,⟨n1,n2,n3,n4,n5,n6⟩,n7,n8,n9,n10,n11,n12⟩:=dz.out.ready bS.out HL.out hk hlt (.int .i64 el) (.int .i64 eo) (.bool ei);by_cases ho:0<=eo
    .go_wp2_with fail;have gH:Hid (iA cs para w (((((w1.alloc (.cells #[.int .i64 el,.int .i64 eo,.bool ei] 181)).setCell ⟨g2,k,none⟩ (.int .i64 el)).setCell ⟨g3,k,none⟩ (.int .i64 20)).setCell ⟨g4,k,none⟩ (.bool true)).setCell ⟨g3,k,none⟩ (.int .i64 eo)) w.heap.size len y (k+1)):=dz.out.FJ bS.out HK.out ⟨el,eo,ei⟩ eA.out.symm _ _ _ _ _ rfl (Fi ⟨el,eo,ei⟩ HX.out gQ.out ho) (left_at HX.out gQ.out);refine(zJ.out _ (HC.out.keep gH.out.be hb)).mono ?_;rintro ev _ ⟨rfl,rfl⟩;go_wp2_with fail
     .refine(ou.out off 0 _ (.inr (by omega)) (HC.out.keep gH.out.be hb)).mono ?_;have HE:=ah h;clear h;rintro ev _ ⟨rfl,rfl⟩;go_wp2_with fail;refine(Bw bJ bS.out.s gH.out fJ.out (by omega)).mono ?_;rintro ev w2 ⟨rfl,eu⟩;have l6:=ah eu;clear eu;go_wp2;rw [<-HE.out];go_roundg (len - (k+1));case measure=>omega
      case rel=>exact⟨k+1,by omega,rfl,by simp,fV.out▸l6.out⟩
     .refine(ou.out (off+(k+1)) (cap - (k+1)) _ (.inl rfl) (HC.out.keep gH.out.be hb)).mono ?_;rintro ev _ ⟨rfl,rfl⟩;go_wp2_with fail;refine(Bw bJ bS.out.s gH.out fJ.out (by omega)).mono ?_;rintro ev w2 ⟨rfl,eu⟩;have l6:=ah eu;clear eu;go_wp2;go_roundg (len - (k+1));case measure=>omega
      case rel=>exact⟨k+1,by omega,rfl,by simp,fV.out▸l6.out⟩
    .go_wp2_with fail;have gH:Hid (iA cs para w ((((w1.alloc (.cells #[.int .i64 el,.int .i64 eo,.bool ei] 181)).setCell ⟨g2,k,none⟩ (.int .i64 el)).setCell ⟨g3,k,none⟩ (.int .i64 20)).setCell ⟨g4,k,none⟩ (.bool true)) w.heap.size len y (k+1)):=dz.out.stored bS.out HK.out ⟨el,eo,ei⟩ eA.out.symm _ _ _ _ rfl (Fj ⟨el,eo,ei⟩ HX.out ho) (left_at HX.out gQ.out);refine(zJ.out _ (HC.out.keep gH.out.be hb)).mono ?_;rintro ev _ ⟨rfl,rfl⟩;go_wp2_with fail
     .refine(ou.out off 0 _ (.inr (by omega)) (HC.out.keep gH.out.be hb)).mono ?_;have HE:=ah h;clear h;rintro ev _ ⟨rfl,rfl⟩;go_wp2_with fail;refine(Bw bJ bS.out.s gH.out fJ.out (by omega)).mono ?_;rintro ev w2 ⟨rfl,eu⟩;have l6:=ah eu;clear eu;go_wp2;rw [<-HE.out];go_roundg (len - (k+1));case measure=>omega
      case rel=>exact⟨k+1,by omega,rfl,by simp,fV.out▸l6.out⟩
     .refine(ou.out (off+(k+1)) (cap - (k+1)) _ (.inl rfl) (HC.out.keep gH.out.be hb)).mono ?_;rintro ev _ ⟨rfl,rfl⟩;go_wp2_with fail;refine(Bw bJ bS.out.s gH.out fJ.out (by omega)).mono ?_;rintro ev w2 ⟨rfl,eu⟩;have l6:=ah eu;clear eu;go_wp2;go_roundg (len - (k+1));case measure=>omega
      case rel=>exact⟨k+1,by omega,rfl,by simp,fV.out▸l6.out⟩
   by_cases h9:c=9
   .subst h9;have gQ:Hid (bN 9=false):=rfl;have HY:=ah HR.out;have fJ:=ah HO.out;have eA:Hid (gG cs para k=aR x.st):=by have:=l7.out;rw [dL,ai (by omega)]at this;exact this
    have fV:Hid (dW cs para (k+1)=x):=by
     have:=HN.out;rw [dL,ai (by omega)]at this;rw [this];show eN cs k x _=_;simp [eN]<;>omega
    clear HR HO l7 HN;generalize x=y at HY fJ eA fV;go_wp2_with fail;refine(A0 bS.out.s HY.out fJ.out).mono ?_;rintro ev w1 ⟨rfl,dQ⟩;have dz:=ah dQ;clear dQ HY;obtain⟨e,he⟩:∃e,e=aR y.st:=⟨_,rfl⟩
    rw [<-he]at eA ⊢;clear he;obtain⟨el,eo,ei⟩:=e;obtain⟨⟨⟨u2,l2⟩,⟨u3,l3⟩,⟨u4,l4⟩,f2,f3,f4⟩,t0,t1,⟨n1,n2,n3,n4,n5,n6⟩,n7,n8,n9,n10,n11,n12⟩:=dz.out.ready bS.out HL.out hk hlt (.int .i64 el) (.int .i64 eo) (.bool ei);go_wp2;go_roundg (len - (k+1));case measure=>omega
    case rel=>exact⟨k+1,by omega,rfl,by simp,fV.out▸dz.out.stored bS.out HK.out ⟨el,eo,ei⟩ eA.out.symm _ _ _ _ rfl (RF HX.out gQ.out) (left_at HX.out gQ.out)⟩
   by_cases hlo:c<13
   .have gQ:Hid (bN c=true):=by show bN c=true;rw [bN,show(c !=9)=true by simpa using h9,mX hlo];rfl
    have q9:(c==9)=false:=by simpa using h9
    have q9':(c !=9)=true:=by simpa using h9
    have q13:(c==13)=false:=by simpa using X4
    have q14:(c==14)=false:=by simpa using X5
    have q15:(c==15)=false:=by simpa using X6
    have q16:(c==16)=false:=by simpa using h16
    have q17:(c==17)=false:=by simpa using yQ
    have q18:(c==18)=false:=by simpa using P4
    have q19:(c==19)=false:=by simpa using h19
    have q20:(c==20)=false:=by simpa using h20
    have AO:(c==21)=false:=by simpa using h21
    have HY:=ah HR.out;have fJ:=ah HO.out;have eA:Hid (gG cs para k=aR x.st):=by have:=l7.out;rw [dL,ai (by omega)]at this;exact this
    have fV:Hid (dW cs para (k+1)=x):=by
     have:=HN.out;rw [dL,ai (by omega)]at this;rw [this];show eN cs k x _=_;rw [eN,ai (by omega),ai (by omega),ai (by omega),ai (by omega),ai (by omega)]
    clear HR HO l7 HN;generalize x=y at HY fJ eA fV;go_wp2_with fail;refine(A0 bS.out.s HY.out fJ.out).mono ?_;rintro ev w1 ⟨rfl,dQ⟩;have dz:=ah dQ;clear dQ HY;obtain⟨e,he⟩:∃e,e=aR y.st:=⟨_,rfl⟩
    rw [<-he]at eA ⊢;clear he;obtain⟨el,eo,ei⟩:=e;obtain⟨⟨⟨u2,l2⟩,⟨u3,l3⟩,⟨u4,l4⟩,f2,f3,f4⟩,t0,t1,⟨n1,n2,n3,n4,n5,n6⟩,n7,n8,n9,n10,n11,n12⟩:=dz.out.ready bS.out HL.out hk hlt (.int .i64 el) (.int .i64 eo) (.bool ei);by_cases ho:0<=eo
    .go_wp2;go_roundg (len - (k+1));case measure=>omega
     case rel=>exact⟨k+1,by omega,rfl,by simp,fV.out▸dz.out.FJ bS.out HK.out ⟨el,eo,ei⟩ eA.out.symm _ _ _ _ _ rfl (Fi ⟨el,eo,ei⟩ HX.out gQ.out ho) (left_at HX.out gQ.out)⟩
    .go_wp2;go_roundg (len - (k+1));case measure=>omega
     case rel=>exact⟨k+1,by omega,rfl,by simp,fV.out▸dz.out.stored bS.out HK.out ⟨el,eo,ei⟩ eA.out.symm _ _ _ _ rfl (Fj ⟨el,eo,ei⟩ HX.out ho) (left_at HX.out gQ.out)⟩
   have hhi:17<c:=by omega
   have gQ:Hid (bN c=true):=by show bN c=true;rw [bN,show(c !=9)=true by simpa using h9,mX hhi,Bool.or_true];rfl
   have q9:(c==9)=false:=by simpa using h9
   have q9':(c !=9)=true:=by simpa using h9
   have q13:(c==13)=false:=by simpa using X4
   have q14:(c==14)=false:=by simpa using X5
   have q15:(c==15)=false:=by simpa using X6
   have q16:(c==16)=false:=by simpa using h16
   have q17:(c==17)=false:=by simpa using yQ
   have q18:(c==18)=false:=by simpa using P4
   have q19:(c==19)=false:=by simpa using h19
   have q20:(c==20)=false:=by simpa using h20
   have AO:(c==21)=false:=by simpa using h21
   have HY:=ah HR.out;have fJ:=ah HO.out;have eA:Hid (gG cs para k=aR x.st):=by have:=l7.out;rw [dL,ai (by omega)]at this;exact this
   have fV:Hid (dW cs para (k+1)=x):=by
    have:=HN.out;rw [dL,ai (by omega)]at this;rw [this];show eN cs k x _=_;rw [eN,ai (by omega),ai (by omega),ai (by omega),ai (by omega),ai (by omega)]
   clear HR HO l7 HN;generalize x=y at HY fJ eA fV;go_wp2_with fail;refine(A0 bS.out.s HY.out fJ.out).mono ?_;rintro ev w1 ⟨rfl,dQ⟩;have dz:=ah dQ;clear dQ HY;obtain⟨e,he⟩:∃e,e=aR y.st:=⟨_,rfl⟩
   rw [<-he]at eA ⊢;clear he;obtain⟨el,eo,ei⟩:=e;obtain⟨⟨⟨u2,l2⟩,⟨u3,l3⟩,⟨u4,l4⟩,f2,f3,f4⟩,t0,t1,⟨n1,n2,n3,n4,n5,n6⟩,n7,n8,n9,n10,n11,n12⟩:=dz.out.ready bS.out HL.out hk hlt (.int .i64 el) (.int .i64 eo) (.bool ei);by_cases ho:0<=eo
   .go_wp2;go_roundg (len - (k+1));case measure=>omega
    case rel=>exact⟨k+1,by omega,rfl,by simp,fV.out▸dz.out.FJ bS.out HK.out ⟨el,eo,ei⟩ eA.out.symm _ _ _ _ _ rfl (Fi ⟨el,eo,ei⟩ HX.out gQ.out ho) (left_at HX.out gQ.out)⟩
   .go_wp2;go_roundg (len - (k+1));case measure=>omega
    case rel=>exact⟨k+1,by omega,rfl,by simp,fV.out▸dz.out.stored bS.out HK.out ⟨el,eo,ei⟩ eA.out.symm _ _ _ _ rfl (Fj ⟨el,eo,ei⟩ HX.out ho) (left_at HX.out gQ.out)⟩
  .have hkk:k=len:=by omega
   subst hkk;have h1:=HR.out.lv;have h2:=HR.out.kd;have h3:=HR.out.lf;rw [TT _ _ _ (by simp [aZ];exact HL.out.symm)]at h1;rw [TT _ _ _ (by simp [gZ];exact HL.out.symm)]at h2;rw [TT _ _ _ (by simp [aN];exact HL.out.symm)]at h3;rw [<-bS.out.g2]at h1;rw [<-bS.out.g3]at h2;rw [<-bS.out.g4]at h3;have H1:=ah h1;have H2:=ah h2;have H3:=ah h3;clear h1 h2 h3;go_wp2;refine cG (v:= .tuple #[.slice (some ⟨g2,0,none⟩) k k,.slice (some ⟨g3,0,none⟩) k k,.slice (some ⟨g4,0,none⟩) k k]) (by simp [results,results71,go_sem]) rfl ?_;exact⟨g2,g3,g4,rfl,HR.out.be,H1.out,H2.out,H3.out⟩
theorem Tryz.aie:(prog.info? 120).map (fun i=>(i.zero,i.size,i.bytes))=some (some (.agg #[.slice none 0 0,.int .i64 0,.int .i64 0,.int .i64 0]),4,48):=by kernel_rfl
theorem abe {w:World}{B g n c:Nat}{l:List Int}(h:w.ownsRow B 3 1 (.slice (some ⟨g,0,none⟩) n c) n (iv l)):bG w g 0 l:=fun k hk=>by
 rw [iz];exact iJ h k hk
theorem aaf:∀(r:List Nat),r.Pairwise (·<·)->r≠[]->r.length+r.headD 0<=r.getLastD 0+1
 |[],_,h=>absurd rfl h
 |[a],_,_=>by simp;omega
 |a::b::l,hp,_=>by
  have ih:=aaf (b::l) (Ep.1 hp).2 (by simp);have hab:=(Ep.1 hp).1 b (by simp);simp only [eW,List.headD_cons,List.getLastD_cons]at ih ⊢;omega
theorem S7 {lv:List Int}{lf:List Bool}{r:List Nat}(hr:r∈cQ lv lf):r.length+r.headD 0<=r.getLastD 0+1:=by
 refine aaf r ?_ ((xN lv lf).2.1 r hr);have h1:(cQ lv lf).flatten.Pairwise (·<·):=by rw [(xN lv lf).1];exact Vw _ List.pairwise_lt_range
 exact h1.sublist (VI hr)
theorem S9(lv:List Int)(lf:List Bool):kN lv.length (cQ lv lf):=⟨(xN lv lf).2.1,fun _ hr _ hp=>(MT hr hp).1,ack lv lf⟩
def rL(cs lv:List Int)(lf:List Bool)(para:Int)(rs:List (List Nat))(n k:Nat):List Sq:=((rs.take k).filter (gA cs)).map fun r=>qf cs lv lf para (bV cs rs n r)
theorem Tx(cs lv:List Int)(lf:List Bool)(para:Int)(rs:List (List Nat))(n k:Nat)(hk:k<rs.length):rL cs lv lf para rs n (k+1)=if gA cs (rs.getD k [])=true then rL cs lv lf para rs n k++[qf cs lv lf para (bV cs rs n (rs.getD k []))]else rL cs lv lf para rs n k:=by
 unfold rL;have hg:rs.getD k []=rs[k]:=by simp [aO,aQ hk]
 rw [pZ hk,qQ,hg,qU,Ej];cases gA cs rs[k]<;>simp
theorem acE(cs lv:List Int)(lf:List Bool)(para:Int)(rs:List (List Nat))(n k:Nat):(rL cs lv lf para rs n k).length<=k:=by
 unfold rL;rw [jE];have:=yw (gA cs) (rs.take k);rw [rW]at this;omega
def Sj:Option Nat->Int
 |none=> -1
 |some j=>(j:Int)
theorem ajv(rs:List (List Nat))(m k:Nat):rH rs m (k+1)=if(rs.getD k []).headD 0=m then some k else rH rs m k:=rfl
theorem RH {a b:List Nat}(h:b≠[]):(a++b).getLastD 0=b.getLastD 0:=by
 rw [pW,KI,El h,pW,El h];rfl
theorem alp {w:World}{B g' rc:Nat}{vs:List Value}{rs:List (List Nat)}{j:Nat}(h:w.ownsRow B 31 1 (.slice (some ⟨g',0,none⟩) rs.length rc) rs.length vs)(ho:w.ownsRow B 3 1 (vs.getD j .nilFunc) (rs.getD j []).length (iv (nl (rs.getD j []))))(hj:j<rs.length)(hne:rs.getD j []≠[]):
  ∃gj cj,w.cell? ⟨g',j,none⟩=some (.slice (some ⟨gj,0,none⟩) (rs.getD j []).length cj)/\w.cell? ⟨gj,0,none⟩=some (.int .i64 ((rs.getD j []).headD 0:Nat))/\0<(rs.getD j []).length/\w.ownsRow B 3 1 (.slice (some ⟨gj,0,none⟩) (rs.getD j []).length cj) (rs.getD j []).length (iv (nl (rs.getD j []))):=by
 have hl:=jc.2 hne;obtain⟨gj,cj,hv,_,_,_⟩:=fS ho hl;rw [hv]at ho;refine⟨gj,cj,?_,?_,hl,ho⟩
 .rw [dg h j (by have:=h.1;omega),<-hv,aO,aQ (show j<vs.length by have:=h.1;omega)];rfl
 .have:=iJ ho 0 (by rw [gw];exact hl);rw [mJ _ _ hl]at this;rw [this];cases hh:rs.getD j []with
  |nil=>exact absurd hh hne
  |cons a l=>rfl
theorem al5(cs lv:List Int)(lf:List Bool)(para:Int)(n gc oc cc gl ol cl gf of' cf:Nat)(w:World)(hc:cs.length=n)(hl:lv.length=n)(hf:lf.length=n)(hn:n<=100000)(hlv:∀l∈lv,0<=l/\l<=1000)(hp:0<=para/\para<=1000)
  (hci:bG w gc oc cs) (yX:bG w gl ol lv) (hfi:xW w gf of' lf) (jV:gc<w.heap.size) (hgl:gl<w.heap.size) (su:gf<w.heap.size):
  Calls prog 72 #[.slice (some ⟨gc,oc,none⟩) n cc,.slice (some ⟨gl,ol,none⟩) n cl,.slice (some ⟨gf,of',none⟩) n cf,.int .i64 para] w fun ev w'=>∃(v:Value)(dh:List Value),ev= .returned v/\Below w.heap.size w w'/\w'.ownsRow w.heap.size 120 4 v (gF cs lv lf para).length (sO dh (gF cs lv lf para))/\dh.length=(gF cs lv lf para).length/\
   ∀i,i<(gF cs lv lf para).length->w'.ownsRow w.heap.size 3 1 (dh.getD i .nilFunc) ((gF cs lv lf para).getD i ⟨[],0,0,0⟩).at'.length (iv (nl ((gF cs lv lf para).getD i ⟨[],0,0,0⟩).at')):=by
 obtain⟨iI,eY,eZ,fe,fh⟩:=gW Tryz.qB;obtain⟨iQ,Zh,Z9,aaa,aab⟩:=gW Tryz.aie;have jN:=ah (acm lv lf n gl ol cl gf of' cf w hl hf hn yX hfi hgl su);have Kw:Hid (gF cs lv lf para=rL cs lv lf para (cQ lv lf) n (cQ lv lf).length):=by
  show _=_;unfold gF rL;rw [KQ,hc]
 have Gp:Hid (kN n (cQ lv lf)):=by have:=S9 lv lf;rw [hl]at this;exact this
 have UH:Hid (∀r∈cQ lv lf,r.length+r.headD 0<=r.getLastD 0+1):=fun r hr=>S7 hr
 have rV:Hid ((cQ lv lf).length<=n):=by
  have h1:=congrArg List.length (xN lv lf).1;have h2:=yw (jW lf) (List.range lv.length);rw [KL]at h2;have h3:∀l:List (List Nat),(∀r∈l,r≠[])->l.length<=l.flatten.length:=by
   intro l
   induction l with
   |nil=>intro _;simp
   |cons a l ih=>
    intro hl';have:=ih (fun r hr=>hl' r (by simp [hr]));have:=jc.2 (hl' a (by simp));simp only [eW,yq,bP];omega
  have h4:=h3 _ (xN lv lf).2.1;show _<=_;omega
 have eP:Hid (cs.length=n/\lv.length=n/\lf.length=n):=⟨hc,hl,hf⟩
 have rR:=ah hlv;have HP:=ah hp;have x8:=ah hci;have Ba:=ah yX;have zC:=ah hfi;have bS:Hid (gc<w.heap.size/\gl<w.heap.size/\gf<w.heap.size):=⟨jV,hgl,su⟩
 rw [Kw.out];generalize cQ lv lf=rs at*;clear hc hl hf hlv hp hci yX hfi jV hgl su;go_enter func72,ntmps72;go_wp2_with fail;refine jN.out.mono ?_;rintro ev w1 ⟨lU,vs,rfl,hb1,hrs,hold⟩;obtain⟨ra,rc,rfl⟩:=ey hrs;obtain⟨lU,ZN⟩:∃lU:Value,lU= .slice ra rs.length rc:=⟨_,rfl⟩
 have Vb:Hid (mg w w1 w.heap.size (.slice ra rs.length rc) (.slice none 0 0) (.slice none 0 0) vs [] rs [] []):=
  ⟨hb1,hb1.size,hrs,hold,⟨rfl,.inl ⟨rfl,rfl⟩⟩,rfl,fun i h=>by simp at h,⟨rfl,.inl ⟨rfl,rfl⟩⟩,fun _ _ k _ hk=>(by cases hk),fun _ _ k _ hk=>(by cases hk)⟩
 have N0:=ah ZN;clear hb1 hrs hold jN ZN;go_wp2;go_loopg [10,11] rs.length (fun gh ov fE W=>∃(k:Nat)(dh:List Value)(ss:List Sq),k<=rs.length/\gh=rs.length - k/\fE= .int .i64 k/\mg w W w.heap.size lU ov (.slice none 0 0) vs dh rs ss []/\ss=rL cs lv lf para rs n k);case atStart=>exact⟨0,[],[],by omega,rfl,rfl,by rw [N0.out];exact Vb.out,rfl⟩
 case round=>
  clear Vb;obtain⟨k,dh,ss,hk,rfl,rfl,hQ,Ic⟩:=hrel;obtain⟨Ce,zh,rfl⟩:=ey hQ.out;by_cases hlt:k<rs.length
  .have Nz:=ah hlt;have wL:=ah Ic;have Vk:Hid (ss.length<=n):=by
    have:=acE cs lv lf para rs n k;have h2:=rV.out;show _<=_;rw [Ic];omega
   have IY:rs.getD k []∈rs:=dm hlt;have yZ:=Gp.out.ne _ IY;have IX:=Gp.out.lt _ IY;have Q6:=UH.out _ IY;obtain⟨g,cg,hvk,hcg,sw,_⟩:=fS (hQ.old k hlt) (jc.2 yZ);have hold:=hQ.old k hlt;rw [hvk]at hold;obtain⟨g',cg',hv',ahg,aos,_⟩:=fS hQ.AR (by omega);have I2:=hQ.AR;rw [hv']at I2;have cR:wr.cell? ⟨g',k,none⟩=some (.slice (some ⟨g,0,none⟩) (rs.getD k []).length cg):=by
    rw [dg I2 k (by have:=I2.1;omega),<-hvk,aO,aQ (show k<vs.length by have:=I2.1;omega)];rfl
   have cF:wr.cell? ⟨g,0,none⟩=some (.int .i64 ((rs.getD k []).headD 0:Nat)):=by
    have:=iJ hold 0 (by rw [gw];exact jc.2 yZ);rw [mJ _ _ (jc.2 yZ)]at this;rw [this];cases hh:rs.getD k []with
    |nil=>exact absurd hh yZ
    |cons a l=>rfl
   have hFn:(rs.getD k []).headD 0<n:=IX _ (head_mem yZ);have cC:=(x8.out.stay hQ.below bS.out.1) ((rs.getD k []).headD 0) (by rw [eP.out.1];exact hFn)
   have HQ:=ah hQ;have oW:Hid (Calls prog 122 #[.slice (some ⟨gc,oc,none⟩) n cc,.int .i64 ((rs.getD k []).headD 0:Nat)] wr fun e w'=>e= .returned (.int .i64 (opener cs ((rs.getD k []).headD 0)))/\w'=wr):=ajN cs _ gc oc cc n wr eP.out.1 (by omega) (by omega) (x8.out.stay hQ.below bS.out.1);have hbg:gA cs (rs.getD k [])= !(cs.getD ((rs.getD k []).headD 0) 0==21&&decide (0<=opener cs ((rs.getD k []).headD 0))):=rfl;have HR:Hid (∃r,r=rs.getD k []):=⟨_,rfl⟩
   obtain⟨r,hr⟩:=HR.out;rw [<-hr]at cR cF cC hFn yZ IX Q6 hold hbg oW;have HRm:Hid (r∈rs):=by rw [hr];exact IY
   have HR:=ah hr.symm;have UZ:=ah hold;have hkb:k<rs.length:=hlt;have hrl:=rV.out;rw [N0.out]at hv';obtain⟨hv1,hv2⟩:ra=some ⟨g',0,none⟩/\rc=cg':=by simpa using hv'
   subst hv1;subst hv2;have aoO:r.length<=n:=by have:=IX _ (xD yZ);omega
   have Ed:Hid (r≠[]/\(∀p∈r,p<n)/\r.length+r.headD 0<=r.getLastD 0+1):=⟨yZ,IX,Q6⟩
   have E5:0<r.length:=jc.2 yZ;have aoL:((0:Int)<(r.length:Int)):=by omega
   clear hQ I2 hvk hold IY yZ IX Q6 hr hv' Ic hcg ahg;generalize aon:r.headD 0=fi at*;generalize cs.getD fi 0=c0 at*;generalize opener cs fi=op at*;cases hbb:gA cs r
   .have Ko:Hid (rL cs lv lf para rs n (k+1)=ss):=by
     show _=_;rw [Tx _ _ _ _ _ _ _ Nz.out,HR.out,hbb,ai (by decide),wL.out]
    rw [hbb]at hbg;obtain⟨h1,h2⟩:c0=21/\0<=op:=by simpa using hbg.symm
    subst h1;clear hbg hbb;go_wp2_with fail;refine oW.out.mono ?_;rintro ev wx ⟨rfl,hx⟩;have hx':=hx.symm;subst hx';go_wp2;go_roundg (rs.length - (k+1));case measure=>omega
    case rel=>exact⟨k+1,dh,ss,by omega,rfl,by simp,HQ.out,Ko.out.symm⟩
   .have Uw:Hid (gA cs (rs.getD k [])=true):=by rw [HR.out];exact hbb
    rw [hbb]at hbg;have Mg:¬(c0=21/\0<=op):=by
     intro h;rw [h.1,mX h.2]at hbg;cases hbg
    clear hbg hbb
    go_upto_if 40 with fail
    go_cut [] (fun wc=>wc=wr)
    case first=>
     by_cases h21:c0=21
     .subst h21;have hop:op<0:=by omega
      go_wp2_with fail;refine oW.out.mono ?_;rintro ev wx ⟨rfl,hx⟩;have hx':=hx.symm;subst hx';go_wp2_with fail;go_meet;case rel=>rfl
     .have AO:(c0==21)=false:=by simpa using h21
      go_wp2_with fail;go_meet;case rel=>rfl
    case rest=>
     have hx':=hcut.symm;subst hx';clear Mg oW cC;have hbz:=HQ.out.base;have pG:=HQ.out.cur';go_wp2_with(at_builtin;refine ac9 _ rfl _ _ 31 rfl w.heap.size 3 iI (.int .i64 0) 8 underlying31 eY eZ fe fh rfl (by decide) _ _ _ rfl pG g r.length cg (iv (nl r)) rfl (by rw [mH,gw]) (fun j u hj=>by rw [dg UZ.out j (by have h1:=qW.1 hj;obtain⟨h1,_⟩:=h1;rw [mH,gw]at h1;omega)];exact hj) (fun u hu=>by simp only [iv,jr]at hu;obtain⟨q,_,rfl⟩:=hu;rfl) (by simp) (by omega) hbz ?_);intro v3 w3 ZA hg3 hv3;have Ks:Hid (mg w w3 w.heap.size lU (.slice Ce ss.length zh) v3 vs dh rs ss r):=by
      have:=HQ.out.app (r:=r) (by simpa using ZA) hg3 hv3;exact this
     clear ZA hg3 hv3 pG hbz HQ cR cF UZ;go_wp2;go_loopg [14] n (fun gh cv W=>∃(f:Nat)(cur:List Nat),f=gh/\mg w W w.heap.size lU (.slice Ce ss.length zh) cv vs dh rs ss cur/\(cur≠[]/\(∀p∈cur,p<n)/\cur.length<=cur.getLastD 0+1)/\n<=f+cur.getLastD 0/\bV cs rs n r=bV cs rs f cur);case atStart=>exact⟨n,r,rfl,Ks.out,⟨Ed.out.1,Ed.out.2.1,by have:=Ed.out.2.2;omega⟩,by omega,rfl⟩
     case round=>
      clear Ks;obtain⟨f,cur,hf,BL,pG,hfu,hch⟩:=hrel;subst hf;have Nq:=ah hch;have CB:Hid (cur≠[]/\(∀p∈cur,p<n)/\cur.length<=n):=⟨pG.1,pG.2.1,by have:=pG.2.1 _ (xD pG.1);have:=pG.2.2;omega⟩
      have Ma:cur.getLastD 0<n:=pG.2.1 _ (xD pG.1);have adL:=ah pG.2.2;obtain⟨L,hL⟩:∃L,cur.length=L+1:=⟨cur.length - 1,by have:=jc.2 pG.1;omega⟩
      obtain⟨gx,cx,hcv,aom,Zd,_⟩:=fS BL.cur' (by omega);subst hcv;have l5:=ah BL;have cX:wr.cell? ⟨gx,L,none⟩=some (.int .i64 (cur.getLastD 0:Nat)):=by
       rw [iJ BL.cur' L (by rw [gw];omega),mJ _ _ (by omega),pW,Ek,hL,kr,aO]
      have cY:=(x8.out.stay BL.below bS.out.1) (cur.getLastD 0) (by rw [eP.out.1];exact Ma)
      have zJ:Hid (Calls prog 115 #[.slice (some ⟨gc,oc,none⟩) n cc,.int .i64 (cur.getLastD 0:Nat)] wr fun e w2=>e= .returned (.int .i64 (mt cs (cur.getLastD 0)))/\w2=wr):=Js cs _ gc oc cc n wr eP.out.1 (by omega) (by omega) (x8.out.stay BL.below bS.out.1);have IG:gD cs rs (cur.getLastD 0)=if aS (cs.getD (cur.getLastD 0) 0)=true then rH rs (mt cs (cur.getLastD 0)) rs.length else none:=rfl
      have QO:aS (cs.getD (cur.getLastD 0) 0)=true->cur.getLastD 0<mt cs (cur.getLastD 0):=fun h=>R3 cs _ (by rw [eP.out.1];exact Ma) h
      have QU:mt cs (cur.getLastD 0)<=n:=by have:=(rG cs (cur.getLastD 0) (by rw [eP.out.1];omega)).2;rw [eP.out.1]at this;exact this
      have Vh:Hid (∀j,j<rs.length->∃gj cj,wr.cell? ⟨g',j,none⟩=some (.slice (some ⟨gj,0,none⟩) (rs.getD j []).length cj)/\wr.cell? ⟨gj,0,none⟩=some (.int .i64 ((rs.getD j []).headD 0:Nat))/\0<(rs.getD j []).length/\wr.ownsRow w.heap.size 3 1 (.slice (some ⟨gj,0,none⟩) (rs.getD j []).length cj) (rs.getD j []).length (iv (nl (rs.getD j [])))):=fun j hj=>by
       have:=BL.AR;rw [N0.out]at this;exact alp this (BL.old j hj) hj (Gp.out.ne _ (dm hj))
      have hLb:L<=100000:=by have:=CB.out.2.2;omega
      have aoP:rs.length<=100000:=by omega
      rw [hL];have Bb:=ah hL;rw [hL]at l5;clear BL pG hch hL;generalize hla:cur.getLastD 0=la at*;generalize cs.getD la 0=Wm at*;generalize mt cs la=z at*;go_wp2_with fail;refine(Ay Wm _).mono ?_;rintro ev wx ⟨rfl,hx⟩;have hx':=hx.symm;subst hx';go_wp2_with fail;refine zJ.out.mono ?_;rintro ev wx ⟨rfl,hx⟩;have hx':=hx.symm;subst hx';clear zJ;cases bH:aS Wm
      .have NI:Hid (gD cs rs (cur.getLastD 0)=none):=by show _=_;rw [hla,IG,bH,ai (by decide)]
       clear IG QO bH;go_wp2;go_loopg [18,19] 0 (fun gh nv kv W=>gh=0/\nv= .int .i64 (-1)/\kv= .int .i64 0/\W=wr);case atStart=>exact⟨rfl,rfl,rfl,rfl⟩
       case round=>
        obtain⟨rfl,rfl,rfl,hW⟩:=hrel;have hx':=hW.symm;subst hx';have FZ:Hid (bV cs rs n r=cur):=by
         show _=_;rw [Nq.out];obtain⟨f',hf'⟩:∃f',f=f'+1:=⟨f - 1,by omega⟩
         rw [hf',bV,NI.out]
        have Nu:Hid (rL cs lv lf para rs n (k+1)=ss++[qf cs lv lf para cur]):=by
         show _=_;rw [Tx _ _ _ _ _ _ _ Nz.out,aj Uw.out,HR.out,FZ.out,<-wL.out]
        go_wp2_with fail;refine(Xn cs lv lf para cur n (L+1) gc oc cc gl ol cl gf of' cf gx 0 cx wr eP.out.1 eP.out.2.1 eP.out.2.2 hn Bb.out (by omega) (by have:=CB.out.2.2;have:=Bb.out;omega) CB.out.2.1 rR.out HP.out (x8.out.stay l5.out.below bS.out.1) (Ba.out.stay l5.out.below bS.out.2.1) (zC.out.stay l5.out.below bS.out.2.2) (by have:=l5.out.cur';rw [Bb.out]at this;exact abe this) (ku bS.out.1 l5.out.base) (ku bS.out.2.1 l5.out.base) (ku bS.out.2.2 l5.out.base) Zd).mono ?_;rintro ev w4 ⟨rfl,hb4⟩;have Ib:=l5.out.call hb4;have N5:Hid ((qf cs lv lf para cur).at'=cur):=rfl;generalize qf cs lv lf para cur=sq at*;obtain⟨sat,FH,FI,FD⟩:=sq;have zN:Hid (mg w (w4.alloc (.cells #[.slice (some ⟨gx,0,none⟩) (L+1) cx,.int .i64 FH,.int .i64 FI,.int .i64 FD] 120)) w.heap.size lU (.slice Ce ss.length zh) (.slice (some ⟨gx,0,none⟩) (L+1) cx) vs dh rs ss cur):=Ib.call ((aA _ _).alloc (ay _) _);have vC:=zN.out.out;have Qq:=zN.out.base;have ahQ:ss.length<=100000:=by have:=Vk.out;omega
        clear hb4 Ib;simp only;go_wp2_with(at_builtin;refine ade _ rfl _ _ 117 rfl w.heap.size 120 iQ (.agg #[.slice none 0 0,.int .i64 0,.int .i64 0,.int .i64 0]) 48 underlying117 Zh Z9 aaa aab rfl (by decide) _ _ _ rfl vC _ _ _ _ _ _ rfl (by simp) rfl rfl rfl rfl (by omega) Qq ?_);intro v5 w5 b9 cA;have NT:Hid (mg w w5 w.heap.size lU v5 (.slice none 0 0) vs (dh++[.slice (some ⟨gx,0,none⟩) (L+1) cx]) rs (ss++[⟨sat,FH,FI,FD⟩]) []):=zN.out.push N5.out b9 cA;clear b9 cA vC;go_wp2;go_roundg (rs.length - (k+1));case measure=>omega
        case rel=>exact⟨k+1,_,_,by omega,rfl,by simp,NT.out,Nu.out.symm⟩
      .have hmz:=QO bH;rw [bH,aj rfl]at IG;have UR:Hid (gD cs rs (cur.getLastD 0)=rH rs z rs.length):=by show _=_;rw [hla];exact IG
       have HFu:Hid (n<=f+la/\cur.getLastD 0=la/\la<z):=⟨hfu,hla,hmz⟩
       clear IG QO bH;go_wp2;go_loopg [18,19] rs.length (fun gh nv kv W=>∃j:Nat,j<=rs.length/\gh=rs.length - j/\nv= .int .i64 (Sj (rH rs z j))/\kv= .int .i64 j/\W=wr);case atStart=>exact⟨0,by omega,rfl,rfl,rfl,rfl⟩
       case round=>
        obtain⟨j,hj,rfl,rfl,rfl,hW⟩:=hrel;have hx':=hW.symm;subst hx';by_cases sB:j<rs.length
        .obtain⟨gj,cj,d0,d1,hl0,_⟩:=Vh.out j sB;have ahu:((0:Int)<((rs.getD j []).length:Int)):=by omega
         have hns:=ajv rs z j;generalize(rs.getD j []).headD 0=hd at*;generalize(rs.getD j []).length=lj at*;by_cases Iq:hd=z
         .rw [aj Iq]at hns;have HS:=ah hns;have qdz:((hd:Int)==(z:Int))=true:=by simp [Iq]
          clear hns Iq;go_wp2;go_roundg (rs.length - (j+1));case measure=>omega
          case rel=>exact⟨j+1,by omega,rfl,by rw [HS.out];rfl,by simp,rfl⟩
         .rw [ai Iq]at hns;have HS:=ah hns;have qdz:((hd:Int)==(z:Int))=false:=by simp;omega
          clear hns Iq;go_wp2;go_roundg (rs.length - (j+1));case measure=>omega
          case rel=>exact⟨j+1,by omega,rfl,by rw [HS.out],by simp,rfl⟩
        .obtain rfl:j=rs.length:=by omega
         clear sB;cases hnk:rH rs z rs.length with
         |none=>
          have NI:Hid (gD cs rs (cur.getLastD 0)=none):=by show _=_;rw [UR.out,hnk]
          clear hnk;rw [show Sj none= -1 from rfl];have FZ:Hid (bV cs rs n r=cur):=by
           show _=_;rw [Nq.out];obtain⟨f',hf'⟩:∃f',f=f'+1:=⟨f - 1,by omega⟩
           rw [hf',bV,NI.out]
          have Nu:Hid (rL cs lv lf para rs n (k+1)=ss++[qf cs lv lf para cur]):=by
           show _=_;rw [Tx _ _ _ _ _ _ _ Nz.out,aj Uw.out,HR.out,FZ.out,<-wL.out]
          go_wp2_with fail;refine(Xn cs lv lf para cur n (L+1) gc oc cc gl ol cl gf of' cf gx 0 cx wr eP.out.1 eP.out.2.1 eP.out.2.2 hn Bb.out (by omega) (by have:=CB.out.2.2;have:=Bb.out;omega) CB.out.2.1 rR.out HP.out (x8.out.stay l5.out.below bS.out.1) (Ba.out.stay l5.out.below bS.out.2.1) (zC.out.stay l5.out.below bS.out.2.2) (by have:=l5.out.cur';rw [Bb.out]at this;exact abe this) (ku bS.out.1 l5.out.base) (ku bS.out.2.1 l5.out.base) (ku bS.out.2.2 l5.out.base) Zd).mono ?_;rintro ev w4 ⟨rfl,hb4⟩;have Ib:=l5.out.call hb4;have N5:Hid ((qf cs lv lf para cur).at'=cur):=rfl;generalize qf cs lv lf para cur=sq at*;obtain⟨sat,FH,FI,FD⟩:=sq;have zN:Hid (mg w (w4.alloc (.cells #[.slice (some ⟨gx,0,none⟩) (L+1) cx,.int .i64 FH,.int .i64 FI,.int .i64 FD] 120)) w.heap.size lU (.slice Ce ss.length zh) (.slice (some ⟨gx,0,none⟩) (L+1) cx) vs dh rs ss cur):=Ib.call ((aA _ _).alloc (ay _) _);have vC:=zN.out.out;have Qq:=zN.out.base;have ahQ:ss.length<=100000:=by have:=Vk.out;omega
          clear hb4 Ib;simp only;go_wp2_with(at_builtin;refine ade _ rfl _ _ 117 rfl w.heap.size 120 iQ (.agg #[.slice none 0 0,.int .i64 0,.int .i64 0,.int .i64 0]) 48 underlying117 Zh Z9 aaa aab rfl (by decide) _ _ _ rfl vC _ _ _ _ _ _ rfl (by simp) rfl rfl rfl rfl (by omega) Qq ?_);intro v5 w5 b9 cA;have NT:Hid (mg w w5 w.heap.size lU v5 (.slice none 0 0) vs (dh++[.slice (some ⟨gx,0,none⟩) (L+1) cx]) rs (ss++[⟨sat,FH,FI,FD⟩]) []):=zN.out.push N5.out b9 cA;clear b9 cA vC;go_wp2;go_roundg (rs.length - (k+1));case measure=>omega
          case rel=>exact⟨k+1,_,_,by omega,rfl,by simp,NT.out,Nu.out.symm⟩
         |some j2=>
          obtain⟨hj2,hd2⟩:=DB _ _ hnk;obtain⟨gj,cj,d0,d1,hl0,hrow2⟩:=Vh.out j2 hj2;have hm2:rs.getD j2 []∈rs:=dm hj2;have QX:=Gp.out.ne _ hm2;have iU:=Gp.out.lt _ hm2;have QI:=UH.out _ hm2;have ahv:=iU _ (xD QX);obtain⟨f',hf'⟩:∃f',f=f'+1:=⟨f - 1,by omega⟩
          have adH:Hid (bV cs rs n r=bV cs rs f' (cur++rs.getD j2 [])):=by
           show _=_;rw [Nq.out,hf',bV,UR.out,hnk]
          have dX:=ah hf';rw [show Sj (some j2)=(j2:Int)from rfl];generalize rs.getD j2 []=r2 at*;have adQ:=ah hrow2;have gH:Hid (r2≠[]/\(∀p∈r2,p<n)/\r2.length+r2.headD 0<=r2.getLastD 0+1/\r2.headD 0=z):=⟨QX,iU,QI,hd2⟩
          have pG:=l5.out.cur';have hbz:=l5.out.base;have hcl:cur.length<=1000000:=by have:=CB.out.2.2;omega
          have ahM:r2.length<=1000000:=by omega
          have aov:((0:Int)<=(j2:Int)):=by omega
          clear hnk hrow2 hm2 QX iU QI ahv hd2 hf' d1;go_wp2_with(at_builtin;refine ac9 _ rfl _ _ 31 rfl w.heap.size 3 iI (.int .i64 0) 8 underlying31 eY eZ fe fh rfl (by decide) _ _ _ rfl pG gj r2.length cj (iv (nl r2)) rfl (by rw [mH,gw]) (fun j u hj=>by rw [dg adQ.out j (by have h1:=qW.1 hj;obtain⟨h1,_⟩:=h1;rw [mH,gw]at h1;omega)];exact hj) (fun u hu=>by simp only [iv,jr]at hu;obtain⟨q,_,rfl⟩:=hu;rfl) hcl ahM hbz ?_);intro v6 w6 lK jU I6;have NV:=ah (l5.out.app lK jU I6);clear lK jU I6 pG;go_wp2;go_roundg f';case measure=>have:=dX.out;omega
          case rel=>
           obtain⟨e1,e2,e3,e4⟩:=gH.out;obtain⟨e5,e6,e7⟩:=HFu.out;have e8:=dX.out;have e9:=adL.out;have e10:=jc.2 e1;refine⟨f',cur++r2,rfl,NV.out,⟨by simp [e1],?_,?_⟩,?_,adH.out⟩
           .intro p hp;rcases kK.1 hp with hp|hp
            .exact CB.out.2.1 p hp
            .exact e2 p hp
           .rw [RH e1,bP];omega
           .rw [RH e1];omega
  .obtain rfl:k=rs.length:=by omega
   have HQ:=ah hQ;have wL:=ah Ic;clear hQ Ic hlt;go_wp2;refine cG (v:= .slice Ce ss.length zh) (by simp [results,results72,go_sem]) rfl ⟨_,dh,rfl,HQ.out.below,?_,?_,?_⟩
   .rw [<-wL.out];exact HQ.out.out
   .rw [<-wL.out];exact HQ.out.CX
   .rw [<-wL.out];exact HQ.out.done
