import Derived.Test.YtkbinfhclaafhaaGreatDoorH20
import Derived.Lib.OthersKept
import Derived.Test.YtkbinfhclaafhaaGreatDoorH04
import Derived.Test.YtkbinfhclaafhaaGreatDoorH02
import Derived.Test.YtkbinfhclaafhaaGreatDoorH10
import Derived.Test.YtkbinfhclaafhaaGreatDoorH15
import Derived.Test.YtkbinfhclaafhaaGreatDoorH14
namespace Go.Proofs.YtkbinfhclaafhaaGreatDoor
open Go.RowKit
open Go.Proofs.Tryz
set_option maxRecDepth 100000
set_option maxHeartbeats 32000000
theorem adf(w:World):Calls prog 36 #[.nilIface] w fun e w'=>e= .returned (Lh 0)/\Below w.heap.size w w':=by
 go_enter func36,ntmps36;go_wp2;exact bodyPost_ret (v:= .agg #[.int .i64 0,.int .i64 0,.int .i64 0]) (by simp [results,results36,go_sem]) rfl ⟨rfl,(Below.refl _ _).alloc (Nat.le_refl _) _⟩
theorem Li(w:World)(aL aT aC aX:Addr)(n:Int)(hX:aL=aX/\n=1∨aT=aX/\n=2∨aC=aX/\n=3)(hE:Env w aL aT aC):Calls prog 36 #[.iface 354 (.pointer (some aX))] w fun e w'=>e= .returned (Lh n)/\Below w.heap.size w w':=by
 have HX:Hid (aL=aX/\n=1∨aT=aX/\n=2∨aC=aX/\n=3):=hX;have HE:Hid (Env w aL aT aC):=hE;clear hE hX;go_enter func36,ntmps36;go_wp2_with fail;refine(aaX _ _ _ ?_).mono ?_
 .exact(HE.out.below ((((Below.refl _ _).alloc (Nat.le_refl _) _).alloc (by simp) _).alloc (by simp;omega) _)).Gq
 rintro e w1 ⟨rfl,hb⟩;have hB1:Below w.heap.size w w1:=((((Below.refl _ _).alloc (Nat.le_refl _) _).alloc (by simp) _).alloc (by simp;omega) _).trans (hb.mono (by simp;omega));have HB1:Hid (Below w.heap.size w w1):=hB1;have hz:w.heap.size+3<=w1.heap.size:=by have:=hb.size;simp at this;omega
 have CJ:Hid (Env w1 aL aT aC):=HE.out.below hB1;have hl:=CJ.out.long;have ht:=CJ.out.text;have hco:=CJ.out.code;have r0:w1.cell? ⟨w.heap.size,0,none⟩=some (.int .i64 0):=by rw [hb.cell (p:=⟨w.heap.size,0,none⟩) (by simp<;>omega)];go_simp
 have s0:w1.frozen? ⟨w.heap.size,0,none⟩=false:=by rw [hb.frozen (p:=⟨w.heap.size,0,none⟩) (by simp<;>omega)];go_simp
 have f0:w1.cell? ⟨w.heap.size+1,0,none⟩=some (.int .i64 4):=by rw [hb.cell (p:=⟨w.heap.size+1,0,none⟩) (by simp<;>omega)];go_simp
 have r1:w1.cell? ⟨w.heap.size,1,none⟩=some (.int .i64 0):=by rw [hb.cell (p:=⟨w.heap.size,1,none⟩) (by simp<;>omega)];go_simp
 have s1:w1.frozen? ⟨w.heap.size,1,none⟩=false:=by rw [hb.frozen (p:=⟨w.heap.size,1,none⟩) (by simp<;>omega)];go_simp
 have f1:w1.cell? ⟨w.heap.size+1,1,none⟩=some (.int .i64 (-1)):=by rw [hb.cell (p:=⟨w.heap.size+1,1,none⟩) (by simp<;>omega)];go_simp
 have r2:w1.cell? ⟨w.heap.size,2,none⟩=some (.int .i64 0):=by rw [hb.cell (p:=⟨w.heap.size,2,none⟩) (by simp<;>omega)];go_simp
 have s2:w1.frozen? ⟨w.heap.size,2,none⟩=false:=by rw [hb.frozen (p:=⟨w.heap.size,2,none⟩) (by simp<;>omega)];go_simp
 have f2:w1.cell? ⟨w.heap.size+1,2,none⟩=some (.int .i64 (-1)):=by rw [hb.cell (p:=⟨w.heap.size+1,2,none⟩) (by simp<;>omega)];go_simp
 have g0:w1.frozen? ⟨w.heap.size+1,0,none⟩=false:=by rw [hb.frozen (p:=⟨w.heap.size+1,0,none⟩) (by simp<;>omega)];go_simp
 have h0:w.heap.size<w1.heap.size:=by omega
 have h1:w.heap.size+1<w1.heap.size:=by omega
 clear hB1 hb hz;go_wp2;refine wp_loop_rounds 4 ?_;rcases HX.out with⟨rfl,rfl⟩|⟨rfl,rfl⟩|⟨rfl,rfl⟩
 .rw [rounds_succ];go_wp2_with fail;refine(MR aL _).mono ?_;rintro e w2 ⟨rfl,rfl⟩;go_wp2;rw [rounds_succ];go_wp2_with fail;refine(BQ aL aT _ HE.out.Cb ?_ ?_).mono ?_
  .exact(HE.out.below ((HB1.out.setCell (Nat.le_succ _) _).alloc (by simp;omega) _)).uV
  .exact(HE.out.below ((HB1.out.setCell (Nat.le_succ _) _).alloc (by simp;omega) _)).uW
  rintro e w3 ⟨rfl,rfl⟩;go_wp2;rw [rounds_succ];go_wp2_with fail;refine(BQ aL aC _ HE.out.Ca ?_ ?_).mono ?_
  .exact(HE.out.below ((HB1.out.setCell (Nat.le_succ _) _).alloc (by simp;omega) _)).uV
  .exact(HE.out.below ((HB1.out.setCell (Nat.le_succ _) _).alloc (by simp;omega) _)).uU
  rintro e w4 ⟨rfl,rfl⟩;go_wp2;rw [rounds_succ];go_wp2;refine bodyPost_ret (v:= .agg #[.int .i64 1,.int .i64 (-1),.int .i64 (-1)]) (by simp [results,results36,go_sem,r0,r1,r2,h0]) rfl ⟨rfl,?_⟩;exact((((HB1.out.setCell (Nat.le_succ _) _).setCell (Nat.le_refl _) _).setCell (Nat.le_refl _) _).setCell (Nat.le_refl _) _).alloc (by simp;omega) _
 .rw [rounds_succ];go_wp2_with fail;refine(BQ aT aL _ HE.out.Cb.symm ?_ ?_).mono ?_
  .exact(HE.out.below (HB1.out.alloc (by omega) _)).uW
  .exact(HE.out.below (HB1.out.alloc (by omega) _)).uV
  rintro e w2 ⟨rfl,rfl⟩;go_wp2;rw [rounds_succ];go_wp2_with fail;refine(MR aT _).mono ?_;rintro e w3 ⟨rfl,rfl⟩;go_wp2;rw [rounds_succ];go_wp2_with fail;refine(BQ aT aC _ HE.out.Cc ?_ ?_).mono ?_
  .exact(HE.out.below ((HB1.out.setCell (Nat.le_succ _) _).alloc (by simp;omega) _)).uW
  .exact(HE.out.below ((HB1.out.setCell (Nat.le_succ _) _).alloc (by simp;omega) _)).uU
  rintro e w4 ⟨rfl,rfl⟩;go_wp2;rw [rounds_succ];go_wp2;refine bodyPost_ret (v:= .agg #[.int .i64 2,.int .i64 (-1),.int .i64 (-1)]) (by simp [results,results36,go_sem,r0,r1,r2,h0]) rfl ⟨rfl,?_⟩;exact((((HB1.out.setCell (Nat.le_succ _) _).setCell (Nat.le_refl _) _).setCell (Nat.le_refl _) _).setCell (Nat.le_refl _) _).alloc (by simp;omega) _
 .rw [rounds_succ];go_wp2_with fail;refine(BQ aC aL _ HE.out.Ca.symm ?_ ?_).mono ?_
  .exact(HE.out.below (HB1.out.alloc (by omega) _)).uU
  .exact(HE.out.below (HB1.out.alloc (by omega) _)).uV
  rintro e w2 ⟨rfl,rfl⟩;go_wp2;rw [rounds_succ];go_wp2_with fail;refine(BQ aC aT _ HE.out.Cc.symm ?_ ?_).mono ?_
  .exact(HE.out.below (HB1.out.alloc (by omega) _)).uU
  .exact(HE.out.below (HB1.out.alloc (by omega) _)).uW
  rintro e w3 ⟨rfl,rfl⟩;go_wp2;rw [rounds_succ];go_wp2_with fail;refine(MR aC _).mono ?_;rintro e w4 ⟨rfl,rfl⟩;go_wp2;rw [rounds_succ];go_wp2;refine bodyPost_ret (v:= .agg #[.int .i64 3,.int .i64 (-1),.int .i64 (-1)]) (by simp [results,results36,go_sem,r0,r1,r2,h0]) rfl ⟨rfl,?_⟩;exact((((HB1.out.setCell (Nat.le_succ _) _).setCell (Nat.le_refl _) _).setCell (Nat.le_refl _) _).setCell (Nat.le_refl _) _).alloc (by simp;omega) _
theorem Tq(er:Int)(h:er=0∨er=1∨er=2∨er=3)(w:World)(aL aT aC:Addr)(hE:Env w aL aT aC):
  Calls prog 36 #[tQ er aL aT aC] w fun e w'=>e= .returned (Lh er)/\Below w.heap.size w w':=by
 rcases h with rfl|rfl|rfl|rfl
 .exact adf w
 .exact Li w aL aT aC aL 1 (.inl ⟨rfl,rfl⟩) hE
 .exact Li w aL aT aC aT 2 (.inr (.inl ⟨rfl,rfl⟩)) hE
 .exact Li w aL aT aC aC 3 (.inr (.inr ⟨rfl,rfl⟩)) hE
theorem afa {p:Prop} [Decidable p] {a b:Int}(ha:p->0<=a/\a<=21)(hb:0<=b/\b<=21):0<=(if p then a else b)/\(if p then a else b)<=21:=by
 by_cases h:p
 .rw [if_pos h];exact ha h
 .rw [if_neg h];exact hb
theorem wI(r:Int):0<=cls r/\cls r<=21:=by
 unfold cls
 repeat (refine afa (fun h=>by omega) ?_)
 omega
theorem Y4 {s:ByteArray}{l:List Int}(hr:dh s=some l)(h:0<s.size):l≠[]:=by
 unfold dh at hr;obtain⟨n,hn⟩:∃n,s.size=n+1:=⟨s.size - 1,by omega⟩
 rw [hn,runesFrom,if_pos h]at hr;split at hr
 .cases hr
 .cases hx:runesFrom s n (0+aJ s 0)with
  |none=>rw [hx]at hr;cases hr
  |some q=>rw [hx]at hr;rintro rfl;simp at hr
theorem Y5 {s:ByteArray}{l:List Int}(hr:dh s=some l)(h:s.size=0):l=[]:=by
 unfold dh at hr;rw [h,runesFrom]at hr;exact(Option.some.inj hr).symm
theorem aa5(s:ByteArray)(l:List Int)(d:Int)(w:World)(aL aT aC:Addr)(hs:s.size<=600)(hr:dh s=some l)(hl:l.length<=300)(hE:Env w aL aT aC)(hB:Br w):
  Calls prog 55 #[.string s,.int .i64 d] w fun e w'=>∃g,e= .returned (.slice (some ⟨g,0,none⟩) l.length l.length)/\aK w' w.heap.size 3 g l.length (iv (gB l (l.map cls) d))/\Below w.heap.size w w':=by
 by_cases h0:s.size=0
 .obtain rfl:=Y5 hr h0;exact aa6 s d w h0
 .refine aa7 abC s l d w hs hr (Y4 hr (by omega)) (by omega) hB (fun c hc=> ?_) (fun r W hW=> ?_)
  .obtain⟨r,_,rfl⟩:=List.mem_map.1 hc;exact wI r
  .obtain⟨tt,fr,hsp⟩:=(hE.below hW).spans;exact RZ r W tt fr hsp
theorem TB(para:Int):∀(cs os:List Int)(prev:Int),cs.length=os.length->(l9 para prev cs os).length=cs.length
 |[],_,_,_=>rfl
 |_::_,[],_,h=>by simp at h
 |c::cs,o::os,prev,h=>by rw [l9,List.length_cons,List.length_cons,TB para cs os _ (by simpa using h)]
theorem Zh:∀(xs:List (Nat×Int×Int))(l:List Int),(xs.foldl mM l).length=l.length
 |[],_=>rfl
 |x::xs,l=>by rw [List.foldl_cons,Zh xs];simp [mM]
theorem afw(rs cs:List Int)(d:Int):(gB rs cs d).length=cs.length:=by
 unfold gB;exact TB _ _ _ _ (by rw [Zh,Pt])
section
variable{α β:Type}
def bV:List Bool->List α->List α->List α
 |[],_,acc=>acc
 |_::_,[],acc=>acc
 |true::bs,x::xs,acc=>bV bs xs (x::acc)
 |false::bs,x::xs,acc=>acc++x::bV bs xs []
theorem O5:∀(bs:List Bool)(xs acc:List α),bs.length=xs.length->(bV bs xs acc).length=acc.length+xs.length
 |[],[],acc,_=>rfl
 |[],_::_,_,h=>by simp at h
 |_::_,[],_,h=>by simp at h
 |true::bs,x::xs,acc,h=>by
  rw [bV,O5 bs xs _ (by simpa using h)];simp;omega
 |false::bs,x::xs,acc,h=>by
  rw [bV,List.length_append,List.length_cons,O5 bs xs _ (by simpa using h)];simp
theorem O6:∀(bs:List Bool)(xs acc:List α),bs.length=xs.length->(bV bs xs acc).Perm (acc++xs)
 |[],[],acc,_=>by rw [bV,List.append_nil]
 |[],_::_,_,h=>by simp at h
 |_::_,[],_,h=>by simp at h
 |true::bs,x::xs,acc,h=>by
  rw [bV];refine(O6 bs xs _ (by simpa using h)).trans ?_;exact(List.perm_middle (l₁:=acc) (a:=x) (l₂:=xs)).symm
 |false::bs,x::xs,acc,h=>by
  rw [bV];exact(((O6 bs xs [] (by simpa using h)).cons x)).append_left acc
theorem AB(f:α->β):∀(bs:List Bool)(xs acc:List α),(bV bs xs acc).map f=bV bs (xs.map f) (acc.map f)
 |[],_,acc=>rfl
 |_::_,[],acc=>rfl
 |true::bs,x::xs,acc=>by rw [bV,List.map_cons,bV,AB f bs xs];rfl
 |false::bs,x::xs,acc=>by rw [bV,List.map_cons,bV,List.map_append,List.map_cons,AB f bs xs];rfl
theorem I1(bs:List Bool)(xs:List α):∀(ys acc:List α),bV (List.replicate ys.length true++bs) (ys++xs) acc=bV bs xs (ys.reverse++acc)
 |[],acc=>by simp
 |y::ys,acc=>by
  rw [List.length_cons,List.replicate_succ,List.cons_append,List.cons_append,bV,I1 bs xs ys];simp
theorem ajr:∀(bs:List Bool)(xs acc:List α),(bs=[]/\xs=[])∨(∃bs',bs=false::bs')->bV bs xs acc=acc++bV bs xs []
 |_,_,acc,.inl ⟨h1,h2⟩=>by subst h1;subst h2;simp [bV]
 |_,[],acc,.inr ⟨bs',h⟩=>by subst h;simp [bV]
 |_,x::xs,acc,.inr ⟨bs',h⟩=>by subst h;simp [bV]
theorem O8:∀(bs:List Bool)(xs acc:List α),bs.length=xs.length->bV (List.replicate acc.length true++bs) (bV bs xs acc) []=acc.reverse++xs
 |[],[],acc,_=>by
  have:=I1 [] [] acc [];simp only [List.append_nil]at this ⊢;rw [bV,this];simp [bV]
 |[],_::_,_,h=>by simp at h
 |_::_,[],_,h=>by simp at h
 |true::bs,x::xs,acc,h=>by
  have ih:=O8 bs xs (x::acc) (by simpa using h);rw [bV];rw [List.length_cons,List.replicate_succ',List.append_assoc]at ih;simpa using ih
 |false::bs,x::xs,acc,h=>by
  have ih:=O8 bs xs [] (by simpa using h);rw [bV,I1,bV];simp only [List.length_nil,List.replicate_zero,List.nil_append,List.reverse_nil]at ih;rw [ih];simp
theorem O7:∀(bs cs:List Bool)(k:Nat),bs.length=cs.length->(∀j:Nat,bs[j]? =some true->cs[j]? =some true)->bV bs cs (List.replicate k true)=List.replicate k true++cs
 |[],[],k,_,_=>by simp [bV]
 |[],_::_,_,h,_=>by simp at h
 |_::_,[],_,h,_=>by simp at h
 |true::bs,c::cs,k,h,hs=>by
  have hc:c=true:=by have:=hs 0 rfl;simpa using this
  subst hc;rw [bV];have:=O7 bs cs (k+1) (by simpa using h) (fun j hj=>hs (j+1) hj);rw [List.replicate_succ]at this;rw [this,<-List.replicate_succ,List.replicate_succ'];simp
 |false::bs,c::cs,k,h,hs=>by
  rw [bV];have:=O7 bs cs 0 (by simpa using h) (fun j hj=>hs (j+1) hj);simp only [List.replicate_zero,List.nil_append]at this;rw [this]
def nu(bs:List Bool)(a:List α)(i:Nat)(cur:List α):Prop:=∃pre,pre.length=i/\cur=pre++a.drop i/\bV bs a []=pre++bV (bs.drop i) (a.drop i) []
variable{bs:List Bool}{a cur:List α}{i j:Nat}
theorem nu.start(bs:List Bool)(a:List α):nu bs a 0 a:=⟨[],rfl,by simp,by simp⟩
theorem nu.stop(h:nu bs a i cur)(hl:bs.length=a.length)(hi:a.length<=i):cur=bV bs a []:=by
 obtain⟨pre,_,h2,h3⟩:=h;rw [h3,h2,List.drop_eq_nil_of_le hi,List.drop_eq_nil_of_le (by omega)];simp [bV]
theorem Gb {γ:Type}{l:List γ}{i:Nat}(h:i<l.length):∃x,l.drop i=x::l.drop (i+1)/\l[i]? =some x:=⟨l[i],List.drop_eq_getElem_cons h,List.getElem?_eq_getElem h⟩
theorem nu.skip(h:nu bs a i cur)(hl:bs.length=a.length)(hi:i<a.length)(hb:bs[i]? =some false):nu bs a (i+1) cur:=by
 obtain⟨pre,h1,h2,h3⟩:=h;obtain⟨x,e1,_⟩:=Gb hi;obtain⟨b,e2,e3⟩:=Gb (l:=bs) (i:=i) (by omega);rw [hb]at e3;obtain rfl:false=b:=Option.some.inj e3;refine⟨pre++[x],by simp [h1],?_,?_⟩
 .rw [h2,e1];simp
 .rw [h3,e1,e2,bV];simp
theorem Sv {bs:List Bool}:∀(m i:Nat),i+m<=bs.length->(∀q,i<=q->q<i+m->bs[q]? =some true)->bs.drop i=List.replicate m true++bs.drop (i+m)
 |0,i,_,_=>by simp
 |m+1,i,h,hr=>by
  obtain⟨b,e2,e3⟩:=Gb (l:=bs) (i:=i) (by omega);rw [hr i (Nat.le_refl _) (by omega)]at e3;obtain rfl:true=b:=Option.some.inj e3;rw [e2,Sv m (i+1) (by omega) (fun q h1 h2=>hr q (by omega) (by omega)),show i+1+m=i+(m+1)by omega,List.replicate_succ];rfl
def mJ(l:List α)(i j:Nat):List α:=l.take i++((l.take j).drop i).reverse++l.drop j
theorem nu.turn(h:nu bs a i cur)(hl:bs.length=a.length)(hij:i<=j)(hj:j<=a.length)(hr:∀q,i<=q->q<j->bs[q]? =some true)(he:j<a.length->bs[j]? =some false):nu bs a j (mJ cur i j):=by
 obtain⟨pre,h1,h2,h3⟩:=h;have ed:=Sv (j - i) i (by omega) (fun q h1 h2=>hr q h1 (by omega));rw [show i+(j - i)=j by omega]at ed;have ea:a.drop i=(a.drop i).take (j - i)++a.drop j:=by
  conv=>lhs;rw [<-List.take_append_drop (j - i) (a.drop i)]
  rw [List.drop_drop,show i+(j - i)=j by omega]
 have SQ:((a.drop i).take (j - i)).length=j - i:=by rw [List.length_take,List.length_drop];omega
 refine⟨pre++((a.drop i).take (j - i)).reverse,by rw [List.length_append,List.length_reverse,SQ];omega,?_,?_⟩
 .have e1:cur.take i=pre:=by rw [h2,<-h1,List.take_left]
  have e2:(cur.take j).drop i=(a.drop i).take (j - i):=by
   rw [h2,List.drop_take,List.drop_append_of_le_length (by omega),<-h1,List.drop_length];simp
  have e3:cur.drop j=a.drop j:=by
   rw [h2,List.drop_append,List.drop_drop,List.drop_eq_nil_of_le (by omega),h1,show i+(j - i)=j by omega];rfl
  unfold mJ;rw [e1,e2,e3]
 .have e4:=I1 (bs.drop j) (a.drop j) ((a.drop i).take (j - i)) [];rw [SQ,<-ed,<-ea,List.append_nil]at e4;rw [h3,e4,ajr]
  .rw [List.append_assoc]
  .rcases Nat.lt_or_ge j a.length with hlt|hge
   .right;obtain⟨b,e2,e3⟩:=Gb (l:=bs) (i:=j) (by omega);rw [he hlt]at e3;obtain rfl:false=b:=Option.some.inj e3;exact⟨_,e2⟩
   .exact .inl ⟨List.drop_eq_nil_of_le (by omega),List.drop_eq_nil_of_le hge⟩
theorem nu.length(h:nu bs a i cur)(hi:i<=a.length):cur.length=a.length:=by
 obtain⟨pre,h1,h2,_⟩:=h;rw [h2,List.length_append,List.length_drop];omega
theorem Oo(l:List α)(i j k:Nat)(hij:i<=j)(hj:j<=l.length):(mJ l i j)[k]? =if i<=k/\k<j then l[i+j - 1 - k]? else l[k]? :=by
 unfold mJ;have l1:(l.take i).length=i:=by rw [List.length_take];omega
 have l2:((l.take j).drop i).length=j - i:=by rw [List.length_drop,List.length_take];omega
 rcases Nat.lt_or_ge k i with h|h
 .rw [if_neg (by omega),List.append_assoc,List.getElem?_append_left (by omega),List.getElem?_take_of_lt h]
 .rcases Nat.lt_or_ge k j with h'|h'
  .rw [if_pos ⟨h,h'⟩,List.append_assoc,List.getElem?_append_right (by omega),l1,List.getElem?_append_left (by rw [List.length_reverse];omega),List.getElem?_reverse (by omega),l2,List.getElem?_drop,List.getElem?_take_of_lt (by omega)]
   congr 1
   omega
  .rw [if_neg (by omega),List.getElem?_append_right (by rw [List.length_append,List.length_reverse];omega),List.length_append,List.length_reverse,l1,l2,List.getElem?_drop]
   congr 1
   omega
theorem ahR(l:List α)(i j:Nat)(hij:i<=j)(hj:j<=l.length)(h:j<=i+1):mJ l i j=l:=by
 apply List.ext_getElem?;intro k;rw [Oo l i j k hij hj];split
 .congr 1;omega
 .rfl
def y9(l:List α)(a b:Nat)(d:α):List α:=(l.set a (l.getD b d)).set b (l.getD a d)
theorem ahS(l:List α)(i j:Nat)(d:α)(hij:i+1<j)(hj:j<=l.length):mJ (y9 l i (j - 1) d) (i+1) (j - 1)=mJ l i j:=by
 apply List.ext_getElem?;intro k;have hlen:(y9 l i (j - 1) d).length=l.length:=by simp [y9]
 have hg:∀q,(y9 l i (j - 1) d)[q]? =if q=j - 1 then l[i]? else if q=i then l[j - 1]? else l[q]? :=fun q=>by
  unfold y9;rw [List.getElem?_set,List.getElem?_set,List.length_set];have e1:l.getD i d=l[i]'(by omega):=by rw [List.getD_eq_getElem?_getD,List.getElem?_eq_getElem (by omega)];rfl
  have e2:l.getD (j - 1) d=l[j - 1]'(by omega):=by rw [List.getD_eq_getElem?_getD,List.getElem?_eq_getElem (by omega)];rfl
  by_cases h1:j - 1=q
  .rw [if_pos h1,if_pos (by omega),if_pos h1.symm,e1,List.getElem?_eq_getElem (by omega)]
  .rw [if_neg h1,if_neg (show¬q=j - 1 from fun e=>h1 e.symm)];by_cases h2:i=q
   .rw [if_pos h2,if_pos (by omega),if_pos h2.symm,e2,List.getElem?_eq_getElem (by omega)]
   .rw [if_neg h2,if_neg (show¬q=i from fun e=>h2 e.symm)]
 rw [Oo _ _ _ _ (by omega) (by rw [hlen];omega),Oo _ _ _ _ (by omega) hj];by_cases h1:i+1<=k/\k<j - 1
 .rw [if_pos h1,if_pos (by omega),hg,if_neg (by omega),if_neg (by omega)]
  congr 1;omega
 .rw [if_neg h1,hg];by_cases h2:k=j - 1
  .rw [if_pos h2,if_pos (by omega)];congr 1;omega
  .rw [if_neg h2];by_cases h3:k=i
   .rw [if_pos h3,if_pos (by omega)];congr 1;omega
   .rw [if_neg h3,if_neg (by omega)]
end
def mask(v:Int)(lv:List Int):List Bool:=lv.map fun l=>decide (v<=l)
theorem vF(v:Int)(lv:List Int):(mask v lv).length=lv.length:=by simp [mask]
theorem BX(v:Int)(lv:List Int)(j:Nat)(hj:j<lv.length):(mask v lv)[j]? =some (decide (v<=lv.getD j 0)):=by
 simp [mask,List.getD_eq_getElem?_getD,List.getElem?_eq_getElem hj]
def dU(lv:List Int):Nat->Int->List Int->List Int
 |0,_,a=>a
 |n+1,v,a=>dU lv n (v - 1) (bV (mask v lv) a [])
theorem ZZ(lv:List Int):∀(n:Nat)(v:Int)(a:List Int),dU lv (n+1) v a=bV (mask (v - n) lv) (dU lv n v a) []
 |0,v,a=>by simp [dU]
 |n+1,v,a=>by
  rw [dU,ZZ lv n (v - 1),dU,show v - 1 - (n:Int)=v - ((n+1:Nat):Int)by omega]
theorem ZX(lv:List Int):∀(m n:Nat)(v:Int)(a:List Int),dU lv (m+n) v a=dU lv n (v - m) (dU lv m v a)
 |0,n,v,a=>by simp [dU]
 |m+1,n,v,a=>by
  rw [show m+1+n=(m+n)+1 by omega,dU,ZX lv m n (v - 1),dU,show v - 1 - (m:Int)=v - ((m+1:Nat):Int)by omega]
theorem I4(lv:List Int):∀(n:Nat)(v:Int)(a:List Int),a.length=lv.length->(dU lv n v a).length=lv.length
 |0,_,_,h=>h
 |n+1,v,a,h=>by
  rw [dU];exact I4 lv n _ _ (by rw [O5 _ _ _ (by rw [vF,h])];simpa using h)
theorem ZY(lv:List Int):∀(n:Nat)(v:Int)(a:List Int),a.length=lv.length->(dU lv n v a).Perm a
 |0,_,_,_=>List.Perm.refl _
 |n+1,v,a,h=>by
  rw [dU];have h1:=O6 (mask v lv) a [] (by rw [vF,h]);rw [List.nil_append]at h1;exact(ZY lv n _ _ (by rw [h1.length_eq];exact h)).trans h1
theorem Pb(lv:List Int):∀(m:Nat)(a:List Int),a.length=lv.length->(∀l∈lv,l%2=1->2*(m:Int)<l)->dU lv (2*m) (2*m) a=a
 |0,_,_,_=>rfl
 |m+1,a,h,hl=>by
  have e:mask (2*((m+1:Nat):Int) - 1) lv=mask (2*((m+1:Nat):Int)) lv:=by
   unfold mask;refine List.map_congr_left fun l hm=> ?_
   have:=hl l hm;simp only [decide_eq_decide];omega
  rw [show 2*(m+1)=(2*m+1)+1 by omega,dU,dU,e];have h2:=O8 (mask (2*((m+1:Nat):Int)) lv) a [] (by rw [vF,h]);simp only [List.length_nil,List.replicate_zero,List.nil_append,List.reverse_nil]at h2;rw [h2,show 2*((m+1:Nat):Int) - 1 - 1=2*(m:Int)by omega];exact Pb lv m a h (fun l hm ho=>by have:=hl l hm ho;omega)
def dM(n:Nat):List Int:=(List.range n).map fun(i:Nat)=>(i:Int)
theorem Ac(n:Nat):(dM n).length=n:=by simp [dM]
def jP(lv:List Int):Int:=lv.foldl max 0
theorem GA:∀(lv:List Int)(x:Int),x<=lv.foldl max x/\(∀l∈lv,l<=lv.foldl max x)/\(lv.foldl max x=x∨lv.foldl max x∈lv)
 |[],x=>⟨Int.le_refl _,by simp,.inl rfl⟩
 |a::lv,x=>by
  obtain⟨h1,h2,h3⟩:=GA lv (max x a);rw [List.foldl_cons];refine⟨by omega,fun l hl=> ?_,?_⟩
  .rcases List.mem_cons.1 hl with rfl|hl
   .omega
   .exact h2 l hl
  .rcases h3 with h3|h3
   .rcases Int.le_total x a with h|h
    .right;rw [h3,Int.max_eq_right h];simp
    .left;rw [h3,Int.max_eq_left h]
   .right;simp [h3]
def kI(lv:List Int):Int:=lv.foldl (fun x l=>if l%2=1 then min x l else x) 127
theorem Lp:∀(lv:List Int)(x:Int),lv.foldl (fun x l=>if l%2=1 then min x l else x) x<=x/\(∀l∈lv,l%2=1->lv.foldl (fun x l=>if l%2=1 then min x l else x) x<=l)/\(lv.foldl (fun x l=>if l%2=1 then min x l else x) x=x∨(lv.foldl (fun x l=>if l%2=1 then min x l else x) x∈lv/\(lv.foldl (fun x l=>if l%2=1 then min x l else x) x)%2=1))
 |[],x=>⟨Int.le_refl _,by simp,.inl rfl⟩
 |a::lv,x=>by
  obtain⟨h1,h2,h3⟩:=Lp lv (if a%2=1 then min x a else x);rw [List.foldl_cons];by_cases ha:a%2=1
  .rw [if_pos ha]at h1 h2 h3 ⊢;refine⟨by omega,fun l hl ho=> ?_,?_⟩
   .rcases List.mem_cons.1 hl with rfl|hl
    .omega
    .exact h2 l hl ho
   .rcases h3 with h3|h3
    .rcases Int.le_total x a with h|h
     .left;rw [h3,Int.min_eq_left h]
     .right;rw [h3,Int.min_eq_right h];exact⟨by simp,ha⟩
    .right;exact⟨by simp [h3.1],h3.2⟩
  .rw [if_neg ha]at h1 h2 h3 ⊢;refine⟨h1,fun l hl ho=> ?_,?_⟩
   .rcases List.mem_cons.1 hl with rfl|hl
    .exact absurd ho ha
    .exact h2 l hl ho
   .rcases h3 with h3|h3
    .exact .inl h3
    .right;exact⟨by simp [h3.1],h3.2⟩
def oZ(lv:List Int):List Int:=dU lv (jP lv).toNat (jP lv) (dM lv.length)
def Cf(lv:List Int):List Int:=dU lv (jP lv - kI lv+1).toNat (jP lv) (dM lv.length)
theorem agL {lv:List Int}(h:∀l∈lv,0<=l/\l<=126):Cf lv=oZ lv:=by
 unfold Cf oZ;obtain⟨t1,t2,t3⟩:=GA lv 0;obtain⟨o1,o2,o3⟩:=Lp lv 127;change 0<=jP lv at t1;change∀l∈lv,l<=jP lv at t2;change jP lv=0∨jP lv∈lv at t3;change kI lv<=127 at o1;change∀l∈lv,l%2=1->kI lv<=l at o2;change kI lv=127∨(kI lv∈lv/\kI lv%2=1)at o3;have htop:jP lv<=126:=by
  rcases t3 with e|e
  .omega
  .exact(h _ e).2
 have hev:jP lv%2=1->jP lv∈lv:=fun ho=>by
  rcases t3 with e|e
  .omega
  .exact e
 generalize jP lv=T at*;have hO:kI lv%2=1/\0<=kI lv:=by
  rcases o3 with e|e
  .omega
  .exact⟨e.2,(h _ e.1).1⟩
 generalize kI lv=O at*;by_cases hle:O<=T
 .obtain⟨m,hm⟩:∃m:Nat,O=2*(m:Int)+1:=⟨(O / 2).toNat,by omega⟩
  have e1:T.toNat=(T - O+1).toNat+2*m:=by omega
  rw [e1,ZX,show T - ((T - O+1).toNat:Int)=2*(m:Int)by omega];exact(Pb lv m _ (I4 _ _ _ _ (Ac _)) (fun l hl ho=>by have:=o2 l hl ho;omega)).symm
 .rw [show(T - O+1).toNat=0 by omega];have hT:T%2=0:=by
   rcases Int.emod_two_eq T with e|e
   .exact e
   .exact absurd (o2 T (hev e) e) hle
  obtain⟨m,hm⟩:∃m:Nat,T=2*(m:Int):=⟨(T / 2).toNat,by omega⟩
  rw [show T.toNat=2*m by omega,hm];exact(Pb lv m _ (Ac _) (fun l hl ho=>by have:=o2 l hl ho;have:=t2 l hl;omega)).symm
def Bl(lv a:List Int)(v:Int):List Bool:=a.map fun p=>decide (v<=lv.getD p.toNat 0)
def uR(lv a:List Int)(v:Int):Prop:=∀u,u<=v->Bl lv a u=mask u lv
theorem uR.start(lv:List Int)(v:Int):uR lv (dM lv.length) v:=fun u _=>by
 unfold Bl dM mask;rw [List.map_map];apply List.ext_getElem?;intro k;rw [List.getElem?_map,List.getElem?_map];rcases Nat.lt_or_ge k lv.length with hk|hk
 .rw [List.getElem?_range hk,List.getElem?_eq_getElem hk];simp [List.getElem?_eq_getElem hk]
 .rw [List.getElem?_eq_none (by simpa using hk),List.getElem?_eq_none hk];rfl
theorem uR.turn {lv a:List Int}{v:Int}(h:uR lv a v)(_hl:a.length=lv.length):uR lv (bV (mask v lv) a []) v:=fun u hu=>by
 unfold Bl;rw [AB];have e:=h u hu;unfold Bl at e;rw [e];have:=O7 (mask v lv) (mask u lv) 0 (by rw [vF,vF]) (fun j hj=>by
  have hlt:j<lv.length:=by have:=(List.getElem?_eq_some_iff.1 hj).1;rwa [vF]at this
  rw [BX _ _ _ hlt]at hj ⊢;have:=Option.some.inj hj;simp at this ⊢;omega)
 simpa using this
theorem uR.mono {lv a:List Int}{v v':Int}(h:uR lv a v)(hv:v'<=v):uR lv a v':=fun u hu=>h u (by omega)
theorem uR.at {lv a:List Int}{v:Int}(h:uR lv a v)(hl:a.length=lv.length)(j:Nat)(hj:j<lv.length):decide (v<=lv.getD (a.getD j 0).toNat 0)=decide (v<=lv.getD j 0):=by
 have e:=h v (Int.le_refl _);have e1:(Bl lv a v)[j]? =some (decide (v<=lv.getD (a.getD j 0).toNat 0)):=by
  rw [Bl,List.getElem?_map,List.getElem?_eq_getElem (by omega),List.getD_eq_getElem?_getD (l:=a),List.getElem?_eq_getElem (by omega)];rfl
 rw [e,BX _ _ _ hj]at e1;exact(Option.some.inj e1).symm
theorem aeF(k:Nat):dM (k+1)=dM k++[(k:Int)]:=by simp [dM,List.range_succ]
theorem ajl(lv:List Int)(k:Nat)(hk:k<lv.length):jP (lv.take (k+1))=max (jP (lv.take k)) (lv.getD k 0):=by
 unfold jP;rw [List.take_add_one,List.getElem?_eq_getElem hk,List.foldl_append,List.getD_eq_getElem?_getD,List.getElem?_eq_getElem hk];rfl
theorem afJ(lv:List Int)(k:Nat)(hk:k<lv.length):kI (lv.take (k+1))=if lv.getD k 0%2=1 then min (kI (lv.take k)) (lv.getD k 0)else kI (lv.take k):=by
 unfold kI;rw [List.take_add_one,List.getElem?_eq_getElem hk,List.foldl_append,List.getD_eq_getElem?_getD,List.getElem?_eq_getElem hk];rfl
theorem ZO {lv:List Int}(h:∀l∈lv,l<=1000):0<=jP lv/\jP lv<=1000:=by
 obtain⟨t1,_,t3⟩:=GA lv 0;refine⟨t1,?_⟩;rcases t3 with e|e
 .show lv.foldl max 0<=1000;omega
 .exact h _ e
theorem WM {lv:List Int}(h:∀l∈lv,0<=l):0<=kI lv/\kI lv<=127:=by
 obtain⟨t1,_,t3⟩:=Lp lv 127;refine⟨?_,t1⟩;rcases t3 with e|e
 .show 0<=lv.foldl _ 127;rw [e];decide
 .exact h _ e.1
theorem nu.at {bs:List Bool}{a cur:List Int}{i:Nat}(h:nu bs a i cur)(q:Nat)(hq:i<=q):cur.getD q 0=a.getD q 0:=by
 obtain⟨pre,h1,h2,_⟩:=h;rw [h2,List.getD_eq_getElem?_getD,List.getElem?_append_right (by omega),h1,List.getElem?_drop,show i+(q - i)=q by omega,List.getD_eq_getElem?_getD]
theorem dx.swap {w:World}{B g n cap:Nat}{t:List Int}(h:dx w B g n cap t)(a b:Nat):dx ((w.setCell ⟨g,a,none⟩ (.int .i64 (t.getD b 0))).setCell ⟨g,b,none⟩ (.int .i64 (t.getD a 0))) B g n cap (y9 t a b 0):=(h.set a _).set b _
theorem ahT(w:World)(B g n c cap i j:Nat)(cur:List Int)(hij:i<=j)(hjn:j<=n)(hn:n<=1000)(h:dx w B g n c cur):
  Calls prog 100 #[.slice (some ⟨g,i,none⟩) (j - i) cap] w fun e w'=>e= .returned (.tuple #[])/\dx w' B g n c (mJ cur i j)/\w.grownBy w' (some g):=by
 have HO:Hid (dx w B g n c cur):=h;clear h;obtain⟨l,hl⟩:∃l,l=j - i:=⟨_,rfl⟩
 rw [<-hl];have hl1:l<=1000:=by omega
 have HL:Hid (l=j - i/\i<=j/\j<=n):=⟨hl,hij,hjn⟩
 clear hl hij hjn;go_enter func100,ntmps100;go_wp2;go_loopg [2,3] l (fun gk av bv W=>∃(s:Nat)(z:Int)(cur':List Int),s+s<=l/\gk=l - s/\av= .int .i64 ((s:Nat):Int)/\bv= .int .i64 z/\z=(l:Int) - s - 1/\dx W B g n c cur'/\w.grownBy W (some g)/\mJ cur' (i+s) (j - s)=mJ cur i j);case atStart=>exact⟨0,(l:Int) - 1,cur,by omega,by omega,rfl,rfl,by omega,HO.out,World.grownBy.refl _ _,rfl⟩
 case round=>
  clear HO;obtain⟨s,z,cur',hs,rfl,rfl,rfl,hz,hO,hG,jh⟩:=hrel;have hcl':=hO.len;have hL:=HL.out;by_cases Ve:s+1<l - s
  .obtain⟨y,rfl⟩:∃y:Nat,z=(y:Int):=⟨z.toNat,by omega⟩
   have MB:=ahS cur' (i+s) (j - s) 0 (by omega) (by omega);rw [show j - s - 1=i+y by omega,jh]at MB;have cx:=hO.cell (i+s) (by omega);have cy:=hO.cell (i+y) (by omega);have fx:=hO.frozen (i+s);have fy:=hO.frozen (i+y);have hne:i+s≠i+y:=by omega
   have iL:Hid (dx ((wr.setCell ⟨g,i+s,none⟩ (.int .i64 (cur'.getD (i+y) 0))).setCell ⟨g,i+y,none⟩ (.int .i64 (cur'.getD (i+s) 0))) B g n c (y9 cur' (i+s) (i+y) 0)):=hO.swap (i+s) (i+y);have HG2:Hid (w.grownBy ((wr.setCell ⟨g,i+s,none⟩ (.int .i64 (cur'.getD (i+y) 0))).setCell ⟨g,i+y,none⟩ (.int .i64 (cur'.getD (i+s) 0))) (some g)):=(hG.trans (hO.grown (i+s) _)).trans ((hO.set (i+s) _).grown (i+y) _);have HRv:Hid (mJ (y9 cur' (i+s) (i+y) 0) (i+(s+1)) (j - (s+1))=mJ cur i j):=by
    show _=_;rw [show i+(s+1)=i+s+1 by omega,show j - (s+1)=i+y by omega];exact MB
   have J2:Hid (y=l - s - 1/\s+1<l - s):=⟨by omega,Ve⟩
   have hxy:(s:Int)<(y:Int):=by omega
   have akr:(s:Int)<(l:Int):=by omega
   have akt:(y:Int)<(l:Int):=by omega
   have hy1:(1:Int)<=(y:Int):=by omega
   clear hO hG jh MB hz hs Ve hcl' hL;generalize cur'.getD (i+s) 0=ux at*;generalize cur'.getD (i+y) 0=uy at*;go_wp2;go_region;all_goals
    go_wp2;go_roundg (l - (s+1));case measure=>have:=J2.out;omega
    case rel=>exact⟨s+1,(y:Int) - 1,_,by have:=J2.out;omega,rfl,by go_num,rfl,by have:=J2.out;omega,World.ownsRow.drew iL.out,HG2.out.trans zL,HRv.out⟩
  .have hxz:¬((s:Nat):Int)<z:=by omega
   have hce:cur'=mJ cur i j:=by rw [<-jh,ahR cur' (i+s) (j - s) (by omega) (by omega) (by omega)]
   have HF:Hid (dx wr B g n c (mJ cur i j)/\w.grownBy wr (some g)):=by rw [<-hce];exact⟨hO,hG⟩
   clear hO hG jh hce hz hcl' hL;go_wp2;go_end0;exact⟨rfl,HF.out.1,HF.out.2⟩
structure OS(W w:World)(bx bo g n b off cap:Nat)(lv cur:List Int):Prop where
 row:dx W w.heap.size g n n cur
 Dq:W.heap[bx]? =some (.cells #[.slice (some ⟨b,off,none⟩) n cap] 31 (0,0))
 Dl:W.heap[bo]? =some (.cells #[.slice (some ⟨g,0,none⟩) n n] 31 (0,0))
 lv:dz W b off lv
 hb:Below w.heap.size w W
section
variable{W W' w:World}{bx bo g n b off cap:Nat}{lv cur cur':List Int}
theorem OS.cx(h:OS W w bx bo g n b off cap lv cur):W.cell? ⟨bx,0,none⟩=some (.slice (some ⟨b,off,none⟩) n cap):=au h.Dq 0
theorem OS.co(h:OS W w bx bo g n b off cap lv cur):W.cell? ⟨bo,0,none⟩=some (.slice (some ⟨g,0,none⟩) n n):=au h.Dl 0
theorem OS.below(h:OS W w bx bo g n b off cap lv cur)(hb:Below W.heap.size W W'):OS W' w bx bo g n b off cap lv cur:=
 ⟨own_below h.row hb,aR hb h.Dq,aR hb h.Dl,h.lv.below hb,h.hb.trans (hb.mono h.hb.size)⟩
theorem OS.turn(h:OS W w bx bo g n b off cap lv cur)(hr:dx W' w.heap.size g n n cur')(hg:W.grownBy W' (some g))(hbw:b<w.heap.size):OS W' w bx bo g n b off cap lv cur':=by
 obtain⟨cc,hh⟩:=vz h.row;have hgB:=(h.row.lt g rfl).1;have hB:Below w.heap.size w W':=h.hb.grown hg h.hb.size (fun y hy=>by cases hy;exact hgB);refine⟨hr,(hg.block bx (bK h.Dq) ?_).trans h.Dq,(hg.block bo (bK h.Dl) ?_).trans h.Dl,h.lv.grown hg (by omega),hB⟩
 .intro e;cases e;exact absurd (rQ h.Dq hh) (by decide)
 .intro e;cases e;exact absurd (rQ h.Dl hh) (by decide)
end
theorem agO(W w:World)(bx bo g n b off cap tb:Nat)(lv cur:List Int)(v:Int)(h:OS W w bx bo g n b off cap lv cur)(hl:lv.length=n)(ht:W.cell? ⟨tb,0,none⟩=some (.int .i64 v))(i:Nat)(hi:i<n):
  Calls prog 98 #[.int .i64 i,.pointer (some ⟨bx,0,none⟩),.pointer (some ⟨tb,0,none⟩)] W fun e W'=>e= .returned (.bool (decide (v<=lv.getD i 0)))/\Below W.heap.size W W':=by
 have cx:=h.cx;have ci:=h.lv i (by omega);have hi':(i:Int)<(n:Int):=by omega
 clear h;generalize lv.getD i 0=y at*;go_enter func98,ntmps98;go_wp2;go_region;all_goals
  go_wp2;go_ret;exact⟨rfl,(Below.refl _ _).drew⟩
theorem agP(W w:World)(bx bo g n b off cap:Nat)(lv cur:List Int)(h:OS W w bx bo g n b off cap lv cur)(hn:n<=1000)(hbw:b<w.heap.size)(i j:Nat)(hij:i<j)(hj:j<=n):
  Calls prog 99 #[.int .i64 i,.int .i64 j,.pointer (some ⟨bo,0,none⟩)] W fun e W'=>e= .returned (.tuple #[])/\OS W' w bx bo g n b off cap lv (mJ cur i j)/\W.grownBy W' (some g):=by
 have co:=h.co;have HR:Hid (∀cp,Calls prog 100 #[.slice (some ⟨g,i,none⟩) (j - i) cp] W fun e w'=>e= .returned (.tuple #[])/\dx w' w.heap.size g n n (mJ cur i j)/\W.grownBy w' (some g)):=fun cp=>ahT W w.heap.size g n n cp i j cur (by omega) hj hn h.row
 have HO:Hid (OS W w bx bo g n b off cap lv cur):=h;have h1:(i:Int)<=(j:Int):=by omega
 have h2:(j:Int)<=(n:Int):=by omega
 have h3:(i:Int)<=(n:Int):=by omega
 have h4:¬i=n:=by omega
 have h5:¬n=i:=by omega
 clear h;go_enter func99,ntmps99;go_wp2_with fail;refine(HR.out _).mono ?_;rintro ev W2 ⟨rfl,hR2,hg2⟩;have H2:Hid (OS W2 w bx bo g n b off cap lv (mJ cur i j)/\W.grownBy W2 (some g)):=⟨HO.out.turn hR2 hg2 hbw,hg2⟩
 clear hR2 hg2 HR;go_wp2;go_end0;exact⟨rfl,H2.out.1,H2.out.2⟩
