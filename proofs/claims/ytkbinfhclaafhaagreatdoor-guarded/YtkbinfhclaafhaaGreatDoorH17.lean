import Derived.Test.YtkbinfhclaafhaaGreatDoorH16
import Derived.Deep.RegionWith
import Derived.Lib.ValidU
import Derived.Lib.RuneCount
import Derived.Lib.Strings
import Derived.Test.YtkbinfhclaafhaaGreatDoorH12
import Derived.Deep.RegionLaw
import Derived.Deep.DrawnRows
import Derived.Test.YtkbinfhclaafhaaGreatDoorH07
import Derived.Deep.DeepCutAuto
namespace Go.Proofs.YtkbinfhclaafhaaGreatDoor
open Go.RowKit
open Go.Proofs.Tryz
set_option maxRecDepth 100000
set_option maxHeartbeats 32000000
theorem runesFrom_end(s:ByteArray)(f p:Nat)(h:¬p<s.size):runesFrom s f p=some []:=by
 cases f with
 |zero=>rfl
 |succ f=>simp [runesFrom,h]
theorem Oy(s:ByteArray)(f p:Nat)(hf:s.size<=p+f)(h:p<s.size)(hz:aJ s p=0):runesFrom s f p=none:=by
 cases f with
 |zero=>omega
 |succ f=>simp [runesFrom,h,hz]
theorem aih(s:ByteArray)(f p:Nat)(hf:s.size<=p+f)(h:p<s.size)(hz:aJ s p≠0):
  ∃f',s.size<=p+aJ s p+f'/\runesFrom s f p=(runesFrom s f' (p+aJ s p)).map (gJ s p::·):=by
 cases f with
 |zero=>omega
 |succ f=>exact⟨f,by omega,by simp [runesFrom,h,hz]⟩
def oK(s:ByteArray)(p:Nat)(l:List Int):Prop:=∃f,s.size<=p+f/\l.length<=p/\dh s=(runesFrom s f p).map (l++·)
theorem oK.start(s:ByteArray):oK s 0 []:=⟨s.size,by omega,by simp,by simp [dh]⟩
theorem oK.stop {s:ByteArray}{p:Nat}{l:List Int}(h:oK s p l)(hp:¬p<s.size):dh s=some l:=by
 obtain⟨f,_,_,e⟩:=h;rw [e,runesFrom_end s f p hp];simp
theorem oK.bad {s:ByteArray}{p:Nat}{l:List Int}(h:oK s p l)(hp:p<s.size)(hz:aJ s p=0):dh s=none:=by
 obtain⟨f,hf,_,e⟩:=h;rw [e,Oy s f p hf hp hz];rfl
theorem oK.step {s:ByteArray}{p:Nat}{l:List Int}(h:oK s p l)(hp:p<s.size)(hz:aJ s p≠0):oK s (p+aJ s p) (l++[gJ s p]):=by
 obtain⟨f,hf,hl,e⟩:=h;obtain⟨f',hf',e'⟩:=aih s f p hf hp hz;refine⟨f',hf',by simp;omega,?_⟩;rw [e,e'];cases runesFrom s f' (p+aJ s p)<;>simp
def Lh(e:Int):Value:= .agg #[.int .i64 e,.int .i64 (if e=0 then 0 else -1),.int .i64 (if e=0 then 0 else -1)]
theorem _root_.Go.World.ownsRow.low {w:World}{base base':Nat}{e:TypeId}{size:Nat}{v:Value}{n:Nat}{xs:List Value}(h:w.ownsRow base e size v n xs)(hb:base'<=base):w.ownsRow base' e size v n xs:=by
 refine⟨h.1,?_⟩;rcases h.2 with h|⟨g,cap,cur,h1,h2,h3⟩
 .exact .inl h
 .exact .inr ⟨g,cap,cur,h1,Nat.le_trans hb h2,h3⟩
theorem adC(s:ByteArray)(p k:Nat):(⟨(s.data.toList.drop p).toArray⟩:ByteArray).get! k=s.get! (p+k):=by
 obtain⟨d⟩:=s;show(d.toList.drop p).toArray[k]! =d[p+k]!;by_cases h:p+k<d.size
 .have h1:k<(d.toList.drop p).toArray.size:=by simp;omega
  rw [getElem!_pos (d.toList.drop p).toArray k h1,getElem!_pos d (p+k) h];simp
 .have h1:¬k<(d.toList.drop p).toArray.size:=by simp;omega
  rw [getElem!_neg (d.toList.drop p).toArray k h1,getElem!_neg d (p+k) h]
theorem decodeL_drop(s:ByteArray)(p:Nat)(_h:p<s.size):Lib.decodeL (s.data.toList.drop p)=Utf8.decode s p:=by
 unfold Lib.decodeL;rw [Lib.decode_at,Lib.decode_at];have e:(⟨(s.data.toList.drop p).toArray⟩:ByteArray).size - 0=s.size - p:=by
  simp only [ByteArray.size];simp
 rw [e];simp only [adC,Nat.add_zero,Nat.zero_add]
theorem ai6(s:ByteArray)(p:Nat):aJ s p=if(Utf8.decode s p).1=65533/\(Utf8.decode s p).2=1 then 0 else(Utf8.decode s p).2:=by
 unfold aJ lX;rw [Lib.decode_at]
theorem Cy(s:ByteArray)(p:Nat)(h:aJ s p≠0):(Utf8.decode s p).2=aJ s p:=by
 rw [ai6]at h ⊢;split at h
 .exact absurd rfl h
 .rename_i h';rw [if_neg h']
theorem count_eq(s:ByteArray):∀f p l,runesFrom s f p=some l->Lib.runeCountFrom s f p=l.length
 |0,_,l,h=>by simp [runesFrom]at h;subst h;rfl
 |f+1,p,l,h=>by
  unfold runesFrom at h;unfold Lib.runeCountFrom;by_cases hp:p<s.size
  .rw [if_pos hp]at h ⊢;by_cases h0:aJ s p=0
   .rw [if_pos h0]at h;cases h
   .rw [if_neg h0]at h;cases hr:runesFrom s f (p+aJ s p)with
    |none=>rw [hr]at h;cases h
    |some l'=>
     rw [hr]at h;simp at h;subst h;rw [Cy s p h0,count_eq s f _ l' hr];simp;omega
  .rw [if_neg hp]at h ⊢;simp at h;subst h;rfl
theorem runeCount_eq {s:ByteArray}{l:List Int}(h:dh s=some l):Lib.runeCount s=l.length:=count_eq s s.size 0 l h
section
attribute [local go_sem ↓] Go.wp_at_zero Go.wp_at_succ
theorem agl(w:World)(y:Value)(e:TypeId):∀j u,[y][j]? =some u->(w.alloc (.cells #[y] e)).cell? ((⟨w.heap.size,0,none⟩:Addr).add j)=some u:=by
 intro j u hj
 match j,hj with
 |0,hj=>simp at hj;subst hj;simp [Addr.add]
theorem aaT(w:World)(a:Obj)(r:Option Nat):w.grownBy (w.alloc a) r:=⟨rfl,rfl,rfl,by simp,fun k hk _=>Below.heap_alloc w a k hk⟩
theorem Xm(s:ByteArray)(l:List Int)(d:Int)(w:World)(hs:s.size<=600)(hr:dh s=some l)(hl:l≠[])(hcl:∀(r:Int)(W:World),Below w.heap.size w W->Calls prog 66 #[.int .i32 r] W fun e w'=>e= .returned (.int .i64 (cls r))/\Below W.heap.size W w'):
  Calls prog 84 #[.string s,.int .i64 d] w fun e w'=>∃L:LP,e= .returned (.pointer (some ⟨L.lb,0,none⟩))/\LX w' L L.cs (List.replicate L.n 0)/\L.cs=l.map cls/\L.rs=l/\L.n=l.length/\L.p=dO (l.map cls) d/\L.B=w.heap.size/\Below w.heap.size w w':=by
 obtain⟨i32,Mi,hz0,hz1,hz2⟩:=info_parts Tryz.VS;obtain⟨iC,Mj,hc0,hc1,hc2⟩:=info_parts Tryz.BO;have HR:Hid (dh s=some l):=hr;have vX:Hid (∀(r:Int)(W:World),Below w.heap.size w W->Calls prog 66 #[.int .i32 r] W fun e w'=>e= .returned (.int .i64 (cls r))/\Below W.heap.size W w'):=hcl;obtain⟨W0,hW0⟩:∃W0,W0=w.alloc (.cells #[.slice none 0 0,.slice none 0 0,.slice none 0 0,.slice none 0 0,.slice none 0 0,.int .i64 0] 141):=⟨_,rfl⟩
 have hb0:Below w.heap.size w W0:=by rw [hW0];exact(Below.refl _ _).alloc (Nat.le_refl _) _
 have DI:W0.heap[w.heap.size]? =some (.cells #[.slice none 0 0,.slice none 0 0,.slice none 0 0,.slice none 0 0,.slice none 0 0,.int .i64 0] 141 (0,0)):=by rw [hW0];exact Array.getElem?_push_size
 have h0z:W0.heap.size=w.heap.size+1:=by rw [hW0];simp
 clear hr hcl;go_enter func84,ntmps84;go_wp2;rw [<-hW0];obtain⟨W1,hW1⟩:∃W1,W1=(W0.iter s 0):=⟨_,rfl⟩
 have nR:Hid (NL W1 w.heap.size w.heap.size (w.heap.size+1) s 0 (.slice none 0 0) (.slice none 0 0) [] []):=by
  rw [hW1];have hbi:Below W0.heap.size W0 (W0.iter s 0):=(Below.refl _ _).alloc (Nat.le_refl _) _;exact⟨aR hbi DI,World.ownsRow_nil _ _ _ _,World.ownsRow_nil _ _ _ _,by rw [<-h0z];exact World.iter_heap _ _ _,Nat.le_refl _⟩
 have HB1:Hid (Below w.heap.size w W1):=by rw [hW1];exact hb0.alloc hb0.size _
 rw [<-hW1];clear hW1 hW0 hb0 DI h0z;obtain⟨lb,hlb⟩:∃lb,lb=w.heap.size:=⟨_,rfl⟩
 obtain⟨it,hit⟩:∃it,it=w.heap.size+1:=⟨_,rfl⟩
 have oC:Hid (w.heap.size<=lb/\w.heap.size<=it):=⟨by omega,by omega⟩
 have CX:Hid (NL W1 w.heap.size lb it s 0 (.slice none 0 0) (.slice none 0 0) [] []):=by rw [hlb,hit];exact nR.out
 rw [<-hit,<-hlb];clear nR hlb hit;go_loopg [7] s.size (fun gk _ W=>∃(p:Nat)(q:List Int)(vr vt:Value),p<=s.size/\gk=s.size - p/\oK s p q/\NL W w.heap.size lb it s p vr vt q q/\Below w.heap.size w W);case atStart=>exact⟨0,[],_,_,by omega,rfl,oK.start s,CX.out,HB1.out⟩
 case round=>
  clear CX HB1;obtain⟨p,q,vr,vt,hp,rfl,hR,hN,hB⟩:=hrel;have Vl:q.length<=p:=by obtain⟨f,_,h,_⟩:=hR;exact h
  by_cases hlt:p<s.size
  .have hz:aJ s p≠0:=by
    intro h0;have:=hR.bad hlt h0;rw [HR.out]at this;cases this
   have HS:Hid (oK s (p+aJ s p) (q++[gJ s p])):=hR.step hlt hz;have hle:p+aJ s p<=s.size:=by
    rcases Ff s p hlt hz with⟨e1,_⟩|⟨e1,hn,_⟩|⟨e1,hn,_⟩|⟨e1,hn,_⟩<;>omega
   have VO:0<aJ s p:=by omega
   have hw:=Cy s p hz;have hnx:∀ty,(Instr.next (.pointer (some ⟨it,0,none⟩)) true ty).run prog wr= .ok (.tuple #[.bool true,.int .i64 p,.int .i32 (gJ s p)]) (wr.iterAt it s (p+aJ s p)):=fun ty=>by
    rw [Lib.run_next_any_at wr it s p ty hN.iter hlt,hw];rfl
   have xV:Hid (NL (wr.iterAt it s (p+aJ s p)) w.heap.size lb it s (p+aJ s p) vr vt q q):=hN.next _;have lZ:Hid (Below w.heap.size w (wr.iterAt it s (p+aJ s p))):=Lib.below_iterAt hB oC.out.2 _ _;clear hR hz hw hN hB;generalize aJ s p=k at*;generalize gJ s p=r at*;generalize wr.iterAt it s (p+k)=wi at*;obtain⟨ra,rc,rfl⟩:=fH xV.out.rr;obtain⟨ta,tc,rfl⟩:=fH xV.out.rt;have s0:wi.cell? ⟨lb,0,none⟩=some (.slice ra q.length rc):=au xV.out.cell 0;have hrr:=xV.out.rr;have hbz:=lZ.out.size;go_wp2_with(at_builtin;refine zf _ rfl _ _ 138 rfl w.heap.size 21 i32 (.int .i32 0) 4 underlying138 Mi hz0 hz1 hz2 rfl (by decide) _ _ _ rfl hrr _ _ rfl rfl (by omega) hbz ?_);intro v5 w5 hown5 hg5;obtain⟨a5,nV,rfl⟩:=fH hown5;obtain⟨DN,c5,f5⟩:=xV.out.IA hown5 hg5;have bW:Hid (Below w.heap.size w w5):=lZ.out.grown hg5 hbz (fun x hx=>(hrr.lt x hx).1);have bO:Hid (Below w.heap.size w (w5.setCell ⟨lb,0,none⟩ (.slice a5 (q.length+1) nV))):=bW.out.setCell (p:=⟨lb,0,none⟩) oC.out.1 _;have pG:Hid (NL (w5.setCell ⟨lb,0,none⟩ (.slice a5 (q.length+1) nV)) w.heap.size lb it s (p+k) (.slice a5 (q.length+1) nV) (.slice ta q.length tc) (q++[r]) q):=DN;clear hown5 hg5 DN bW hrr s0 hnx;go_wp2;clear c5 f5;generalize w5.setCell ⟨lb,0,none⟩ (.slice a5 (q.length+1) nV)=W6 at*;have s1:W6.cell? ⟨lb,1,none⟩=some (.slice ta q.length tc):=au pG.out.cell 1;have wV:=bO.out.size;have hent:=iB func66 (by kernel_rfl) (by kernel_rfl);have AY:Hid (∀args w,(callFunc 66 args).run prog w= .ok (.enter 66 args) w):=hent;clear hent;have CS:Hid (Calls prog 66 #[.int .i32 r] W6.drew fun e w'=>∃u,e= .returned u/\(u= .int .i64 (cls r)/\Below W6.drew.heap.size W6.drew w')):=(vX.out r W6.drew bO.out.drew).mono (fun e w' h=>⟨_,h.1,rfl,h.2⟩);have iZ:Hid (q.length<=1000000):=by show _<=_;omega
   go_region_law (first
    |(refine Zx (by rfl) 66 _ 21 (by rfl) AY.out (.int .i32 r) (by rfl) (fun u w'=>u= .int .i64 (cls r)/\Below W6.drew.heap.size W6.drew w') CS.out ?_;rintro u w7 ⟨rfl,jv⟩;have wh:Hid (NL w7 w.heap.size lb it s (p+k) (.slice a5 (q.length+1) nV) (.slice ta q.length tc) (q++[r]) q):=pG.out.below ((Below.refl _ _).drew.trans jv);have fe:Hid (Below w.heap.size w w7):=bO.out.drew.trans (jv.mono wV);have t1:w7.cell? ⟨lb,1,none⟩=some (.slice ta q.length tc):=au wh.out.cell 1;have t1':(w7.alloc (.cells #[.int .i64 (cls r)] 108)).cell? ⟨lb,1,none⟩=some (.slice ta q.length tc):=(World.cell?_alloc_lt _ _ ⟨lb,1,none⟩ (bK wh.out.cell)).trans t1;have hrt:=wh.out.rt;have Mc:=fe.out.size;clear jv CS AY)
    |(refine Fe (by rfl) _ _ 139 (by rfl) w.heap.size 108 iC (.int .i64 0) 1 8 underlying139 Mj hc0 hc1 hc2 rfl (by decide) (by decide) (.slice ta q.length tc) q.length (iv (q.map cls)) (by rfl) (World.ownsRow.alloc hrt (.cells #[.int .i64 (cls r)] 108)) w7.heap.size [.int .i64 (cls r)] (by rfl) (by rfl) (agl w7 _ _) (by intro u hu;simp at hu;subst hu;rfl) iZ.out (by simp;omega) ?_;intro v8 w8 BJ jg _;obtain⟨a8,KC,rfl⟩:=fH BJ;obtain⟨Us,c8,f8⟩:=wh.out.YC BJ ((aaT w7 _ _).trans jg);have gX:Hid (Below w.heap.size w w8):=(fe.out.alloc Mc _).grown jg (by simp;omega) (fun x hx=>(hrt.lt x hx).1);clear BJ jg))
   all_goals
    have wm:Hid (NL (w8.setCell ⟨lb,1,none⟩ (.slice a8 (q.length+1) KC)) w.heap.size lb it s (p+k) (.slice a5 (q.length+1) nV) (.slice a8 (q.length+1) KC) (q++[r]) (q++[r])):=Us;have pF:Hid (Below w.heap.size w (w8.setCell ⟨lb,1,none⟩ (.slice a8 (q.length+1) KC))):=gX.out.setCell (p:=⟨lb,1,none⟩) oC.out.1 _;clear Us c8 f8 gX;go_wp2;go_roundg (s.size - (p+k));case measure=>omega
    case rel=>exact⟨p+k,q++[r],_,_,hle,rfl,HS.out,wm.out,pF.out⟩
  .have aey:q=l:=by
    have:=hR.stop hlt;rw [HR.out]at this;exact(Option.some.inj this).symm
   subst aey;have hn0:0<q.length:=List.length_pos_iff.2 hl;have zU:q.length<=600:=by omega
   have hnx:∀ty,(Instr.next (.pointer (some ⟨it,0,none⟩)) true ty).run prog wr= .ok (.tuple #[.bool false]) wr:=fun ty=>Lib.run_next_end_at wr it s p ty hN.iter hlt
   obtain⟨gr,cr,rfl,_,hgr,Mh⟩:=kg hN.rr hn0;obtain⟨gt,ct,rfl,_,hgt,UZ⟩:=kg hN.rt hn0;have Vt:=iF hN.rt hN.cell (by decide);have Vr:=iF hN.rr hN.cell (by decide);obtain⟨n,hn⟩:∃n,n=q.length:=⟨_,rfl⟩
   have aep:=run_make_row' (P:=prog) 139 108 (.int .i64 0) 8 underlying139 Tryz.BO rfl .i64 .i64 n (by omega) (by omega);have Mq:=run_make_row' (P:=prog) 31 3 (.int .i64 0) 8 underlying31 Tryz.xh rfl .i64 .i64 n (by omega) (by omega);rw [<-hn]at hN hn0 zU;have tY:LB wr lb (.slice (some ⟨gr,0,none⟩) n cr) (.slice (some ⟨gt,0,none⟩) n ct) (.slice none 0 0) (.slice none 0 0) (.slice none 0 0) (.int .i64 0):=hN.cell;have hrr:wr.ownsRow w.heap.size 21 1 (.slice (some ⟨gr,0,none⟩) n cr) n (lV q):=by have:=hN.rr;rw [<-hn]at this;exact this
   have hrt:wr.ownsRow w.heap.size 108 1 (.slice (some ⟨gt,0,none⟩) n ct) n (iv (q.map cls)):=by have:=hN.rt;rw [<-hn]at this;exact this
   have Va:lb<wr.heap.size:=bK hN.cell;have Ij:gt≠lb:=fun e=>Vt (by rw [e];rfl)
   have yS:gr≠lb:=fun e=>Vr (by rw [e];rfl)
   have uN:Hid ((q.map cls).length=n/\q.length=n/\w.heap.size<=gr/\w.heap.size<=gt/\w.heap.size<=lb):=⟨by simp [hn],hn.symm,Mh,UZ,oC.out.1⟩
   clear hN hR Vt Vr Vl hlt Mh UZ hl hn
   -- the classes
   have hL1:LB (wr.alloc (.cells (madeCells #[.int .i64 0] n) 108)) lb _ _ _ _ _ _:=tY.grown (yj wr _ none) (by simp);have c1:=tY.c1;obtain⟨d2,e2⟩:=hL1.c2;have yE:aK (wr.alloc (.cells (madeCells #[.int .i64 0] n) 108)) w.heap.size 108 wr.heap.size n (List.replicate n (.int .i64 0)):=aK.made hB.size (by omega);have hg1:wr.grownBy ((wr.alloc (.cells (madeCells #[.int .i64 0] n) 108)).setCell ⟨lb,2,none⟩ (.slice (some ⟨wr.heap.size,0,none⟩) n n)) (some lb):=(yj wr _ _).trans (Aw _ lb 2 _);have hL2:=hL1.s2 (.slice (some ⟨wr.heap.size,0,none⟩) n n);have hO2:aK ((wr.alloc (.cells (madeCells #[.int .i64 0] n) 108)).setCell ⟨lb,2,none⟩ (.slice (some ⟨wr.heap.size,0,none⟩) n n)) w.heap.size 108 wr.heap.size n (List.replicate n (.int .i64 0)):=yE.setOther lb 2 _ (by omega);have hB2:Below w.heap.size w ((wr.alloc (.cells (madeCells #[.int .i64 0] n) 108)).setCell ⟨lb,2,none⟩ (.slice (some ⟨wr.heap.size,0,none⟩) n n)):=(hB.alloc hB.size _).setCell (p:=⟨lb,2,none⟩) oC.out.1 _;have uh:=fJ hrr hg1 yS;have BL:=fJ hrt hg1 Ij;have hz2:((wr.alloc (.cells (madeCells #[.int .i64 0] n) 108)).setCell ⟨lb,2,none⟩ (.slice (some ⟨wr.heap.size,0,none⟩) n n)).heap.size=wr.heap.size+1:=by simp
   have h2:=And.intro hL2 (And.intro hO2 (And.intro hB2 (And.intro uh (And.intro BL hz2))));have H2:Hid _:=h2;have bZ:Hid (gr<wr.heap.size/\gt<wr.heap.size/\lb<wr.heap.size):=⟨hgr,hgt,Va⟩
   clear tY hL1 yE hg1 hL2 hO2 hB2 uh BL hz2 hrr hrt hB hgr hgt Va h2;obtain⟨gc,hgc⟩:∃gc,gc=wr.heap.size:=⟨_,rfl⟩
   go_wp2;generalize((wr.alloc (.cells (madeCells #[.int .i64 0] n) 108)).setCell ⟨lb,2,none⟩ (.slice (some ⟨wr.heap.size,0,none⟩) n n))=W2 at*;rw [<-hgc]at H2 bZ ⊢;clear hgc c1 d2 e2 hnx;obtain⟨hL2,hO2,hB2,uh,BL,hz2⟩:=H2.out;clear H2
   -- the copy
   obtain⟨W3,hcp,hh3,hg3⟩:=KO (P:=prog) (w:=W2.drew) (sT:=139) (e:=108) (ty:=3) (g:=gc) underlying139 Tryz.OT (aK.heap hO2) (by simp) (World.ownsRow.drew BL) (fun v hv=>by simp only [iv,List.mem_map]at hv;obtain⟨x,_,rfl⟩:=hv;rfl);have hg3':W2.grownBy W3 (some gc):=(show W2.grownBy W2.drew (some gc)from⟨rfl,rfl,rfl,Nat.le_refl _,fun _ _ _=>rfl⟩).trans hg3;have Xr:gt≠gc/\gr≠gc/\lb≠gc:=by have:=bZ.out;omega
   have hL3:LB W3 lb _ _ _ _ _ _:=hL2.grown hg3' (by simp;omega);have hO3:aK W3 w.heap.size 108 gc n (iv (q.map cls)):=aK.NN hh3 (by have:=hO2.lt gc rfl;exact this.1) (by rw [vC,uN.out.1]) (by omega);have hB3:Below w.heap.size w W3:=hB2.grown hg3' hB2.size (fun k hk=>by cases hk;exact(hO2.lt gc rfl).1);have uj:=fJ uh hg3' Xr.2.1;have Ea:=fJ BL hg3' Xr.1;have hz3:gc+1<=W3.heap.size:=by have:=hg3'.size;omega
   obtain⟨c2,_⟩:=hL2.c2;have c1:=hL2.c1;have h3:=And.intro hL3 (And.intro hO3 (And.intro hB3 (And.intro uj (And.intro Ea hz3))));have H3:Hid _:=h3;clear hL2 hO2 hB2 uh BL hz2 hh3 hg3 hg3' hL3 hO3 hB3 uj Ea hz3 h3;go_region;all_goals
    clear c1 c2 hcp;obtain⟨hL3,hO3,hB3,uj,Ea,hz3⟩:=H3.out;clear H3;have hL4:LB (W3.alloc (.cells (madeCells #[.int .i64 0] n) 3)) lb _ _ _ _ _ _:=hL3.grown (yj W3 _ none) (by simp);have c1:=hL3.c1;obtain⟨d3,e3⟩:=hL4.c3;have hO4:aK (W3.alloc (.cells (madeCells #[.int .i64 0] n) 3)) w.heap.size 3 W3.heap.size n (List.replicate n (.int .i64 0)):=aK.made hB3.size (by omega);have hg4:W3.grownBy ((W3.alloc (.cells (madeCells #[.int .i64 0] n) 3)).setCell ⟨lb,3,none⟩ (.slice (some ⟨W3.heap.size,0,none⟩) n n)) (some lb):=(yj W3 _ _).trans (Aw _ lb 3 _);have hL5:=hL4.s3 (.slice (some ⟨W3.heap.size,0,none⟩) n n);have nI:aK ((W3.alloc (.cells (madeCells #[.int .i64 0] n) 3)).setCell ⟨lb,3,none⟩ (.slice (some ⟨W3.heap.size,0,none⟩) n n)) w.heap.size 3 W3.heap.size n (List.replicate n (.int .i64 0)):=hO4.setOther lb 3 _ (by have:=bZ.out;omega);have jf:Below w.heap.size w ((W3.alloc (.cells (madeCells #[.int .i64 0] n) 3)).setCell ⟨lb,3,none⟩ (.slice (some ⟨W3.heap.size,0,none⟩) n n)):=(hB3.alloc hB3.size _).setCell (p:=⟨lb,3,none⟩) oC.out.1 _;have yN:=fJ uj hg4 yS;have w9:=fJ Ea hg4 Ij;have yL:((W3.alloc (.cells (madeCells #[.int .i64 0] n) 3)).setCell ⟨lb,3,none⟩ (.slice (some ⟨W3.heap.size,0,none⟩) n n)).ownsRow w.heap.size 108 1 (.slice (some ⟨gc,0,none⟩) n n) n (iv (q.map cls)):=fJ hO3 hg4 (by have:=bZ.out;omega);have iR:((W3.alloc (.cells (madeCells #[.int .i64 0] n) 3)).setCell ⟨lb,3,none⟩ (.slice (some ⟨W3.heap.size,0,none⟩) n n)).heap.size=W3.heap.size+1:=by simp
    have h5:=And.intro hL5 (And.intro nI (And.intro jf (And.intro yN (And.intro w9 (And.intro yL iR)))));have H5:Hid _:=h5;have HZ3:Hid (gc+1<=W3.heap.size):=hz3;have KA:=hL5.c1;clear hL3 hO3 hB3 uj Ea hz3 hL4 hO4 hg4 hL5 nI jf yN w9 yL iR h5;obtain⟨gl,hgl⟩:∃gl,gl=W3.heap.size:=⟨_,rfl⟩
    go_wp2_with fail;generalize((W3.alloc (.cells (madeCells #[.int .i64 0] n) 3)).setCell ⟨lb,3,none⟩ (.slice (some ⟨W3.heap.size,0,none⟩) n n))=W5 at*;rw [<-hgl]at H5 HZ3 ⊢;clear hgl c1 d3 e3 KA;obtain⟨hL5,nI,jf,yN,w9,yL,iR⟩:=H5.out;clear H5;have hMt:Calls prog 140 #[.slice (some ⟨gt,0,none⟩) n ct] W5 fun e w'=>∃g,e= .returned (.slice (some ⟨g,0,none⟩) n n)/\aK w' W5.heap.size 3 g n (iv (jL (q.map cls)))/\Below W5.heap.size W5 w':=afU (q.map cls) n gt 0 ct W5 uN.out.1 (by omega) (fun k hk=>by rw [Nat.zero_add];exact jZ w9 k hk) (by have:=bZ.out;have:=HZ3.out;omega)
    have Ql:Hid (Calls prog 140 #[.slice (some ⟨gt,0,none⟩) n ct] W5 fun e w'=>∃g,e= .returned (.slice (some ⟨g,0,none⟩) n n)/\aK w' W5.heap.size 3 g n (iv (jL (q.map cls)))/\Below W5.heap.size W5 w'):=hMt;have c1:=hL5.c1;have h5:=And.intro hL5 (And.intro nI (And.intro jf (And.intro yN (And.intro w9 (And.intro yL iR)))));have H5:Hid _:=h5;clear hL5 nI jf yN w9 yL iR h5 hMt;refine Ql.out.mono ?_;rintro ev W6 ⟨gm,rfl,Mo,hb6⟩;clear Ql;obtain⟨hL5,nI,jf,yN,w9,yL,iR⟩:=H5.out;clear H5;obtain⟨aej,aek⟩:=Mo.lt gm rfl;have hL6:=hL5.below hb6;obtain⟨d4,e4⟩:=hL6.c4;have hL7:=hL6.s4 (.slice (some ⟨gm,0,none⟩) n n);have fB:W6.grownBy (W6.setCell ⟨lb,4,none⟩ (.slice (some ⟨gm,0,none⟩) n n)) (some lb):=Aw _ lb 4 _;have yD:Below w.heap.size w (W6.setCell ⟨lb,4,none⟩ (.slice (some ⟨gm,0,none⟩) n n)):=(jf.trans (hb6.mono jf.size)).setCell (p:=⟨lb,4,none⟩) oC.out.1 _;have D9:=fJ (own_below yN hb6) fB yS;have BM:=fJ (own_below w9 hb6) fB Ij;have D5:=fJ (own_below yL hb6) fB (by have:=bZ.out;omega);have D7:=fJ (own_below nI hb6) fB (by have:=bZ.out;have:=HZ3.out;omega);have zX:=fJ Mo fB (by have:=bZ.out;have:=HZ3.out;omega);have pJ:Hid (gl≠lb/\gl≠gr/\gl≠gt/\gl≠gc/\gl≠gm/\gc≠lb/\gc≠gr/\gc≠gt/\gc≠gm):=by
     have h1:=bZ.out;have h2:=HZ3.out;refine⟨?_,?_,?_,?_,?_,?_,?_,?_,?_⟩<;>omega
    have Eh:∀g,g=lb∨g=gr∨g=gt∨g=gc∨g=gl∨g=gm->g<(W6.setCell ⟨lb,4,none⟩ (.slice (some ⟨gm,0,none⟩) n n)).heap.size:=by
     have h1:=bZ.out;have h2:=HZ3.out;have h3:=hb6.size;intro g hg;rw [World.size_setCell];omega
    have Um:tu (W6.setCell ⟨lb,4,none⟩ (.slice (some ⟨gm,0,none⟩) n n)) lb gt gm n ct n (.slice (some ⟨gr,0,none⟩) n cr) (.slice (some ⟨gc,0,none⟩) n n) (.slice (some ⟨gl,0,none⟩) n n) 0 (q.map cls):=
     ⟨hL7,fun k hk=>by rw [Nat.zero_add];exact jZ BM k hk,fun k hk=>by rw [Nat.zero_add];exact jZ zX k hk,uN.out.1⟩
    have Fz:Hid (Calls prog 141 #[.pointer (some ⟨lb,0,none⟩),.int .i64 d] (W6.setCell ⟨lb,4,none⟩ (.slice (some ⟨gm,0,none⟩) n n)) fun e w'=>e= .returned (.int .i64 (dO (q.map cls) d))/\w'=(W6.setCell ⟨lb,4,none⟩ (.slice (some ⟨gm,0,none⟩) n n))):=ag3 _ lb gt gm n ct n _ _ _ 0 (q.map cls) Um (by omega) d;have h7:=And.intro hL7 (And.intro yD (And.intro D9 (And.intro BM (And.intro D5 (And.intro D7 (And.intro zX Eh))))));have H7:Hid _:=h7;clear hL5 nI jf yN w9 yL iR hL6 hL7 fB yD D9 BM D5 D7 zX Eh Um h7 Mo hb6 aej aek c1;go_wp2_with fail;generalize(W6.setCell ⟨lb,4,none⟩ (.slice (some ⟨gm,0,none⟩) n n))=W7 at*;refine Fz.out.mono ?_;rintro ev wx ⟨rfl,hx⟩;have hx':=hx.symm;subst hx';clear Fz d4 e4;obtain⟨hL7,yD,D9,BM,D5,D7,zX,Eh⟩:=H7.out;clear H7;generalize hpv:dO (q.map cls) d=pp at*;obtain⟨d5,e5⟩:=hL7.c5;have Ul:=hL7.s5 (.int .i64 pp);have jg:W7.grownBy (W7.setCell ⟨lb,5,none⟩ (.int .i64 pp)) (some lb):=Aw _ lb 5 _;have Uf:Below w.heap.size w (W7.setCell ⟨lb,5,none⟩ (.int .i64 pp)):=yD.setCell (p:=⟨lb,5,none⟩) oC.out.1 _;have Vs:=fJ D9 jg yS;have Vu:=fJ BM jg Ij;have Vn:=fJ D5 jg pJ.out.2.2.2.2.2.1;have Vp:=fJ D7 jg pJ.out.1;have Vq:=fJ zX jg (by rintro rfl;exact iF zX hL7 (by decide) rfl);have HX:Hid (LX (W7.setCell ⟨lb,5,none⟩ (.int .i64 pp)) ⟨w.heap.size,lb,gr,gt,gc,gl,gm,n,cr,ct,pp,q,q.map cls⟩ (q.map cls) (List.replicate n 0)):=by
     refine⟨Ul,fun k hk=> ?_,fun k hk=>by rw [Nat.zero_add];exact jZ Vu k hk,fun k hk=>by rw [Nat.zero_add];exact jZ Vq k hk,uN.out.1,Vn,?_,?_,?_,?_⟩
     .rw [World.ownsRow.cellAt Vs k (by simpa using hk)];have:k<q.length:=by rw [uN.out.2.1];exact hk
      simp [lV,List.getD_eq_getElem?_getD,List.getElem?_eq_getElem this]
     .show World.ownsRow _ _ _ _ _ _ _;rw [iv,List.map_replicate];exact Vp
     .intro g hg;rw [World.size_setCell];apply Eh;unfold LP.has at hg;omega
     .exact⟨pJ.out.1,pJ.out.2.1,pJ.out.2.2.1,pJ.out.2.2.2.1,pJ.out.2.2.2.2.1⟩
     .exact⟨pJ.out.2.2.2.2.2.1,pJ.out.2.2.2.2.2.2.1,pJ.out.2.2.2.2.2.2.2.1,pJ.out.2.2.2.2.2.2.2.2⟩
    have gX:Hid (Below w.heap.size w (W7.setCell ⟨lb,5,none⟩ (.int .i64 pp))):=Uf;have HPV:Hid (dO (q.map cls) d=pp):=hpv;clear hL7 yD D9 BM D5 D7 zX Eh Ul jg Uf Vs Vu Vn Vp Vq hpv;go_wp2;go_ret;exact⟨⟨w.heap.size,lb,gr,gt,gc,gl,gm,n,cr,ct,pp,q,q.map cls⟩,rfl,HX.out,rfl,rfl,uN.out.2.1.symm,HPV.out.symm,rfl,gX.out⟩
end
theorem aix(w:World)(L:LP)(h:LX w L L.cs (List.replicate L.n 0))(hB:L.B<=w.heap.size)(hp:0<=L.p/\L.p<=125)(hn:L.n<=1000):
  Calls prog 85 #[.pointer (some ⟨L.lb,0,none⟩)] w fun e w'=>e= .returned (.tuple #[])/\LX w' L (kP L.cs L.p) (aH L.cs L.p)/\Below L.B w w':=by
 obtain⟨s,hs⟩:∃s,s=w.heap.size:=⟨_,rfl⟩
 have hb1:Below w.heap.size w (w.alloc (.cells #[.pointer (some ⟨L.lb,0,none⟩),.slice none 0 0,.int .i64 0,.int .i64 0,.int .i64 0] 212)):=(Below.refl _ _).alloc (Nat.le_refl _) _;have ni:Hid (XP (w.alloc (.cells #[.pointer (some ⟨L.lb,0,none⟩),.slice none 0 0,.int .i64 0,.int .i64 0,.int .i64 0] 212)) L s (.slice none 0 0) L.cs (List.replicate L.n 0) ⟨[],0,0,0⟩):=
  ⟨⟨by rw [hs];exact Array.getElem?_push_size,⟨rfl,.inl ⟨rfl,rfl⟩⟩,by rw [hs];exact hB⟩,h.below hb1,fun g hg=>⟨by have:=h.lt g hg;omega,by simp [Value.ownBlock]⟩⟩
 have c5:(w.alloc (.cells #[.pointer (some ⟨L.lb,0,none⟩),.slice none 0 0,.int .i64 0,.int .i64 0,.int .i64 0] 212)).cell? ⟨L.lb,5,none⟩=some (.int .i64 L.p):=au ni.out.ln.cell 5;have HB1:Hid (Below L.B w (w.alloc (.cells #[.pointer (some ⟨L.lb,0,none⟩),.slice none 0 0,.int .i64 0,.int .i64 0,.int .i64 0] 212))):=hb1.mono hB;have iZ:Hid (L.cs.length=L.n):=h.len;clear h hb1;go_enter func85,ntmps85;go_wp2_with fail;rw [<-hs];clear hs;refine(Iz _ L.B s _ _ _ L.p (-1) false ni.out.wk (by simp)).mono ?_;rintro ev w2 ⟨rfl,v2,hW,hF⟩;have iM:Hid (XP w2 L s v2 L.cs (List.replicate L.n 0) (dZ L.cs L.p 0)):=ni.out.yA hW hF;have HB2:Hid (Below L.B w w2):=hF.Bn ni.out.wk HB1.out;have a1:w2.cell? ⟨L.lb,1,none⟩=some (.slice (some ⟨L.gt,0,none⟩) L.n L.ct):=au iM.out.ln.cell 1;clear hW hF ni HB1 c5;go_wp2;clear a1;go_loopg [18] L.n (fun gh kv W=>∃(k:Nat)(v:Value)(ks ls:List Int),k<=L.n/\gh=L.n - k/\kv= .int .i64 k/\XP W L s v ks ls (dZ L.cs L.p k)/\Below L.B w W/\jR L.n k ks (fun j=>rY (L.cs.getD j 0) (iJ L.cs L.p j).o) (fun j=>L.cs.getD j 0)/\jR L.n k ls (fun j=>(iJ L.cs L.p j).l) (fun _=>0));case atStart=>
  refine⟨0,v2,L.cs,List.replicate L.n 0,by omega,rfl,rfl,iM.out,HB2.out,⟨iZ.out,fun j _=>by rw [if_neg (by omega)]⟩,⟨by simp,fun j hj=> ?_⟩⟩;rw [if_neg (by omega),List.getD_eq_getElem?_getD,List.getElem?_replicate,if_pos hj];rfl
 case round=>
  clear iM HB2;obtain⟨k,v,ks,ls,hk,rfl,rfl,hX,hBl,hK,hL⟩:=hrel;by_cases hlt:k<L.n
  .have hlt':(k:Int)<(L.n:Int):=by omega
   have ek:ks.getD k 0=L.cs.getD k 0:=by have:=hK.2 k hlt;rw [if_neg (by omega)]at this;exact this
   have HK:Hid (jR L.n (k+1) (ks.set k (rY (ks.getD k 0) (aS (dK (dZ L.cs L.p k) (L.cs.getD k 0)).st).o)) (fun j=>rY (L.cs.getD j 0) (iJ L.cs L.p j).o) (fun j=>L.cs.getD j 0)):=by rw [ek];exact hK.step hlt
   have HL:Hid (jR L.n (k+1) (ls.set k (aS (dK (dZ L.cs L.p k) (L.cs.getD k 0)).st).l) (fun j=>(iJ L.cs L.p j).l) (fun _=>0)):=hL.step hlt;have HS:Hid (Calls prog 143 #[.pointer (some ⟨s,0,none⟩),.int .i64 k] wr fun ev w'=>ev= .returned (.tuple #[])/\∃v',XP w' L s v' (ks.set k (rY (ks.getD k 0) (aS (dK (dZ L.cs L.p k) (L.cs.getD k 0)).st).o)) (ls.set k (aS (dK (dZ L.cs L.p k) (L.cs.getD k 0)).st).l) (dZ L.cs L.p (k+1))/\Below L.B wr w'):=aiY wr L s v ks ls (dZ L.cs L.p k) k hX (vT L.cs L.p hp k) (by omega) hn k hlt;have lG:Hid (Below L.B w wr):=hBl;clear hX hBl hK hL ek;go_wp2_with fail;refine HS.out.mono ?_;rintro ev w3 ⟨rfl,v3,uf,hB3⟩;have eU:Hid _:=uf;have HB3:Hid _:=lG.out.trans hB3;clear uf hB3 HS;go_wp2;go_roundg (L.n - (k+1));case measure=>omega
   case rel=>exact⟨k+1,v3,_,_,by omega,rfl,by go_num,eU.out,HB3.out,HK.out,HL.out⟩
  .obtain rfl:k=L.n:=by omega
   have HX:Hid (LX wr L ks ls):=hX.ln;have lG:Hid (Below L.B w wr):=hBl;have HK:Hid (ks=kP L.cs L.p):=by show _=_;rw [hK.done,kP,iZ.out]
   have HL:Hid (ls=aH L.cs L.p):=by show _=_;rw [hL.done,aH,iZ.out]
   clear hX hBl hK hL;go_wp2;go_end0;refine⟨rfl,?_,lG.out⟩;rw [<-HK.out,<-HL.out];exact HX.out
theorem Tryz.Zn:(prog.info? 3).map (·.size)=some 1:=by kernel_rfl
def AR(para:Int)(cs o o':List Int)(k:Nat):Prop:=o'.length=cs.length/\(∀j,j<cs.length->dm (cs.getD j 0)=true->o'.getD j 0=o.getD j 0)/\(0<k->dm (cs.getD 0 0)=false->o'.getD 0 0=para)
theorem AR.keep {para:Int}{cs o o':List Int}{k:Nat}(h:AR para cs o o' k)(hl:dm (cs.getD k 0)=true):AR para cs o o' (k+1):=
 ⟨h.1,h.2.1,fun _ h0=>by
  rcases Nat.eq_zero_or_pos k with hk|hk
  .subst hk;rw [hl]at h0;cases h0
  .exact h.2.2 hk h0⟩
theorem AR.set {para v:Int}{cs o o':List Int}{k:Nat}(h:AR para cs o o' k)(hk:k<cs.length)(hl:dm (cs.getD k 0)=false)(hv:k=0->v=para):AR para cs o (o'.set k v) (k+1):=by
 refine⟨by simp [h.1],?_,?_⟩
 .intro j hj hjl;rw [getD_set_ne (by rintro rfl;rw [hl]at hjl;cases hjl)];exact h.2.1 j hj hjl
 .intro _ h0;rcases Nat.eq_zero_or_pos k with h'|h'
  .subst h';rw [tV (by rw [h.1];exact hk),hv rfl]
  .rw [getD_set_ne (by omega)];exact h.2.2 h' h0
