import Derived.Test.YtkbinfhclaafhaaGreatDoorH29
import Derived.Laws.Bits64b
import Derived.Lib.TrailingZeros
import Derived.Test.YtkbinfhclaafhaaGreatDoorShelfU
import Derived.Test.YtkbinfhclaafhaaGreatDoorH01
import Derived.BigQuiet
import Derived.Deep.QuietTactic
import Derived.Deep.LoopGhost
import Derived.Test.YtkbinfhclaafhaaGreatDoorH10
import Derived.Test.YtkbinfhclaafhaaGreatDoorH17
import Derived.Maps.AppendAt
import Derived.Test.YtkbinfhclaafhaaGreatDoorH27
namespace Go.Proofs.YtkbinfhclaafhaaGreatDoor
open Go.RowKit
open Go.Proofs.Tryz
set_option maxRecDepth 100000
set_option maxHeartbeats 32000000
def o9(s:ByteArray)(f t:Nat):List Int:=(dh (s.extract f t)).getD []
def nG(s:ByteArray)(x:PR):Int:=if x.kind=0 then oU (o9 s x.from_ x.di) x.from_ else if x.kind=1 then oQ (o9 s x.body x.end_) false x.body else -1
theorem adn(s:ByteArray)(x:PR)(w:World)(hs:s.size<=100000)(hE:Sp w)(hx:rG s x):
  Calls prog 102 #[.string s,om x] w fun e w'=>e= .returned (.int .i64 (nG s x))/\Below w.heap.size w w':=by
 obtain⟨xl,xk,xf,xt,xb,xe⟩:=x;obtain⟨ft,tl,⟨rs,hrs⟩,be⟩:=hx;simp only at ft tl hrs be;unfold om nG o9;simp only;have HB0:Hid (Below w.heap.size w (w.alloc (.cells #[.int .i64 xk,.int .i64 xf,.int .i64 xt,.int .i64 xb,.int .i64 xe] 75))):=(Below.refl _ _).alloc (Nat.le_refl _) _;by_cases hk:xk=0
 .subst hk;rw [if_pos rfl,hrs];simp only [Option.getD_some];have HC:=TE s xf xt rs _ ft tl hs hrs (hE.below HB0.out);generalize oU rs xf=q at*;clear hrs be hE;go_enter func102,ntmps102;go_wp2_with fail;refine HC.mono ?_;rintro ev w1 ⟨rfl,hb1⟩;have HB1:Hid (Below w.heap.size w w1):=HB0.out.trans (hb1.mono HB0.out.size);clear hb1 HC;go_wp2;go_ret;exact⟨rfl,HB1.out⟩
 have hk0:((xk:Int)==0)=false:=by simpa using hk
 rw [if_neg hk];by_cases h1:xk=1
 .subst h1;obtain⟨b1,b2,⟨rb,hrb⟩⟩:=be hk;rw [if_pos rfl,hrb];simp only [Option.getD_some];have HC:=ac0 s xb xe rb _ b1 b2 hs hrb (hE.below HB0.out);generalize oQ rb false xb=q at*;clear hrs be hE hrb;go_enter func102,ntmps102;go_wp2_with fail;refine HC.mono ?_;rintro ev w1 ⟨rfl,hb1⟩;have HB1:Hid (Below w.heap.size w w1):=HB0.out.trans (hb1.mono HB0.out.size);clear hb1 HC;go_wp2;go_ret;exact⟨rfl,HB1.out⟩
 .have hk1:((xk:Int)==1)=false:=by simp;omega
  rw [if_neg h1];clear hrs be hE hk h1;go_enter func102,ntmps102;go_wp2;go_ret;exact⟨rfl,HB0.out⟩
def ny(w:World):Prop:=w.cell? ⟨15,15,none⟩=some (.int .u8 4)
theorem ahA(w:World):Calls prog 301 #[.int .i64 16] w fun e w'=>e= .returned (.bool true)/\w'=w:=by
 have hb:bits .and .i64 16 15=0:=by decide
 go_enter func301,ntmps301;go_wp2;go_ret;exact⟨rfl,rfl⟩
theorem ajv(w:World)(h:ny w):Calls prog 308 #[.int .u64 16] w fun e w'=>e= .returned (.int .i64 4)/\w'=w:=by
 have key:IntKind.u64.wrap (bits .and .u64 16 (IntKind.u64.wrap (-16))*285870213051353865) / 288230376151711744=15:=by decide+kernel
 unfold ny at h;go_enter func308,ntmps308;go_wp2_with(simp only [key]);go_ret;exact⟨rfl,rfl⟩
theorem ajx(w:World)(h:ny w):Calls prog 302 #[.int .u64 16] w fun e w'=>e= .returned (.int .i64 4)/\w'=w:=by
 have H:=ajv w h;go_enter func302,ntmps302;go_wp2_with fail;refine H.mono ?_;rintro ev _ ⟨rfl,rfl⟩;go_wp2;go_ret;exact⟨rfl,rfl⟩
def pW:ByteArray:=⟨#[48,49,50,51,52,53,54,55,56,57,97,98,99,100,101,102,103,104,105,106,107,108,109,110,111,112,113,114,115,116,117,118,119,120,121,122]⟩
def hx(k:Nat):UInt8:=pW.get! k
theorem Ee(k:Nat)(h:k<36):pW[k]'h=hx k:=(get_eq pW k h).symm
def pY(r:Nat):ByteArray:=if r<4096 then⟨#[hx (r / 16 / 16),hx (r / 16%16),hx (r%16)]⟩else⟨#[hx (r / 16 / 16 / 16),hx (r / 16 / 16%16),hx (r / 16%16),hx (r%16)]⟩
theorem Kg(a:Nat)(h:a<65536):bits .and .u64 (a:Int) 15=((a%16:Nat):Int):=by
 have:=bits_mask .u64 64 (by decide) wraps_u64 4 (by decide) (a:Int) (by omega) (by omega);simpa using this
theorem aj3:Tryz.zeroCells342=Array.replicate 65 (.int .u8 0):=by kernel_rfl
theorem adq(r:Nat)(h1:256<=r)(h2:r<65536)(w:World)(h:ny w):Calls prog 290 #[.slice none 0 0,.int .u64 r,.int .i64 16,.bool false,.bool false] w fun e w'=>e= .returned (.tuple #[.slice none 0 0,.string (pY r)])/\Below w.heap.size w w':=by
 have HP:Hid (∀W,Calls prog 301 #[.int .i64 16] W fun e w'=>e= .returned (.bool true)/\w'=W):=fun W=>ahA W
 have hb0:Below w.heap.size w (w.alloc (.cells Tryz.zeroCells342 342)):=(Below.refl _ _).alloc (Nat.le_refl _) _;have HT:Hid (Calls prog 302 #[.int .u64 16] (w.alloc (.cells Tryz.zeroCells342 342)) fun e w'=>e= .returned (.int .i64 4)/\w'=w.alloc (.cells Tryz.zeroCells342 342)):=ajx _ (by unfold ny at h ⊢;exact cO hb0 h);have HB:Hid (Below w.heap.size w (w.alloc (.cells Tryz.zeroCells342 342))):=hb0;have hc:∀j,j<65->(w.alloc (.cells Tryz.zeroCells342 342)).cell? ⟨w.heap.size,j,none⟩=some (.int .u8 0):=fun j hj=>by
  rw [World.cell?_alloc_new];rw [aj3];simp [hj]
 have hfz:∀j,(w.alloc (.cells Tryz.zeroCells342 342)).frozen? ⟨w.heap.size,j,none⟩=false:=fun j=>World.frozen?_alloc_new _ _ _ _
 clear hb0 h;have k0:=Kg r (by omega);go_enter func290,ntmps290;go_wp2_with fail;refine(HP.out _).mono ?_;rintro ev wx ⟨rfl,hx⟩;have hx':=hx.symm;subst hx';clear hx;go_wp2_with fail;refine HT.out.mono ?_;rintro ev wx ⟨rfl,hx⟩;have hx':=hx.symm;subst hx';clear hx HT HP;generalize w.alloc (.cells Tryz.zeroCells342 342)=W1 at*;have c64:=hc 64 (by omega);have c63:=hc 63 (by omega);have c62:=hc 62 (by omega);have c61:=hc 61 (by omega);have f64:=hfz 64;have f63:=hfz 63;have f62:=hfz 62;have f61:=hfz 61;clear hc hfz;go_wp2;refine wp_loop_rounds 4 ?_;rw [rounds_succ];go_wp2;obtain⟨d0,e0⟩:∃d:UInt8,d=pW[r%16]'(by show _<36;omega):=⟨_,rfl⟩
 have D0:Hid (d0=hx (r%16)):=e0.trans (Ee _ _);unfold pW at e0;rw [<-e0];clear e0;obtain⟨a,ea⟩:∃x:Nat,x=r / 16:=⟨_,rfl⟩
 rw [show(r:Int) / 16=(a:Int)by omega,rounds_succ];have EA:Hid (a=r / 16):=ea;have ha:16<=a/\a<4096:=by omega
 have k1:=Kg a (by omega);clear ea k0;go_wp2;obtain⟨d1,e1⟩:∃d:UInt8,d=pW[a%16]'(by show _<36;omega):=⟨_,rfl⟩
 have D1:Hid (d1=hx (a%16)):=e1.trans (Ee _ _);unfold pW at e1;rw [<-e1];clear e1;obtain⟨b,eb⟩:∃x:Nat,x=a / 16:=⟨_,rfl⟩
 rw [show(a:Int) / 16=(b:Int)by omega,rounds_succ];have EB:Hid (b=a / 16):=eb;have hb:b<256:=by omega
 clear eb k1;by_cases h16:b<16
 .go_wp2;obtain⟨d2,e2⟩:∃d:UInt8,d=pW[b]'(by show _<36;omega):=⟨_,rfl⟩
  have D2:Hid (d2=hx (b)):=e2.trans (Ee _ _);unfold pW at e2;rw [<-e2];clear e2;have hcv:(convert 62 9 (.slice (some ⟨w.heap.size,62,none⟩) 3 3)).run prog (((W1.setCell ⟨w.heap.size,64,none⟩ (.int .u8 d0.toNat)).setCell ⟨w.heap.size,63,none⟩ (.int .u8 d1.toNat)).setCell ⟨w.heap.size,62,none⟩ (.int .u8 d2.toNat))= .ok (.string ⟨#[d2,d1,d0]⟩) (((W1.setCell ⟨w.heap.size,64,none⟩ (.int .u8 d0.toNat)).setCell ⟨w.heap.size,63,none⟩ (.int .u8 d1.toNat)).setCell ⟨w.heap.size,62,none⟩ (.int .u8 d2.toNat)):=run_convert_bytes_back (P:=prog) _ 62 9 5 ⟨w.heap.size,62,none⟩ 3 [d2,d1,d0] underlying62 underlying5 underlying9 (fun j hj=>by
   match j,hj with
   |0,_=>go_simp
   |1,_=>go_simp
   |2,_=>go_simp
   |j+3,hj=>simp at hj;omega)
  have HB2:Hid (Below w.heap.size w (((W1.setCell ⟨w.heap.size,64,none⟩ (.int .u8 d0.toNat)).setCell ⟨w.heap.size,63,none⟩ (.int .u8 d1.toNat)).setCell ⟨w.heap.size,62,none⟩ (.int .u8 d2.toNat))):=((HB.out.setCell (Nat.le_refl _) _).setCell (Nat.le_refl _) _).setCell (Nat.le_refl _) _;rw [hcv];go_wp2;go_ret2;exact⟨by rw [pY,if_pos (by have:=EA.out;have:=EB.out;omega),<-EA.out,<-EB.out,<-D0.out,<-D1.out,<-D2.out];rfl,HB2.out⟩
 .have k2:=Kg b (by omega);go_wp2;obtain⟨d2,e2⟩:∃d:UInt8,d=pW[b%16]'(by show _<36;omega):=⟨_,rfl⟩
  have D2:Hid (d2=hx (b%16)):=e2.trans (Ee _ _);unfold pW at e2;rw [<-e2];clear e2;obtain⟨c,ec⟩:∃x:Nat,x=b / 16:=⟨_,rfl⟩
  rw [show(b:Int) / 16=(c:Int)by omega,rounds_succ];have EC:Hid (c=b / 16):=ec;have hc16:c<16:=by omega
  clear ec k2;go_wp2;obtain⟨d3,e3⟩:∃d:UInt8,d=pW[c]'(by show _<36;omega):=⟨_,rfl⟩
  have D3:Hid (d3=hx (c)):=e3.trans (Ee _ _);unfold pW at e3;rw [<-e3];clear e3;have hcv:(convert 62 9 (.slice (some ⟨w.heap.size,61,none⟩) 4 4)).run prog ((((W1.setCell ⟨w.heap.size,64,none⟩ (.int .u8 d0.toNat)).setCell ⟨w.heap.size,63,none⟩ (.int .u8 d1.toNat)).setCell ⟨w.heap.size,62,none⟩ (.int .u8 d2.toNat)).setCell ⟨w.heap.size,61,none⟩ (.int .u8 d3.toNat))= .ok (.string ⟨#[d3,d2,d1,d0]⟩) ((((W1.setCell ⟨w.heap.size,64,none⟩ (.int .u8 d0.toNat)).setCell ⟨w.heap.size,63,none⟩ (.int .u8 d1.toNat)).setCell ⟨w.heap.size,62,none⟩ (.int .u8 d2.toNat)).setCell ⟨w.heap.size,61,none⟩ (.int .u8 d3.toNat)):=run_convert_bytes_back (P:=prog) _ 62 9 5 ⟨w.heap.size,61,none⟩ 4 [d3,d2,d1,d0] underlying62 underlying5 underlying9 (fun j hj=>by
   match j,hj with
   |0,_=>go_simp
   |1,_=>go_simp
   |2,_=>go_simp
   |3,_=>go_simp
   |j+4,hj=>simp at hj;omega)
  have HB2:Hid (Below w.heap.size w ((((W1.setCell ⟨w.heap.size,64,none⟩ (.int .u8 d0.toNat)).setCell ⟨w.heap.size,63,none⟩ (.int .u8 d1.toNat)).setCell ⟨w.heap.size,62,none⟩ (.int .u8 d2.toNat)).setCell ⟨w.heap.size,61,none⟩ (.int .u8 d3.toNat))):=(((HB.out.setCell (Nat.le_refl _) _).setCell (Nat.le_refl _) _).setCell (Nat.le_refl _) _).setCell (Nat.le_refl _) _;rw [hcv];go_wp2;go_ret2;exact⟨by rw [pY,if_neg (by have:=EA.out;have:=EB.out;omega),<-EA.out,<-EB.out,<-EC.out,<-D0.out,<-D1.out,<-D2.out,<-D3.out];rfl,HB2.out⟩
def qh:ByteArray:=⟨#[48,49,50,51,52,53,54,55,56,57,97,98,99,100,101,102]⟩
def vS:ByteArray:=⟨#[48,49,50,51,52,53,54,55,56,57,65,66,67,68,69,70]⟩
theorem BB:∀k:Fin 16,ve qh k.val=⟨#[hx k.val]⟩:=by decide+kernel
theorem DC(r:Nat)(h2:r<65536):jr qh r=⟨#[hx (r / 16 / 16 / 16),hx (r / 16 / 16%16),hx (r / 16%16),hx (r%16)]⟩:=by
 have h:=fun k (hk:k<16)=>BB ⟨k,hk⟩
 simp only at h;rw [jr,h _ (Nat.mod_lt _ (by omega)),h _ (Nat.mod_lt _ (by omega)),h _ (Nat.mod_lt _ (by omega)),h _ (Nat.mod_lt _ (by omega)),Nat.mod_eq_of_lt (a:=r / 16 / 16 / 16) (by omega)];rfl
theorem aeg(r:Nat)(h1:256<=r)(h2:r<65536):(pY r).size=(if r<4096 then 3 else 4)/\((⟨#[48,48,48]⟩:ByteArray)++pY r).extract (3+(pY r).size - 4) (3+(pY r).size)=jr qh r:=by
 rw [DC r h2];unfold pY;split
 .refine⟨rfl,?_⟩;rw [Nat.mod_eq_of_lt (a:=r / 16 / 16) (by omega),show r / 16 / 16 / 16=0 by omega];rfl
 .exact⟨rfl,rfl⟩
theorem ado(r:Nat)(h1:256<=r)(h2:r<65536)(w:World)(h:ny w):Calls prog 269 #[.int .i64 r,.int .i64 16] w fun e w'=>e= .returned (.string (pY r))/\Below w.heap.size w w':=by
 have H:=adq r h1 h2 w h;clear h;have hn:¬(r:Int)<0:=by omega
 go_enter func269,ntmps269;go_wp2_with fail;refine H.mono ?_;rintro ev w1 ⟨rfl,hb⟩;have HB:Hid (Below w.heap.size w w1):=hb;clear hb H;go_wp2;go_ret;exact⟨rfl,HB.out⟩
theorem adp(r:Nat)(h1:256<=r)(h2:r<65536)(w:World)(h:ny w):Calls prog 251 #[.int .i64 r,.int .i64 16] w fun e w'=>e= .returned (.string (pY r))/\Below w.heap.size w w':=by
 have H:=ado r h1 h2 w h;clear h;go_enter func251,ntmps251;go_wp2_with fail;refine H.mono ?_;rintro ev w1 ⟨rfl,hb⟩;have HB:Hid (Below w.heap.size w w1):=hb;clear hb H;go_wp2;go_ret;exact⟨rfl,HB.out⟩
theorem TJ(r:Nat)(h1:256<=r)(h2:r<65536)(w:World)(h:ny w):Calls prog 222 #[.int .i32 r] w fun e w'=>e= .returned (.string (jr qh r))/\Below w.heap.size w w':=by
 have H:=adp r h1 h2 w h;obtain⟨hz,he⟩:=aeg r h1 h2;rw [<-he];clear h he;have hs:3<=(pY r).size/\(pY r).size<=4:=by rw [hz];split<;>omega
 clear hz;generalize pY r=z at*;have hsz:((⟨#[48,48,48]⟩:ByteArray)++z).size=3+z.size:=by rw [ByteArray.size_append];rfl
 go_enter func222,ntmps222;go_wp2_with fail;refine H.mono ?_;rintro ev w1 ⟨rfl,hb⟩;have HB:Hid (Below w.heap.size w w1):=hb;clear hb H;go_wp2;go_ret;exact⟨rfl,HB.out⟩
section
open Go.RowKit Go.Shelf
theorem ac3(r:Nat)(h1:256<=r)(h2:r<65536)(w:World)(h:ny w):Calls prog 171 #[.int .i32 r] w fun e w'=>e= .returned (.string (⟨#[92,117]⟩++jr qh r))/\Below w.heap.size w w':=by
 have H:=TJ r h1 h2 w h;clear h;have hz:(jr qh r).size=4:=by rw [DC r h2];rfl
 generalize jr qh r=z at*;go_enter func171,ntmps171;go_wp2_with fail;refine H.mono ?_;rintro ev w1 ⟨rfl,hb⟩;have HB:Hid (Below w.heap.size w w1):=hb;clear hb H;go_wp2;go_ret;exact⟨rfl,HB.out⟩
theorem Tryz.bxU:Builder.Extra prog Tryz.lays158_ren where
 sizeBuilder:=by kernel_rfl
 liesBuilder:=by kernel_rfl
 t5:=underlying5
 a5:=Tryz.isAgg5
 z5:=Tryz.sizeOf5
 v5:=Tryz.zeroValue5
 infoByte:=by kernel_rfl
 cellsByte:=by kernel_rfl
 sizeByte:=by kernel_rfl
 neB5:=by decide
def BN(k:Nat):UInt8:=vS.get! k
theorem wJ:∀k:Fin 16,ve vS k.val=⟨#[BN k.val]⟩/\(hx k.val).toNat<128/\Lib.toUpperA [hx k.val]=[BN k.val]:=by decide+kernel
theorem ajA(a b c d:Nat)(ha:a<16)(hb:b<16)(hc:c<16)(hd:d<16):Lib.toUpperA [hx a,hx b,hx c,hx d]=[BN a,BN b,BN c,BN d]:=by
 have h:=fun k (hk:k<16)=>(wJ ⟨k,hk⟩).2.2
 have e:Lib.toUpperA [hx a,hx b,hx c,hx d]=Lib.toUpperA [hx a]++(Lib.toUpperA [hx b]++(Lib.toUpperA [hx c]++Lib.toUpperA [hx d])):=by rfl
 rw [e,h a ha,h b hb,h c hc,h d hd];rfl
theorem adt(r:Nat)(h2:r<65536):jr vS r=⟨(Lib.toUpperA (jr qh r).data.toList).toArray⟩:=by
 have h:=fun k (hk:k<16)=>(wJ ⟨k,hk⟩).1
 simp only at h;rw [DC r h2];show _=(⟨(Lib.toUpperA [hx (r / 16 / 16 / 16),hx (r / 16 / 16%16),hx (r / 16%16),hx (r%16)]).toArray⟩:ByteArray)
 rw [ajA _ _ _ _ (by omega) (by omega) (by omega) (by omega),jr,h _ (Nat.mod_lt _ (by omega)),h _ (Nat.mod_lt _ (by omega)),h _ (Nat.mod_lt _ (by omega)),h _ (Nat.mod_lt _ (by omega)),Nat.mod_eq_of_lt (a:=r / 16 / 16 / 16) (by omega)];rfl
theorem agb(r:Nat)(h1:256<=r)(h2:r<65536)(w:World)(h:ny w):Calls prog 173 #[.int .i32 r] w fun e w'=>e= .returned (.string (⟨#[60,85,43]⟩++jr vS r++⟨#[62]⟩))/\Below w.heap.size w w':=by
 have H:=TJ r h1 h2 w h;have HU:Hid (∀W,Calls prog 224 #[.string (jr qh r)] W fun e w'=>e= .returned (.string (jr vS r))/\Below W.heap.size W w'):=fun W=>by
  rw [adt r h2];refine Any.strings_ToUpper_ascii Tryz.lays158 Tryz.bxU _ W (by rw [DC r h2];show 4<=_;omega) ?_;intro j b hb;have hm:=List.mem_of_getElem? hb;rw [DC r h2]at hm;have h128:=fun k (hk:k<16)=>(wJ ⟨k,hk⟩).2.1
  simp only [List.mem_cons,List.not_mem_nil,or_false]at hm;rcases hm with rfl|rfl|rfl|rfl<;>exact h128 _ (by omega)
 have hz:(jr vS r).size=4:=by
  have h:=fun k (hk:k<16)=>(wJ ⟨k,hk⟩).1
  simp only at h;rw [jr,h _ (Nat.mod_lt _ (by omega)),h _ (Nat.mod_lt _ (by omega)),h _ (Nat.mod_lt _ (by omega)),h _ (Nat.mod_lt _ (by omega))];rfl
 clear h;generalize jr qh r=z at*;generalize jr vS r=u at*;go_enter func173,ntmps173;go_wp2_with fail;refine H.mono ?_;rintro ev w1 ⟨rfl,hb⟩;have HB:Hid (Below w.heap.size w w1):=hb;have hbz:=hb.size;clear hb H;go_wp2_with fail;refine(HU.out w1).mono ?_;rintro ev w2 ⟨rfl,hb⟩;have HB2:Hid (Below w.heap.size w w2):=HB.out.trans (hb.mono hbz);clear hb;go_wp2;go_ret;exact⟨rfl,HB2.out⟩
end
structure Ed where
 a:Int
 c:Int
 n:ByteArray
def AQ(w:World)(b off:Nat)(es:List Ed):Prop:=∀i (h:i<es.length),w.cell? ⟨b,off+i*3,none⟩=some (.int .i64 es[i].a)/\w.cell? ⟨b,off+i*3+1,none⟩=some (.int .i64 es[i].c)/\w.cell? ⟨b,off+i*3+2,none⟩=some (.string es[i].n)
theorem AQ.below {w w':World}{b off:Nat}{es:List Ed}(h:AQ w b off es)(hb:Below w.heap.size w w'):AQ w' b off es:=fun i hi=>
 let⟨h1,h2,h3⟩:=h i hi
 ⟨cO hb h1,cO hb h2,cO hb h3⟩
def vH(s:ByteArray)(p:Nat)(e:Ed):Bool:=decide ((p:Int)<=e.a)&&(decide (0<=e.c)&&(decide (e.a<=(s.size:Int))&&decide (e.c<=(s.size:Int) - e.a)))
def jB(es:List Ed):Nat:=(es.map (·.n.size)).sum
theorem ZF(a b:List Ed):jB (a++b)=jB a+jB b:=by simp [jB]
theorem ZH(es:List Ed)(k:Nat):jB (es.take k)<=jB es:=by
 have:jB es=jB (es.take k)+jB (es.drop k):=by rw [<-ZF,List.take_append_drop]
 omega
def kE(s:ByteArray)(x:ByteArray×Nat)(e:Ed):ByteArray×Nat:=if vH s x.2 e=true then(x.1++s.extract x.2 e.a.toNat++e.n,(e.a+e.c).toNat)else x
theorem aiZ {P:Program}{ops:Array Oper}{o:Oper}{a:Act}{w:World}{K:Act->World->Prop}{Q:Exit->Act->World->Prop}{E:Prop}(hgd:o.guard=none)(f:FuncId)(y x:Tmp)(ty:TypeId)
  (ho:o.op= .call {callee:= .value (.tmp y),args:=#[.tmp x],argTypes:=#[ty]}) (hy:a.eval (.tmp y)= .func (.func f) #[] #[]) (hin:∀args w,(callFunc f args).run P w= .ok (.enter f args) w) (v:Value) (hv:a.eval (.tmp x)=v) (R:Value->World->Prop)
  (hc:Calls P f #[v] w fun e w'=>∃u,e= .returned u/\R u w') (h:∀u w',R u w'->K (a.put o.dst u) w'):if Region.wanted o (yielded ops a.tmps)=true then Oper.wp P o a w K Q else E:=by
 have hw:Region.wanted o (yielded ops a.tmps)=true:=by simp [Region.wanted,hgd]
 rw [if_pos hw];have hr:(execOp a.eval o).run P w= .ok (.enter f #[v]) w:=by
  simp only [Act.eval]at hy hv;simp [execOp,ho,resolve,invoke,hin,Act.eval,hy,hv,go_sem]
 unfold Oper.wp;rw [hr,Oper.upon_enter];refine hc.mono ?_;rintro e w' ⟨u,rfl,hR⟩;exact h u w' hR
theorem aie(r:Nat)(h1:256<=r)(h2:r<55296)(w:World):Calls prog 221 #[.int .i32 r] w fun e w'=>e= .returned (.int .i64 (wd r:Nat))/\w'=w:=by
 have a1:¬(r:Int)<0:=by omega
 have a2:¬(r:Int)<=127:=by omega
 have a3:¬(55296:Int)<=r:=by omega
 have a4:(r:Int)<=65535:=by omega
 rw [wd,if_neg (by omega)];by_cases h3:(r:Int)<2048
 .have a5:(r:Int)<=2047:=by omega
  rw [if_pos h3];go_enter func221,ntmps221;go_wp2;go_ret;exact⟨rfl,rfl⟩
 .have a5:¬(r:Int)<=2047:=by omega
  rw [if_neg h3,if_pos (by omega)];go_enter func221,ntmps221;go_wp2;go_ret;exact⟨rfl,rfl⟩
theorem Tryz.MM:(prog.info? 66).map (fun i=>(i.zero,i.size,i.bytes))=some (some (.agg #[.int .i64 0,.int .i64 0,.string ⟨#[]⟩]),3,32):=by kernel_rfl
def Gh(e:Ed):List Value:=[.int .i64 e.a,.int .i64 e.c,.string e.n]
def bS(es:List Ed):List Value:=es.flatMap Gh
theorem K7(a b:List Ed):bS (a++b)=bS a++bS b:=by simp [bS]
def dW(mB:Int->Bool)(wS:Nat->ByteArray):List Int->Nat->List Ed
 |[],_=>[]
 |r::rs,p=>if mB r then⟨p,wd r,wS r.toNat⟩::dW mB wS rs (p+wd r)else dW mB wS rs (p+wd r)
theorem Xk(w:World)(a b c:Value)(e:TypeId):∀j u,[a,b,c][j]? =some u->(w.alloc (.cells #[a,b,c] e)).cell? ((⟨w.heap.size,0,none⟩:Addr).add j)=some u:=by
 intro j u h
 match j,h with
 |0,h=>simp at h;subst h;simp [Addr.add]
 |1,h=>simp at h;subst h;simp [Addr.add]
 |2,h=>simp at h;subst h;simp [Addr.add]
 |j+3,h=>simp at h
theorem Sy(s:ByteArray)(xk xf xt xb xe:Nat)(rs:List Int)(mf wf:Nat)(mB:Int->Bool)(wS:Nat->ByteArray)(w:World)(hb1:xb<=xe)(hb2:xe<=s.size)(hs:s.size<=100000)(hr:dh (s.extract xb xe)=some rs)
  (BI:∀args w,(callFunc mf args).run prog w= .ok (.enter mf args) w) (hwf:∀args w,(callFunc wf args).run prog w= .ok (.enter wf args) w)
  (hm:∀r W,Below w.heap.size w W->Calls prog mf #[.int .i32 r] W fun e w'=>e= .returned (.bool (mB r))/\Below W.heap.size W w')
  (hw:∀(r:Nat) W,mB r=true->Below w.heap.size w W->Calls prog wf #[.int .i32 r] W fun e w'=>e= .returned (.string (wS r))/\Below W.heap.size W w')
  (hB:∀r:Int,mB r=true->256<=r/\r<55296):
  Calls prog 169 #[.string s,.agg #[.int .i64 xk,.int .i64 xf,.int .i64 xt,.int .i64 xb,.int .i64 xe],.func (.func mf) #[] #[],.func (.func wf) #[] #[]] w fun e w'=>∃v,e= .returned v/\w'.ownsRow w.heap.size 66 3 v (dW mB wS rs xb).length (bS (dW mB wS rs xb))/\Below w.heap.size w w':=by
 obtain⟨iE,yJ,hz0,hz1,hz2⟩:=info_parts Tryz.MM;have HM:Hid (∀r W,Below w.heap.size w W->Calls prog mf #[.int .i32 r] W fun e w'=>e= .returned (.bool (mB r))/\Below W.heap.size W w'):=hm;have HW:Hid (∀(r:Nat) W,mB r=true->Below w.heap.size w W->Calls prog wf #[.int .i32 r] W fun e w'=>e= .returned (.string (wS r))/\Below W.heap.size W w'):=hw;have vV:Hid (∀r:Int,mB r=true->256<=r/\r<55296):=hB;have HWf:Hid (∀args w,(callFunc wf args).run prog w= .ok (.enter wf args) w):=hwf;have hzs:(s.extract xb xe).size<=xe - xb:=by rw [ByteArray.size_extract];omega
 have sZ:Hid (RA (s.extract xb xe) 0 rs):=si hr;obtain⟨R,hR⟩:∃R,R=dW mB wS rs xb:=⟨_,rfl⟩
 rw [<-hR];have HR:Hid (dW mB wS rs (xb+0)=R):=hR.symm;clear hm hw hB hr hR hwf;go_enter func169,ntmps169;go_wp2;generalize s.extract xb xe=z at*;have hsz0:(w.alloc (.cells #[.int .i64 xk,.int .i64 xf,.int .i64 xt,.int .i64 xb,.int .i64 xe] 75)).heap.size=w.heap.size+1:=by simp
 go_loopg [9,10,11] z.size (fun gk v _ _ W=>∃(p:Nat)(rt:List Int)(es:List Ed),p<=z.size/\gk=z.size - p/\RA z p rt/\es++dW mB wS rt (xb+p)=R/\es.length<=p/\W.ownsRow w.heap.size 66 3 v es.length (bS es)
  /\W.heap[w.heap.size+1]? =some (.stringIter z p)/\W.heap[w.heap.size]? =some (.cells #[.int .i64 xk,.int .i64 xf,.int .i64 xt,.int .i64 xb,.int .i64 xe] 75 (0,0))/\Below w.heap.size w W)
 case atStart=>
  refine⟨0,rs,[],by omega,rfl,sZ.out,HR.out,by simp,World.ownsRow_nil _ _ _ _,?_,?_,((Below.refl _ _).alloc (Nat.le_refl _) _).alloc (by simp) _⟩
  .have:=World.iter_heap (w.alloc (.cells #[.int .i64 xk,.int .i64 xf,.int .i64 xt,.int .i64 xb,.int .i64 xe] 75)) z 0;rw [hsz0]at this;exact this
  .exact(Below.heap_alloc _ _ _ (by simp)).trans (World.alloc_heap_new _ _)
 case round=>
  obtain⟨p,yZ,es,hp,rfl,hra,hj,hes,hown,hit,hbx,hb⟩:=hrel;obtain⟨ea,ec,rfl⟩:=fH hown;cases yZ with
  |cons r rt=>
   obtain⟨wi,n,hnx,nK,hle,hn,hwd,HI1,HB1,hwi⟩:=MU hra hit hb (by omega);have hown1:wi.ownsRow w.heap.size 66 3 (.slice ea es.length ec) es.length (bS es):=kK hown fun k o hk ho=>by rw [hwi,Lib.iterAt_other];exact ho;rintro rfl;exact own_ne_iter hown hit hk
   have ni:Hid (wi.heap[w.heap.size]? =some (.cells #[.int .i64 xk,.int .i64 xf,.int .i64 xt,.int .i64 xb,.int .i64 xe] 75 (0,0))):=by show _=_;rw [hwi,Lib.iterAt_other _ _ _ _ _ (by omega)];exact hbx
   have xX:Hid (wi.ownsRow w.heap.size 66 3 (.slice ea es.length ec) es.length (bS es)):=hown1;have oD:Hid (RA z (p+n) rt):=nK;rw [dW,hwd]at hj;have rz:=HM.out r wi HB1.out;clear hra nK hit hb hown hown1 hbx hwi;go_wp2_with fail;refine rz.mono ?_;rintro ev w3 ⟨rfl,hb3⟩;have HI3:Hid (w3.heap[w.heap.size+1]? =some (.stringIter z (p+n))):=aR hb3 HI1.out;have HB3:Hid (Below w.heap.size w w3):=HB1.out.trans (hb3.mono HB1.out.size);have eU:Hid (w3.heap[w.heap.size]? =some (.cells #[.int .i64 xk,.int .i64 xf,.int .i64 xt,.int .i64 xb,.int .i64 xe] 75 (0,0))):=aR hb3 ni.out;have pK:Hid (w3.ownsRow w.heap.size 66 3 (.slice ea es.length ec) es.length (bS es)):=qw xX.out hb3;clear hnx hb3 rz HI1 HB1 ni xX;cases hh:mB r
   .rw [hh,if_neg (by simp)]at hj;have HJ:Hid (es++dW mB wS rt (xb+p+n)=R):=hj;clear hj;go_wp2;go_roundg (z.size - (p+n));case measure=>omega
    case rel=>exact⟨p+n,rt,es,hle,rfl,oD.out,by rw [<-Nat.add_assoc];exact HJ.out,by omega,pK.out,HI3.out,eU.out,HB3.out⟩
   .obtain⟨hr1,hr2⟩:=vV.out r hh;obtain⟨rn,rfl⟩:∃k:Nat,r=k:=⟨r.toNat,by omega⟩
    rw [hh,if_pos rfl]at hj;have HJ:Hid ((es++[⟨((xb+p:Nat):Int),(n:Nat),wS rn⟩])++dW mB wS rt (xb+p+n)=R):=by show _=_;rw [<-hj,List.append_assoc];simp
    clear hj;have AY:Hid (∀args w,(callFunc 221 args).run prog w= .ok (.enter 221 args) w):=iB func221 (by kernel_rfl) (by kernel_rfl);have uP:Hid (Calls prog 221 #[.int .i32 rn] w3.drew fun e w'=>∃u,e= .returned u/\(u= .int .i64 (n:Nat)/\w'=w3.drew)):=(aie rn (by omega) (by omega) _).mono (fun e w' h=>⟨_,h.1,by rw [hwd],h.2⟩);have oz:Hid (Calls prog wf #[.int .i32 rn] w3.drew fun e w'=>∃u,e= .returned u/\(u= .string (wS rn)/\Below w3.drew.heap.size w3.drew w')):=(HW.out rn w3.drew hh HB3.out.drew).mono (fun e w' h=>⟨_,h.1,rfl,h.2⟩);have c3:w3.cell? ⟨w.heap.size,3,none⟩=some (.int .i64 xb):=au eU.out 3;have aef:=HB3.out.size;have hwr:=wrap_small ((xb:Int)+(p:Int)) (by omega) (by omega);have iZ:Hid (es.length<=1000000):=by show _<=_;omega
    clear hwd hh;go_wp2_with fail
    go_region_law (first
     |(refine Zx (by rfl) 221 _ 21 (by rfl) AY.out (.int .i32 rn) (by rfl) (fun u w'=>u= .int .i64 (n:Nat)/\w'=w3.drew) uP.out ?_;rintro u w6 ⟨rfl,h6⟩;subst h6)
     |(refine aiZ (by rfl) wf _ _ 21 (by rfl) (by rfl) HWf.out (.int .i32 rn) (by rfl) (fun u w'=>u= .string (wS rn)/\Below w3.drew.heap.size w3.drew w') oz.out ?_;rintro u w7 ⟨rfl,jv⟩;have fe:Hid (Below w.heap.size w w7):=HB3.out.drew.trans (jv.mono aef);have JY:Hid (w7.heap[w.heap.size]? =some (.cells #[.int .i64 xk,.int .i64 xf,.int .i64 xt,.int .i64 xb,.int .i64 xe] 75 (0,0))):=aR jv eU.out;have Jp:Hid (w7.heap[w.heap.size+1]? =some (.stringIter z (p+n))):=aR jv HI3.out;have GN:w7.ownsRow w.heap.size 66 3 (.slice ea es.length ec) es.length (bS es):=qw (w:=w3.drew) pK.out jv;have t3:w7.cell? ⟨w.heap.size,3,none⟩=some (.int .i64 xb):=au JY.out 3;have Mc:=fe.out.size;clear jv oz)
     |(refine Fe (by rfl) _ _ 37 (by rfl) w.heap.size 66 iE (.agg #[.int .i64 0,.int .i64 0,.string ⟨#[]⟩]) 3 32 underlying37 yJ hz0 hz1 hz2 rfl (by decide) (by decide) (.slice ea es.length ec) es.length (bS es) (by rfl) (World.ownsRow.alloc GN (.cells #[.int .i64 ((xb:Int)+(p:Int)),.int .i64 (n:Nat),.string (wS rn)] 66)) w7.heap.size [.int .i64 ((xb:Int)+(p:Int)),.int .i64 (n:Nat),.string (wS rn)] (by rfl) (by rfl) (Xk w7 _ _ _ _) (by intro u hu;simp at hu;rcases hu with rfl|rfl|rfl<;>rfl) iZ.out (by simp;omega) ?_;intro v8 w8 BJ jg _;have gX:Hid (Below w.heap.size w w8):=(fe.out.alloc Mc _).grown jg (by simp;omega) (fun x hx=>(GN.lt x hx).1);have HX8:Hid (w8.heap[w.heap.size]? =some (.cells #[.int .i64 xk,.int .i64 xf,.int .i64 xt,.int .i64 xb,.int .i64 xe] 75 (0,0))):=by{show _=_;rw [jg.block w.heap.size (by simp;omega) (Ne.symm (iF GN JY.out (by decide)))];exact aR ((Below.refl w7.heap.size w7).alloc (Nat.le_refl _) _) JY.out};have HI8:Hid (w8.heap[w.heap.size+1]? =some (.stringIter z (p+n))):=by{show _=_;rw [jg.block (w.heap.size+1) (by have:=bJ Jp.out;simp;omega) (Ne.symm (own_ne_iter GN Jp.out))];exact aR ((Below.refl w7.heap.size w7).alloc (Nat.le_refl _) _) Jp.out};have HO8:Hid (w8.ownsRow w.heap.size 66 3 v8 (es.length+1) (bS es++[.int .i64 ((xb:Int)+(p:Int)),.int .i64 (n:Nat),.string (wS rn)])):=BJ;clear BJ jg))
    all_goals
     go_wp2;go_roundg (z.size - (p+n));case measure=>omega
     case rel=>exact⟨p+n,rt,_,hle,rfl,oD.out,by rw [<-Nat.add_assoc];exact HJ.out,by simp;omega,by rw [K7,List.length_append];exact HO8.out,HI8.out,HX8.out,gX.out⟩
  |nil=>
   have HB:Hid (Below w.heap.size w wr):=hb;have HO:Hid (wr.ownsRow w.heap.size 66 3 (.slice ea es.length ec) es.length (bS es)):=hown;have HJ:Hid (es=R):=by show _=_;rw [<-hj];simp [dW]
   have hnx:∀ty,(Instr.next (.pointer (some ⟨w.heap.size+1,0,none⟩)) true ty).run prog wr= .ok (.tuple #[.bool false]) wr:=fun ty=>Lib.run_next_end_at wr (w.heap.size+1) z p ty hit (by have:p=z.size:=hra;omega)
   clear hb hj hit hra hown hbx;go_wp2;go_ret;exact⟨_,rfl,by rw [<-HJ.out];exact HO.out,HB.out⟩
theorem ah6 {P:Program}(w:World)(B B':Nat)(t ty e:TypeId)(i:TypeInfo)(z:Value)(size bytes:Nat)(ht:P.underlying t=some (.slice e))(hi:P.info? e=some i)(hz:i.zero=some z)
  (hsize:i.size=size) (hby:i.bytes=bytes) (hzs:z.cells.size=size) (hsz:0<size) (v u:Value) (n m:Nat) (xs ys:List Value) (hv:w.ownsRow B e size v n xs) (hu:w.ownsRow B' e size u m ys)
  (h1:∀y∈ys,y.oneCell'=true) (h63:n+m<=maxLen) (hbytes:(n+m)*bytes<=140737488355328) (hbase:B<=w.heap.size):
  ∃v' w',(Builtin.append_ #[t,t] ty #[v,u]).run P w= .ok v' w'/\w'.ownsRow B e size v' (n+m) (xs++ys)/\w.grownBy w' v.ownBlock/\(v'.ownBlock=v.ownBlock∨v'.ownBlock=some w.heap.size):=by
 rcases hu.2 with⟨rfl,rfl⟩|⟨g,cap,cur,rfl,hbg,hg,hnc,hcm,hcs,htake⟩
 .have hy:ys=[]:=List.eq_nil_of_length_eq_zero (by simpa using hu.1);subst hy;refine⟨v,w,?_,by simpa using hv,World.grownBy.refl _ _,.inl rfl⟩;rcases hv.2 with⟨rfl,rfl⟩|⟨g,cap,cur,rfl,hbg,hg,hnc,hcm,hcs,htake⟩
  .simp [Builtin.append_,run_underlying ht,sizeOf,typeInfo,hi,Builtin.lenOf,Builtin.firstCells]
  .simp [Builtin.append_,run_underlying ht,sizeOf,typeInfo,hi,Builtin.lenOf,Builtin.firstCells,loadCells,hnc];rfl
 .obtain⟨v',w',h2,h3,h4,_,h6⟩:=run_append_own_at (P:=P) w B t ty e i z size bytes ht hi hz hsize hby hzs hsz v n xs hv ⟨g,0,none⟩ m cap ys hu.1 (hu.cells (g:=g) rfl) h1 h63 hbytes hbase;exact⟨v',w',h2,h3,h4,h6⟩
theorem aao {P:Program}(w:World){ops:Array Oper}{rest:List Oper}{o:Oper}{a:Act}{Q:Exit->Act->World->Prop}(hgd:o.guard=none)(s x:Operand)(t:TypeId)
  (ho:o.op= .call {callee:= .builtin .append,args:=#[s,x],argTypes:=#[t,t]})
  (B B':Nat) (e:TypeId) (i:TypeInfo) (z:Value) (size bytes:Nat) (ht:P.underlying t=some (.slice e)) (hi:P.info? e=some i) (hz:i.zero=some z)
  (hsize:i.size=size) (hby:i.bytes=bytes) (hzs:z.cells.size=size) (hsz:0<size) (wU:bytes<=64) (v u:Value) (n m:Nat) (xs ys:List Value) (hs:a.eval s=v) (hx:a.eval x=u) (hv:w.ownsRow B e size v n xs) (hu:w.ownsRow B' e size u m ys)
  (h1:∀y∈ys,y.oneCell'=true) (hn:n<=1000000) (hm:m<=1000000) (hbase:B<=w.heap.size)
  (h:∀v' w',w'.ownsRow B e size v' (n+m) (xs++ys)->w.grownBy w' v.ownBlock->(v'.ownBlock=v.ownBlock∨v'.ownBlock=some w.heap.size)->wpList P ops Q rest (a.put o.dst v') w'):wpList P ops Q (o::rest) a w:=by
 refine wpList_plain hgd fun K hK=> ?_
 have hbytes:(n+m)*bytes<=140737488355328:=by
  have:(n+m)*bytes<=2000000*64:=Nat.mul_le_mul (by omega) wU;omega
 obtain⟨v',w',hr,h2,h3,h5⟩:=ah6 (P:=P) w B B' t o.type e i z size bytes ht hi hz hsize hby hzs hsz v u n m xs ys hv hu h1 (by unfold maxLen;omega) hbytes hbase;unfold Oper.wp execOp;simp only [ho,resolve,invoke,builtin,Sem.run_bind,Sem.run_pure,Result.andThen_ok,List.map_toArray,List.map_cons,List.map_nil,hs,hx,hr];exact hK _ _ (h v' w' h2 h3 h5)
theorem XX(w:World)(B:Nat)(e:TypeId)(a b c:Value)(hB:B<=w.heap.size):(w.alloc (.cells #[a,b,c] e)).ownsRow B e 3 (.slice (some ⟨w.heap.size,0,none⟩) 1 1) 1 [a,b,c]:=
 ⟨rfl,.inr ⟨w.heap.size,1,#[a,b,c],rfl,hB,World.alloc_heap_new _ _,Nat.le_refl _,by decide,rfl,rfl⟩⟩
theorem Bq(r:Int)(h:cls r=1∨cls r=2∨cls r=6∨13<=cls r):256<=r/\r<55296:=by
 unfold cls at h
 repeat' split at h
 all_goals omega
theorem L6(r:Int)(h:bI r=true):256<=r/\r<55296:=by
 unfold bI at h;simp only [Bool.or_eq_true,beq_iff_eq,decide_eq_true_eq]at h;rcases h with(((h|h)|h)|h)|h
 .exact Bq r (by omega)
 .exact Bq r (by omega)
 .exact Bq r (by omega)
 .exact Bq r (by omega)
 .omega
theorem EG {w:World}{B B':Nat}{e:TypeId}{z n:Nat}{v:Value}{xs:List Value}(h:w.ownsRow B' e z v n xs)(hB:B<=B'):w.ownsRow B e z v n xs:=by
 refine⟨h.1,?_⟩;rcases h.2 with h|⟨g,cap,cur,h1,h2,h3⟩
 .exact .inl h
 .exact .inr ⟨g,cap,cur,h1,Nat.le_trans hB h2,h3⟩
def pX(r:Nat):ByteArray:=⟨#[92,117]⟩++jr qh r
def nZ(r:Nat):ByteArray:=⟨#[60,85,43]⟩++jr vS r++⟨#[62]⟩
def jC(r:Int):Bool:=fO (cls r)
theorem O4(r:Int)(h:jC r=true):256<=r/\r<55296:=by
 unfold jC fO at h;simp only [Bool.and_eq_true,decide_eq_true_eq]at h;exact Bq r (by omega)
def lg(s:ByteArray)(x:PR):List Ed:=
 if x.kind=1 then dW bI pX (o9 s x.body x.end_) x.body
 else if x.kind=2/\oU (o9 s x.body x.end_) x.body≠ -1 then [⟨x.body,0,⟨#[226,129,168]⟩⟩]++dW jC nZ (o9 s x.body x.end_) x.body++[⟨x.end_,0,⟨#[226,129,169]⟩⟩]
 else []
theorem FN(mB:Int->Bool)(wS:Nat->ByteArray):∀(rs:List Int)(p:Nat),(dW mB wS rs p).length<=rs.length
 |[],_=>Nat.le_refl _
 |r::rs,p=>by
  have:=FN mB wS rs (p+wd r);unfold dW;split<;>simp<;>omega
theorem SL(es:List Ed):∀y∈bS es,y.oneCell'=true:=by
 intro y hy;unfold bS at hy;obtain⟨e,_,he⟩:=List.mem_flatMap.1 hy;simp only [Gh,List.mem_cons,List.not_mem_nil,or_false]at he;rcases he with rfl|rfl|rfl<;>rfl
theorem acJ(s:ByteArray)(x:PR)(w:World)(hs:s.size<=100000)(hE:Sp w)(hT:ny w)(hx:rG s x):
  Calls prog 103 #[.string s,om x] w fun e w'=>∃v,e= .returned v/\w'.ownsRow w.heap.size 66 3 v (lg s x).length (bS (lg s x))/\Below w.heap.size w w':=by
 obtain⟨iE,yJ,hz0,hz1,hz2⟩:=info_parts Tryz.MM;obtain⟨xl,xk,xf,xt,xb,xe⟩:=x;obtain⟨ft,tl,⟨rs,hrs⟩,be⟩:=hx;simp only at ft tl hrs be;unfold om lg o9;simp only;obtain⟨W0,hW0⟩:∃W,W=w.alloc (.cells #[.int .i64 xk,.int .i64 xf,.int .i64 xt,.int .i64 xb,.int .i64 xe] 75):=⟨_,rfl⟩
 have HB0:Hid (Below w.heap.size w W0):=by show Below _ _ _;rw [hW0];exact(Below.refl _ _).alloc (Nat.le_refl _) _
 have hz:w.heap.size<=W0.heap.size:=HB0.out.size;have hm1:∀r W,Below W0.heap.size W0 W->Calls prog 170 #[.int .i32 r] W fun e w'=>e= .returned (.bool (bI r))/\Below W.heap.size W w':=fun r W hW=>MO r W (hE.below (HB0.out.trans (hW.mono hz)))
 have hw1:∀(r:Nat) W,bI r=true->Below W0.heap.size W0 W->Calls prog 171 #[.int .i32 r] W fun e w'=>e= .returned (.string (pX r))/\Below W.heap.size W w':=fun r W h hW=>ac3 r (by have:=L6 r h;omega) (by have:=L6 r h;omega) W (cO (HB0.out.trans (hW.mono hz)) hT)
 have hm2:∀r W,Below W0.heap.size W0 W->Calls prog 172 #[.int .i32 r] W fun e w'=>e= .returned (.bool (jC r))/\Below W.heap.size W w':=fun r W hW=>MQ r W (hE.below (HB0.out.trans (hW.mono hz)))
 have hw2:∀(r:Nat) W,jC r=true->Below W0.heap.size W0 W->Calls prog 173 #[.int .i32 r] W fun e w'=>e= .returned (.string (nZ r))/\Below W.heap.size W w':=fun r W h hW=>agb r (by have:=O4 r h;omega) (by have:=O4 r h;omega) W (cO (HB0.out.trans (hW.mono hz)) hT)
 by_cases h1:xk=1
 .subst h1;obtain⟨b1,b2,⟨rb,hrb⟩⟩:=be (by omega);rw [if_pos rfl,hrb];simp only [Option.getD_some];have HC:=Sy s 1 xf xt xb xe rb 170 171 bI pX W0 b1 b2 hs hrb (iB func170 (by kernel_rfl) (by kernel_rfl)) (iB func171 (by kernel_rfl) (by kernel_rfl)) hm1 hw1 L6;generalize dW bI pX rb xb=R at*;rw [hW0]at HC;clear hm1 hw1 hm2 hw2 hrs be hE hT hrb;go_enter func103,ntmps103;go_wp2_with fail;refine HC.mono ?_;rintro ev w1 ⟨v,rfl,ho,hb⟩;rw [<-hW0]at ho hb;have HO:Hid (w1.ownsRow w.heap.size 66 3 v R.length (bS R)):=EG ho hz;have HB:Hid (Below w.heap.size w w1):=HB0.out.trans (hb.mono hz);clear ho hb HC;go_wp2;go_ret;exact⟨_,rfl,HO.out,HB.out⟩
 have hk1:((xk:Int)==1)=false:=by simp;omega
 rw [if_neg h1];by_cases h2:xk=2
 .subst h2;obtain⟨b1,b2,⟨rb,hrb⟩⟩:=be (by omega);rw [hrb];simp only [Option.getD_some,true_and];have HF:=TE s xb xe rb W0 b1 b2 hs hrb (hE.below HB0.out);have hrl:rb.length<=100000:=by
   have:=EO (si hrb);rw [ByteArray.size_extract]at this;omega
  have HR:Hid ((dW jC nZ rb xb).length<=100000):=Nat.le_trans (FN _ _ _ _) hrl;have HX0:Hid (W0.heap[w.heap.size]? =some (.cells #[.int .i64 (2:Nat),.int .i64 xf,.int .i64 xt,.int .i64 xb,.int .i64 xe] 75 (0,0))):=by show _=_;rw [hW0];exact World.alloc_heap_new _ _
  generalize oU rb xb=q at*;cases hq:q== -1
  .have hq':q≠ -1:=by simpa using hq
   rw [if_pos hq'];have HC:Hid (∀W,Below W0.heap.size W0 W->Calls prog 169 #[.string s,.agg #[.int .i64 (2:Nat),.int .i64 xf,.int .i64 xt,.int .i64 xb,.int .i64 xe],.func (.func 172) #[] #[],.func (.func 173) #[] #[]] W fun e w'=>∃v,e= .returned v/\w'.ownsRow W.heap.size 66 3 v (dW jC nZ rb xb).length (bS (dW jC nZ rb xb))/\Below W.heap.size W w'):=fun W hW=>
    Sy s 2 xf xt xb xe rb 172 173 jC nZ W b1 b2 hs hrb (iB func172 (by kernel_rfl) (by kernel_rfl)) (iB func173 (by kernel_rfl) (by kernel_rfl)) (fun r V hV=>hm2 r V (hW.trans (hV.mono hW.size))) (fun r V h hV=>hw2 r V h (hW.trans (hV.mono hW.size))) O4
   generalize dW jC nZ rb xb=R at*;rw [hW0]at HF;clear hm1 hw1 hm2 hw2 hrs be hE hT hrb hq' hrl;go_enter func103,ntmps103;go_wp2_with fail;refine HF.mono ?_;rintro ev w1 ⟨rfl,hb⟩;rw [<-hW0]at hb;have HB1:Hid (Below W0.heap.size W0 w1):=hb;have ni:Hid (w1.heap[w.heap.size]? =some (.cells #[.int .i64 (2:Nat),.int .i64 xf,.int .i64 xt,.int .i64 xb,.int .i64 xe] 75 (0,0))):=aR hb HX0.out;have hx1:=bJ ni.out;have c0:=au ni.out 0;have c1:=au ni.out 1;have c2:=au ni.out 2;have c3:=au ni.out 3;have c4:=au ni.out 4;have VG:=hb.size;clear hb HF;go_wp2_with fail;refine(HC.out _ (HB1.out.alloc VG _)).mono ?_;rintro ev w3 ⟨v,rfl,ho,hb3⟩;have hO3:w3.ownsRow w.heap.size 66 3 (.slice (some ⟨w1.heap.size,0,none⟩) 1 1) 1 (bS [⟨xb,0,⟨#[226,129,168]⟩⟩]):=qw (XX w1 w.heap.size 66 _ _ _ (by omega)) hb3;have eU:Hid (w3.heap[w.heap.size]? =some (.cells #[.int .i64 (2:Nat),.int .i64 xf,.int .i64 xt,.int .i64 xb,.int .i64 xe] 75 (0,0))):=aR hb3 (aR ((Below.refl w1.heap.size w1).alloc (Nat.le_refl _) _) ni.out);have HB3:Hid (Below w.heap.size w w3):=HB0.out.trans ((HB1.out.trans (((Below.refl w1.heap.size w1).alloc (Nat.le_refl _) (.cells #[.int .i64 xb,.int .i64 0,.string ⟨#[226,129,168]⟩] 66)).mono VG|>.trans (hb3.mono (by simp;omega)))).mono hz);have hz3:=HB3.out.size;clear hb3 HC c0 c1 c2 c3 c4;go_wp2_with(at_builtin;refine aao _ rfl _ _ 37 rfl w.heap.size _ 66 iE (.agg #[.int .i64 0,.int .i64 0,.string ⟨#[]⟩]) 3 32 underlying37 yJ hz0 hz1 hz2 rfl (by decide) (by decide) _ _ _ _ _ _ rfl rfl hO3 ho (SL _) (by omega) (Nat.le_trans HR.out (by omega)) hz3 ?_);intro v5 w5 nI hg5 _;have QL:Hid (w5.heap[w.heap.size]? =some (.cells #[.int .i64 (2:Nat),.int .i64 xf,.int .i64 xt,.int .i64 xb,.int .i64 xe] 75 (0,0))):=by show _=_;rw [hg5.block w.heap.size (bJ eU.out) (Ne.symm (iF hO3 eU.out (by decide)))];exact eU.out
   have bW:Hid (Below w.heap.size w w5):=HB3.out.grown hg5 hz3 (fun x hx=>(hO3.lt x hx).1);have hx5:=bJ QL.out;have iR:=bW.out.size;have c4:=au QL.out 4;rw [<-K7]at nI;have hRz:=HR.out;clear hO3 ho hg5 HR;go_wp2_with(at_builtin;refine aao _ rfl _ _ 37 rfl w.heap.size w.heap.size 66 iE (.agg #[.int .i64 0,.int .i64 0,.string ⟨#[]⟩]) 3 32 underlying37 yJ hz0 hz1 hz2 rfl (by decide) (by decide) _ _ _ _ _ _ rfl rfl (World.ownsRow.alloc nI _) (XX w5 w.heap.size 66 _ _ _ iR) (SL [⟨xe,0,⟨#[226,129,169]⟩⟩]) (by omega) (by omega) (by simp;omega) ?_);intro v6 w6 tZ jI _;have CY:Hid (w6.ownsRow w.heap.size 66 3 v6 (1+R.length+1) (bS ([⟨xb,0,⟨#[226,129,168]⟩⟩]++R)++bS [⟨xe,0,⟨#[226,129,169]⟩⟩])):=tZ;have bO:Hid (Below w.heap.size w w6):=(bW.out.alloc iR _).grown jI (by simp;omega) (fun x hx=>(nI.lt x hx).1);clear tZ jI nI;go_wp2;go_ret;refine⟨_,rfl,?_,bO.out⟩;have h:=CY.out;rw [<-K7,show 1+R.length+1=(R++[(⟨xe,0,⟨#[226,129,169]⟩⟩:Ed)]).length+1 by simp;omega]at h;exact h
  .have hq':¬q≠ -1:=by simpa using hq
   rw [if_neg hq'];rw [hW0]at HF;clear hm1 hw1 hm2 hw2 hrs be hE hT hrb hq';go_enter func103,ntmps103;go_wp2_with fail;refine HF.mono ?_;rintro ev w1 ⟨rfl,hb⟩;rw [<-hW0]at hb;have HB:Hid (Below w.heap.size w w1):=HB0.out.trans (hb.mono hz);clear hb HF;go_wp2;go_ret;exact⟨_,rfl,World.ownsRow_nil _ _ _ _,HB.out⟩
 .have hk2:((xk:Int)==2)=false:=by simp;omega
  rw [if_neg (fun h=>h2 h.1)];have HB:Hid (Below w.heap.size w (w.alloc (.cells #[.int .i64 xk,.int .i64 xf,.int .i64 xt,.int .i64 xb,.int .i64 xe] 75))):=hW0▸HB0.out;clear hm1 hw1 hm2 hw2 hrs be hE hT h1 h2 hW0 HB0;go_enter func103,ntmps103;go_wp2;go_ret;exact⟨_,rfl,World.ownsRow_nil _ _ _ _,HB.out⟩
