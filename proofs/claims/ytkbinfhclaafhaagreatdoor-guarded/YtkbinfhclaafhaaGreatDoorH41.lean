import Derived.Test.YtkbinfhclaafhaaGreatDoorH40
import Derived.Test.YtkbinfhclaafhaaGreatDoorRows
import Derived.Test.YtkbinfhclaafhaaGreatDoorShelfC
import Derived.Lib.LaidCaseMet
import Derived.PinnedBridge
import Derived.LaidHandle
import Derived.Lib.LaidIn
import Derived.Lib.LaidU8T
import Derived.LaidLaws
import Derived.Deep.DeepLaidRun
import Derived.Test.YtkbinfhclaafhaaGreatDoorH21
import Derived.Test.YtkbinfhclaafhaaGreatDoorCards
import Derived.LaidByTextLater
import Derived.SevenTiedAt
import Derived.LaidOnce
import Derived.ProofKit
import Derived.OpenShut
import Derived.LaidMore
import Derived.LaidSub
import Derived.Lib.SmallJoins
import Derived.Deep.Slices
import Derived.Deep.Strs
import Derived.Stop.Joined
import Derived.SizedLaws
import Derived.Test.YtkbinfhclaafhaaGreatDoorH11
import Derived.Lib.LaidU8
import Derived.Test.YtkbinfhclaafhaaGreatDoorH24
import Derived.Test.YtkbinfhclaafhaaGreatDoorH30
import Derived.HandedShaped
import Derived.Shelf.Vars
import Derived.Test.YtkbinfhclaafhaaGreatDoorH32
namespace Go.Proofs.YtkbinfhclaafhaaGreatDoor
open Go.RowKit
open Go.Proofs.Tryz
set_option maxRecDepth 100000
set_option maxHeartbeats 32000000
section
open Go.ChangeShapes Go.WideShapes Go.ChangeAt Go.RowKit Go.Deep Go.Lib
def Em(w:World):World:={w with heap:=w.heap.modify 5 fun
 | .cells _ t fr=> .cells ((Lib.firstTab.map fun z=>Value.int .u8 z).toArray) t fr
 |o=>o}
def Ht(w:World):World:={w with heap:=(w.heap.push (.cells Lib.caseCells5 351 (0,0))).modify 12 fun
 | .cells _ t fr=> .cells #[.slice (some ⟨w.heap.size,0,none⟩) 336 336] t fr
 |o=>o}
theorem J7 {P:Program}{w:World}:∀{l l':List (String×DataW Unit)}{ps:List MemPlace},DataW.LaidVars P w (l++l') ps->∃p q,DataW.LaidVars P w l p/\DataW.LaidVars P w l' q/\ps=p++q
 |[],_,ps,h=>⟨[],ps,rfl,h,rfl⟩
 |(n,d)::r,l',ps,h=>by
  obtain⟨g,t,cs,fuel,p,q,h1,h2,h3,h4,h5,rfl⟩:=h;obtain⟨p',q',h6,h7,rfl⟩:=J7 h5;exact⟨_,q',⟨g,t,cs,fuel,p,p',h1,h2,h3,h4,h6,rfl⟩,h7,by simp [List.append_assoc]⟩
theorem afh {P:Program}{w:World}{a b c:List (String×DataW Unit)}(h:laidMet P (a++b++c) w):laidMet P (a++c++b) w:=by
 obtain⟨ps,hV,hn,hc⟩:=h;obtain⟨pab,pc,h1,h2,rfl⟩:=J7 hV;obtain⟨pa,pb,h3,h4,rfl⟩:=J7 h1;have hp:(pa++pb++pc).Perm (pa++pc++pb):=by
  rw [List.append_assoc,List.append_assoc];exact List.Perm.append_left pa List.perm_append_comm
 exact⟨pa++pc++pb,LaidVars_append (LaidVars_append h3 h2) h4,hp.nodup_iff.1 hn,fun b off hm=>hc b off (hp.mem_iff.2 hm)⟩
def EE:List (String×DataW Unit):=Rows.classesRow.laid.filter fun x=>x.2.handleName?.isNone
theorem agR:EE=EE.take 12++[("unicode.CaseRanges",Lib.caseData)]++EE.drop 13:=by
 rw [<-Pinned.caseRanges_eq];rfl
theorem ajM(os:Os)(args:Array Value):laidMet prog (EE.take 12++EE.drop 13++[("unicode.CaseRanges",Lib.caseData)]) ((Ht (Em (World.doorLaid prog 200 os))).forCall (fun _ _=>0) ⟨#[],args,[]⟩).memory:=
 laidMet_with_case (ρ:=Tryz.lays203_ren) {Tryz.lays203 with} Tryz.lays203.t206 ⟨by kernel_rfl,by kernel_rfl,by kernel_rfl,by kernel_rfl,by kernel_rfl,by kernel_rfl⟩
  8 (by kernel_rfl) (by kernel_rfl) (by kernel_rfl) (Em (World.doorLaid prog 200 default)).heap.size 351 (of_decide_eq_true (by kernel_rfl)) (by kernel_rfl) (by kernel_rfl) (by kernel_rfl)
theorem ajN(os:Os)(args:Array Value):laidMetH prog Rows.classesRow.laid ((Ht (Em (World.doorLaid prog 200 os))).forCall (fun _ _=>0) ⟨#[],args,[]⟩).memory:=
 laidMetH_of_parts3 (fuel:=8) (by
  have:=afh (ajM os args);rw [<-agR]at this;exact this) (by kernel_rfl) (by kernel_rfl)
end
section
open Go.ChangeShapes Go.WideShapes Go.ChangeAt Go.RowKit Go.Deep Go.Lib
theorem adw:prog.globalNamed "bidiguard/guard.ErrLong" =some 0:=by kernel_rfl
theorem adx:prog.globalNamed "bidiguard/guard.ErrText" =some 1:=by kernel_rfl
theorem adv:prog.globalNamed "bidiguard/guard.ErrCode" =some 2:=by kernel_rfl
theorem aja:(prog.globals[0]?).map (·.type)=some 53:=by kernel_rfl
theorem ajc:(prog.globals[1]?).map (·.type)=some 53:=by kernel_rfl
theorem ai9:(prog.globals[2]?).map (·.type)=some 53:=by kernel_rfl
theorem KG:prog.cellsOf 372=1:=by kernel_rfl
theorem star: "*" ++ "errors.errorString" = "*errors.errorString" :=by decide
theorem Ot(u:TypeId)(h:prog.typeName? 3 u=some "*errors.errorString"):u=354:=
 typeName_ptr_named (nm:= "errors.errorString") (by rw [star];kernel_rfl) (by kernel_rfl) (by decide) u (by rw [star];exact h)
def Tj:List (String×DataW Unit):=[("bidiguard/guard.ErrLong",Rows.laid_bidiguard_guard_ErrLong),("bidiguard/guard.ErrText",Rows.laid_bidiguard_guard_ErrText),("bidiguard/guard.ErrCode",Rows.laid_bidiguard_guard_ErrCode)]
theorem agz {W:World}(h:laidMet prog Tj W):
  ∃(a0 a1 a2:Addr)(c0 c1 c2:Array Value)(t0 t1 t2:TypeId),
   W.cell? ⟨0,0,none⟩=some (.iface 354 (.pointer (some a0)))/\W.cell? ⟨1,0,none⟩=some (.iface 354 (.pointer (some a1)))/\W.cell? ⟨2,0,none⟩=some (.iface 354 (.pointer (some a2)))/\
   a0≠a1/\a1≠a2/\a0≠a2/\
   W.heap[a0.block]? =some (.cells c0 t0 (0,0))/\W.heap[a1.block]? =some (.cells c1 t1 (0,0))/\W.heap[a2.block]? =some (.cells c2 t2 (0,0)):=by
 obtain⟨ps,⟨g0,t0,cs0,f0,p0,q0,hg0,ht0,hv0,hd0,⟨g1,t1,cs1,f1,p1,q1,hg1,ht1,hv1,hd1,⟨g2,t2,cs2,f2,p2,q2,hg2,ht2,hv2,hd2,hq2,e2⟩,e1⟩,e0⟩,hnd,hrows⟩:=h;obtain rfl:=Option.some.inj (adw.symm.trans hg0);obtain rfl:=Option.some.inj (adx.symm.trans hg1);obtain rfl:=Option.some.inj (adv.symm.trans hg2);obtain rfl:=Option.some.inj (aja.symm.trans ht0);obtain rfl:=Option.some.inj (ajc.symm.trans ht1);obtain rfl:=Option.some.inj (ai9.symm.trans ht2);have aex:q2=[]:=hq2;subst aex;subst e2;subst e1;subst e0;obtain⟨l0⟩:=cs0;obtain⟨l1⟩:=cs1;obtain⟨l2⟩:=cs2;have ok0:∀u v,l0=[.iface u v]->Value.okWide prog W .any 0 u v:=fun u v e=>by
  subst e;exact(hrows 0 0 (by simp [MemPlace.row])).2 u v (by simpa using World.var?_cell hg0 hv0 0)
 have ok1:∀u v,l1=[.iface u v]->Value.okWide prog W .any 0 u v:=fun u v e=>by
  subst e;exact(hrows 1 0 (by simp [MemPlace.row])).2 u v (by simpa using World.var?_cell hg1 hv1 0)
 have ok2:∀u v,l2=[.iface u v]->Value.okWide prog W .any 0 u v:=fun u v e=>by
  subst e;exact(hrows 2 0 (by simp [MemPlace.row])).2 u v (by simpa using World.var?_cell hg2 hv2 0)
 obtain⟨a0,s0,rfl,hc0,hs0,hz0,rfl⟩:=errorString_of_trod underlying53 Ot underlying354 underlying372 rfl rfl underlying9 KG FU hd0 ok0;obtain⟨a1,s1,rfl,hc1,hs1,hz1,rfl⟩:=errorString_of_trod underlying53 Ot underlying354 underlying372 rfl rfl underlying9 KG FU hd1 ok1;obtain⟨a2,s2,rfl,hc2,hs2,hz2,rfl⟩:=errorString_of_trod underlying53 Ot underlying354 underlying372 rfl rfl underlying9 KG FU hd2 ok2;obtain⟨c0,t0,hb0⟩:=(hrows a0.block a0.off (by simp [MemPlace.row])).1;obtain⟨c1,t1,hb1⟩:=(hrows a1.block a1.off (by simp [MemPlace.row])).1;obtain⟨c2,t2,hb2⟩:=(hrows a2.block a2.off (by simp [MemPlace.row])).1;refine⟨a0,a1,a2,c0,c1,c2,t0,t1,t2,by simpa using World.var?_cell hg0 hv0 0,by simpa using World.var?_cell hg1 hv1 0,by simpa using World.var?_cell hg2 hv2 0,?_,?_,?_,hb0,hb1,hb2⟩
 .rintro rfl;simp [MemPlace.row]at hnd
 .rintro rfl;simp [MemPlace.row]at hnd
 .rintro rfl;simp [MemPlace.row]at hnd
theorem TP:prog.globalNamed "bidiguard/bidi.spans" =some 4:=by kernel_rfl
theorem ajb:(prog.globals[4]?).map (·.type)=some 176:=by kernel_rfl
theorem RJ:prog.cellsOf 175=3:=by kernel_rfl
theorem FT:prog.cellsOf 21=1:=by kernel_rfl
theorem abL:prog.cellsOf 108=1:=by kernel_rfl
theorem abO:prog.cellsOf 176=108:=by kernel_rfl
def Fa {H:Type}(x:Int×Int×Int):DataW H:= .agg [.lit (.int .i32 x.1),.lit (.int .i32 x.2.1),.lit (.int .i64 x.2.2)]
theorem aiR:Rows.laid_bidiguard_bidi_spans (H:=Unit)= .agg (dR.map Fa):=by kernel_rfl
def E9(x:Int×Int×Int):List Value:=[.int .i32 x.1,.int .i32 x.2.1,.int .i64 x.2.2]
theorem aiQ:(dR.flatMap E9).toArray=qz:=by kernel_rfl
theorem aiP {H:Type}{enc:TypeId×Value->H}{w:World}{base:Nat}{sp:Nat->Bool}{held:Bool}{fuel:Nat}{cs:List Value}{x:Int×Int×Int}{p:List MemPlace}
  (h:DataW.trod enc prog w base sp held fuel 175 cs=some (Fa x,p)):cs=E9 x:=by
 obtain⟨y0,y1,y2,n,hx,hl,h0,h1,h2⟩:=trod_struct3 underlying175 h;rw [RJ]at hl
 match cs,hl with
 |[c0,c1,c2],_=>
  obtain⟨a,e0,rfl,_⟩:=DataW.trod_int underlying21 (by simpa [FT]using h0);obtain⟨b,e1,rfl,_⟩:=DataW.trod_int underlying21 (by simpa [FT]using h1);obtain⟨c,e2,rfl,_⟩:=DataW.trod_int underlying108 (by simpa [abL]using h2);simp [Fa]at hx e0 e1 e2;obtain⟨⟨r0,r1,r2⟩,_⟩:=hx;subst e0 e1 e2;simp [E9,r0,r1,r2]
theorem TG(f:Int×Int×Int->List Value)(hf:∀x,(f x).length=3)(L:List (Int×Int×Int))(cs:List Value)(h:∀i (hi:i<L.length),(cs.drop (i*3)).take 3=f L[i]):
  ∀i,i<=L.length->cs.take (i*3)=(L.take i).flatMap f
 |0,_=>by simp
 |i+1,hi=>by
  have ih:=TG f hf L cs h i (by omega);rw [show(i+1)*3=i*3+3 by omega,List.take_add,ih,h i (by omega),List.take_succ_eq_append_getElem (by omega),List.flatMap_append];simp
theorem aiT {W:World}(h:VarReads prog W "bidiguard/bidi.spans" Rows.laid_bidiguard_bidi_spans):∃t fr,W.heap[4]? =some (.cells qz t fr):=by
 obtain⟨g,t,cs,fuel,p,hg,hty,hvar,hd⟩:=h;obtain rfl:=Option.some.inj (TP.symm.trans hg);obtain rfl:=Option.some.inj (ajb.symm.trans hty);rw [aiR]at hd;obtain⟨xs,m,_,hx,hlen,hxl,hel⟩:=DataW.trod_array underlying176 hd;rw [abO]at hlen;rw [RJ]at hel;have hxm:xs.map (·.1)=dR.map Fa:=by
  have:=congrArg Prod.fst hx;simpa using this.symm
 have hsl:dR.length=36:=rfl;have hcs:cs.toList=dR.flatMap E9:=by
  have:=TG E9 (fun _=>rfl) dR cs.toList (fun i hi=>by
   have ael:i<36:=by omega
   have he:=hel i ael;rw [List.getElem?_eq_getElem (by omega)]at he;have h1:xs[i].1=Fa dR[i]:=by
    have:=congrArg (fun l:List (DataW Unit)=>l[i]?) hxm;simp only [List.getElem?_map,List.getElem?_eq_getElem (show i<xs.length by omega),List.getElem?_eq_getElem hi,Option.map_some,Option.some.injEq]at this;exact this
   exact aiP (p:=xs[i].2) (by rw [he];exact congrArg some (Prod.ext h1 rfl))) 36 (by omega)
  rw [List.take_of_length_le (by omega),List.take_of_length_le (by omega)]at this;exact this
 have hca:cs=qz:=by
  rw [<-aiQ,<-hcs]
 subst hca;unfold World.var? at hvar;rw [TP]at hvar;simp only [Option.bind_some]at hvar;split at hvar
 .rename_i c t' fr hh;cases hvar;exact⟨t',fr,hh⟩
 .cases hvar
theorem acZ:(El.filter fun x=>x.1== "bidiguard/guard.ErrLong" ||x.1== "bidiguard/guard.ErrText" ||x.1== "bidiguard/guard.ErrCode")=Tj:=by kernel_rfl
theorem adj:Rows.laid_unicode_utf8_first=firstData:=by kernel_rfl
theorem aaN:Rows.laid_unicode_utf8_acceptRanges (H:=Unit)=acceptData:=by kernel_rfl
theorem etG:prog.globalNamed "errors.errorType" =some 3:=by kernel_rfl
theorem rtT:(prog.cutTypes.find? (·.1== "internal/reflectlite.rtype")).map (·.2)=some 223:=by kernel_rfl
theorem agD:((List.range 383).filter fun t=>prog.rowNamed t [101,114,114,111,114])=[53]:=by kernel_rfl
theorem af9:prog.types.size=383:=by kernel_rfl
theorem acV {W:World}(h:laidMetH prog Rows.classesRow.laid W):∃aL aT aC,Env W aL aT aC:=by
 have h':laidMet prog El W/\handlesMet prog [("errors.errorType",Rows.laid_errors_errorType)] W:=h;obtain⟨h7,hh⟩:=h';have hE:=h7.filter fun x=>x.1== "bidiguard/guard.ErrLong" ||x.1== "bidiguard/guard.ErrText" ||x.1== "bidiguard/guard.ErrCode"
 rw [acZ]at hE;obtain⟨a0,a1,a2,c0,c1,c2,t0,t1,t2,hc0,hc1,hc2,h01,h12,h02,hb0,hb1,hb2⟩:=agz hE;have htab:Lib.Utf8Tabs (Tryz.lays196_ren.g 3) (Tryz.lays196_ren.g 4) W:=
  utf8Tabs_of_readsT (U8Types.of196 Tryz.lays196) ⟨by kernel_rfl,by kernel_rfl,by kernel_rfl,by kernel_rfl,by kernel_rfl,by kernel_rfl,by kernel_rfl⟩
   (adj▸Lib.laidMet.reads h7 (.tail _ (.tail _ (.tail _ (.tail _ (.tail _ (.tail _ (.tail _ (.tail _ (.tail _ (.tail _ (.tail _ (.tail _ (.tail _ (.head _)))))))))))))))
   (aaN▸Lib.laidMet.reads h7 (.tail _ (.tail _ (.tail _ (.tail _ (.tail _ (.tail _ (.head _))))))))
 have hsp:=aiT (Lib.laidMet.reads h7 (.tail _ (.tail _ (.tail _ (.tail _ (.tail _ (.tail _ (.tail _ (.tail _ (.head _))))))))));have het:W.cell? ⟨3,0,none⟩=some (.iface 223 (.agg #[.pointer (some ⟨16,53,none⟩)])):=by
  obtain⟨name,u,ty,e1,e2,e3,e4,e5⟩:=hh _ (List.mem_singleton.2 rfl);have en:name=[101,114,114,111,114]:=(Option.some.inj e1).symm;subst en;obtain rfl:=Option.some.inj (rtT.symm.trans e2);have hm:ty∈(List.range 383).filter fun t=>prog.rowNamed t [101,114,114,111,114]:=List.mem_filter.2 ⟨List.mem_range.2 (by rw [<-af9];exact e3),e4⟩
  rw [agD]at hm;obtain rfl:=List.mem_singleton.1 hm;have hty:typeHandle prog 53= .pointer (some ⟨16,53,none⟩):=by kernel_rfl
  rw [hty]at e5;simpa using World.var?_cell etG e5 0
 exact⟨a0,a1,a2,hc0,hc1,hc2,het,htab,hsp,h01,h12,h02,⟨c0,t0,hb0⟩,⟨c1,t1,hb1⟩,⟨c2,t2,hb2⟩⟩
end
section
open Go.ChangeShapes Go.WideShapes Go.ChangeAt Go.RowKit Go.Deep Go.Lib
theorem TN:prog.globalNamed "bidiguard/bidi.bracketPairs" =some 11:=by kernel_rfl
theorem ai8:(prog.globals[11]?).map (·.type)=some 304:=by kernel_rfl
theorem RG:prog.cellsOf 303=2:=by kernel_rfl
theorem abI:prog.cellsOf 304=8:=by kernel_rfl
theorem abJ:prog.cellsOf 21=1:=by kernel_rfl
def zI:List (Int×Int):=[(40,41),(91,93),(123,125),(12296,12297)]
def Dn {H:Type}(x:Int×Int):DataW H:= .agg [.lit (.int .i32 x.1),.lit (.int .i32 x.2)]
theorem abx:Rows.laid_bidiguard_bidi_bracketPairs (H:=Unit)= .agg (zI.map Dn):=by kernel_rfl
def Dm(x:Int×Int):List Value:=[.int .i32 x.1,.int .i32 x.2]
theorem abw:(zI.flatMap Dm).toArray=kY:=by kernel_rfl
theorem abz {H:Type}{enc:TypeId×Value->H}{w:World}{base:Nat}{sp:Nat->Bool}{held:Bool}{fuel:Nat}{cs:List Value}{x:Int×Int}{p:List MemPlace}
  (h:DataW.trod enc prog w base sp held fuel 303 cs=some (Dn x,p)):cs=Dm x:=by
 obtain⟨xs,m,_,hx,hlen,hxl,hel⟩:=DataW.trod_array underlying303 h;rw [RG]at hlen;rw [abJ]at hel;have hxm:xs.map (·.1)=[.lit (.int .i32 x.1),.lit (.int .i32 x.2)]:=by
  have:=congrArg Prod.fst hx;simpa [Dn]using this.symm
 match cs,hlen with
 |[c0,c1],_=>
  have e0:=hel 0 (by omega);have e1:=hel 1 (by omega);rw [List.getElem?_eq_getElem (by omega)]at e0 e1;have f0:xs[0].1= .lit (.int .i32 x.1):=by
   have:=congrArg (fun l:List (DataW H)=>l[0]?) hxm;simpa [List.getElem?_map,List.getElem?_eq_getElem (show 0<xs.length by omega)]using this
  have f1:xs[1].1= .lit (.int .i32 x.2):=by
   have:=congrArg (fun l:List (DataW H)=>l[1]?) hxm;simpa [List.getElem?_map,List.getElem?_eq_getElem (show 1<xs.length by omega)]using this
  obtain⟨a,q0,r0,_⟩:=DataW.trod_int underlying21 (by simpa using e0);obtain⟨b,q1,r1,_⟩:=DataW.trod_int underlying21 (by simpa using e1);rw [r0]at f0;rw [r1]at f1;simp at q0 q1 f0 f1;subst q0 q1;simp [Dm,f0,f1]
theorem TH(f:Int×Int->List Value)(hf:∀x,(f x).length=2)(L:List (Int×Int))(cs:List Value)(h:∀i (hi:i<L.length),(cs.drop (i*2)).take 2=f L[i]):
  ∀i,i<=L.length->cs.take (i*2)=(L.take i).flatMap f
 |0,_=>by simp
 |i+1,hi=>by
  have ih:=TH f hf L cs h i (by omega);rw [show(i+1)*2=i*2+2 by omega,List.take_add,ih,h i (by omega),List.take_succ_eq_append_getElem (by omega),List.flatMap_append];simp
theorem abB {W:World}(h:VarReads prog W "bidiguard/bidi.bracketPairs" Rows.laid_bidiguard_bidi_bracketPairs):Br W:=by
 obtain⟨g,t,cs,fuel,p,hg,hty,hvar,hd⟩:=h;obtain rfl:=Option.some.inj (TN.symm.trans hg);obtain rfl:=Option.some.inj (ai8.symm.trans hty);rw [abx]at hd;obtain⟨xs,m,_,hx,hlen,hxl,hel⟩:=DataW.trod_array underlying304 hd;rw [abI]at hlen;rw [RG]at hel;have hxm:xs.map (·.1)=zI.map Dn:=by
  have:=congrArg Prod.fst hx;simpa using this.symm
 have hsl:zI.length=4:=rfl;have hcs:cs.toList=zI.flatMap Dm:=by
  have:=TH Dm (fun _=>rfl) zI cs.toList (fun i hi=>by
   have hi4:i<4:=by omega
   have he:=hel i hi4;rw [List.getElem?_eq_getElem (by omega)]at he;have h1:xs[i].1=Dn zI[i]:=by
    have:=congrArg (fun l:List (DataW Unit)=>l[i]?) hxm;simp only [List.getElem?_map,List.getElem?_eq_getElem (show i<xs.length by omega),List.getElem?_eq_getElem hi,Option.map_some,Option.some.injEq]at this;exact this
   exact abz (p:=xs[i].2) (by rw [he];exact congrArg some (Prod.ext h1 rfl))) 4 (by omega)
  rw [List.take_of_length_le (by omega),List.take_of_length_le (by omega)]at this;exact this
 have hca:cs=kY:=by
  rw [<-abw,<-hcs]
 subst hca;unfold World.var? at hvar;rw [TN]at hvar;simp only [Option.bind_some]at hvar;split at hvar
 .rename_i c t' fr hh;cases hvar;exact⟨t',fr,hh⟩
 .cases hvar
theorem abA {W:World}(h:laidMetH prog Rows.classesRow.laid W):Br W:=by
 have h':laidMet prog El W/\handlesMet prog [("errors.errorType",Rows.laid_errors_errorType)] W:=h;exact abB (Lib.laidMet.reads h'.1 (.tail _ (.tail _ (.tail _ (.tail _ (.tail _ (.tail _ (.tail _ (.head _)))))))))
end
section
open Go.ChangeShapes Go.WideShapes Go.ChangeAt Go.RowKit Go.Deep Go.Lib
theorem abN:prog.cellsOf 246=2:=by kernel_rfl
theorem RL:prog.cellsOf 5=1:=by kernel_rfl
theorem OP {W:World}{name:String}{gv:Nat}{a b:Int}(hn:prog.globalNamed name=some gv)(ht:(prog.globals[gv]?).map (·.type)=some 246)(h:VarReads prog W name (.agg [.lit (.int .u8 a),.lit (.int .u8 b)])):∃t f,W.heap[gv]? =some (.cells #[.int .u8 a,.int .u8 b] t f):=by
 obtain⟨g,t,cs,fuel,p,hg,hty,hvar,hd⟩:=h;obtain rfl:=Option.some.inj (hn.symm.trans hg);obtain rfl:=Option.some.inj (ht.symm.trans hty);obtain⟨y0,y1,n,hx,hl,h0,h1⟩:=trod_struct2 underlying246 hd;rw [abN]at hl;have hcs:cs=#[.int .u8 a,.int .u8 b]:=by
  obtain⟨l⟩:=cs
  match l,hl with
  |[c0,c1],_=>
   obtain⟨a',e0,rfl,_⟩:=DataW.trod_int underlying5 (by simpa [RL]using h0);obtain⟨b',e1,rfl,_⟩:=DataW.trod_int underlying5 (by simpa [RL]using h1);simp at hx e0 e1;obtain⟨⟨r0,r1⟩,_⟩:=hx;subst e0 e1;simp [r0,r1]
 subst hcs;unfold World.var? at hvar;rw [hn]at hvar;simp only [Option.bind_some]at hvar;split at hvar
 .rename_i c t' fr hh;cases hvar;exact⟨t',fr,hh⟩
 .cases hvar
theorem ahk {W:World}(h:laidMetH prog Rows.partsRow.laid W):jl W:=by
 have h':laidMet prog El W/\handlesMet prog [("errors.errorType",Rows.laid_errors_errorType)] W:=h;exact⟨OP (by kernel_rfl) (by kernel_rfl) (Lib.laidMet.reads h'.1 (.head _)),OP (by kernel_rfl) (by kernel_rfl) (Lib.laidMet.reads h'.1 (.tail _ (.head _))),OP (by kernel_rfl) (by kernel_rfl) (Lib.laidMet.reads h'.1 (.tail _ (.tail _ (.head _))))⟩
end
section
open Go.ChangeShapes Go.WideShapes Go.ChangeAt Go.RowKit Go.Deep Go.Lib
theorem TQ:prog.globalNamed "math/bits.deBruijn64tab" =some 15:=by kernel_rfl
theorem tTz:(prog.globals[15]?).map (·.type)=some 353:=by kernel_rfl
theorem abP:prog.cellsOf 5=1:=by kernel_rfl
theorem ajw:∃L:List (DataW Unit),Rows.laid_math_bits_deBruijn64tab (H:=Unit)= .agg L/\L[15]? =some (.lit (.int .u8 4)):=⟨_,rfl,rfl⟩
theorem ajy {W:World}(h:laidMetH prog Rows.classesRow.laid W):ny W:=by
 have h':laidMet prog El W/\handlesMet prog [("errors.errorType",Rows.laid_errors_errorType)] W:=h;obtain⟨g,t,cs,fuel,p,hg,hty,hvar,hd⟩:=Lib.laidMet.reads h'.1 (.tail _ (.tail _ (.tail _ (.tail _ (.head _)))));obtain rfl:=Option.some.inj (TQ.symm.trans hg);obtain rfl:=Option.some.inj (tTz.symm.trans hty);obtain⟨L,e1,e2⟩:=ajw;rw [e1]at hd;obtain⟨xs,m,_,hx,hlen,hxl,hel⟩:=DataW.trod_array underlying353 hd;rw [abP]at hel;have hxm:L=xs.map (·.1):=by
  have:=congrArg Prod.fst hx;simpa using this
 have he:=hel 15 (by omega);rw [List.getElem?_eq_getElem (by omega)]at he;have f:xs[15].1= .lit (.int .u8 4):=by
  rw [hxm,List.getElem?_map,List.getElem?_eq_getElem (by omega)]at e2;simpa using e2
 obtain⟨a,q,r,_⟩:=DataW.trod_int underlying5 he;rw [r]at f;simp only [DataW.lit.injEq,Lit.int.injEq,true_and]at f;subst f;have hc:cs[15]? =some (.int .u8 4):=by
  have:=congrArg (fun l:List Value=>l[0]?) q;simpa [List.getElem?_take,List.getElem?_drop]using this
 unfold World.var? at hvar;rw [TQ]at hvar;simp only [Option.bind_some]at hvar;split at hvar
 .rename_i c t' fr hh;cases hvar;exact(au hh 15).trans hc
 .cases hvar
end
section
variable{H:Type}{enc:TypeId×Value->H}
theorem aeb {a:Assume}{C:Checked}{os:Os}{f:FuncId}{fn:Func}{s:ChangeSpec}{conds:List PathCond}{apart fresh handsOn again:Bool}{X:World->Array Value->Prop}
  (hX:∀(w w':World)(args:Array Value),w.heap=w'.heap->X w args->X w' args)
  (own:ownKnob C.prog.godebug=none) (started:os.Started) (noInit:C.prog.inits.idxOf? f=none) (hfn:C.prog.funcs[f]? =some fn)
  (witness:∃(w:World)(tape:Tape)(i:Input),w.os=os/\(w.forCall tape i).Shaped C.prog/\i.vars=[]/\Input.okWide C.prog (w.forCall tape i) .any w.heap.size f i/\
   ((s.pre enc C.prog fn conds apart (w.forCall tape i).memory i.args/\X (w.forCall tape i).memory i.args)/\sizedMet enc C.prog fn (OpenSpec.ofChange s) apart (w.forCall tape i).memory i.args)/\a.holds C.prog (lone (Frame.enter C.prog f i.args .normal) [] (w.forCall tape i)))
  (contract:∀(W:World)(base:Nat)(args:Array Value)(ds gs:List (DataW H))(before:List MemPlace),
   (∀(j:Nat) t v,fn.params[j]? =some t->args[j]? =some v->Value.okWide C.prog W .any base t v)->
   DataW.Whole enc C.prog fn.params.toList s.vars apart W args.toList ds gs before->
   conds.all (PathCond.test C.prog ⟨fn.params.toList,ds,s.plain.varTypes C.prog,gs⟩)=true->
   (DataW.weightsEach C.prog (fn.params.toList++s.plain.varTypes C.prog) (ds++gs)).all (·<=reachBytes)=true->X W args->W.ShapedOpen C.prog->
   a.holds C.prog (lone (Frame.enter C.prog f args .normal) [] W)->
   Calls C.prog f args W fun e W'=>∃v,e= .returned v/\s.post enc C.prog fn apart fresh handsOn again W args v W'):
  ReturnsInHanded a C os f .any (fun w args=>(s.pre enc C.prog fn conds apart w args/\X w args)/\sizedMet enc C.prog fn (OpenSpec.ofChange s) apart w args) (s.post enc C.prog fn apart fresh handsOn again):=by
 refine returnsInHanded_of_calls own started noInit witness ?_;intro w tape i _ hsh _ hok hpre hholds;obtain⟨_,_,_,fn',hfn',_,_,_,_,hval⟩:=hok;obtain rfl:fn'=fn:=Option.some.inj (hfn'.symm.trans hfn);obtain⟨⟨⟨ds,gs,before,hw,hc⟩,hx⟩,hz⟩:=hpre;refine(contract (w.forCall tape i) w.heap.size i.args ds gs before hval (DataW.Whole.of_heap (w':=w.forCall tape i) (by rfl) hw) hc (hz.weights hw) (hX _ _ _ (by rfl) hx) hsh hholds).mono ?_;rintro e W' ⟨v,rfl,hp⟩;exact ChangeSpec.post_blind hp
theorem afV {W:World}(h:W.ShapedOpen prog):pQ W:=by
 exact cell_of_shapedOpen_int (P:=prog) (g:=10) (t:=3) (zero:=#[.int .i64 0]) h (of_decide_eq_true (by kernel_rfl)) (by kernel_rfl) rfl (by kernel_rfl) (by kernel_rfl) underlying3
end
