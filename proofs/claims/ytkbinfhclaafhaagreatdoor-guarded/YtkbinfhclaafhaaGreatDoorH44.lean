import Derived.Test.YtkbinfhclaafhaaGreatDoorH41
import Derived.Test.YtkbinfhclaafhaaGreatDoorH42
import Derived.Test.YtkbinfhclaafhaaGreatDoorH43
import Derived.Lib.LaidIn
namespace Go.Proofs.YtkbinfhclaafhaaGreatDoor
open Go.ChangeShapes Go.WideShapes Go.ChangeAt Go.RowKit Go.Deep Go.Lib
set_option maxRecDepth 100000
theorem ad6(os:Os)(args:Array Value):laidMetH Tryz.prog Rows.guardedRow.laid ((Ht (Em (World.doorLaid Tryz.prog 200 os))).forCall (fun _ _=>0) ⟨#[],args,[]⟩).memory:=ajN os args
theorem ad5(os:Os)(started:os.Started)(H:Type)(enc:TypeId×Value->H):
  ReturnsInHanded {} Tryz.checked os 11 .any (fun w args=>(Rows.guardedSpec.pre enc Tryz.prog Tryz.f11 [] false w args/\laidMetH Tryz.prog Rows.guardedRow.laid w)/\sizedMet enc Tryz.prog Tryz.f11 (OpenSpec.ofChange Rows.guardedSpec) false w args)
   (Rows.guardedSpec.post enc Tryz.prog Tryz.f11 false true false false):=by
 refine aeb (C:=Tryz.checked) (X:=fun w _=>laidMetH Tryz.prog Rows.guardedRow.laid w) (fun _ _ _ hh h=>h.of_heap hh) own started (by kernel_rfl) Tryz.func11
  (ChangeSpec.witness_shaped (enc:=enc) (C:=Tryz.checked) (os:=os) (X:=fun w _=>laidMetH Tryz.prog Rows.guardedRow.laid w) false (Ht (Em (World.doorLaid Tryz.prog 200 os))) #[.slice none 0 0] 8 rfl (World.shaped_of_RefB (by kernel_rfl) (by kernel_rfl)) (by kernel_rfl) (by kernel_rfl) (by kernel_rfl) (ad6 os _)) ?_
 intro W base args ds gs before hval0 hW _ hsz0 hL hsh _;have hval:∀(j:Nat) t v,Tryz.f11.params[j]? =some t->args[j]? =some v->Value.okWide Tryz.prog W .any base t v:=hval0;have hW':=hW;obtain⟨p,q,oV,hV,rfl,hfz,hnd⟩:=hW;have hA:DataW.TrodAll enc Tryz.prog W 0 (fun _=>true) true Tryz.f11.params.toList args.toList ds p:=oV;have hsz:(DataW.weightsEach Tryz.prog (Tryz.f11.params.toList++Rows.guardedSpec.plain.varTypes Tryz.prog) (ds++gs)).all (·<=reachBytes)=true:=hsz0;rw [Tryz.params11]at hA hval hsz;obtain⟨v0,d0,rfl,rfl,h0⟩:=trodAll_one hA;obtain⟨rfl,rfl⟩:=trodVars_none hV;obtain⟨aL,aT,aC,hE⟩:=acV hL;have hBr:=abA hL;have hP:=ahk hL;have hS:sU W aL aT aC:=⟨hE,hBr,afV hsh,hP,by rcases hP.sz with h|⟨_,h⟩<;>omega,ajy hL⟩
 clear oV hval0 hsz0;simp only [List.append_nil]at hW';obtain⟨ao,len,cap,rfl⟩:=okWide_slice Tryz.underlying22 (hval 0 22 v0 rfl rfl);have h0k:=h0;obtain⟨fuel,hf⟩:=h0;have walk:Calls Tryz.prog 11 #[.slice ao len cap] W fun e w'=>e= .returned (.bool true)/\Below W.heap.size W w':=by
  rcases agH (by simpa [Value.cells]using hf)with⟨ao',cap',hc⟩|⟨b,off,len',cap',ops,hc,hl,hO,hs,elems,spare,ps,hx,hel⟩
  .simp at hc;obtain⟨rfl,rfl,rfl⟩:=hc;exact ad4 _ _ W aL aT aC hS
  .simp at hc;obtain⟨rfl,rfl,rfl⟩:=hc;have hd:d0= .slice elems spare:=congrArg Prod.fst hx;have hb:=sized_slice hsz (j:=0) (t:=22) (e:=29) (elems:=elems) (spare:=spare) rfl (by rw [hd];rfl) Tryz.underlying22;rw [abF]at hb;have hn:len<=1000000000000000:=by simp only [reachBytes]at hb;omega
   exact ad3 ops b off cap len W aL aT aC hS hl hn hO
 refine walk.mono fun e W' ⟨he,hb⟩=> ?_
 subst he;have e1:Rows.guardedSpec.fn H ([d0]++[])={results:=[.lit (.bool true)],args:=[d0]}:=rfl;have hlt:∀x∈p,x.block<W.heap.size:=fun x hx=>by simpa using hW'.lt x hx
 refine⟨_,rfl,_,_,_,[],p,[],hW',?_,?_,?_,hb.frame _,fun h=>by cases h⟩
 .rw [e1];exact trodAll_mk1 (shut_bool Tryz.underlying4 true)
 .rw [e1];exact trodAll_mk1 (Below.trod laidOut (by kernel_rfl) (of_decide_eq_true (by kernel_rfl)) h0k hb hlt)
 .rw [e1];rfl
theorem ad9:Rows.GuardedSaid:=
 OpenClaim.holds_of_wide 11 Tryz.f11 rfl rfl rfl rfl rfl rfl rfl ⟨rfl,rfl,rfl,rfl,rfl⟩ rfl rfl rfl rfl rfl (by kernel_rfl) Tryz.func11 ad2
  (of_decide_eq_true (by kernel_rfl)) (by unfold Func.isWrapper;first|(rw [if_pos (by decide+kernel)];kernel_rfl)|(rw [if_neg (by decide+kernel)];exact⟨rfl,rfl⟩))
  (fun os started H enc _=>ad5 os started H enc)
end Go.Proofs.YtkbinfhclaafhaaGreatDoor
