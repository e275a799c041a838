import Derived.Test.YtkbinfhclaafhaaGreatDoorZ30
import Derived.Test.YtkbinfhclaafhaaGreatDoorZ31
import Derived.Test.YtkbinfhclaafhaaGreatDoorZ32
import Derived.Lib.LaidIn
namespace Go.Proofs.YtkbinfhclaafhaaGreatDoor
open Go.ChangeShapes Go.WideShapes Go.ChangeAt Go.RowKit Go.Deep Go.Lib
set_option maxRecDepth 100000
theorem alY(os:Os)(args:Array Value):laidMetH Tryz.prog Rows.safesRow.laid ((Ms (Jl (World.doorLaid Tryz.prog 200 os))).forCall (fun _ _=>0) ⟨#[],args,[]⟩).memory:=anT os args
theorem alX(os:Os)(started:os.Started)(H:Type)(enc:TypeId×Value->H):
  ReturnsInHanded {} Tryz.checked os 8 .any (fun w args=>(Rows.safesSpec.pre enc Tryz.prog Tryz.f8 [] false w args/\laidMetH Tryz.prog Rows.safesRow.laid w)/\sizedMet enc Tryz.prog Tryz.f8 (OpenSpec.ofChange Rows.safesSpec) false w args)
   (Rows.safesSpec.post enc Tryz.prog Tryz.f8 false true false false):=by
 refine ag9 (C:=Tryz.checked) (X:=fun w _=>laidMetH Tryz.prog Rows.safesRow.laid w) (fun _ _ _ hh h=>h.of_heap hh) own started (by kernel_rfl) Tryz.func8
  (ChangeSpec.witness_shaped (enc:=enc) (C:=Tryz.checked) (os:=os) (X:=fun w _=>laidMetH Tryz.prog Rows.safesRow.laid w) false (Ms (Jl (World.doorLaid Tryz.prog 200 os))) #[.slice none 0 0] 8 rfl (World.shaped_of_RefB (by kernel_rfl) (by kernel_rfl)) (by kernel_rfl) (by kernel_rfl) (by kernel_rfl) (alY os _)) ?_
 intro W base args ds gs before Z0 hW _ E9 hL hsh _;have hval:∀(j:Nat) t v,Tryz.f8.params[j]? =some t->args[j]? =some v->Value.okWide Tryz.prog W .any base t v:=Z0;have hW':=hW;obtain⟨p,q,LH,hV,rfl,hfz,hnd⟩:=hW;have hA:DataW.TrodAll enc Tryz.prog W 0 (fun _=>true) true Tryz.f8.params.toList args.toList ds p:=LH;have hsz:(DataW.weightsEach Tryz.prog (Tryz.f8.params.toList++Rows.safesSpec.plain.varTypes Tryz.prog) (ds++gs)).all (·<=reachBytes)=true:=E9;rw [Tryz.params8]at hA hval hsz;obtain⟨v0,d0,rfl,rfl,h0⟩:=trodAll_one hA;obtain⟨rfl,rfl⟩:=trodVars_none hV;obtain⟨aL,aT,aC,hE⟩:=agy hL;have hBr:=afh hL;have hP:=akr hL;have hS:Ew W aL aT aC:=⟨hE,hBr,aja hsh,hP,by rcases hP.sz with h|⟨_,h⟩<;>omega⟩
 clear LH Z0 E9;simp only [List.append_nil]at hW';obtain⟨ao,len,cap,rfl⟩:=okWide_slice Tryz.underlying22 (hval 0 22 v0 rfl rfl);have h0k:=h0;obtain⟨fuel,hf⟩:=h0;have walk:Calls Tryz.prog 8 #[.slice ao len cap] W fun e w'=>e= .returned (.bool true)/\Below W.heap.size W w':=by
  rcases ajM (by simpa [Value.cells]using hf)with⟨ao',cap',hc⟩|⟨b,off,len',cap',ops,hc,hl,hO,hs,elems,spare,ps,hx,hel⟩
  .simp at hc;obtain⟨rfl,rfl,rfl⟩:=hc;exact alW _ _ W
  .simp at hc;obtain⟨rfl,rfl,rfl⟩:=hc;have hd:d0= .slice elems spare:=congrArg Prod.fst hx;have hb:=sized_slice hsz (j:=0) (t:=22) (e:=29) (elems:=elems) (spare:=spare) rfl (by rw [hd];rfl) Tryz.underlying22;rw [afp]at hb;have hn:len<=1000000000000000:=by simp only [reachBytes]at hb;omega
   exact alV ops b off cap len W aL aT aC hS hl hn hO
 refine walk.mono fun e W' ⟨he,hb⟩=> ?_
 subst he;have e1:Rows.safesSpec.fn H ([d0]++[])={results:=[.lit (.bool true)],args:=[d0]}:=rfl;have hlt:∀x∈p,x.block<W.heap.size:=fun x hx=>by simpa using hW'.lt x hx
 refine⟨_,rfl,_,_,_,[],p,[],hW',?_,?_,?_,hb.frame _,fun h=>by cases h⟩
 .rw [e1];exact trodAll_mk1 (shut_bool Tryz.underlying4 true)
 .rw [e1];exact trodAll_mk1 (Below.trod laidOut (by kernel_rfl) (of_decide_eq_true (by kernel_rfl)) h0k hb hlt)
 .rw [e1];rfl
theorem al0:Rows.SafesSaid:=
 OpenClaim.holds_of_wide 8 Tryz.f8 rfl rfl rfl rfl rfl rfl rfl ⟨rfl,rfl,rfl,rfl,rfl⟩ rfl rfl rfl rfl rfl (by kernel_rfl) Tryz.func8 alU
  (of_decide_eq_true (by kernel_rfl)) (by unfold Func.isWrapper;first|(rw [if_pos (by decide+kernel)];kernel_rfl)|(rw [if_neg (by decide+kernel)];exact⟨rfl,rfl⟩))
  (fun os started H enc _=>alX os started H enc)
end Go.Proofs.YtkbinfhclaafhaaGreatDoor
