import Derived.Test.YtkbinfhclaafhaaGreatDoorP34
import Derived.Test.YtkbinfhclaafhaaGreatDoorP35
namespace Go.Proofs.YtkbinfhclaafhaaGreatDoor
open Go.ChangeShapes Go.WideShapes Go.ChangeAt Go.RowKit Go.Deep Go.Lib
set_option maxRecDepth 100000
theorem aqA(a:Os)(args:Array Value):laidMetH Tryz.prog Rows.sanitizesRow.laid ((PD<|Mh<|World.doorLaid Tryz.prog 200 a).forCall (λ_ _=>0) ⟨#[],args,[]⟩).memory:=asn a args
theorem aqz(l:Os)(f:l.Started)(H:Type)(d:TypeId×Value->H):
  ReturnsInHanded {} Tryz.checked l 9 .any (λw args=>(Rows.sanitizesSpec.pre d Tryz.prog Tryz.f9 [] false w args/\laidMetH Tryz.prog Rows.sanitizesRow.laid w)/\sizedMet d Tryz.prog Tryz.f9 (OpenSpec.ofChange Rows.sanitizesSpec) false w args)
   (Rows.sanitizesSpec.post d Tryz.prog Tryz.f9 false true false false):=by
 refine alo (C:=Tryz.checked) (X:=λw _=>laidMetH Tryz.prog Rows.sanitizesRow.laid w) (λ_ _ _ hh h=>h.of_heap hh) own f (by kernel_rfl) Tryz.func9
  (ChangeSpec.witness_shaped (enc:=d) (C:=Tryz.checked) (os:=l) (X:=λw _=>laidMetH Tryz.prog Rows.sanitizesRow.laid w) false (PD<|Mh<|World.doorLaid Tryz.prog 200 l) #[.slice none 0 0] 8 rfl (World.shaped_of_RefB (by kernel_rfl)<|by kernel_rfl) (by kernel_rfl) (by kernel_rfl) (by kernel_rfl) (aqA l _)) ?_
 intro W n args P gs A m U _ L B I _;have g:∀(j:Nat) t v,Tryz.f9.params[j]? =some t->args[j]? =some v->Value.okWide Tryz.prog W .any n t v:=m;have i:=U;obtain⟨p,q,M,hV,rfl,ab,ac⟩:=U;have S:DataW.TrodAll d Tryz.prog W 0 (λ_=>true) true Tryz.f9.params.toList args.toList P p:=M;have y:(DataW.weightsEach Tryz.prog (Tryz.f9.params.toList++Rows.sanitizesSpec.plain.varTypes Tryz.prog)<|P++gs).all (·<=reachBytes)=true:=L;rw[Tryz.params9]at S g y;obtain⟨v0,d0,rfl,rfl,R⟩:=trodAll_one S;obtain⟨rfl,rfl⟩:=trodVars_none hV;obtain⟨aL,O,N,hE⟩:=akz B;have F:=ajc B;have T:=ao1 B;have hS:G5 W aL O N:=⟨hE,F,anE I,T,by rcases T.sz with h|⟨_,h⟩<;>omega,ar3 B⟩
 clear M m L;simp only[List.append_nil]at i;obtain⟨Y,k,o,rfl⟩:=okWide_slice Tryz.underlying22<|g 0 22 v0 rfl rfl;have E:=R;obtain⟨Q,hf⟩:=R;have z:Calls Tryz.prog 9 #[.slice Y k o] W λe w'=>e= .returned (.bool true)/\Below W.heap.size W w':=by
  rcases aom (by simpa [Value.cells]using hf)with⟨Z,r,u⟩|⟨b,J,V,r,K,u,hl,hO,hs,a,c,ps,hx,aa⟩
  .simp at u;obtain⟨rfl,rfl,rfl⟩:=u;exact aqy _ _ W
  .simp at u;obtain⟨rfl,rfl,rfl⟩:=u;have hd:d0= .slice a c:=congrArg Prod.fst hx;have s:=sized_slice y (j:=0) (t:=22) (e:=29) (elems:=a) (spare:=c) rfl (by rw[hd];rfl) Tryz.underlying22;rw[ajk]at s;have hn:k<=1000000000000000:=(by simp only[reachBytes]at s;omega);exact aqx K b J o k W aL O N hS hl hn hO
 refine z.mono λe W' ⟨he,s⟩=> ?_
 subst he;have D:Rows.sanitizesSpec.fn H ([d0]++[])={results:=[.lit (.bool true)],args:=[d0]}:=rfl;have G:∀x∈p,x.block<W.heap.size:=λx hx=>by simpa using i.lt x hx
 refine⟨_,rfl,_,_,_,[],p,[],i,?_,?_,?_,s.frame _,λh=>by cases h⟩
 .rw[D];exact trodAll_mk1<|shut_bool Tryz.underlying4 true
 .rw[D];exact trodAll_mk1<|Below.trod laidOut (by kernel_rfl) (of_decide_eq_true<|by kernel_rfl) E s G
 .rw[D];rfl
theorem aqC:Rows.SanitizesSaid:=
 OpenClaim.holds_of_wide 9 Tryz.f9 rfl rfl rfl rfl rfl rfl rfl ⟨rfl,rfl,rfl,rfl,rfl⟩ rfl rfl rfl rfl rfl (by kernel_rfl) Tryz.func9 aqw
  (of_decide_eq_true<|by kernel_rfl) (by unfold Func.isWrapper;first|(rw[if_pos<|by decide+kernel];kernel_rfl)|(rw[if_neg<|by decide+kernel];exact⟨rfl,rfl⟩))
  (λc a H b _=>aqz c a H b)
end Go.Proofs.YtkbinfhclaafhaaGreatDoor
